import PyProof.Rows.All
import Wide.All
import OpenK.AllK
import Wide.FinOn
import PyProof.EqAt
import PyProof.EqKinds
import PyProof.TupleCall
import KE.KExcSuper
import HandS.ForMost
import HandS.ForExc
import HandS.ExcInit
import HandS.IsInst
import HandS.Wide
import HandS.Star
import HandS.CallSlots
import HandS.DictComp
import HandS.OwnEq
import HandS.Codes
import HandS.Defaults
import HandS.Walk
import PySem.Challenge.RW_asofhall_k15_whole_seen_from
import PyProof.Rows.SortShellAny
import HandS.SetFor
import HandS.SetKeys
import HandS.SortRule
import HandS.More
import HandS.Deep
import PyProof.InstNe
import OpenK.KOwn
import OpenK.KOps
import HandS.Sort
import OpenK.KMeth
import HandS.SlotsOwn
import KE.KOpsOwn
import KE.DatumOrd
import HandS.SortKw
import HandS.TupLe
import HandS.SortOrd
import HandS.Small
import HandS.ExcOwn
import HandS.Exc
import HandS.TryMany
set_option Elab.async false
set_option linter.all false
set_option maxRecDepth 100000
set_option maxHeartbeats 4000000
namespace PySem
namespace BadX
open PySem.W PySem.Calls PyProof.Rows PySem.HandSPX
/-- super().__init__(text); self.fl = par -/
def shape (tx par fl : Str) (p0 p1 p2 p3 p4 p5 p6 p7 p8 p9 : Pos) (j : Nat) : List Stmt :=
  [.Expr (.Call (.Attribute (.Call (.Name "super" p0) [] [] p1) "__init__" p2) [.Constant (.str tx) j p3] [] p4) p5,
   .Assign [.Attribute (.Name "self" p6) fl p7] (.Name par p8) p9]
def sco (par : Str) : Scope := { kind := .function, names := [(PySem.Str.ofString "self", .local), (par, .local), (PySem.Str.ofString "__class__", .free), (PySem.Str.ofString "super", .globalImplicit)], isGenerator := false, isCoroutine := false, more := [] }
/-- what the written part says of an own error's class at C, its __init__ at fI, whose one field is fl -/
structure Txt (P : Program) (K : Frag) (mg : Str → Option Value) (par fl : Str) (C fI : Addr) : Prop where
  cls : ∃ nm q N bs bm sn sub ab col dd k0 k1 k2 k3 k5, K.lookup C = some (excClassObj nm q C N bs bm true sn sub ab col dd k0 k1 k2 k3 k5 "ValueError.__new__") ∧ refsVE bm = true
  sa : findIn K (.ref C) "__setattr__" = some (some (.builtin "object.__setattr__"))
  ga : findIn K (.ref C) "__getattribute__" = some (some (.builtin "BaseException.__getattribute__"))
  gg : findIn K (.ref C) "__getattr__" = some none
  noN : findIn K (.ref C) fl = some none
  iC : findIn K (.ref C) "__init__" = some (some (.ref fI))
  tC : typeIn K (.ref fI) = some (.type "function")
  kC : keepIn K (.ref C) = true
  exC : subIn K (.ref C) (.type "BaseException") = some true
  veC : subIn K (.ref C) (.type "ValueError") = some true
  slf : mroIn K C (.ref C) = some true
  tyC : typeIn K (.ref C) = some (.type "type")
  hdC : hasDictIn K C = true
  te : exmOne K (.ref C) (.ref C) = some true
  along : ks_superIn K C C "__init__" = some (some (.builtin "ValueError.__init__"))
  opq : nsIn K cStatics "thirdparty.any" = some none
  sup : mg "super" = none
  top : (P.main.scope.names.lookup ("super" : Str)).isSome = false
  fn : ∃ (oc : Value) (od : Option Addr) (qual tx : Str) (doc pm : Value) (an : Option Addr) (cda cc : Addr) (ct : Value) (osl : Array (Option Value)) (pa : Arguments) (p0 p1 p2 p3 p4 p5 p6 p7 p8 p9 : Pos) (j : Nat) (a0 : Arg),
    K.lookup fI = some ⟨oc, od, .func (ksFn "__init__" qual pa (shape tx par fl p0 p1 p2 p3 p4 p5 p6 p7 p8 p9 j) (sco par) .none .none doc pm an (.ref cda) ct cc), osl⟩ ∧ codeIn K (.ref cda) qual = true ∧
    (pa.posonlyargs ++ pa.args).head? = some a0 ∧ a0.arg = "self" ∧
    (∀ (s : Shared) (u v : Value), BindsTo s (ksFn "__init__" qual pa (shape tx par fl p0 p1 p2 p3 p4 p5 p6 p7 p8 p9 j) (sco par) .none .none doc pm an (.ref cda) ct cc) ⟨[u, v], []⟩ [("self", u), (par, v)]) ∧
    (∃ ccl cdd vs ccs file tf, K.lookup cda = some ⟨ccl, cdd, .fields vs, ccs⟩ ∧ vs[2]? = some (.str file tf) ∧ ((P.main.file : Str) == file) = true) ∧
    (p2.endLine == p4.line) = true ∧
    (∃ cl cld csl, K.lookup cc = some ⟨cl, cld, .cell (some (.ref C)), csl⟩)
/-- what __init__ leaves of a fresh exception at x -/
structure Left (fl : Str) (h h' : Heap) (x C dx t1 : Addr) (v : Value) : Prop where
  keep : ∀ b o, b ≠ x → h.get? b = some o → h'.get? b = some o
  obj : h'.get? x = some { cls := .ref C, dict := some dx, data := .fields #[.ref t1, .none, .none, .none, .bool false, .none] }
  dbig : h.objs.size ≤ dx
  dne : dx ≠ x
  ns : h'.Ns1 dx (fun y => if y = fl then some v else none)
section
variable {prog : Program} {w : World} {A : Around} {E : Value → Shared → Prop} {R : Result → Shared → Prop} {s : Shared} {K : Frag} {mg mb : Str → Option Value} {C fI : Addr} {par fl : Str}
/-- the wrapper of ValueError.__init__, bound to x, called -/
theorem call_bound {h : Heap} {g : Array GenState} {d : Drawn} {t : Nat} {os : OsState} {u x t0 : Addr} {rest : List Value} {Q : Value → Shared → Prop} {nm q : Str} {N : Addr} {bs bm : List Value} {sn : List Str} {sub : List Value} {ab : Bool} {col : Option Bool} {dd : Option Addr} {k0 k1 k2 k3 k5 : Option Value}
    (hC : h.get? C = some (excClassObj nm q C N bs bm true sn sub ab col dd k0 k1 k2 k3 k5 "ValueError.__new__")) (hx : h.get? x = some (excO C t0)) (hu : h.get? u = some (kxs_mw "ValueError.__init__" x)) (hr : rest.length ≤ sizeLine)
    (hq : ∀ h', (∀ b o, b ≠ x → h.get? b = some o → h'.get? b = some o) → h'.get? x = some (excO C h.objs.size) → Q .none ⟨h', g, d, t, os⟩) :
    wpAny (model prog w) A (call (.ref u) rest) Q E ⟨h, g, d, t, os⟩ := by
  have FB := F.excBase_ValueError
  refine wpAny_call (codeAny_of_tree ?_)
  show wpAny _ A.in1 (callAny (.ref u) ⟨rest, []⟩) _ _ _
  simp only [callAny]
  refine wpAny_bind (wpAny_load hu ?_)
  have c1 : (Value.type "method-wrapper" == Value.type "method" || Value.type "method-wrapper" == Value.type "builtin_function_or_method" || Value.type "method-wrapper" == Value.type "method-wrapper") = true := by decide
  simp only [kxs_mw, c1, if_true]
  refine KFB.if_so (by decide) (wpAny_bind (check_bound_init FB.toExcCallFacts hC hx rfl (wpAny_bind (wpAny_pure (wpAny_pure ⟨plainId_quiet FB.init.plain _, codeAny_builtin FB.initEntry ?_⟩)))))
  exact exc_init_tree (cls := .ref C) (t0 := t0) (dv := none) (c2 := .none) (c3 := .none) (b4 := .bool false) hx hr fun h' k e' _ => hq h' k e'
theorem init_ok {x t0 : Addr} {v : Value} (T : Txt prog K mg par fl C fI) (X : K.In s.heap) (G : s.heap.Ns mainGlobals mg) (B : s.heap.Ns builtinsNs mb) (hb : mb "super" = some (.type "super")) (hlim : s.heap.NoLimit)
    (hx : s.heap.get? x = some (excO C t0)) (hnx : K.lookup x = none) (hroom : A.depth < recursionLimit) (hp1 : (par == ("__debug__" : Str)) = false) (hp2 : ¬ par = "self")
    (hloc : (sco par).names.lookup par = some .local) (hks : (sco par).names.lookup ("super" : Str) = some .globalImplicit) (hkc : (sco par).names.lookup ("__class__" : Str) = some .free)
    (hq : ∀ h' tk t1 dx, Left fl s.heap h' x C dx t1 v → R (.ok (.ret .none)) { s with heap := h', toks := tk }) :
    codeAny (model prog w) A (.call (.ref fI) ⟨[.ref x, v], []⟩) R s := by
  obtain ⟨oc, od, qual, tx, doc, pm, an, cda, cc, ct, osl, pa, p0, p1, p2, p3, p4, p5, p6, p7, p8, p9, j, a0, ho, hcd, ha0, ha1, hbd, ⟨ccl, cdd, vs, ccs, file, tf, hcode, hvs, hfile⟩, hpe, ⟨cl, cld, csl, hcell⟩⟩ := T.fn
  obtain ⟨nm, q, N, bs, bm, sn, sub, ab, col, dd, k0, k1, k2, k3, k5, hC, hbm⟩ := T.cls
  have hcl : clsIn K C = some { name := nm, bases := bs, mro := .ref C :: bm, ns := N, qualname := q, hasDict := true, slotNames := sn, subclasses := sub, abstract := ab, collection := col, hasDel := false } := by unfold clsIn; rw [hC] <;> rfl
  refine ks_codeAny_call_defAt (binds := [("self", .ref x), (par, v)]) hroom (X _ _ ho) rfl hlim (codeRec_of X hcd) rfl (hbd s (.ref x) v) ?_ ?_ (fun h₁ hns hk₁ => ?_)
  · intro y hy
    have : y ∈ [(PySem.Str.ofString "self", NameKind.local), (par, .local), (PySem.Str.ofString "__class__", .free), (PySem.Str.ofString "super", .globalImplicit)] := hy
    simp only [List.mem_cons, List.not_mem_nil, or_false] at this
    rcases this with rfl | rfl | rfl | rfl <;> (intro z; cases z)
  · intro y hy
    simp only [List.mem_cons, List.not_mem_nil, or_false] at hy
    rcases hy with rfl | rfl
    · exact (by rfl : (sco par).names.lookup ("self" : Str) = some .local)
    · exact hloc
  have hself : ([(("self" : Str), Value.ref x), (par, v)] : List (Str × Value)).reverse.lookup ("self" : Str) = some (Value.ref x) := by
    show List.lookup ("self" : Str) [(par, v), (("self" : Str), Value.ref x)] = _
    have e1 : (("self" : Str) == par) = false := by simpa using fun z => hp2 z.symm
    simp [List.lookup, e1]
  have hpar : ([(("self" : Str), Value.ref x), (par, v)] : List (Str × Value)).reverse.lookup par = some v := by
    show List.lookup par [(par, v), (("self" : Str), Value.ref x)] = _
    simp [List.lookup]
  have X₁ : K.In h₁ := X.keeps hk₁
  have hx₁ := hk₁ _ _ hx
  refine ks_wpAt_execs_cons (ks_wpAt_Expr_any (ks_wpAt_MethodCall (pl := ?pl) ?_ ?he))
  case he =>
    rw [arm_eval_Call]
    unfold methodCall methodCallPos
    rw [hpe]
    with_unfolding_all rfl
  refine ks_wpAt_super_base (hks := hks) (hkc := hkc) (by decide +kernel) rfl (X₁ _ _ ho) rfl ha0 rfl (X₁ _ _ hcode) rfl hvs hfile T.top ?_
  refine ks_loadName_global rfl hks (loadGlobal_builtin (G.keeps hk₁) T.sup (B.keeps hk₁) hb ⟨rfl, ?_⟩)
  refine wpAny_loadName_free rfl hkc rfl ⟨_, X₁ _ _ hcell, rfl⟩ ?_
  rw [ha1]
  refine wpAny_loadName_local rfl rfl hns hself ?_
  refine ks_wpAny_isType_cls (X₁ _ _ hC) rfl ⟨rfl, ?_⟩
  refine ks_wpAny_call_super (X₁ _ _ hC) rfl hx₁ rfl (fun c e => by cases e) (looks_mroIn X₁ T.slf) (fun h₂ e₂ k₂ => ?_)
  have X₂ : K.In h₂ := X₁.keeps k₂
  have hx₂ := k₂ _ _ hx₁
  have I₂ : InstAt h₂ x (excO C t0) C none := ⟨hx₂, rfl, rfl, trivial⟩
  have hal := T.along
  unfold ks_superIn at hal
  rw [hcl] at hal
  refine kxs_getMethod kxs_ValueError e₂ (looks_opaque X₂ T.opq) (l₀ := .ref C :: bm) ?_ rfl X₂ hal (I₂.type.andThen (looks_subIn X₂ T.veC)) (ks_ne X₂ I₂ hcl) (by decide +kernel) ?_
  · exact fun A Q E s k q => wpAny_bind ((looks_clsIn X₂ hcl) A _ E s k (wpAny_pure q))
  have hu : (h₂.push (kxs_mw "ValueError.__init__" x)).get? h₂.objs.size = some (kxs_mw "ValueError.__init__" x) := Heap.get?_push_at rfl rfl
  have k₃ : ∀ b o, h₂.get? b = some o → (h₂.push (kxs_mw "ValueError.__init__" x)).get? b = some o := fun b o e => Heap.get?_push_of_some _ e
  let H₃ := h₂.push (kxs_mw "ValueError.__init__" x)
  refine kxs_callWith1 (i := "ValueError.__init__") (x := x) (u := h₂.objs.size) (h₀ := Att.noObjs H₃) (L := h₂.objs.size + 7) (news := [(h₂.objs.size, kxs_mw "ValueError.__init__" x)]) (fun q hq => ?_) (List.Mem.head _) ?_
  · rcases List.mem_cons.mp hq with rfl | hq
    · exact ⟨hu, by show h₂.objs.size ≠ h₂.objs.size + 7; omega, Att.noObjs_get _ _⟩
    · cases hq
  refine wpAny_items_cons (Constant_str ?_)
  refine wpAny_items_nil ⟨hu, ?_⟩
  have X₃ : K.In (h₂.push (kxs_mw "ValueError.__init__" x)) := X₂.keeps k₃
  refine call_bound (X₃ _ _ hC) (k₃ _ _ hx₂) hu (by rw [sizeLine_eq]; exact (by decide : 1 ≤ 16777216)) fun h₄ k₄ e₄ => ?_
  -- self.fl = par
  have k14 : ∀ b o, b ≠ x → h₁.get? b = some o → h₄.get? b = some o := fun b o hb e => k₄ b o hb (k₃ b o (k₂ b o e))
  have xL : s.heap.objs.size ≠ x := Nat.ne_of_gt (Heap.lt_size hx)
  obtain ⟨oL, es, ep, hL, hr⟩ := hns
  have hns₄ : h₄.Ns s.heap.objs.size (fun y => ([(("self" : Str), Value.ref x), (par, v)] : List (Str × Value)).reverse.lookup y) := ⟨oL, es, ep, k14 _ _ xL hL, hr⟩
  have X₄ : K.In h₄ := fun a o e => k₄ a o (fun z => by rw [z, hnx] at e; cases e) (X₃ a o e)
  refine wpAt_of_wpAny (wpAny_execs_cons (plainObj_wpAny_Assign_Attribute ?_))
  refine wpAny_Name (wpAny_loadName_local rfl hloc hns₄ hpar ?_) hp1
  refine wpAny_Name (wpAny_loadName_local rfl rfl hns₄ hself ?_) (by decide)
  refine set_plain X₄ (ox := excO C h₂.objs.size.succ) (od := none) ⟨?_, rfl, rfl, trivial⟩ T.sa ?_
  · show h₄.get? x = some (excO C h₂.objs.size.succ)
    rw [e₄, Heap.size_push]
  have e₄' : h₄.get? x = some (excO C h₂.objs.size.succ) := by
    rw [e₄, Heap.size_push]
  refine exc_osa X₄ e₄' hcl (show refsVE (.ref C :: bm) = true from hbm) rfl T.noN (fun h₅ tk₅ dx k₅ dn dne hx₅ hn₅ => ?_)
  have z1 : s.heap.objs.size < h₄.objs.size := Heap.lt_size (k14 _ _ xL hL)
  refine wpAny_execs_nil (hq h₅ tk₅ _ dx ⟨fun b o hb e => k₅ b o hb (k14 b o hb (hk₁ b o e)), hx₅, Nat.le_of_lt (Nat.lt_of_lt_of_le z1 dn), dne, hn₅⟩)
theorem one_le (v : Value) : [v].length ≤ sizeLine := by
  rw [sizeLine_eq]
  exact (by decide : 1 ≤ 16777216)
/-- a made error -/
structure Made (fl : Str) (h h' : Heap) (e C d : Addr) (v : Value) : Prop where
  keep : ∀ b o, h.get? b = some o → h'.get? b = some o
  new : h.objs.size ≤ e
  obj : ∃ oe vs, h'.get? e = some oe ∧ oe.cls = .ref C ∧ oe.dict = some d ∧ oe.data = .fields vs ∧ vs[1]? = some .none
  dbig : h.objs.size ≤ d
  dne : d ≠ e
  ns : h'.Ns1 d (fun y => if y = fl then some v else none)
/-- the names of such an __init__ -/
structure Par (par : Str) : Prop where
  p1 : (par == ("__debug__" : Str)) = false
  p2 : ¬ par = "self"
  p3 : (sco par).names.lookup par = some .local
  p4 : (sco par).names.lookup ("super" : Str) = some .globalImplicit
  p5 : (sco par).names.lookup ("__class__" : Str) = some .free
theorem made_ok {v : Value} (T : Txt prog K mg par fl C fI) (p : Par par) (X : K.In s.heap) (G : s.heap.Ns mainGlobals mg) (B : s.heap.Ns builtinsNs mb) (hb : mb "super" = some (.type "super")) (hlim : s.heap.NoLimit) (hroom : A.depth + 1 < recursionLimit)
    (hq : ∀ h' tk e d, Made fl s.heap h' e C d v → R (.ok (.ret (.ref e))) { s with heap := h', toks := tk }) :
    codeAny (model prog w) A (.call (.ref C) ⟨[v], []⟩) R s := by
  obtain ⟨nm, q, N, bs, bm, sn, sub, ab, col, dd, k0, k1, k2, k3, k5, hC, hbm⟩ := T.cls
  obtain ⟨hp, g, dr, tk, os⟩ := s
  let hp2 := (hp.push (kdv_tup [v])).push (excO C hp.objs.size)
  have k : ∀ b o, hp.get? b = some o → hp2.get? b = some o := fun b o e => Heap.get?_push_of_some _ (Heap.get?_push_of_some _ e)
  have hget : hp2.get? (hp.objs.size + 1) = some (excO C hp.objs.size) := by
    show ((hp.push (kdv_tup [v])).push (excO C hp.objs.size)).get? (hp.objs.size + 1) = _
    heap_get
  have hsz : hp2.objs.size = hp.objs.size + 2 := by
    show ((hp.push (kdv_tup [v])).push (excO C hp.objs.size)).objs.size = _
    rw [Heap.size_push, Heap.size_push]
  have hnx : K.lookup (hp.objs.size + 1) = none := by
    cases e : K.lookup (hp.objs.size + 1) with
    | none => rfl
    | some o => exact absurd (Nat.lt_of_succ_lt (Heap.lt_size (show hp.get? _ = some o from X _ _ e))) (Nat.lt_irrefl _)
  refine call_own F.excBase_ValueError (fun Y => refsVE_contains Y bm hbm) (X _ _ hC) (looks_findIn X T.iC) (fun self => bind_fn X self T.tC) (one_le v) ?_
  refine init_ok (s := ⟨hp2, g, dr, tk, os⟩) T (X.keeps k) (G.keeps k) (B.keeps k) hb (hlim.keeps k) hget hnx (show A.depth + 1 < recursionLimit from hroom) p.p1 p.p2 p.p3 p.p4 p.p5 fun h' tk' t1 dx ⟨k', hx, dn, dne, hns⟩ => ?_
  have old : ∀ b o, hp.get? b = some o → h'.get? b = some o := fun b o e => k' b o (Nat.ne_of_lt (Nat.lt_succ_of_lt (Heap.lt_size e))) (k b o e)
  have dn' : hp2.objs.size ≤ dx := dn
  rw [hsz] at dn'
  exact ⟨rfl, hq h' tk' (hp.objs.size + 1) dx ⟨old, Nat.le_succ _, ⟨_, _, hx, rfl, rfl, rfl, rfl⟩, (by show hp.objs.size ≤ dx; omega), dne, hns⟩⟩
end
end BadX
end PySem
namespace L2
open PySem PySem.Spec PyProof.Rows
theorem relO_one {v : V} {v' : Value} (r : RelV v v') (fl f : Str) : RelO (List.lookup f [(fl, v)]) (if f = fl then some v' else none) := by
  by_cases hw : f = fl
  · subst hw
    rw [if_pos rfl]
    have q : List.lookup f [(f, v)] = some v := by simp [List.lookup]
    rw [q]
    exact r
  · rw [if_neg hw]
    have qw : (f == fl) = false := by simpa using hw
    have q2 : List.lookup f [(fl, v)] = none := by simp [List.lookup, qw]
    rw [q2]
    trivial
section
variable {X : Cx} {C fI : Addr}
/-- Cls(e), an own error with the one field fl -/
def tMkB (fl : Str) (C : Addr) (ta : TA) : St → Hp → XK → Prop := fun σ H Q => ta σ H fun vs H1 => ∃ v, vs = [v] ∧ ∀ d, H1 d = none → Q (.ref C) (some d) (upd H1 d (.xd [(fl, v)]))
theorem pmk_bad {x par fl : Str} {a : Expr} {ta : TA} {p pos : Pos} {k : Nat} (T : PySem.BadX.Txt X.prog X.K X.mg par fl C fI) (pr : PySem.BadX.Par par) (hm : X.mg x = some (.ref C)) (hr : Room k X.A) (ha : PA X [a] ta) (hg : Gl X x)
    (hdb : (x == ("__debug__" : Str)) = false := by decide)
    (he : starEach (a :: []) X.env = (false, eval a X.env) :: starEach [] X.env := by rfl) (hpl : (backTo pos (starEach [] X.env)).any (·.1) = false := by rfl) :
    PMk X (.Call (.Name x p) [a] [] pos) (tMkB fl C ta) := by
  intro pins s σ H Q I h
  refine wpAny_Call_Name_kw (ld_glob I hg hm ?_ hdb)
  refine PySem.W.callWith_K (h₀ := X.base) I.ok.mod.kin T.kC (thn (ha.run pos pins s σ H _ I h) fun us s1 hh => ?_) he hpl
  obtain ⟨vs, H1, I1, r1, v, ev, q1⟩ := hh
  subst ev
  refine ⟨I1.kIn, ?_⟩
  cases r1 with
  | cons rv rn =>
    rename_i v' us'
    cases rn
    show wpAny _ _ (call (.ref C) [v']) _ _ _
    have hlim := I1.nolimit
    obtain ⟨mb, hb1, hb2⟩ := I1.mod.blt
    have Gn : s1.heap.Ns mainGlobals X.mg := I1.mod.glob.keeps I1.bk
    have Bn : s1.heap.Ns builtinsNs mb := hb1.keeps I1.bk
    have hbs : mb "super" = some (.type "super") := (hb2 _ (by decide +kernel)).trans (by first | boot_by_name | rfl | kernel_rfl)
    obtain ⟨hp, g, dr, tk, os⟩ := s1
    refine wpAny_call (PySem.BadX.made_ok T pr I1.kIn Gn Bn hbs hlim (by have := hr.dp; omega) fun h' tk' e d M => ?_)
    show MkP X pins σ Q (.ref e) ⟨h', g, dr, tk', os⟩
    obtain ⟨oe, fv, hoe, hc, hd, hdat, h1⟩ := M.obj
    have hns := M.ns
    obtain ⟨G', g1, g2⟩ := restrict h' fun b => decide (b ≠ e)
    have gk : ∀ b, b ≠ e → G'.get? b = h'.get? b := fun b hb => g1 b (decide_eq_true hb)
    have ge : G'.get? e = none := g2 e (by simp)
    have old : ∀ b o, hp.get? b = some o → G'.get? b = some o := fun b o q => (gk b (Nat.ne_of_lt (Nat.lt_of_lt_of_le (Heap.lt_size q) M.new))).trans (M.keep b o q)
    have ob : ObjOk X.prog X.w (upd H1 d (.xd [(fl, v)])) G' d (.xd [(fl, v)]) :=
      ⟨_, hns.at (fun o q => (gk d M.dne).trans q), fun f => relO_one rv fl f⟩
    have J : Inv X pins σ (upd H1 d (.xd [(fl, v)])) ⟨G', g, dr, tk', os⟩ := I1.laid (t' := tk') old M.dbig ob
    refine ⟨e, oe, fv, ⟨G', g, dr, tk', os⟩, _, .ref C, some d, rfl, J, fun b o q => ?_, ge, hoe, ⟨hc, hd⟩, hdat, h1, ?_, rfl, I1.bare, raises_own T.exC T.tyC, q1 d (I1.hok.fresh M.dbig)⟩
    · by_cases hb : b = e
      · have q' : G'.get? b = some o := q
        rw [hb, ge] at q'; cases q'
      · exact (gk b hb).symm.trans q
    · rw [upd_ne (Ne.symm M.dne)]
      exact I1.hok.fresh M.new
/-- raise Cls(e) -/
def tRaiseB (fl : Str) (C : Addr) (W : WX) (ta : TA) : TS := fun _ σ H => tMkB fl C ta σ H fun cls d H' => W cls d σ H'
theorem ps_raiseB {x par fl : Str} {a : Expr} {ta : TA} {W : WX} {p pos pos2 : Pos} {k : Nat} (hc : X.calm = true) (T : PySem.BadX.Txt X.prog X.K X.mg par fl C fI) (pr : PySem.BadX.Par par) (hm : X.mg x = some (.ref C)) (hr : Room k X.A) (tk : Takes X W) (ha : PA X [a] ta) (hg : Gl X x)
    (hdb : (x == ("__debug__" : Str)) = false := by decide)
    (he : starEach (a :: []) X.env = (false, eval a X.env) :: starEach [] X.env := by rfl) (hpl : (backTo pos (starEach [] X.env)).any (·.1) = false := by rfl) :
    PS X (.Raise (some (.Call (.Name x p) [a] [] pos)) none pos2) (tRaiseB fl C W ta) := ps_raise hc tk (pmk_bad T pr hm hr ha hg hdb he hpl)
end
end L2

set_option Elab.async false
set_option linter.all false
set_option maxRecDepth 100000
set_option maxHeartbeats 4000000
namespace Ash
open PySem PySem.Spec PyProof.Rows L2
abbrev topS (i : Nat) : Stmt := PySem.Challenge.pw_asofhall_k15_whole_seen_from.main.body.getD i (.Pass ⟨0, 0, 0, 0⟩)
/-- a def of the top by its name, with its promise -/
structure Cal (P : Program) (w : World) (K : PySem.W.Frag) (mg : Str → Option Value) (base : Heap) (CX : CXT) (x : Str) (k : Nat) (ps : List Str) (sp : Sp) : Prop where
  ex : ∃ f fd, mg x = some (.ref f) ∧ PySem.W.keepIn K (.ref f) = true ∧ Binds K fd ps [] ∧ FnOk P w K mg base CX k f fd ps sp
section
variable {X : Cx} {CX : CXT} {k j : Nat} {ps : List Str} {sp : Sp} {E : XK} {x : Str} {p pos : Pos} {e : Expr} {es : List Expr} {t : TA}
theorem pe_cal (G : Cal X.prog X.w X.K X.mg X.base CX x k ps sp) (hr : Room k X.A) (hx : Passes CX X E) (ha : PA X (e :: es) t) (hg : Gl X x := by rfl)
    (hdb : (x == ("__debug__" : Str)) = false := by decide) (he : starEach (e :: es) X.env = (false, eval e X.env) :: starEach es X.env := by rfl) (hpl : (backTo pos (starEach es X.env)).any (·.1) = false := by rfl) :
    PE X (.Call (.Name x p) (e :: es) [] pos) (tCall sp [] E t) := by
  obtain ⟨f, fd, hm, hk, hb, F⟩ := G.ex
  exact pe_call F hr hg hm hk hb .nil hx ha hdb he hpl
theorem pe_calS {E : L2.St → XK} (G : Cal X.prog X.w X.K X.mg X.base CX x k ps sp) (hr : Room k X.A) (hx : ∀ σ, PassesAt CX X σ (E σ)) (ha : PA X (e :: es) t) (hg : Gl X x := by rfl)
    (hdb : (x == ("__debug__" : Str)) = false := by decide) (he : starEach (e :: es) X.env = (false, eval e X.env) :: starEach es X.env := by rfl) (hpl : (backTo pos (starEach es X.env)).any (·.1) = false := by rfl) :
    PE X (.Call (.Name x p) (e :: es) [] pos) (tCallSD sp [] E t) := by
  obtain ⟨f, fd, hm, hk, hb, F⟩ := G.ex
  exact pe_callSD F hr hg hm hk hb .nil hx ha hdb he hpl
/-- a class by its name, with its __init__'s promise -/
structure Mak (P : Program) (w : World) (K : PySem.W.Frag) (mg : Str → Option Value) (base : Heap) (CX : CXT) (x : Str) (C : Addr) (k : Nat) (ps : List Str) (sp : Sp) : Prop where
  ex : ∃ f fd, Mk K C f ∧ mg x = some (.ref C) ∧ Binds K fd ps [] ∧ FnOk P w K mg base CX k f fd ps sp
theorem pe_mak {C : Addr} (G : Mak X.prog X.w X.K X.mg X.base CX x C k ps sp) (hr : Room (k + 1) X.A) (hx : Passes CX X E) (ha : PA X (e :: es) t) (hg : Gl X x := by rfl)
    (hdb : (x == ("__debug__" : Str)) = false := by decide) (he : starEach (e :: es) X.env = (false, eval e X.env) :: starEach es X.env := by rfl) (hpl : (backTo pos (starEach es X.env)).any (·.1) = false := by rfl) :
    PE X (.Call (.Name x p) (e :: es) [] pos) (tMake C sp [] E t) := by
  obtain ⟨f, fd, M, hm, hb, F⟩ := G.ex
  exact pe_make M F hr hg hm hb .nil hx ha hdb he hpl
/-- int(n) of an int -/
theorem call_intI : CallR X (.type "int") (fun xs H Q => ∃ i, xs = [.int i] ∧ Q (.int i) H) := by
  intro pins s σ H xs us Q I r h
  exact call_int1 pins s σ H xs us Q I r (.inl h)
end
/-- what is wanted of an exception at any slots of the def -/
def WEl (X : Cx) (W : WX) : XK := fun cls d H => ∀ σ : L2.St, σ.length = X.N.length → W cls d σ H
theorem passW {X : Cx} {W : WX} (tk : Takes X W) : Passes (L2.CX X.prog X.w) X (WEl X W) := fun _ σ _ _ e s' I c => tk e s' (XE.of_call I (fun cls d H' h => h σ I.len) c)
theorem passE {X : Cx} {E : XK} (tk : Takes X (fun cls d _ H => E cls d H)) : Passes (L2.CX X.prog X.w) X E := passes_call tk fun _ _ _ _ h => h
/-- a method of a class, with its promise -/
structure Met (P : Program) (w : World) (K : PySem.W.Frag) (mg : Str → Option Value) (base : Heap) (CX : CXT) (C : Addr) (m : Str) (k : Nat) (ps : List Str) (sp : Sp) : Prop where
  ex : ∃ f fd, Meth K C m f ∧ Binds K fd ps [] ∧ FnOk P w K mg base CX k f fd ps sp
/-- a dict comprehension over a walk: as lc_it -/
theorem dc_it {J : It} {n : Nat} {W0 : Hp → Prop} {Y : Nat → Hp → V → Hp → Prop} (wk : Walk J n W0 Y) {g : TG} {tt : TT} {tk tv : TE} {vs : List Nat} {σ : L2.St} {H1 : Hp} {D : Addr} {Qd : Hp → Prop} (Pv : Nat → Hp → Prop) (h0 : Pv 0 (upd H1 D (.dK []))) (hG : ∀ i H, i ≤ n → Pv i H → W0 H)
    (hs : ∀ i x H H', i < n → Pv i H → Y i H x H' → g x (wipe σ vs) H' fun σ2 H2 => wipe σ2 vs = wipe σ vs ∧ tt σ2 H2 fun b H3 =>
      if b = true then tk σ2 H3 fun y H4 => tv σ2 H4 fun z H5 => ∃ kvs k, y = kV k ∧ H5 D = some (.dK kvs) ∧ kvs.length < sizeLine ∧ Pv (i + 1) (upd H5 D (.dK (putK kvs k z))) else Pv (i + 1) H3) (hd : ∀ H, Pv n H → Qd H) :
    ∃ W : Nat → Nat → Hp → Prop, (∃ m, W 0 m (upd H1 D (.dK []))) ∧ ∀ i m H, W i m H →
      (J.stop i H ∧ Qd H) ∨ (J.go i H ∧ ∃ Nx : Hp → Prop, (∀ H', Nx H' → ∃ m', m' < m ∧ W (i + 1) m' H') ∧ ∀ x H', J.yld i H x H' → g x (wipe σ vs) H' fun σ2 H2 => wipe σ2 vs = wipe σ vs ∧ tt σ2 H2 fun b H3 =>
        if b = true then tk σ2 H3 fun y H4 => tv σ2 H4 fun z H5 => ∃ kvs k, y = kV k ∧ H5 D = some (.dK kvs) ∧ kvs.length < sizeLine ∧ Nx (upd H5 D (.dK (putK kvs k z))) else Nx H3) := by
  refine ⟨fun i m H => (m + i = n) ∧ Pv i H, ⟨n, rfl, h0⟩, ?_⟩
  rintro i m H ⟨hm, pv⟩
  by_cases c : i < n
  · refine .inr ⟨wk.goes i H c (hG i H (by omega) pv), Pv (i + 1), fun H' pv' => ⟨m - 1, by omega, by omega, pv'⟩, fun x H' y => ?_⟩
    exact hs i x H H' c pv (wk.yields i H x H' c (hG i H (by omega) pv) y)
  · have : i = n := by omega
    subst this
    exact .inl ⟨wk.stops H (hG _ H (Nat.le_refl _) pv), hd H pv⟩
/-- the built-in names that the top leaves alone -/
structure Blt (mg : Str → Option Value) : Prop where
  len : mg "len" = none
  int : mg "int" = none
  bool : mg "bool" = none
  str : mg "str" = none
  list : mg "list" = none
  tuple : mg "tuple" = none
  dict : mg "dict" = none
  isinstance : mg "isinstance" = none
  all : mg "all" = none
  range : mg "range" = none
  enumerate : mg "enumerate" = none
  sorted : mg "sorted" = none
  min : mg "min" = none
  max : mg "max" = none
  set : mg "set" = none
  sum : mg "sum" = none
  abs : mg "abs" = none
/-- data without depth -/
def flatD : PyData → Bool
  | .none => true
  | .bool _ => true
  | .int _ => true
  | .str x => PyData.strOk x
  | _ => false
theorem flat_lay : ∀ {ds : List PyData}, ds.all flatD = true → PyData.canLayAll0 ds = true ∧ PyData.depthAll ds ≤ 1
  | [], _ => by simp [PyData.canLayAll0, PyData.depthAll]
  | d :: ds, h => by
    rw [List.all_cons, Bool.and_eq_true] at h
    obtain ⟨h1, h2⟩ := flat_lay h.2
    cases d with
    | none => simp [PyData.canLayAll0, PyData.depthAll, PyData.canLay0, PyData.depth, h1, h2]
    | bool b => simp [PyData.canLayAll0, PyData.depthAll, PyData.canLay0, PyData.depth, h1, h2]
    | int b => simp [PyData.canLayAll0, PyData.depthAll, PyData.canLay0, PyData.depth, h1, h2]
    | str b =>
      have hb : PyData.strOk b = true := h.1
      simp [PyData.canLayAll0, PyData.depthAll, PyData.canLay0, PyData.depth, h1, h2, hb]
    | _ => exact absurd h.1 (by simp [flatD])
theorem shaped_flat {ds : List PyData} (h : ds.all flatD = true) : SeqAt.shaped (.tuple ds) = true := by
  obtain ⟨h1, h2⟩ := flat_lay h
  unfold SeqAt.shaped
  simp [PyData.canLay0, PyData.depth, h1]
  omega
/-- all but p stands -/
def But (p : Addr) (H H' : Hp) : Prop := ∀ b o, H b = some o → b ≠ p → H' b = some o
theorem But.refl (p : Addr) (H : Hp) : But p H H := fun _ _ h _ => h
theorem But.trans {p : Addr} {H H1 H2 : Hp} (a : But p H H1) (b : But p H1 H2) : But p H H2 := fun c o h n => b c o (a c o h n) n
theorem But.upd {p : Addr} {H H' : Hp} {o : HO} (a : But p H H') : But p H (L2.upd H' p o) := fun c u h n => by rw [upd_ne n]; exact a c u h n
theorem But.new {p q : Addr} {H H' : Hp} {o : HO} (a : But p H H') (h : H' q = none) (hp : H q = none ∨ q ≠ p := by first | exact .inl ‹_› | exact .inr ‹_›) : But p H (L2.upd H' q o) := fun c u hc n => by
  rw [upd_ne]
  · exact a c u hc n
  · intro z
    subst z
    rw [a c u hc n] at h
    cases h
theorem But.at {p q : Addr} {H H' : Hp} {o : HO} (a : But p H H') (h : H q = none) : But p H (L2.upd H' q o) := fun c u hc n => by
  rw [upd_ne (ne_of_none hc h)]
  exact a c u hc n
theorem sameAt {q : Addr} {H H' : Hp} {o : HO} (a : Same H H') (h : H q = none) : Same H (L2.upd H' q o) := fun c u hc => by
  rw [upd_ne (ne_of_none hc h)]
  exact a c u hc
theorem But.same {p : Addr} {H H' : Hp} (a : Same H H') : But p H H' := fun c o h _ => a c o h
theorem Same.new {q : Addr} {H H' : Hp} {o : HO} (a : Same H H') (h : H' q = none) : Same H (upd H' q o) := fun c u hc => by
  rw [upd_ne (ne_of_none (a c u hc) h)]
  exact a c u hc
theorem But.seq {K : PySem.W.Frag} {p a : Addr} {H H' : Hp} {xs : List V} (e : But p H H') (hn : ∀ o, H p = some o → ∀ ys, o ≠ .lst ys → True) (h : H a = some (.lst xs)) (n : a ≠ p) : SqL K H' a xs := .of (e _ _ h n)
end Ash

set_option Elab.async false
set_option linter.all false
set_option maxRecDepth 100000
set_option maxHeartbeats 4000000
namespace Ash
open PySem PySem.Spec PyProof.Rows L2
open C8 (pss_cut)
/-- the pool of drawn numbers at p, the script's copy at s -/
def PoolAt (H : Hp) (p s : Addr) : Prop := ∃ (ns : List Int) (i c k n : Int), H p = some (.lst [.ref s, .int i, .int c, .int k, .int n]) ∧ H s = some (.lst (ns.map V.int)) ∧ 0 ≤ i ∧ s ≠ p
theorem PoolAt.same {H H' : Hp} {p s : Addr} (h : PoolAt H p s) (e : Same H H') : PoolAt H' p s := by
  obtain ⟨ns, i, c, k, n, h1, h2, h3, h4⟩ := h
  exact ⟨ns, i, c, k, n, e _ _ h1, e _ _ h2, h3, h4⟩
theorem PoolAt.off {H : Hp} {p s q : Addr} {o : HO} (h : PoolAt H p s) (hp : q ≠ p) (hs : q ≠ s) : PoolAt (L2.upd H q o) p s := by
  obtain ⟨ns, i, c, k, n, h1, h2, h3, h4⟩ := h
  exact ⟨ns, i, c, k, n, by rw [upd_ne hp.symm]; exact h1, by rw [upd_ne hs.symm]; exact h2, h3, h4⟩
/-- from H0 to H nothing that was tracked has changed but the pool -/
structure Pl (H0 H : Hp) (p s : Addr) : Prop where
  now : PoolAt H p s
  op : H0 p ≠ none
  os : H0 s ≠ none
  but : But p H0 H
section
variable {H0 H H1 : Hp} {p s q : Addr} {o : HO}
theorem PoolAt.ne (h : PoolAt H p s) : H p ≠ none ∧ H s ≠ none := by
  obtain ⟨ns, i, c, k, n, h1, h2, h3, h4⟩ := h
  rw [h1, h2]
  exact ⟨Option.some_ne_none _, Option.some_ne_none _⟩
theorem Pl.refl (h : PoolAt H p s) : Pl H H p s := ⟨h, h.ne.1, h.ne.2, But.refl p H⟩
theorem Pl.at (h : Pl H0 H p s) (hq : H0 q = none) : Pl H0 (L2.upd H q o) p s :=
  ⟨h.now.off (fun z => h.op (z ▸ hq)) (fun z => h.os (z ▸ hq)), h.op, h.os, h.but.at hq⟩
theorem Pl.keep (h : Pl H0 H p s) {b : Addr} {u : HO} (e : H0 b = some u) (n : b ≠ p) : H b = some u := h.but b u e n
theorem Pl.free (h : Pl H0 H p s) (hq : H q = none) : H0 q = none := by
  cases e : H0 q with
  | none => rfl
  | some u =>
    by_cases hp : q = p
    · exact absurd (hp ▸ hq) h.now.ne.1
    · rw [h.but q u e hp] at hq
      cases hq
theorem Pl.trans (a : Pl H0 H p s) (b : Pl H H1 p s) : Pl H0 H1 p s := ⟨b.now, a.op, a.os, a.but.trans b.but⟩
/-- a new thing -/
theorem Pl.new (h : Pl H0 H p s) (hq : H q = none) : Pl H0 (L2.upd H q o) p s := h.at (h.free hq)
theorem Pl.same (h : Pl H0 H p s) (e : Same H H1) : Pl H0 H1 p s := ⟨h.now.same e, h.op, h.os, fun b u hb n => e b u (h.but b u hb n)⟩
end
def spPool (K : PySem.W.Frag) : Sp := fun vs H Q _ => ∃ (a : Addr) (ns : List Int), vs = [.ref a] ∧ SqL K H a (ns.map V.int) ∧ ∀ p s H', H p = none → PoolAt H' p s → Same H H' → Q (.ref p) H'
def spDraw : Sp := fun vs H Q _ => ∃ (p s : Addr) (many : Int), vs = [.ref p, .int many] ∧ PoolAt H p s ∧ 0 < many ∧ many < 2 ^ 200 ∧ ∀ (d : Int) H', 0 ≤ d → d < many → Pl H H' p s → Q (.int d) H'
section
variable {P : Program} {w : World} {K : PySem.W.Frag} {mg : Str → Option Value} {base : Heap}
abbrev s_l_pool : Stmt := topS 71
theorem sc_l_pool : FnScope ["script"] ["script"] (defScope s_l_pool) := ⟨rfl, rfl, rfl, by decide +kernel, rfl, by decide +kernel, by decide +kernel⟩
theorem ok_pool {f : Addr} {fd : FuncData} (F : Fun K "_law_pool" "_law_pool" s_l_pool f fd) (B : Blt mg) : FnOk P w K mg base CX0 1 f fd ["script"] (spPool K) := by
  refine F.ok sc_l_pool (fun vs H Q E h => ?_) (fun cdv A outer s H vs Q E hr h => ?_)
  · obtain ⟨a, ns, rfl, _⟩ := h
    rfl
  · obtain ⟨a, ns, rfl, hS, k⟩ := h
    refine ⟨_, (pss_one (ps_ret (pe_lst (pa_cons (pe_callTy call_list_of (by rfl) B.list (by decide +kernel) (pa_cons (pv 0) pa_nil)) (pa_cons pe_int (pa_cons pe_int (pa_cons pe_int (pa_cons pe_int pa_nil)))))))), ?_⟩
    refine ⟨_, rfl, _, _, rfl, .inl hS, fun l hl => ⟨(by show 5 ≤ sizeLine; decide), fun p hp => ?_⟩⟩
    have hpl : l ≠ p := fun z => by rw [z, upd_same] at hp; cases hp
    have hp0 : H p = none := by rw [upd_ne (Ne.symm hpl)] at hp; exact hp
    refine k p l _ hp0 ⟨ns, _, _, _, _, upd_same, (by rw [upd_ne hpl, upd_same]), (by decide), hpl⟩ ?_
    exact Same.new (Same.new (Same.refl H) hl) hp
abbrev s_l_draw : Stmt := topS 72
theorem sc_l_draw : FnScope ["pool", "many", "cell", "digit", "number"] ["pool", "many"] (defScope s_l_draw) := ⟨rfl, rfl, rfl, by decide +kernel, rfl, by decide +kernel, by decide +kernel⟩
theorem ok_draw {f : Addr} {fd : FuncData} (F : Fun K "_law_draw" "_law_draw" s_l_draw f fd) (B : Blt mg) : FnOk P w K mg base CX0 1 f fd ["pool", "many"] spDraw := by
  refine F.ok sc_l_draw (fun vs H Q E h => ?_) (fun cdv A outer s H vs Q E hr h => ?_)
  · obtain ⟨p, _, many, rfl, _⟩ := h
    rfl
  · obtain ⟨p, s, many, rfl, hPP, hm, hm2, kk⟩ := h
    obtain ⟨ns, i, c, k, n, hp, hs, hi, hsp⟩ := id hPP
    refine ⟨_, (pss_cons (ps_asg (pe_op op_add (pe_ix ix_list (pv 0) pe_int (fun _ _ => rfl)) pe_int) (pg_sub (pv 0) pe_int set_list))
    (pss_cut (ps_if (PW.pt (pw_and (pt_cmpR op_eq (pe_ix ix_list (pv 0) pe_int (fun _ _ => rfl)) pe_int (nomark _)) (pw_and1 (pt_cmpR op_lt (pe_ix ix_list (pv 0) pe_int (fun _ _ => rfl)) (pe_callB call_len_seq (by rfl) B.len (by decide +kernel) (pa_cons (pe_ix ix_list (pv 0) pe_int (fun _ _ => rfl)) pa_nil)) (nomark _)))))
      (pss_cons (ps_set (i := 2) sc_l_draw.nd rfl (Or.inl rfl) (pe_callB call_abs (by rfl) B.abs (by decide +kernel) (pa_cons (pe_callTy call_intI (by rfl) B.int (by decide +kernel) (pa_cons (pe_ix ix_list (pe_ix ix_list (pv 0) pe_int (fun _ _ => rfl)) (pe_ix ix_list (pv 0) pe_int (fun _ _ => rfl)) (fun _ _ => rfl)) pa_nil)) pa_nil)))
      (pss_cons (ps_asg (pe_op op_add (pe_ix ix_list (pv 0) pe_int (fun _ _ => rfl)) pe_int) (pg_sub (pv 0) pe_int set_list))
      (pss_one (ps_if (pt_cmpR op_ge (pv 2) (pe_op op_pow pe_int pe_int) (nomark _))
        (pss_one (ps_asg (pv 2) (pg_sub (pv 0) pe_int set_list)))
        (pss_one (ps_asg (pe_op op_mod (pe_callTy call_intI (by rfl) B.int (by decide +kernel) (pa_cons (pe_op op_add (pe_op op_add (pe_op op_mul (pe_ix ix_list (pv 0) pe_int (fun _ _ => rfl)) pe_int) (pv 2)) pe_int) pa_nil)) pe_int) (pg_sub (pv 0) pe_int set_list)))))))
      pss_nil)
    (pss_cons (ps_if (pt_cmpR op_gt (pe_ix ix_list (pv 0) pe_int (fun _ _ => rfl)) pe_int (nomark _))
      (pss_cons (ps_set (i := 3) sc_l_draw.nd rfl (Or.inl rfl) (pe_op op_mod (pe_callTy call_intI (by rfl) B.int (by decide +kernel) (pa_cons (pe_ix ix_list (pv 0) pe_int (fun _ _ => rfl)) pa_nil)) (pv 1)))
      (pss_cons (ps_asg (pe_op op_fdivW (pe_callTy call_intI (by rfl) B.int (by decide +kernel) (pa_cons (pe_ix ix_list (pv 0) pe_int (fun _ _ => rfl)) pa_nil)) (pv 1)) (pg_sub (pv 0) pe_int set_list))
      (pss_one (ps_ret (pv 3)))))
      pss_nil)
    (pss_cons (ps_set (i := 4) sc_l_draw.nd rfl (Or.inl rfl) (pe_op op_mod (pe_op op_mul (pe_callTy call_intI (by rfl) B.int (by decide +kernel) (pa_cons (pe_op op_add (pe_op op_add (pe_ix ix_list (pv 0) pe_int (fun _ _ => rfl)) (pe_op op_mul (pe_ix ix_list (pv 0) pe_int (fun _ _ => rfl)) pe_int)) pe_int) pa_nil)) pe_int) pe_int))
    (pss_cons (ps_set (i := 4) sc_l_draw.nd rfl (Or.inl rfl) (pe_op op_mod (pe_callTy call_intI (by rfl) B.int (by decide +kernel) (pa_cons (pe_op op_mul (pv 4) (pe_op op_add (pe_op op_fdiv (pv 4) pe_int) pe_int)) pa_nil)) pe_int))
    (pss_cons (ps_set (i := 4) sc_l_draw.nd rfl (Or.inl rfl) (pe_op op_mod (pe_callTy call_intI (by rfl) B.int (by decide +kernel) (pa_cons (pe_op op_mul (pv 4) (pe_op op_add (pe_op op_fdiv (pv 4) pe_int) pe_int)) pa_nil)) pe_int))
    (pss_cons (ps_asg (pv 4) (pg_sub (pv 0) pe_int set_list))
    (pss_one (ps_ret (pe_op op_mod (pe_callTy call_intI (by rfl) B.int (by decide +kernel) (pa_cons (pe_op op_fdiv (pv 4) pe_int) pa_nil)) (pv 1))))))))))), ?_⟩
    refine ⟨_, rfl, _, _, _, _, rfl, rfl, SqL.of hp, rfl, _, _, rfl, rfl, _, rfl, _, _, _, _, rfl, rfl, hp, rfl, ?_⟩
    refine ⟨fun σ H1 => (∃ cell, σ = [some (.ref p), some (.int many), cell, none, none]) ∧ ∃ (i c k n : Int), H1 p = some (.lst [.ref s, .int i, .int c, .int k, .int n]) ∧ H1 s = some (.lst (ns.map V.int)) ∧ 0 ≤ i ∧ But p H H1, ?_, ?_⟩
    · generalize eH : upd H p (.lst _) = H1
      have hp1 : H1 p = some (.lst [.ref s, .int i, .int c, .int (k + 1), .int n]) := by rw [← eH]; exact upd_same
      have hs1 : H1 s = some (.lst (ns.map V.int)) := by rw [← eH, upd_ne hsp]; exact hs
      have hb1 : But p H H1 := by rw [← eH]; exact (But.refl p H).upd
      clear eH
      refine ⟨_, rfl, _, _, _, _, rfl, rfl, SqL.of hp1, rfl, rfl, _, rfl, ?_⟩
      refine ite2 (fun c2 => ?_) (fun c2 => ?_)
      · refine ⟨_, rfl, _, _, _, _, rfl, rfl, SqL.of hp1, rfl, _, rfl, _, _, _, _, rfl, rfl, SqL.of hp1, rfl, _, _, rfl, .inl (SqL.of hs1), _, _, rfl, rfl, _, rfl, ?_⟩
        refine ite2 (fun c3 => ?_) (fun c3 => ?_)
        · have c3' : i < (ns.map V.int).length := of_decide_eq_true c3
          obtain ⟨j, rfl⟩ : ∃ j : Nat, i = (j : Int) := ⟨i.toNat, by omega⟩
          have hj : j < ns.length := by rw [List.length_map] at c3'; omega
          refine ⟨_, rfl, _, _, _, _, rfl, rfl, SqL.of hp1, rfl, _, rfl, _, _, _, _, rfl, rfl, SqL.of hp1, rfl, _, _, _, V.int ns[j], rfl, rfl, SqL.of hs1, atI_nat (by rw [List.getElem?_map, List.getElem?_eq_getElem hj]; rfl), _, rfl, _, rfl, ?_⟩
          refine ⟨_, rfl, _, _, _, _, rfl, rfl, SqL.of hp1, rfl, _, _, rfl, rfl, _, rfl, _, _, _, _, rfl, rfl, hp1, rfl, ?_⟩
          refine ⟨_, rfl, _, _, rfl, rfl, ⟨by decide, by decide, by decide⟩, _, _, rfl, rfl, _, rfl, ?_⟩
          refine ite2 (fun c4 => ?_) (fun c4 => ?_)
          · refine ⟨_, rfl, _, rfl, _, _, _, _, rfl, rfl, upd_same, rfl, ⟨_, rfl⟩, _, _, _, _, upd_same, (by rw [upd_ne hsp, upd_ne hsp]; exact hs1), (by omega), hb1.upd.upd⟩
          · refine ⟨_, rfl, _, _, _, _, rfl, rfl, SqL.of upd_same, rfl, _, _, rfl, rfl, .inr ⟨by decide, by decide⟩, _, rfl, _, _, rfl, rfl, _, _, rfl, rfl, _, rfl, _, _, rfl, rfl, (by show (0 : Int) < 2147483647; decide), _, rfl, _, _, _, _, rfl, rfl, upd_same, rfl, ⟨_, rfl⟩, _, _, _, _, upd_same, (by rw [upd_ne hsp, upd_ne hsp]; exact hs1), (by omega), hb1.upd.upd⟩
        · exact ⟨⟨_, rfl⟩, _, _, _, _, hp1, hs1, hi, hb1⟩
      · exact ⟨⟨_, rfl⟩, _, _, _, _, hp1, hs1, hi, hb1⟩
    · rintro σ' H1 ⟨⟨cell, rfl⟩, i, c, k, n, hp1, hs1, hi, hb1⟩
      refine ⟨_, rfl, _, _, _, _, rfl, rfl, SqL.of hp1, rfl, _, _, rfl, rfl, _, rfl, ?_⟩
      refine ite2 (fun c2 => ?_) (fun c2 => ?_)
      · refine ⟨_, rfl, _, _, _, _, rfl, rfl, SqL.of hp1, rfl, _, rfl, _, rfl, _, _, rfl, rfl, hm, _, rfl, _, _, _, _, rfl, rfl, SqL.of hp1, rfl, _, rfl, _, rfl, _, _, rfl, rfl, wide_div (b := 200) hm (by omega) (by decide) (by decide), _, rfl, _, _, _, _, rfl, rfl, hp1, rfl, _, rfl, ?_⟩
        refine kk _ _ (Int.emod_nonneg _ (by omega)) (Int.emod_lt_of_pos _ hm) ⟨⟨ns, _, _, _, _, upd_same, (by rw [upd_ne hsp]; exact hs1), hi, hsp⟩, hPP.ne.1, hPP.ne.2, hb1.upd⟩
      · refine ⟨_, rfl, _, _, _, _, rfl, rfl, SqL.of hp1, rfl, _, rfl, _, _, _, _, rfl, rfl, SqL.of hp1, rfl, _, _, rfl, rfl, .inr ⟨by decide, by decide⟩, _, _, rfl, rfl, _, _, rfl, rfl, _, rfl, _, _, rfl, rfl, .inr ⟨by decide, by decide⟩, _, _, rfl, rfl, (by show (0 : Int) < 2147483647; decide), ?_⟩
        generalize ea : (n + k * 104729 + 1) * 48271 % 2147483647 = a
        have a0 : 0 ≤ a := by rw [← ea]; exact Int.emod_nonneg _ (by decide)
        have a1 : a < 2147483647 := by rw [← ea]; exact Int.emod_lt_of_pos _ (by decide)
        refine ⟨_, rfl, _, rfl, _, _, rfl, rfl, ⟨by decide, by decide⟩, _, _, rfl, rfl, _, _, rfl, rfl, .inl ⟨by omega, by omega⟩, _, rfl, _, _, rfl, rfl, (by show (0 : Int) < 2147483629; decide), ?_⟩
        generalize eb : a * (a / 1009 + 69621) % 2147483629 = b
        have b0 : 0 ≤ b := by rw [← eb]; exact Int.emod_nonneg _ (by decide)
        have b1 : b < 2147483629 := by rw [← eb]; exact Int.emod_lt_of_pos _ (by decide)
        refine ⟨_, rfl, _, rfl, _, _, rfl, rfl, ⟨by decide, by decide⟩, _, _, rfl, rfl, _, _, rfl, rfl, .inl ⟨by omega, by omega⟩, _, rfl, _, _, rfl, rfl, (by show (0 : Int) < 2147483399; decide), ?_⟩
        refine ⟨_, rfl, _, rfl, _, _, _, _, rfl, rfl, hp1, rfl, _, rfl, _, _, rfl, rfl, ⟨by decide, by decide⟩, _, rfl, _, rfl, _, _, rfl, rfl, hm, ?_⟩
        refine kk _ _ (Int.emod_nonneg _ (by omega)) (Int.emod_lt_of_pos _ hm) ⟨⟨ns, _, _, _, _, upd_same, (by rw [upd_ne hsp]; exact hs1), hi, hsp⟩, hPP.ne.1, hPP.ne.2, hb1.upd⟩
end
end Ash

set_option Elab.async false
set_option linter.all false
set_option maxRecDepth 100000
set_option maxHeartbeats 4000000
namespace Ash
open PySem PySem.Spec PyProof.Rows L2
open C8 (pss_cut)
/-! ### names -/
def LET : List Nat := [97, 98, 99, 100, 101, 102, 103, 104, 105, 106, 107, 108, 109, 110, 111, 112, 113, 114, 115, 116, 117, 118, 119, 120, 121, 122]
abbrev abc : Str := "abcdefghijklmnopqrstuvwxyz"
theorem abc_let : abc.cps.toList = LET := by decide +kernel
theorem abc_size : abc.cps.size = 26 := by decide +kernel
/-- a name: 1 to 8 letters -/
def IsNm (z : Str) : Prop := 1 ≤ z.length ∧ z.length ≤ 8 ∧ ∀ c ∈ z.cps.toList, c ∈ LET
theorem let_small : ∀ c ∈ LET, c < 0x110000 := by decide
theorem nm_ok {z : Str} (h : IsNm z) : PyData.strOk z = true := by
  unfold PyData.strOk
  rw [← Array.all_toList, List.all_eq_true]
  exact fun c hc => decide_eq_true (let_small c (h.2.2 c hc))
theorem append_length (a b : Str) : (a ++ b).length = a.length + b.length := by
  show (a.cps ++ b.cps).size = a.cps.size + b.cps.size
  rw [Array.size_append]
theorem append_list (a b : Str) : (a ++ b).cps.toList = a.cps.toList ++ b.cps.toList := by
  show (a.cps ++ b.cps).toList = _
  rw [Array.toList_append]
theorem one_nm {c : Nat} (h : c ∈ LET) : IsNm ⟨#[c]⟩ := ⟨Nat.le_refl 1, (by show 1 ≤ 8; decide), fun d hd => by
  have e : d = c := by simpa using hd
  rw [e]
  exact h⟩
theorem inV_str {z : Str} : ∀ {l : List Str}, inV (.str z) (l.map V.str) = decide (z ∈ l)
  | [] => by simp [inV]
  | a :: l => by
    have ih := inV_str (z := z) (l := l)
    unfold inV at ih ⊢
    rw [List.map_cons, List.any_cons, ih]
    show ((a == z) || decide (z ∈ l)) = decide (z ∈ a :: l)
    by_cases h : a = z
    · subst h
      simp
    · have h' : ¬ z = a := fun q => h q.symm
      by_cases h2 : z ∈ l <;> simp [h, h', h2]
theorem flat_strs (l : List Str) : (l.map V.str).all flatV = true := by
  induction l with
  | nil => rfl
  | cons a l ih =>
    rw [List.map_cons, List.all_cons, ih]
    rfl
theorem sub_len {α : Type} [DecidableEq α] : ∀ {l m : List α}, l.Nodup → (∀ x ∈ l, x ∈ m) → l.length ≤ m.length
  | [], m, _, _ => Nat.zero_le _
  | a :: l, m, hn, h => by
    obtain ⟨h1, h2⟩ := List.nodup_cons.mp hn
    have ha : a ∈ m := h a List.mem_cons_self
    have ih := sub_len (l := l) (m := m.erase a) h2 fun x hx => (List.mem_erase_of_ne (fun z => h1 (by rw [← z]; exact hx))).mpr (h x (List.mem_cons_of_mem _ hx))
    rw [List.length_erase_of_mem ha] at ih
    have : 0 < m.length := List.length_pos_of_mem ha
    rw [List.length_cons]
    omega
theorem atI_natC {α : Type} {xs : List α} {j : Nat} (h : j < xs.length) : atI xs (j : Int) = some xs[j] := by
  unfold atI ixN
  rw [if_pos (by omega), if_pos (by omega), Option.bind_some, Int.toNat_natCast]
  exact List.getElem?_eq_getElem h
theorem let_strs : (LET.map fun c => (⟨#[c]⟩ : Str)).Nodup := by decide +kernel
theorem not_all {l : List Str} (hl : l.length ≤ 25) (h : ∀ c ∈ LET, (⟨#[c]⟩ : Str) ∈ l) : False := by
  have := sub_len let_strs (m := l) fun x hx => by
    obtain ⟨c, hc, rfl⟩ := List.mem_map.mp hx
    exact h c hc
  have e : (LET.map fun c => (⟨#[c]⟩ : Str)).length = 26 := by decide +kernel
  omega
def spNames : Sp := fun vs H Q _ => ∃ (p s : Addr) (many : Int), vs = [.ref p, .int many] ∧ PoolAt H p s ∧ 0 ≤ many ∧ many ≤ 25 ∧
  ∀ (q : Addr) (l : List Str) H', H q = none → H' q = some (.lst (l.map V.str)) → l.length = many.toNat → l.Nodup → (∀ z ∈ l, IsNm z) → Pl H H' p s → Q (.ref q) H'
section
variable {P : Program} {w : World} {K : PySem.W.Frag} {mg : Str → Option Value} {base : Heap}
abbrev CDraw (P : Program) (w : World) (K : PySem.W.Frag) (mg : Str → Option Value) (base : Heap) : Prop := Cal P w K mg base CX0 "_law_draw" 1 ["pool", "many"] spDraw
structure G1 (P : Program) (w : World) (K : PySem.W.Frag) (mg : Str → Option Value) (base : Heap) : Prop where
  law_draw : CDraw P w K mg base
/-- the words of the wordings -/
def WORDS : List Str := ["last", "at", "now", "next", "or", "to", "from", "number"]
theorem words_nm : ∀ z ∈ WORDS, IsNm z := fun z hz => by
  have q : ∀ z ∈ WORDS, (1 ≤ z.length ∧ z.length ≤ 8) ∧ (z.cps.toList.all fun c => decide (c ∈ LET)) = true := by decide +kernel
  obtain ⟨⟨h1, h2⟩, h3⟩ := q z hz
  exact ⟨h1, h2, fun c hc => of_decide_eq_true (List.all_eq_true.mp h3 c hc)⟩
theorem joinL_one : ∀ cs : List Nat, TL.joinL [] (cs.map fun c => [c]) = cs
  | [] => rfl
  | [c] => rfl
  | c :: d :: r => by
    show [c] ++ ([] ++ TL.joinL [] ((d :: r).map fun c => [c])) = _
    rw [joinL_one (d :: r)]
    rfl
theorem join_one (cs : List Nat) : (Txt.join "" (cs.map fun c => (⟨#[c]⟩ : Str))).cps.toList = cs := by
  have e := TL.tl_join "" (cs.map fun c => (⟨#[c]⟩ : Str))
  have e2 : (cs.map fun c => (⟨#[c]⟩ : Str)).map TL.tl = cs.map fun c => [c] := by
    rw [List.map_map]
    rfl
  rw [e2, show TL.tl ("" : Str) = [] from rfl, joinL_one] at e
  exact (congrArg TL.tl (TL.join_eq "" _)).trans e
theorem sum_ones (cs : List Nat) : (((cs.map fun c => (⟨#[c]⟩ : Str)).map (·.length)).sum) = cs.length := by
  induction cs with
  | nil => rfl
  | cons c r ih =>
    rw [List.map_cons, List.map_cons, List.sum_cons, ih, List.length_cons]
    show 1 + r.length = _
    omega
abbrev s_l_names : Stmt := topS 73
theorem sc_l_names : FnScope ["pool", "many", "letters", "words", "names", "k", "name", "letter", "at"] ["pool", "many"] (defScope s_l_names) := ⟨rfl, rfl, rfl, by decide +kernel, rfl, by decide +kernel, by decide +kernel⟩
theorem ok_names {f : Addr} {fd : FuncData} (F : Fun K "_law_names" "_law_names" s_l_names f fd) (B : Blt mg) (G : G1 P w K mg base) : FnOk P w K mg base CX0 2 f fd ["pool", "many"] spNames := by
  refine F.ok sc_l_names (fun vs H Q E h => ?_) (fun cdv A outer s H vs Q E hr h => ?_)
  · obtain ⟨p, _, many, rfl, _⟩ := h
    rfl
  · obtain ⟨p, s0, many, rfl, hP, hm, hm2, kk⟩ := h
    refine ⟨_, (pss_cons (ps_set (i := 2) sc_l_names.nd rfl (Or.inr rfl) pe_str)
    (pss_cons (ps_set (i := 3) sc_l_names.nd rfl (Or.inl rfl) (pe_lst (pa_cons pe_str (pa_cons pe_str (pa_cons pe_str (pa_cons pe_str (pa_cons pe_str (pa_cons pe_str (pa_cons pe_str (pa_cons pe_str pa_nil))))))))))
    (pss_cons (ps_set (i := 4) sc_l_names.nd rfl (Or.inl rfl) (pe_lst pa_nil))
    (pss_cons (ps_for PassesOwn.never rfl (pi_range1 (by rfl) B.range (pa_cons (pv 1) pa_nil)) (pg_name (i := 5) sc_l_names.nd rfl (Or.inl rfl))
      (pss_cons (ps_set (i := 6) sc_l_names.nd rfl (Or.inl rfl) (pe_ix ix_list (pv 3) (pe_cal G.law_draw (hr.mono (by decide)) pass0 (pa_cons (pv 0) (pa_cons pe_int pa_nil))) (fun _ _ => rfl)))
      (pss_cut (ps_if (pt_cmpR op_gt (pe_cal G.law_draw (hr.mono (by decide)) pass0 (pa_cons (pv 0) (pa_cons pe_int pa_nil))) pe_int (nomark _))
        (pss_one (ps_set (i := 6) sc_l_names.nd rfl (Or.inl rfl) (pe_bm PySem.F.plainAttrs_str PySem.F.slot_str_join PySem.F.type_str_join mt_join pe_str (pa_cons (pe_lc (own := [("at", 8)]) (g := gName 8) (tt := tYes) (by rfl) sc_l_names.nd (pi_range1 (by rfl) B.range (pa_cons (pe_op op_add pe_int (pe_cal G.law_draw (hr.mono (by decide)) pass0 (pa_cons (pv 0) (pa_cons pe_int pa_nil)))) pa_nil)) (blkOk_by (own := [("at", 8)]) (N := ["pool", "many", "letters", "words", "names", "k", "name", "letter", "at"]) (sc := defScope s_l_names) (by decide +kernel)) (fun _ _ _ _ _ => (pg_name (i := 8) sc_l_names.nd rfl (Or.inl rfl))) (fun _ _ _ _ _ => pts_nil) (fun _ _ _ _ _ => (pe_ix ix_str (pv 2) (pe_cal G.law_draw (hr.mono (by decide)) pass0 (pa_cons (pv 0) (pa_cons pe_int pa_nil))) (fun _ _ => rfl)))) pa_nil))))
        pss_nil)
      (pss_cut (ps_for PassesOwn.never rfl (pi_str (pv 2)) (pg_name (i := 7) sc_l_names.nd rfl (Or.inl rfl))
        (pss_one (ps_if (PW.pt (pw_and (pt_cmpR op_in_seq (pv 6) (pv 4) rfl) (pw_and1 (pt_cmpR op_notIn_seq (pv 7) (pv 4) rfl))))
          (pss_one (ps_set (i := 6) sc_l_names.nd rfl (Or.inl rfl) (pv 7)))
          pss_nil)))
      (pss_one (ps_expr (pe_bm PySem.F.plainAttrs_list PySem.F.slot_list_append PySem.F.type_list_append mt_append (pv 4) (pa_cons (pv 6) pa_nil))))))))
    (pss_one (ps_ret (pv 4))))))), ?_⟩
    refine ⟨(by show 8 ≤ sizeLine; decide), fun lw hlw => ⟨(by show 0 ≤ sizeLine; decide), fun q hq => ?_⟩⟩
    have PW : Pl H (upd H lw (.lst [.str "last", .str "at", .str "now", .str "next", .str "or", .str "to", .str "from", .str "number"])) p s0 := (Pl.refl hP).at hlw
    have hw0 : (upd H lw (.lst [.str "last", .str "at", .str "now", .str "next", .str "or", .str "to", .str "from", .str "number"])) lw = some (.lst (WORDS.map V.str)) := upd_same
    generalize (upd H lw (.lst [.str "last", .str "at", .str "now", .str "next", .str "or", .str "to", .str "from", .str "number"])) = HW at PW hw0 hq ⊢
    have hqH : H q = none := PW.free hq
    have lwp : lw ≠ p := fun z => hP.ne.1 (z ▸ hlw)
    have lwq : lw ≠ q := ne_of_none hw0 hq
    have hr1 : Room 1 _ := hr.mono (by decide)
    refine ⟨_, rfl, _, rfl, (by omega), (by omega), for_range (n := many.toNat) (fun i σ H1 => (∃ a b c d, σ = [some (.ref p), some (.int many), some (.str abc), some (.ref lw), some (.ref q), a, b, c, d]) ∧ ∃ l : List Str, H1 q = some (.lst (l.map V.str)) ∧ l.length = i ∧ l.Nodup ∧ (∀ z ∈ l, IsNm z) ∧ Pl H H1 p s0 ∧ H1 lw = some (.lst (WORDS.map V.str))) ?_ ?_ ?_⟩
    · exact ⟨⟨_, _, _, _, rfl⟩, [], upd_same, rfl, List.nodup_nil, (fun z hz => nomatch hz), PW.new hq, by rw [upd_ne lwq]; exact hw0⟩
    · rintro i σ H1 hi ⟨⟨a, b, c, d, rfl⟩, l, hl, hlen, hnd, hnm, PL, hw1⟩
      have hqp : q ≠ p := fun z => hP.ne.1 (z ▸ hqH)
      refine ⟨_, rfl, _, rfl, p, s0, 8, rfl, PL.now, (by decide), (by decide), fun x H2 x0 x8 P2 => ?_⟩
      obtain ⟨g, rfl⟩ : ∃ g : Nat, x = (g : Int) := ⟨x.toNat, by omega⟩
      have hg : g < WORDS.length := by show g < 8; omega
      have hw2 := P2.keep hw1 lwp
      refine ⟨_, _, _, .str WORDS[g], rfl, rfl, SqL.of hw2, atI_nat (by rw [List.getElem?_map, List.getElem?_eq_getElem hg]; rfl), ?_⟩
      -- name
      refine ⟨fun σ H3 => (∃ k nm d e, σ = [some (.ref p), some (.int many), some (.str abc), some (.ref lw), some (.ref q), k, some (.str nm), d, e] ∧ IsNm nm) ∧ Pl H1 H3 p s0, ?_, ?_⟩
      · refine ⟨_, rfl, p, s0, 3, rfl, P2.now, (by decide), (by decide), fun y H3 y0 y3 P3 => ⟨_, _, rfl, rfl, _, rfl, ?_⟩⟩
        have P13 := P2.trans P3
        refine ite2 (fun c2 => ?_) (fun c2 => ?_)
        · refine ⟨rfl, _, rfl, p, s0, 8, rfl, P3.now, (by decide), (by decide), fun n H4 n0 n8 P4 => ⟨_, _, rfl, rfl, _, rfl, (by omega), (by omega), fun D hD => ?_⟩⟩
          have P14 := P13.trans P4
          refine lc_range (n := (1 + n).toNat) (fun j H5 => (∃ cs : List Nat, H5 D = some (.lst ((cs.map fun c => (⟨#[c]⟩ : Str)).map V.str)) ∧ cs.length = j ∧ ∀ c ∈ cs, c ∈ LET) ∧ Pl H1 H5 p s0) ⟨⟨[], upd_same, rfl, fun c hc => nomatch hc⟩, P14.new hD⟩ ?_ ?_
          · rintro j H5 hj ⟨⟨cs, hD5, hcs, hcl⟩, P5⟩
            refine ⟨rfl, _, rfl, _, rfl, p, s0, 26, rfl, P5.now, (by decide), (by decide), fun x H6 x0' x26 P6 => ?_⟩
            obtain ⟨g2, rfl⟩ : ∃ g : Nat, x = (g : Int) := ⟨x.toNat, by omega⟩
            have hg2 : g2 < LET.length := by show g2 < 26; omega
            have Dp : D ≠ p := fun z => P14.now.ne.1 (z ▸ hD)
            refine ⟨_, _, LET[g2], rfl, rfl, (by show abc.cps.size ≤ sizeLine; rw [abc_size]; decide), (by rw [abc_let]; exact atI_natC hg2), _, P6.keep hD5 Dp, (by rw [List.length_map, List.length_map]; exact small1000 (by omega)), ⟨cs ++ [LET[g2]], ?_, by rw [List.length_append, hcs]; rfl, fun c hc => ?_⟩, (P5.trans P6).at (P14.free hD)⟩
            · rw [upd_same, List.map_append, List.map_append]
              rfl
            · rcases List.mem_append.mp hc with h | h
              · exact hcl c h
              · rw [List.mem_singleton.mp h]
                exact List.getElem_mem hg2
          · rintro H5 ⟨⟨cs, hD5, hcs, hcl⟩, P5⟩
            have e1 := join_one cs
            refine ⟨_, D, _, rfl, rfl, .inl (SqL.of hD5), ?_, ?_⟩
            · rw [sum_ones, List.length_map]
              show cs.length + cs.length * 0 ≤ _
              omega
            · refine ⟨⟨_, _, _, _, rfl, ?_⟩, P5⟩
              have hz : (Txt.join "" (cs.map fun c => (⟨#[c]⟩ : Str))).length = cs.length := by
                show (Txt.join "" (cs.map fun c => (⟨#[c]⟩ : Str))).cps.size = _
                rw [← Array.length_toList, e1]
              exact ⟨by rw [hz]; omega, by rw [hz]; omega, fun c hc => hcl c (by rw [← e1]; exact hc)⟩
        · exact ⟨⟨_, _, _, _, rfl, words_nm _ (List.getElem_mem hg)⟩, P13⟩
      rintro σ H3 ⟨⟨k, nm, d, e, rfl, hN⟩, P3⟩
      -- another name
      have hq3 : H3 q = some (.lst (l.map V.str)) := P3.keep hl hqp
      refine ⟨fun σ H4 => (∃ k nm d e, σ = [some (.ref p), some (.int many), some (.str abc), some (.ref lw), some (.ref q), k, some (.str nm), d, e] ∧ IsNm nm ∧ nm ∉ l) ∧ H4 = H3, ?_, ?_⟩
      · refine ⟨_, rfl, _, rfl, for_it (walk_str (z := abc)) (fun j σ H4 => (∃ nm d, σ = [some (.ref p), some (.int many), some (.str abc), some (.ref lw), some (.ref q), k, some (.str nm), d, e] ∧ IsNm nm ∧ (nm ∈ l → ∀ (i : Nat) (x : Nat), i < j → LET[i]? = some x → (⟨#[x]⟩ : Str) ∈ l)) ∧ H4 = H3) ?_ (fun _ _ _ _ _ => trivial) ?_ ?_⟩
        · exact ⟨⟨_, _, rfl, hN, fun _ i x hi => by omega⟩, rfl⟩
        · rintro j x σ H4 H5 hj ⟨⟨nm, d, rfl, hN, hall⟩, rfl⟩ ⟨rfl, c, hc, rfl⟩
          have hc' : LET[j]? = some c := by
            rw [← abc_let, Array.getElem?_toList]
            exact hc
          have hcm : c ∈ LET := List.mem_of_getElem? hc'
          refine ⟨_, rfl, _, rfl, _, _, rfl, .inl (SqL.of hq3), rfl, flat_strs l, _, rfl, ?_⟩
          rw [if_neg (by decide), inV_str]
          refine ite2 (fun c2 => ?_) (fun c2 => ?_)
          · have c2 : nm ∈ l := of_decide_eq_true c2
            refine ⟨_, rfl, _, rfl, _, _, rfl, .inl (SqL.of hq3), rfl, flat_strs l, _, rfl, ?_⟩
            rw [if_pos rfl, inV_str]
            refine ite2 (fun c3 => ?_) (fun c3 => ?_)
            · have c3 : ¬ (⟨#[c]⟩ : Str) ∈ l := by simpa using c3
              exact ⟨_, rfl, ⟨_, _, rfl, one_nm hcm, fun z => absurd z c3⟩, rfl⟩
            · have c3 : (⟨#[c]⟩ : Str) ∈ l := by simpa using c3
              refine ⟨⟨_, _, rfl, hN, fun _ i x hi hx => ?_⟩, rfl⟩
              by_cases hij : i < j
              · exact hall c2 i x hij hx
              · have : i = j := by omega
                subst this
                rw [hc'] at hx
                cases hx
                exact c3
          · have c2 : ¬ nm ∈ l := by simpa using c2
            exact ⟨⟨_, _, rfl, hN, fun z => absurd z c2⟩, rfl⟩
        · rintro σ H4 ⟨⟨nm, d, rfl, hN, hall⟩, rfl⟩
          refine ⟨⟨_, _, _, _, rfl, hN, fun hm => ?_⟩, rfl⟩
          have hl25 : l.length ≤ 25 := by omega
          refine not_all hl25 fun c hc => ?_
          obtain ⟨i, hi, e⟩ := List.getElem_of_mem hc
          exact hall hm i c (by show i < abc.cps.size; rw [abc_size]; exact hi) (by rw [List.getElem?_eq_getElem hi, e])
      rintro σ H4 ⟨⟨k, nm, d, e, rfl, hN, hno⟩, rfl⟩
      refine ⟨_, rfl, .inl ⟨rfl, _, SqL.of hq3⟩, _, rfl, q, _, _, rfl, rfl, hq3, (by rw [List.length_map]; exact small1000 (by omega)), ⟨_, _, _, _, rfl⟩, l ++ [nm], ?_, by rw [List.length_append, hlen]; rfl, ?_, fun z hz => ?_, (PL.trans P3).at hqH, ?_⟩
      · rw [upd_same, List.map_append]
        rfl
      · rw [List.nodup_append]
        exact ⟨hnd, by simp, fun a ha b hb z => hno (by rw [← List.mem_singleton.mp hb, ← z]; exact ha)⟩
      · rcases List.mem_append.mp hz with h | h
        · exact hnm z h
        · rw [List.mem_singleton.mp h]
          exact hN
      · rw [upd_ne lwq]
        exact P3.keep hw1 lwp
    · rintro σ H1 ⟨⟨a, b, c, d, rfl⟩, l, hl, hlen, hnd, hnm, PL, hw1⟩
      exact ⟨_, rfl, kk q l H1 hqH hl hlen hnd hnm PL⟩
end
end Ash

set_option Elab.async false
set_option linter.all false
set_option maxRecDepth 100000
set_option maxHeartbeats 4000000
namespace L2
open PySem PySem.Spec PyProof.Rows
/-! ### sets of keys (ints, texts) that can be walked; sorted(set(xs)) -/
/-- the key that a value is -/
def vK : Value → Key
  | .int k _ => .inl k
  | .str x _ => .inr x
  | _ => .inl 0
theorem vK_of {k : Key} {v : Value} (r : RelV (kV k) v) : vK v = k := by
  cases k with
  | inl i =>
    obtain ⟨t, rfl⟩ := r
    rfl
  | inr x =>
    obtain ⟨t, rfl⟩ := r
    rfl
def GoodM (w : World) (e : Int × Value) : Prop := ∃ k, RelV (kV k) e.2 ∧ e.1 = keyH w k
def eK (e : Int × Value) : Key := vK e.2
/-- among the keys -/
def kIn (ks : List Key) (j : Key) : Bool := ks.any fun x => decide (x = j)
theorem kIn_iff {ks : List Key} {j : Key} : kIn ks j = true ↔ j ∈ ks := by
  unfold kIn
  rw [List.any_eq_true]
  constructor
  · rintro ⟨x, hx, e⟩
    rw [← of_decide_eq_true e]
    exact hx
  · intro h
    exact ⟨j, h, decide_eq_true rfl⟩
theorem kIn_next {ks : List Key} {i : Nat} {z : Key} (hz : ks[i]? = some z) (j : Key) : kIn (ks.take (i + 1)) j = (kIn (ks.take i) j || decide (j = z)) := by
  rw [List.take_add_one, hz]
  unfold kIn
  rw [List.any_append]
  congr 1
  by_cases c : j = z
  · subst c
    simp
  · have c' : ¬ z = j := fun q => c q.symm
    simp [c, c']
/-- the set at a: S its members, n their number; it can be walked -/
def SetM (w : World) (h : Heap) (a : Addr) (S : Key → Bool) (n : Nat) : Prop :=
  ∃ o es ep t, h.get? a = some o ∧ o.ExactSet ∧ o.data = .set es ep t ∧ (∀ e ∈ es.toList, GoodM w e) ∧ (es.toList.map eK).Nodup ∧ (∀ k, S k = true ↔ k ∈ es.toList.map eK) ∧
    es.size < scanBound ∧ t.fits es.size = true ∧ es.size = n ∧ Ris t.place.toList ∧ (w.params.followText "set-order" = true ∨ t.led = true)
section
variable {P : Program} {w : World} {h h' : Heap} {a : Addr} {S : Key → Bool} {n : Nat}
theorem SetM.at (R : SetM w h a S n) (k : ∀ o, h.get? a = some o → h'.get? a = some o) : SetM w h' a S n := by
  obtain ⟨o, es, ep, t, ho, r⟩ := R
  exact ⟨o, es, ep, t, k o ho, r⟩
theorem SetM.congr {S' : Key → Bool} (R : SetM w h a S n) (e : ∀ k, S' k = S k) : SetM w h a S' n := by
  rw [show S' = S from funext e]
  exact R
theorem goodM_elems {l : List (Int × Value)} (g : ∀ e ∈ l, GoodM w e) : ElemsOf (mixKind P w) l := fun e he => by
  obtain ⟨k, h1, h2⟩ := g e he
  exact ⟨⟨k, kV_is h1, h2⟩, key_scan h1⟩
theorem goodM_is {e : Int × Value} (g : GoodM w e) (k : Key) : (mixKind P w).is k e.2 = true ↔ eK e = k := by
  obtain ⟨k0, h1, _⟩ := g
  unfold eK
  rw [vK_of h1]
  constructor
  · intro q
    exact (mixKind P w).inj _ _ _ (kV_is h1) q
  · intro q
    rw [← q]
    exact kV_is h1
theorem goodM_mem {l : List (Int × Value)} (g : ∀ e ∈ l, GoodM w e) (k : Key) : k ∈ l.map eK ↔ ∃ e ∈ l, (mixKind P w).is k e.2 = true := by
  rw [List.mem_map]
  constructor
  · rintro ⟨e, he, q⟩
    exact ⟨e, he, (goodM_is (g e he) k).2 q⟩
  · rintro ⟨e, he, q⟩
    exact ⟨e, he, (goodM_is (g e he) k).1 q⟩
end
section
variable {P : Program} {w : World} {A : Around} {E : Value → Shared → Prop} {s : Shared} {a : Addr} {S : Key → Bool} {n : Nat}
theorem setM_tail {g : Bool → Sem Unit} (hg : ∀ (b : Bool) (s₁ : Shared) (Q' : Unit → Shared → Prop), Q' () s₁ → wpAny (model P w) A (g b) Q' E s₁)
    {o : Obj} {es : Array (Int × Value)} {ep : Nat} {t : SetTable} (ho : s.heap.get? a = some o) (hex : o.ExactSet) (hd : o.data = .set es ep t)
    {fs : Array (Int × Value)} {u : SetTable} {S' : Key → Bool} (gf : ∀ e ∈ fs.toList, GoodM w e) (nf : (fs.toList.map eK).Nodup) (mf : ∀ k, S' k = true ↔ k ∈ fs.toList.map eK)
    (bf : fs.size < scanBound) (ff : u.fits fs.size = true) (rf : Ris u.place.toList) (lf : w.params.followText "set-order" = true ∨ u.led = true) {wasDummy : Bool} {R : Option Bool → Shared → Prop}
    (hR : ∀ h', Heap.SameBut a s.heap h' → SetM w h' a S' fs.size → R (some true) { s with heap := h' }) :
    wpAny (model P w) A (do
        storeSet a fs u
        if (!wasDummy && u.tooFull) = true then do
            g (relayAll u fs (SetTable.grown fs.size)).2.2
            storeSet a (relayAll u fs (SetTable.grown fs.size)).1 (relayAll u fs (SetTable.grown fs.size)).2.1
            pure (some true)
          else pure (some true)) R E s := by
  refine wpAny_bind (wpAny_storeSet_of ho hd ?_ (fits_of_scanBound bf))
  have h1 := store_at (es' := fs) (t' := u) ho hd
  have b1 := Heap.SameBut.update s.heap a (Obj.putSet fs u)
  split
  · have pm := relayAll_perm u fs (SetTable.grown fs.size)
    have f2 := relayAll_fits u fs (SetTable.grown fs.size)
    have r2 := relayAll_ris u fs (SetTable.grown fs.size)
    have l2 := relayAll_led u fs (SetTable.grown fs.size)
    generalize relayAll u fs (SetTable.grown fs.size) = Z at pm f2 r2 l2 ⊢
    obtain ⟨gs, u2, gave⟩ := Z
    dsimp only at pm f2 r2 l2 ⊢
    have sz : gs.size = fs.size := by rw [← Array.length_toList, pm.length_eq, Array.length_toList]
    have bg : gs.size < scanBound := by rw [sz]; exact bf
    refine wpAny_bind (hg _ _ _ ?_)
    refine wpAny_bind (wpAny_storeSet_of h1 rfl ?_ (fits_of_scanBound bg))
    have h2 := store_at (es' := gs) (t' := u2) h1 rfl
    refine wpAny_pure (hR _ (b1.trans (Heap.SameBut.update _ a _)) ?_)
    exact ⟨_, gs, _, u2, h2, hex, rfl, fun e he => gf e (pm.mem_iff.mp he), (pm.map eK).nodup_iff.mpr nf, fun k => (mf k).trans (pm.map eK).mem_iff.symm, bg, f2, sz, r2, lf.imp id fun z => by rw [l2]; exact z⟩
  · exact wpAny_pure (hR _ b1 ⟨_, fs, _, u, h1, hex, rfl, gf, nf, mf, bf, ff, rfl, rf, lf⟩)
theorem setM_add {k : Key} {v : Value} {Q : Bool → Shared → Prop} (rv : RelV (kV k) v) (R : SetM w s.heap a S n) (room : n + 1 < scanBound)
    (hQ : ∀ h', Heap.SameBut a s.heap h' → SetM w h' a (fun j => S j || decide (j = k)) (if S k = true then n else n + 1) → Q (!S k) { s with heap := h' }) :
    wpAny (model P w) A (setAddHashed a v ((mixKind P w).hash k)) Q E s := by
  obtain ⟨o, es, ep, t, ho, hex, hd, g, nd, hm, hb, hf, hn, hr, hl⟩ := R
  have hkey : (mixKind P w).is k v = true := kV_is rv
  have hsc : v.scannable = true := key_scan rv
  have hel : ElemsOf (mixKind P w) es.toList := goodM_elems g
  unfold setAddHashed setAddHashedIn
  refine wpAny_holding (wpAny_bind (wpAny_setState_of ho hd hf ?_))
  dsimp only
  rw [byScan_of hsc hb hel]
  simp only [↓reduceIte]
  unfold setAddByScan
  refine wpAny_bind ?_
  refine wpAny_bind (wpAny_rule ?_)
  refine wpAny_bind (wpAny_setScan_of hkey ho hd hf hel ?_)
  cases hfi : List.findIdx? (fun e => (mixKind P w).is k e.2) es.toList with
  | some j =>
    dsimp only
    obtain ⟨hj, pj, _⟩ := List.findIdx?_eq_some_iff_getElem.mp hfi
    have hSk : S k = true := (hm k).2 ((goodM_mem (P := P) g k).2 ⟨es.toList[j], List.getElem_mem hj, pj⟩)
    refine wpAny_pure (wpAny_pure ?_)
    have q := hQ s.heap (Heap.SameBut.refl a s.heap) ⟨o, es, ep, t, ho, hex, hd, g, nd, fun i => by
      rw [Bool.or_eq_true, decide_eq_true_eq, ← hm i]
      exact ⟨fun z => z.elim id (fun e => e ▸ hSk), .inl⟩, hb, hf, by rw [if_pos hSk]; exact hn, hr, hl⟩
    rw [hSk] at q
    exact q
  | none =>
    dsimp only
    have hnk : k ∉ es.toList.map eK := fun z => by
      obtain ⟨e, he, q⟩ := (goodM_mem (P := P) (w := w) g k).1 z
      have c := List.findIdx?_eq_none_iff.mp hfi e he
      rw [q] at c
      cases c
    have hSk : S k = false := Bool.eq_false_iff.mpr fun q => hnk ((hm k).1 q)
    have hgw : ∀ (b : Bool) {s₁ : Shared} {Q' : Unit → Shared → Prop}, Q' () s₁ → wpAny (model P w) A (match b with | true => rule "set.scan.the-table-gave-way" | false => pure ()) Q' E s₁ :=
      fun b s₁ Q' q => by cases b <;> first | exact wpAny_pure q | exact wpAny_rule q
    have pm := layNew_perm t es ((mixKind P w).hash k) v
    have f1 := layNew_fits t es ((mixKind P w).hash k) v
    have r1 := layNew_ris t es ((mixKind P w).hash k) v hr
    have l1 := layNew_led t es ((mixKind P w).hash k) v
    generalize layNew t es ((mixKind P w).hash k) v = Z at pm f1 r1 l1 ⊢
    obtain ⟨fs, t1, wasDummy, gave⟩ := Z
    dsimp only at pm f1 r1 l1 ⊢
    rw [Array.toList_push] at pm
    have pc : fs.toList.Perm (((mixKind P w).hash k, v) :: es.toList) := pm.trans (List.perm_append_singleton _ _)
    have pk : (fs.toList.map eK).Perm (k :: es.toList.map eK) := by
      have z := pc.map eK
      rw [List.map_cons, show eK ((mixKind P w).hash k, v) = k from vK_of rv] at z
      exact z
    have gf : ∀ e ∈ fs.toList, GoodM w e := fun e he => by
      rcases List.mem_cons.mp (pc.mem_iff.mp he) with z | z
      · rw [z]
        exact ⟨k, rv, rfl⟩
      · exact g e z
    have nf : (fs.toList.map eK).Nodup := pk.nodup_iff.mpr (List.nodup_cons.mpr ⟨hnk, nd⟩)
    have mf : ∀ i, (S i || decide (i = k)) = true ↔ i ∈ fs.toList.map eK := fun i => by
      rw [Bool.or_eq_true, decide_eq_true_eq, hm i, pk.mem_iff, List.mem_cons]
      exact Or.comm
    have sz : fs.size = n + 1 := by rw [← Array.length_toList, pc.length_eq, List.length_cons, Array.length_toList, hn]
    have bf : fs.size < scanBound := by rw [sz]; exact room
    have lf : w.params.followText "set-order" = true ∨ t1.led = true := hl.imp id fun z => by rw [l1]; exact z
    have fin : ∀ h', Heap.SameBut a s.heap h' → SetM w h' a (fun j => S j || decide (j = k)) fs.size → Q true { s with heap := h' } := fun h' sb r => by
      have q := hQ h' sb
      rw [hSk] at q
      rw [sz] at r
      exact q r
    refine wpAny_bind (hgw _ ?_)
    split
    · refine wpAny_bind ?_
      rw [hashByValue_scannable 8 hsc]
      refine wpAny_pure ?_
      refine setM_tail ?_ ho hex hd gf nf mf bf ?_ ?_ ?_ ?_
      · intro b s₁ Q' q; cases b <;> first | exact wpAny_pure q | exact wpAny_rule q
      · first | (split <;> first | exact f1 | exact SetTable.fits_plain_off f1) | exact f1
      · first | (split <;> exact r1) | exact r1
      · first | (split <;> exact lf) | exact lf
      · intro h' sb r; dsimp only; exact wpAny_pure (fin h' sb r)
    · refine wpAny_bind (wpAny_pure ?_)
      simp only [↓reduceIte]
      refine setM_tail ?_ ho hex hd gf nf mf bf f1 r1 lf ?_
      · intro b s₁ Q' q; cases b <;> first | exact wpAny_pure q | exact wpAny_rule q
      · intro h' sb r; dsimp only; exact wpAny_pure (fin h' sb r)
theorem setM_new {h : Heap} {a : Addr} (ho : h.get? a = some { cls := .type "set", dict := none, data := .set #[] 0 (.fresh 0 0 (!w.params.followText "set-order")) }) : SetM w h a (fun _ => false) 0 :=
  ⟨_, #[], 0, _, ho, ⟨rfl, rfl, rfl⟩, rfl, (fun e he => by simp at he), (by simp), (fun k => by simp), (by decide), (by rfl), rfl, List.Pairwise.nil, by
    show _ ∨ (!w.params.followText "set-order") = true
    cases w.params.followText "set-order"
    · exact .inr rfl
    · exact .inl rfl⟩
theorem setM_update {I : Addr} {fp wr : List Addr} {G : Array GenState → Array GenState → Prop} {n : Nat} {Pv : Nat → Value → Prop} {St : Nat → Shared → Prop} {R : Result → Shared → Prop}
    (W : WalksS P w A.in1 I fp wr G n Pv St) (S : Addr) (hSf : S ∉ fp) (ks : List Key) (hn : n = ks.length) (hb : ks.length + 1 < scanBound) (hval : ∀ i v, Pv i v → ∃ k, ks[i]? = some k ∧ RelV (kV k) v) :
    ∀ (m i : Nat) (s : Shared), n - i = m → i ≤ n → St i s → (∃ c, c ≤ i ∧ SetM w s.heap S (kIn (ks.take i)) c) →
      (∀ s' c, Moved (S :: wr) G s s' → c ≤ n → SetM w s'.heap S (kIn ks) c → R (.ok (.ret .none)) s') →
      codeAny (model P w) A (.builtin "set.update.loop" ⟨[.ref S, .ref I], []⟩) R s := by
  have hSw : S ∉ wr := fun h => hSf (W.sub _ h)
  have sub : ∀ b ∈ wr, b ∈ S :: wr := fun b hb => List.mem_cons_of_mem _ hb
  intro m
  induction m with
  | zero =>
    intro i s hm hi hst ⟨c, hc, hS⟩ hR
    obtain rfl : i = n := by omega
    refine codeAny_builtin F.entry_set_update_loop ?_
    rw [Around.under_plainId F.plain_set_update_loop _]
    show wpAny _ A.in1 (pyNext (.ref I) >>= _) _ _ s
    refine wpAny_bind (W.done s _ _ hst fun s' mv => ?_)
    show wpAny _ A.in1 (ret Value.none) _ _ s'
    rw [List.take_of_length_le (show ks.length ≤ i by omega)] at hS
    exact wpAny_pure (hR s' c (mv.mono sub) hc (hS.at fun o e => mv.heap S o hSw e))
  | succ m ih =>
    intro i s hm hi hst ⟨c, hc, hS⟩ hR
    have hlt : i < n := by omega
    refine codeAny_builtin F.entry_set_update_loop ?_
    rw [Around.under_plainId F.plain_set_update_loop _]
    show wpAny _ A.in1 (pyNext (.ref I) >>= _) _ _ s
    refine wpAny_bind (W.item i s _ _ hlt hst fun v s' hP hst' mv => ?_)
    obtain ⟨z, hz, rz⟩ := hval i v hP
    have hS1 : SetM w s'.heap S (kIn (ks.take i)) c := hS.at fun o e => mv.heap S o hSw e
    show wpAny _ A.in1 (holding [v] (setAdd S v) >>= _) _ _ s'
    refine wpAny_bind (wpAny_holding ?_)
    unfold setAdd
    refine wpAny_holding ?_
    refine wpAny_bind ((mixKind P w).pyHash (k := z) (kV_is rz) ?_)
    refine setM_add (s := { s' with toks := s'.toks + 1 }) rz hS1 (by omega) fun h' sb hS2 => ?_
    have hS3 : SetM w h' S (kIn (ks.take (i + 1))) (if kIn (ks.take i) z = true then c else c + 1) := hS2.congr fun j => kIn_next hz j
    have hc3 : (if kIn (ks.take i) z = true then c else c + 1) ≤ i + 1 := by
      split <;> omega
    refine wpAny_pure ⟨plainId_quiet F.plain_set_update_loop _, ih (i + 1) _ (by omega) hlt (W.frame _ s' _ _ hst' (Nat.le_succ _) fun b hb o e => ?_) ⟨_, hc3, hS3⟩ fun s2 c2 mv2 hc2 hS4 => ?_⟩
    · rw [sb.2 b (fun h : b = S => hSf (by rw [← h]; exact hb))]
      exact e
    · refine hR s2 c2 (Moved.trans W.gtrans ((mv.mono sub).then_heap (Nat.le_succ _) fun b o hb e => ?_) mv2) hc2 hS4
      rw [sb.2 b (fun h : b = S => hb (by rw [h]; exact List.mem_cons_self))]
      exact e
end
end L2

set_option Elab.async false
set_option linter.all false
set_option maxRecDepth 100000
set_option maxHeartbeats 4000000
namespace L2
open PySem PySem.Spec PyProof.Rows
section
variable {P : Program} {w : World} {A : Around} {E : Value → Shared → Prop} {s : Shared}
/-- the empty set's object -/
abbrev noSet (w : World) : Obj := { cls := .type "set", dict := none, data := .set #[] 0 (.fresh 0 0 (!w.params.followText "set-order")) }
/-- set(xs) of a list of keys -/
theorem call_setL {l : Addr} {items : Array Value} (ks : List Key) {Q : Value → Shared → Prop} (hh : A.handled = none) (hl : s.heap.IsList l items) (hit : Vals (ks.map kV) items.toList) (hb : ks.length + 1 < scanBound)
    (h : ∀ (h' : Heap) (tk c : Nat), SetM w h' s.heap.objs.size (kIn ks) c → c ≤ ks.length → (∀ b o, s.heap.get? b = some o → h'.get? b = some o) → Q (.ref s.heap.objs.size) { s with heap := h', toks := tk }) :
    wpAny (model P w) A (call (.type "set") [.ref l]) Q E s := by
  have hisz : items.size = ks.length := by
    have q := hit.length
    have q2 : items.toList.length = items.size := Array.length_toList
    rw [List.length_map] at q
    omega
  obtain ⟨c, tl, hmro⟩ := F.called_set.mro
  have hmade := F.called_set.made
  have hsub := F.called_set.sub
  refine wpAny_call (codeAny_of_tree ?_)
  show wpAny _ _ (callAny (.type "set") _) _ _ _
  refine wpAny_pure ⟨Code.quiet_builtin _ (by decide +kernel), codeAny_builtin F.entry_type_call ?_⟩
  rw [Around.under_plain (weight_type_call_type "set" [.ref l] []) rfl]
  have h1 := F.called_set.notType
  have h2 := F.called_set.canCreate
  have hct := F.typeCall_set_1 (.ref l)
  repeat (any_goals (first | assumption | wp_step))
  refine codeAny_mono (code_set_led1 (.ref l) (E := E) (Q₁ := fun obj s₁ => obj = .ref s.heap.objs.size ∧ s₁ = { s with heap := s.heap.push (noSet w) }) ⟨rfl, rfl⟩) fun r s₁ hr => ?_
  cases r with
  | error e => exact hr
  | ok fl =>
    cases fl with
    | ret obj =>
      obtain ⟨rfl, rfl⟩ := hr
      have hS : (s.heap.push (noSet w)).get? s.heap.objs.size = some (noSet w) := Heap.get?_push_size _ rfl
      have hT : Shared.TypeIs { s with heap := s.heap.push (noSet w) } (.ref s.heap.objs.size) "set" := ⟨_, hS, rfl⟩
      have hli := F.called_set.init.lookup
      have hbi := F.called_set.init.bind (.ref s.heap.objs.size)
      repeat (any_goals (first | assumption | wp_step))
      refine codeAny_mono (codeAny_call_builtin (R := wants (fun r s₂ => r = .none ∧ ∃ h' tk c, s₂ = { s with heap := h', toks := tk } ∧ SetM w h' s.heap.objs.size (kIn ks) c ∧ c ≤ ks.length ∧
          (∀ b o, s.heap.get? b = some o → h'.get? b = some o)) E) F.called_set.init.plain F.entry_set_init (check_set_init_1 hT ?_)) fun r₂ s₂ hr₂ => ?_
      · obtain ⟨ol, hol, hcl, nl, hdl⟩ := hl
        obtain ⟨ocls, odict, odata, oslots⟩ := ol
        simp only at hcl hdl
        subst hcl; subst hdl
        have hol' : (s.heap.push (noSet w)).get? l = some { cls := .type "list", dict := odict, data := .seq items nl, slots := oslots } := Heap.get?_push_of_some _ hol
        have hsls := F.sub_list_set
        have hslf := F.sub_list_frozenset
        have hne : (Value.type "list" == Value.type "dict") = false := by decide
        have hl1 : (s.heap.push (noSet w)).IsList l items := ⟨_, hol', rfl, nl, rfl⟩
        unfold Builtin.«set.__init__» noKeywords Builtin.Frozenset.updateFrom
        generalize hPI : pyIter = PI
        wp_walk
        subst hPI
        refine wpAny_pyIter_list hl1 ?_
        refine wpAny_bind (wpAny_runValue ?_)
        have hlS : l < s.heap.objs.size := Heap.lt_size hol
        have hh3 : A.in1.in1.in1.handled = none := by simp [hh]
        have hneI : l ≠ (s.heap.push (noSet w)).objs.size := by
          rw [Heap.size_push]
          exact Nat.ne_of_lt (Nat.lt_succ_of_lt hlS)
        have hSf : s.heap.objs.size ∉ [(s.heap.push (noSet w)).objs.size, l] := by
          rw [Heap.size_push]
          simp only [List.mem_cons, List.mem_singleton, List.not_mem_nil, or_false, not_or]
          exact ⟨Nat.ne_of_lt (Nat.lt_succ_self _), Nat.ne_of_gt hlS⟩
        have hval : ∀ (i : Nat) (v : Value), items[i]? = some v → ∃ k, ks[i]? = some k ∧ RelV (kV k) v := fun i v hv => by
          have hi : i < ks.length := by rw [← hisz]; exact (Array.getElem?_eq_some_iff.mp hv).1
          have e : (ks.map kV)[i]? = some (kV ks[i]) := by rw [List.getElem?_map, List.getElem?_eq_getElem hi]; rfl
          obtain ⟨u, hu, ru⟩ := hit.get e
          rw [Array.getElem?_toList, hv] at hu
          cases hu
          exact ⟨_, List.getElem?_eq_getElem hi, ru⟩
        refine setM_update ((Walks.list hh3 _ l hneI items).toS) s.heap.objs.size hSf ks hisz hb hval (items.size - 0) 0 _ (by omega) (Nat.zero_le _) ⟨⟨_, Heap.get?_push_size _ rfl, rfl, rfl⟩, (hl1.push _)⟩ ?hS0 ?hR
        case hS0 =>
          have hget : ((s.heap.push (noSet w)).push { cls := .type "list_iterator", data := .fields #[.ref l, .int 0 0] }).get? s.heap.objs.size = some (noSet w) := Heap.get?_push_of_some _ hS
          exact ⟨0, Nat.le_refl 0, (setM_new hget).congr fun k => rfl⟩
        case hR =>
          intro s' c' hm hc' hS'
          obtain ⟨h', g2, d', tk', os'⟩ := s'
          have eg : g2 = s.gens := hm.gens
          have ed : d' = s.drawn := hm.drawn
          have eo : os' = s.os := hm.os
          subst eg; subst ed; subst eo
          show wpAny _ _ _ _ _ _
          refine wpAny_pure ?_
          show wpAny _ _ (ret Value.none) _ _ _
          rw [hisz] at hc'
          refine wpAny_pure ⟨rfl, h', tk', c', rfl, hS', hc', fun b o e => ?_⟩
          have hb0 : b < s.heap.objs.size := Heap.lt_size e
          have hb1 : b ≠ s.heap.objs.size := Nat.ne_of_lt hb0
          have hb2 : b ≠ (s.heap.push (noSet w)).objs.size := by
            rw [Heap.size_push]
            exact Nat.ne_of_lt (Nat.lt_succ_of_lt hb0)
          exact hm.heap b o (by simp only [List.mem_cons, List.mem_singleton, List.not_mem_nil, or_false, not_or]; exact ⟨hb1, hb2⟩) (Heap.get?_push_of_some _ (Heap.get?_push_of_some _ e))
      · cases r₂ with
        | error e => exact hr₂
        | ok fl₂ =>
          cases fl₂ with
          | ret r =>
            obtain ⟨rfl, h', tk, c', rfl, hS', hc', hk'⟩ := hr₂
            repeat (any_goals (first | assumption | wp_step))
            exact h _ _ _ hS' hc' hk'
          | _ => exact hr₂.elim
    | _ => exact hr.elim
/-- sorted(set), any kind of keys -/
theorem sorted_setG {κ : PyProof.Rows.KeyKind} (hO : κ.OneLt) {a : Addr} {S : Key → Bool} {n : Nat} {Q : Value → Shared → Prop} (R : SetM w s.heap a S n) (hh : A.handled = none)
    (hK : ∀ vs : List Value, (∀ v ∈ vs, ∃ k, S k = true ∧ RelV (kV k) v) → KeysOf κ (pairsOf vs) ∧ ∀ v₁ v₂ rest, vs = v₁ :: v₂ :: rest → keyKind' (v₁ :: v₂ :: rest).toArray = pure oneType')
    (hQ : ∀ s' p (vs : List Value) (st' : SortSt) (c : Nat), (∀ b o, s.heap.get? b = some o → s'.heap.get? b = some o) → s'.gens = s.gens → s'.os = s.os → s.heap.objs.size ≤ p → s'.heap.get? p = some (seqObj "list" ((arrOf st').map (·.2)) c) →
      (∀ v ∈ vs, ∃ k, S k = true ∧ RelV (kV k) v) → (vs.map vK).Nodup → (∀ k, S k = true ↔ k ∈ vs.map vK) → vs.length = n → (arrOf st').Perm (pairsOf vs) → SortedToK κ (arrOf st') (pairsOf vs).size → Q (.ref p) s') :
    wpAny (model P w) A (call (.builtin "sorted") [.ref a]) Q E s := by
  obtain ⟨o, es, ep, t, ho, hex, hd, g, nd, hm, hb, hf, hn, hr, hl⟩ := R
  refine Calls.call_function_entry kind_sorted plain_sorted entry_sorted (args_sorted1 _) ?_
  unfold Builtin.«sorted»
  refine wpAny_bind (m := checkCount "sorted" 1 1 _) (wpAny_pure ?_)
  refine wpAny_bind (collect_set (A := A.in1) hh ⟨o, ho, hex.1, hd⟩ hf hb hr hl fun s1 vs k1 hz g1 o1 pm => ?_)
  have hvl : vs.length = n := by rw [pm.length_eq, List.length_map, Array.length_toList]; exact hn
  have ev : (es.toList.map (·.2)).map vK = es.toList.map eK := by rw [List.map_map]; rfl
  have pk : (vs.map vK).Perm (es.toList.map eK) := by rw [← ev]; exact pm.map vK
  have hv : ∀ v ∈ vs, ∃ k, S k = true ∧ RelV (kV k) v := fun v hv => by
    obtain ⟨e, he, rfl⟩ := List.mem_map.mp (pm.mem_iff.mp hv)
    obtain ⟨k, h1, _⟩ := g e he
    exact ⟨k, (hm k).2 (List.mem_map.mpr ⟨e, he, vK_of h1⟩), h1⟩
  have hn2 : vs.length ≤ sizeLine := by rw [hvl, ← hn]; exact fits_of_scanBound hb
  refine wpAny_bind (wpAny_newList ?_ hn2)
  have hoL : (s1.heap.push (seqObj "list" vs.toArray 0)).get? s1.heap.objs.size = some (seqObj "list" vs.toArray 0) := Heap.get?_push_size _ rfl
  obtain ⟨q1, q2⟩ := hK vs hv
  refine wpAny_bind (wpAny_holding (wpAny_call_entry slot_list_sort ⟨_, hoL, rfl⟩ entry_list_sort (list_sort_treeKAny hO hoL q1 q2 hn2 fun st' a1 a2 => ⟨_, rfl, ?_⟩) (args_list_sort _)))
  obtain ⟨c, hc⟩ := sortedHeap_at (vs := vs) (out := (arrOf st').map (·.2)) hoL
  refine wpAny_pure ⟨_, rfl, hQ _ s1.heap.objs.size vs st' c (fun b u e => ?_) g1 o1 hz hc hv (pk.nodup_iff.mpr nd) (fun k => by rw [pk.mem_iff, ← hm k]) hvl a1 a2⟩
  have q := k1 b u e
  have hlt := Heap.lt_size q
  show (sortedHeap (s1.heap.push (seqObj "list" vs.toArray 0)) s1.heap.objs.size vs ((arrOf st').map (·.2))).get? b = some u
  rw [sortedHeap_old (Nat.ne_of_lt hlt) (by rw [size_push']; exact Nat.lt_succ_of_lt hlt)]
  exact Heap.get?_push_of_some _ q
end
/-- texts, strictly ascending -/
theorem strs_of_keys : ∀ {vs : List Value}, (∀ v ∈ vs, ∃ x : Str, RelV (.str x) v) → ∃ ss : List Str, StrsAre vs ss ∧ vs.map vK = ss.map Sum.inr
  | [], _ => ⟨[], .nil, rfl⟩
  | v :: vs, h => by
    obtain ⟨ss, h1, h2⟩ := strs_of_keys (vs := vs) fun u hu => h u (List.mem_cons_of_mem _ hu)
    obtain ⟨x, t, rfl⟩ := h v List.mem_cons_self
    exact ⟨x :: ss, .cons x t h1, by rw [List.map_cons, h2]; rfl⟩
theorem ints_of_keys : ∀ {vs : List Value}, (∀ v ∈ vs, ∃ x : Int, RelV (.int x) v) → ∃ ss : List Int, IntsAre vs ss ∧ vs.map vK = ss.map Sum.inl
  | [], _ => ⟨[], .nil, rfl⟩
  | v :: vs, h => by
    obtain ⟨ss, h1, h2⟩ := ints_of_keys (vs := vs) fun u hu => h u (List.mem_cons_of_mem _ hu)
    obtain ⟨x, t, rfl⟩ := h v List.mem_cons_self
    exact ⟨x :: ss, .cons x t h1, by rw [List.map_cons, h2]; rfl⟩
/-- the set of keys at a, that can be walked -/
def SetMO (w : World) (a : Addr) (S : Key → Bool) (n : Nat) : HO := .ext fun h => SetM w h a S n
section
variable {X : Cx}
theorem setMO_new {w : World} {P : Program} {H : Hp} {h : Heap} {a : Addr} {S : Key → Bool} {n : Nat} (R : SetM w h a S n) : ObjOk P w H h a (SetMO w a S n) := by
  have ⟨o, _, _, _, ho, _⟩ := R
  exact ⟨R, ⟨o, ho⟩, fun h1 h2 p k => SetM.at p k⟩
/-- set(xs), xs a list of ints or texts -/
def rSetLs (K : PySem.W.Frag) (w : World) : List V → Hp → VK → Prop := fun xs H Q => ∃ (l : Addr) (ks : List Key), xs = [V.ref l] ∧ SqL K H l (ks.map kV) ∧ ks.length ≤ 1000 ∧ ∀ p n, H p = none → n ≤ ks.length → Q (.ref p) (upd H p (SetMO w p (kIn ks) n))
theorem cr_setL (hc : X.calm = true) : CallR X (.type "set") (rSetLs X.K X.w) := by
  intro pins s σ H xs us Q I r h
  obtain ⟨l, ks, rfl, hl, hk, q⟩ := h
  rw [Vals.ref1 r]
  obtain ⟨its, rv, pl, hz⟩ := I.list hl
  have hn : H s.heap.objs.size = none := I.hok.fresh (Nat.le_refl _)
  refine call_setL (P := X.prog) (w := X.w) ks (I.ok.hd hc) pl.isList (by simpa using rv) (by unfold scanBound; omega) fun h' tk c R hcn k => ?_
  exact ⟨.ref s.heap.objs.size, upd H s.heap.objs.size (SetMO X.w s.heap.objs.size (kIn ks) c), I.laid (t' := tk) k (Nat.le_refl _) (setMO_new R), rfl, q _ c hn hcn⟩
/-- sorted(set) -/
def rSortM (w : World) : List V → Hp → VK → Prop := fun vs H Q => ∃ (a : Addr) (S : Key → Bool) (n : Nat), vs = [V.ref a] ∧ H a = some (SetMO w a S n) ∧
  ((∃ xs : List Str, (∀ k, S k = true ↔ k ∈ xs.map (Sum.inr : Str → Key)) ∧ ∀ (ys : List Str) (p : Addr), H p = none → ys.Nodup → (∀ z, z ∈ ys ↔ z ∈ xs) → sortedS ys = true → ys.length = n → Q (.ref p) (upd H p (.lst (ys.map V.str)))) ∨
   (∃ xs : List Int, (∀ k, S k = true ↔ k ∈ xs.map (Sum.inl : Int → Key)) ∧ ∀ (ys : List Int) (p : Addr), H p = none → ys.Pairwise (· < ·) → (∀ z, z ∈ ys ↔ z ∈ xs) → ys.length = n → Q (.ref p) (upd H p (.lst (ys.map V.int)))))
theorem nodup_inj {α β : Type} {f : α → β} {l : List α} (h : (l.map f).Nodup) : l.Nodup := List.Pairwise.of_map f (fun _ _ hne e => hne (congrArg f e)) h
theorem cr_sortM (hc : X.calm = true) : CallR X (.builtin "sorted") (rSortM X.w) := by
  intro pins s σ H vs us Q I r h
  obtain ⟨a, S, n, rfl, ha, h⟩ := h
  have R : SetM X.w s.heap a S n := (I.hok a _ ha).1
  have nz : n ≤ sizeLine := by
    obtain ⟨o, es, ep, t, _, _, _, _, _, _, hb, _, hn, _⟩ := R
    rw [← hn]
    exact fits_of_scanBound hb
  rw [Vals.ref1 r]
  rcases h with ⟨xs, hx, q⟩ | ⟨xs, hx, q⟩
  · have hstr : ∀ vs : List Value, (∀ v ∈ vs, ∃ k, S k = true ∧ RelV (kV k) v) → ∃ ss : List Str, StrsAre vs ss ∧ vs.map vK = ss.map Sum.inr := fun vs hv => strs_of_keys fun v hm => by
      obtain ⟨k, h1, h2⟩ := hv v hm
      obtain ⟨x, _, rfl⟩ := List.mem_map.mp ((hx k).1 h1)
      exact ⟨x, h2⟩
    refine sorted_setG strKind_oneLt R (I.ok.hd hc) (fun vs hv => ?_) fun s' p vs st' c k g o hp hg hv nd hm hl a1 a2 => ?_
    · obtain ⟨ss, h1, _⟩ := hstr vs hv
      exact ⟨h1.keysOf, fun v₁ v₂ rest e => keyKind_strs (by rw [← e]; exact h1)⟩
    · obtain ⟨ss, h1, h2⟩ := hstr vs hv
      obtain ⟨ys, b1, b2, b3⟩ := sorted_out_str h1 a1 a2
      have ln : ys.length = n := by
        rw [b2.length_eq, ← hl]
        have z := congrArg List.length h2
        rw [List.length_map, List.length_map] at z
        exact z.symm
      have hlen : (ys.map V.str).length ≤ sizeLine := by rw [List.length_map, ln]; exact nz
      have hn : H p = none := I.hok.fresh hp
      have J : Inv X pins σ (upd H p (.lst (ys.map V.str))) { s with heap := s'.heap, gens := s'.gens, drawn := s'.drawn, toks := s'.toks } :=
        I.call (ch := []) (Un.laid k hp hn) (I.hok.laid k hp ⟨hlen, _, c, vals_of_strs b1, hg⟩) (by rw [g]; exact I.bare) (fun _ z => nomatch z)
      have e : s' = { s with heap := s'.heap, gens := s'.gens, drawn := s'.drawn, toks := s'.toks } := by
        cases s'
        cases s
        cases o
        rfl
      rw [e]
      rw [h2] at nd
      refine ⟨.ref p, _, J, rfl, q ys p hn (b2.nodup_iff.mpr (nodup_inj nd)) (fun z => ?_) b3 ln⟩
      have e1 := hm (Sum.inr z)
      rw [h2] at e1
      have e2 := hx (Sum.inr z)
      have inj : ∀ l : List Str, (Sum.inr z : Key) ∈ l.map Sum.inr ↔ z ∈ l := fun l => by simp
      rw [inj] at e1 e2
      rw [b2.mem_iff, ← e1, e2]
  · have hint : ∀ vs : List Value, (∀ v ∈ vs, ∃ k, S k = true ∧ RelV (kV k) v) → ∃ ss : List Int, IntsAre vs ss ∧ vs.map vK = ss.map Sum.inl := fun vs hv => ints_of_keys fun v hm => by
      obtain ⟨k, h1, h2⟩ := hv v hm
      obtain ⟨x, _, rfl⟩ := List.mem_map.mp ((hx k).1 h1)
      exact ⟨x, h2⟩
    refine sorted_setG PyProof.Rows.intKind_oneLt R (I.ok.hd hc) (fun vs hv => ?_) fun s' p vs st' c k g o hp hg hv nd hm hl a1 a2 => ?_
    · obtain ⟨ss, h1, _⟩ := hint vs hv
      exact ⟨h1.keysOfInt, fun v₁ v₂ rest e => keyKind_ints (by rw [← e]; exact h1)⟩
    · obtain ⟨ss, h1, h2⟩ := hint vs hv
      obtain ⟨ys, b1, b2, b3⟩ := sorted_out h1 a1 (sortedTo_of_int a2)
      have ln : ys.length = n := by
        rw [b2.length_eq, ← hl]
        have z := congrArg List.length h2
        rw [List.length_map, List.length_map] at z
        exact z.symm
      have hlen : (ys.map V.int).length ≤ sizeLine := by rw [List.length_map, ln]; exact nz
      have hn : H p = none := I.hok.fresh hp
      have J : Inv X pins σ (upd H p (.lst (ys.map V.int))) { s with heap := s'.heap, gens := s'.gens, drawn := s'.drawn, toks := s'.toks } :=
        I.call (ch := []) (Un.laid k hp hn) (I.hok.laid k hp ⟨hlen, _, c, vals_of_ints b1, hg⟩) (by rw [g]; exact I.bare) (fun _ z => nomatch z)
      have e : s' = { s with heap := s'.heap, gens := s'.gens, drawn := s'.drawn, toks := s'.toks } := by
        cases s'
        cases s
        cases o
        rfl
      rw [e]
      rw [h2] at nd
      refine ⟨.ref p, _, J, rfl, q ys p hn (lt_of_le_nodup ys b3 (b2.nodup_iff.mpr (nodup_inj nd))) (fun z => ?_) ln⟩
      have e1 := hm (Sum.inl z)
      rw [h2] at e1
      have e2 := hx (Sum.inl z)
      have inj : ∀ l : List Int, (Sum.inl z : Key) ∈ l.map Sum.inl ↔ z ∈ l := fun l => by simp
      rw [inj] at e1 e2
      rw [b2.mem_iff, ← e1, e2]
end
end L2

set_option Elab.async false
set_option linter.all false
set_option maxRecDepth 100000
set_option maxHeartbeats 4000000
/-! sorted of triples of ints -/
namespace SrtT
open PySem PyProof.Rows Srt SrtO
abbrev T3 := Int × Int × Int
def lex3 (p q : T3) : Bool := if p.1 = q.1 then (if p.2.1 = q.2.1 then decide (p.2.2 < q.2.2) else decide (p.2.1 < q.2.1)) else decide (p.1 < q.1)
theorem lex3_iff {p q : T3} : lex3 p q = true ↔ p.1 < q.1 ∨ (p.1 = q.1 ∧ (p.2.1 < q.2.1 ∨ (p.2.1 = q.2.1 ∧ p.2.2 < q.2.2))) := by
  unfold lex3
  split
  · split <;> (rw [decide_eq_true_eq]; omega)
  · rw [decide_eq_true_eq]; omega
theorem lex3_no {p q : T3} : lex3 p q = false ↔ ¬ (p.1 < q.1 ∨ (p.1 = q.1 ∧ (p.2.1 < q.2.1 ∨ (p.2.1 = q.2.1 ∧ p.2.2 < q.2.2)))) := by
  rw [← lex3_iff]
  cases lex3 p q <;> simp
theorem swo3 {α : Type} (k : α → T3) : Swo fun v u => lex3 (k v) (k u) := by
  constructor
  · intro x y h
    rw [lex3_no]
    rw [lex3_iff] at h
    omega
  · intro x y z h1 h2
    rw [lex3_no] at h1 h2 ⊢
    omega
/-- v is a tuple of three ints in the heap -/
def Is3 (h : Heap) (v : Value) (p : T3) : Prop := ∃ a o t1 t2 t3 n, v = .ref a ∧ h.get? a = some o ∧ o.cls = .type "tuple" ∧ o.data = .seq #[.int p.1 t1, .int p.2.1 t2, .int p.2.2 t3] n
theorem Is3.stay {h h' : Heap} {v : Value} {p : T3} (i : Is3 h v p) (k : ∀ b o, h.get? b = some o → o.cls = .type "tuple" → h'.get? b = some o) : Is3 h' v p := by
  obtain ⟨a, o, t1, t2, t3, n, e1, e2, e3, e4⟩ := i
  exact ⟨a, o, t1, t2, t3, n, e1, k a o e2 e3, e3, e4⟩
section
variable {prog : Program} {w : World} {A : Around} {E : Value → Shared → Prop} {s : Shared}
theorem cmp3 {vs : List Value} {k : Value → T3} (hp : ∀ v ∈ vs, Is3 s.heap v (k v)) : SrtO.Cmp prog w A s (tuples' true) (fun p => p.1 ∈ vs) (lt2 fun v u => lex3 (k v) (k u)) := by
  intro p q mp mq
  have i1 := hp _ mp
  have i2 := hp _ mq
  show wpAny (model prog w) A (keyLt' (tuples' true) p.1 q.1) (fun r s' => s' = s ∧ r = lex3 (k p.1) (k q.1)) (fun _ _ => False) s
  generalize k p.1 = P at i1 ⊢
  generalize k q.1 = R at i2 ⊢
  obtain ⟨x, y, z⟩ := P
  obtain ⟨x', y', z'⟩ := R
  obtain ⟨a, o, t, u, v, n, e, ho, hc, hd⟩ := i1
  obtain ⟨a', o', t', u', v', n', e', ho', hc', hd'⟩ := i2
  rw [e, e']
  show wpAny _ _ _ (fun r s' => s' = s ∧ r = (if x = x' then (if y = y' then decide (z < z') else decide (y < y')) else decide (x < x'))) _ _
  refine PySem.W.kat_lt ho hd ho' hd' ?_
  show PySem.W.KatLex prog w A true (decide (3 < 3)) _ [(.int x t, .int x' t'), (.int y u, .int y' u'), (.int z v, .int z' v')] 0 s
  refine PySem.W.kat_cons (SeqAt.EqAt.int_int x t x' t' prog w _ _ (PySem.W.kat_go (fun c1 => ?_) fun c1 => ?_))
  · have ex : x = x' := by simpa using c1
    rw [if_pos ex]
    refine PySem.W.kat_yes (PySem.W.kat_cons (SeqAt.EqAt.int_int y u y' u' prog w _ _ (PySem.W.kat_go (fun c2 => ?_) fun c2 => ?_)))
    · have ey : y = y' := by simpa using c2
      rw [if_pos ey]
      refine PySem.W.kat_yes (PySem.W.kat_cons (SeqAt.EqAt.int_int z v z' v' prog w _ _ (PySem.W.kat_go (fun c3 => ?_) fun c3 => ?_)))
      · have ez : z = z' := by simpa using c3
        exact PySem.W.kat_yes (PySem.W.kat_nil ⟨rfl, by rw [ez]; exact (decide_eq_false (Int.lt_irrefl z')).symm⟩)
      · refine PySem.W.kat_no (PySem.W.kat_one _ _ (PyProof.Rows.lt_int ?_))
        exact (⟨rfl, rfl⟩ : s = s ∧ decide (z < z') = decide (z < z'))
    · have ey : ¬ y = y' := by simpa using c2
      rw [if_neg ey]
      refine PySem.W.kat_no (PySem.W.kat_one _ _ (PyProof.Rows.lt_int ?_))
      exact (⟨rfl, rfl⟩ : s = s ∧ decide (y < y') = decide (y < y'))
  · have ex : ¬ x = x' := by simpa using c1
    rw [if_neg ex]
    exact PySem.W.kat_no (oneLt_int ⟨rfl, rfl⟩)
theorem firsts3 {h : Heap} {k : Value → T3} : ∀ {vs : List Value}, (∀ v ∈ vs, Is3 h v (k v)) → ∃ fs : List Value, PySem.W.KatTups h vs fs ∧ fs.length = vs.length ∧ ∀ f ∈ fs, ∃ x t, f = Value.int x t
  | [], _ => ⟨[], PySem.W.KatTups.nil, rfl, fun f hf => nomatch hf⟩
  | v :: vs, hp => by
    obtain ⟨fs, g1, g2, g3⟩ := firsts3 (vs := vs) fun z hz => hp z (List.mem_cons_of_mem v hz)
    obtain ⟨a, o, t1, t2, t3, n, rfl, e2, e3, e4⟩ := hp v List.mem_cons_self
    refine ⟨.int (k (.ref a)).1 t1 :: fs, PySem.W.KatTups.cons e2 e3 e4 rfl g1, congrArg Nat.succ g2, fun f hf => ?_⟩
    rcases List.mem_cons.mp hf with rfl | hf
    · exact ⟨_, _, rfl⟩
    · exact g3 f hf
theorem sortable3 {a : Addr} {vs : List Value} {k : Value → T3} (h0 : 0 < vs.length) (hp : ∀ v ∈ vs, Is3 s.heap v (k v)) (ha : ∀ o, s.heap.get? a = some o → o.cls ≠ .type "tuple") : SortableO prog w A s a vs fun v u => lex3 (k v) (k u) := fun h' keep => by
  have st : ∀ v ∈ vs, Is3 h' v (k v) := fun v hv => (hp v hv).stay fun b o g c => keep b o (fun z => ha o (z ▸ g) c) g
  obtain ⟨fs, g1, g2, g3⟩ := firsts3 st
  refine ⟨tuples' true, fun Q E hq => PySem.W.kat_kind (T := .type "int") g1 (by omega) (fun f hf => ?_) (by rfl) ?_, cmp3 st⟩
  · obtain ⟨x, t, rfl⟩ := g3 f hf
    exact PySem.W.Looks.now
  · rw [show (Value.type "int" != Value.type "tuple") = true from by first | decide +kernel | rfl]
    exact hq
/-- sorted(l) of triples of ints -/
theorem sorted3 {l : Addr} {vs : List Value} {k : Value → T3} {Q : Value → Shared → Prop} (hl : s.heap.IsList l vs.toArray) (hz : vs.length ≤ sizeLine) (hp : ∀ v ∈ vs, Is3 s.heap v (k v))
    (h : ∀ (h' : Heap) (d : Addr) (out : List Value), Srtd (fun v u => lex3 (k v) (k u)) out → Stb (fun v u => lex3 (k v) (k u)) out vs → (∀ b o, s.heap.get? b = some o → h'.get? b = some o) → s.heap.objs.size ≤ d → (∃ n, h'.get? d = some (seqObj "list" out.toArray n)) → Q (.ref d) { s with heap := h' }) :
    wpAny (model prog w) A (call (.builtin "sorted") [.ref l]) Q E s := by
  refine sorted_ord (swo3 k) hl hz (fun h2 h₁ a ha kk => sortable3 (s := { s with heap := h₁ }) (by omega) (fun v hv => (hp v hv).stay fun b o g _ => (kk b o g).2) fun o g c => ?_) fun out hs hb => h _ _ out hs hb (fun b o g => sortedAll_old g) (Nat.le_succ _) (sortedAll_at s.heap vs out.toArray)
  have g' : some o = some (seqObj "list" vs.toArray 0) := g.symm.trans ha
  cases g'
  exact absurd (Value.type.inj c) (by decide)
end
end SrtT
namespace L2
open PySem PySem.Spec PyProof.Rows SrtT
/-- sorted(xs), xs a list of triples of ints (k says which): a new list, sorted -/
def rSorted3 (K : PySem.W.Frag) : List V → Hp → VK → Prop := fun vs H Q => ∃ (a : Addr) (xs : List V) (k : V → T3), vs = [V.ref a] ∧ SqL K H a xs ∧ (∀ x ∈ xs, ∃ t, x = V.ref t ∧ H t = some (.tup [.int (k x).1, .int (k x).2.1, .int (k x).2.2])) ∧
  ∀ ys p, SrtO.Srtd (fun x y => lex3 (k x) (k y)) ys → ys.Perm xs → H p = none → Q (.ref p) (upd H p (.lst ys))
theorem cr_sorted3 {X : Cx} : CallR X (.builtin "sorted") (rSorted3 X.K) := by
  intro pins s σ H vs us Q I r h
  obtain ⟨a, xs, k, rfl, hs, hx, q⟩ := h
  obtain ⟨its, rv, hl, hz⟩ := I.list hs
  rw [Vals.ref1 r]
  obtain ⟨e1, e2⟩ := refs_back rv fun x m => (hx x m).imp fun t ht => ht.1
  refine sorted3 (k := fun u => k (backV u)) hl.isList (by rw [← rv.length]; exact hz) (fun v hv => ?_) fun h' d out g1 g2 kp hd hn => ?_
  · obtain ⟨t, rfl⟩ := e2 v hv
    obtain ⟨t', e, ht⟩ := hx (.ref t) (by rw [e1]; exact List.mem_map.mpr ⟨_, hv, rfl⟩)
    cases e
    obtain ⟨_, its2, r2, o, ho, hc, n, hdt⟩ := I.hok _ _ ht
    cases r2 with
    | cons r2a r2 => cases r2 with
      | cons r2b r2 => cases r2 with
        | cons r2c r2 =>
          cases r2
          obtain ⟨ta, rfl⟩ := r2a
          obtain ⟨tb, rfl⟩ := r2b
          obtain ⟨tc, rfl⟩ := r2c
          exact ⟨t, o, ta, tb, tc, n, rfl, ho, hc, hdt⟩
  · obtain ⟨n, hn⟩ := hn
    have back : ∀ u ∈ out, ∃ a, u = Value.ref a := fun u hu => e2 u (g2.perm.mem_iff.mp hu)
    have pm : (out.map backV).Perm xs := by rw [e1]; exact g2.perm.map backV
    refine ⟨.ref d, upd H d (.lst (out.map backV)), I.laid (t' := s.toks) kp hd ⟨?_, out, n, vals_back back, hn⟩, rfl, q _ d (SrtO.srtd_map g1) pm (I.hok.fresh hd)⟩
    rw [pm.length_eq]
    exact hz
end L2

set_option Elab.async false
set_option linter.all false
set_option maxRecDepth 100000
set_option maxHeartbeats 4000000
namespace L2
open PySem PySem.Spec PyProof.Rows
/-! ### an own __eq__ asked by !=, an own __len__, list(d.values()) -/
/-- a name of a written namespace -/
theorem ns_at {K : PySem.W.Frag} {h : Heap} {N : Addr} {mN : Str → Option Value} {n : Str} {v : Value} (X : K.In h) (G : h.Ns N mN) (e : PySem.W.nsIn K N n = some (some v)) : mN n = some v := by
  obtain ⟨o, es, ep, ho, hd, _, hf⟩ := G
  unfold PySem.W.nsIn at e
  split at e
  case h_2 => cases e
  case h_1 c d es' n' sl q =>
    have z := X _ _ q
    rw [ho] at z
    cases z
    cases hd
    split at e
    case h_2 => split at e <;> cases e
    case h_1 en he =>
      cases e
      rw [← hf]
      unfold nsFind findBy
      rw [← Array.find?_toList, he]
      rfl
/-- a plain class with an own __eq__ and no __ne__ -/
structure NeC (K : PySem.W.Frag) (C f : Addr) : Prop where
  ex : ∃ (nm q : Str) (N : Addr) (bs : List Value) (hd : Bool) (sn : List Str) (sub : List Value) (ab : Bool) (col : Option Bool) (dd : Option Addr) (k0 k1 k2 k3 k5 : Option Value) (nid : String) (fo : Obj),
    K.lookup C = some (excClassObj nm q C N bs [.type "object"] hd sn sub ab col dd k0 k1 k2 k3 k5 nid) ∧ PySem.W.nsOkIn K N = true ∧ PySem.W.nsIn K N "__eq__" = some (some (.ref f)) ∧ PySem.W.nsIn K N "__ne__" = some none ∧ K.lookup f = some fo ∧ fo.cls = .type "function"
theorem obj_eq : ∃ y, typeLookup (.type "object") "__eq__" = pure y := ⟨_, PySem.F.cmp_object.eq.lookup⟩
section
variable {X : Cx} {n : Nat} {CX : CXT} {C f : Addr} {fd : FuncData} {ps : List Str} {R : Addr → Addr → Hp → Prop} {E : XK}
theorem op_neG (F : FnOk X.prog X.w X.K X.mg X.base CX n f fd ps (spEq R)) (Z : NeC X.K C f) (hb : Binds X.K fd ps []) (hx : Passes CX X E) (hr : Room (n + 2) X.A) :
    OpR X (compareOp .NotEq) (fun x y H Q => DIns C R x y H ∧ ∀ H', Ext H H' → Q (.bl false) H') := by
  intro pins s σ H x y v u Q I rx ry hq
  obtain ⟨⟨a, b, dx, dy, fs, gs, rfl, rfl, ha, hb', hR⟩, q⟩ := hq
  cases rx
  cases ry
  obtain ⟨mA, J, _⟩ := ins_get I.hok ha
  obtain ⟨mB, J', _⟩ := ins_get I.hok hb'
  obtain ⟨od, J, _⟩ := J.look
  obtain ⟨od', J', _⟩ := J'.look
  obtain ⟨nm, qn, N, bs, hd, sn, sub, ab, col, dd, k0, k1, k2, k3, k5, nid, fo, z1, z2, z3, z4, z5, z6⟩ := Z.ex
  have XK := I.kIn
  have Gn := Heap.Ns.of_isNs (PySem.W.isNs_of_in XK z2)
  obtain ⟨y0, hy0⟩ := obj_eq
  have Y : s.heap.OwnEqNoNe a C f "object" [.type "object"] := ⟨_, fo, nm, qn, N, bs, hd, sn, sub, ab, col, dd, k0, k1, k2, k3, k5, nid, _, y0, J.at_, J.cls, XK _ _ z1, Gn, ns_at XK Gn z3, XK _ _ z5, z6, PySem.F.mro_object, hy0, PySem.W.ns_none_of XK Gn z4⟩
  obtain ⟨hp, gg, dw, tk, os⟩ := s
  refine compareOp_ne_ownEq PySem.F.cmp_object Y J'.at_ J'.cls hr.in1.units0 ?_
  have hsp : spEq R [.ref a, .ref b] H (fun v H' => v = .bl true ∧ Ext H H') E := ⟨a, b, rfl, hR, fun H' e => ⟨rfl, e⟩⟩
  have e0 : Env0 X.prog X.w X.K X.mg X.base X.A.in1 X.stack ⟨hp, gg, dw, tk, os⟩ H := by
    have e := I.env0
    exact ⟨e.frames, e.mod, e.bs, e.bsz, e.funs, e.frf, e.hok, e.bare⟩
  have hl := F.len _ _ _ _ hsp
  have r2 : Vals [V.ref a, V.ref b] [Value.ref a, Value.ref b] := .cons rfl (.cons rfl .nil)
  refine wpAny_call (codeAny_mono (F.run X.A.in1 X.stack _ H ⟨[.ref a, .ref b], []⟩ [.ref a, .ref b] [.ref a, .ref b] _ E (hr.in1.mono (by omega)) e0 (by
    have := hb ⟨hp, gg, dw, tk, os⟩ [.ref a, .ref b] I.kIn (by simpa using hl)
    simpa using this) r2 hsp) fun r s' hq => ?_)
  cases r with
  | error e => exact hx pins σ H _ e s' I hq
  | ok fl =>
    cases fl with
    | ret w =>
      obtain ⟨z, H', I', rz, ez, ex⟩ := I.after hq
      subst ez
      cases rz
      exact ⟨true, rfl, .bl false, H', I', rfl, q H' ex⟩
    | next => exact False.elim hq
    | brk => exact False.elim hq
    | cont => exact False.elim hq
/-- len(o) by an own __len__ -/
theorem call_lenI {sp : Sp} (F : FnOk X.prog X.w X.K X.mg X.base CX n f fd ["self"] sp) (hs : PySem.W.findIn X.K (.ref C) "__len__" = some (some (.ref f))) (hf : PySem.W.isFn X.K (.ref f) = true) (hb : Binds X.K fd ["self"] []) (hx : Passes CX X E) (hr : Room (n + 1) X.A) :
    CallR X (.builtin "len") (fun xs H Q => ∃ a dx fs, xs = [.ref a] ∧ H a = some (.ins C dx fs) ∧ sp [.ref a] H (fun v H' => ∃ m : Nat, v = .int m ∧ m < 2 ^ 62 ∧ Q (.int m) H') E) := by
  intro pins s σ H xs us Q I r h
  obtain ⟨a, dx, fs, rfl, ha, h⟩ := h
  rw [Vals.ref1 r]
  obtain ⟨mA, J, _⟩ := ins_get I.hok ha
  obtain ⟨od, J, _⟩ := J.look
  obtain ⟨m, hF⟩ := I.fr
  refine PySem.W.len_K hF I.ok.mod.kin J hs hf ?_
  have e0 : Env0 X.prog X.w X.K X.mg X.base X.A.in1 X.stack s H := by
    have e := I.env0
    exact ⟨e.frames, e.mod, e.bs, e.bsz, e.funs, e.frf, e.hok, e.bare⟩
  have hl := F.len _ _ _ _ h
  refine wpAny_call (codeAny_mono (F.run X.A.in1 X.stack _ H ⟨[.ref a], []⟩ [.ref a] [.ref a] _ E (hr.in1.mono (by omega)) e0 (by
    have := hb s [.ref a] I.kIn (by simpa using hl)
    simpa using this) (.cons rfl .nil) h) fun r s' hq => ?_)
  cases r with
  | error e => exact hx pins σ H _ e s' I hq
  | ok fl =>
    cases fl with
    | ret w =>
      obtain ⟨z, H', I', rz, m, ez, hm, q⟩ := I.after hq
      subst ez
      obtain ⟨t, rfl⟩ := rz
      exact ⟨⟨Int.natCast_nonneg m, by omega⟩, .int m, H', I'.tok _, ⟨_, rfl⟩, q⟩
    | next => exact False.elim hq
    | brk => exact False.elim hq
    | cont => exact False.elim hq
/-- the same object -/
def DOne : Eqv := fun x y _ => x = y ∧ ∃ a, x = .ref a
theorem mon_one : Mon DOne := fun _ _ _ _ _ d => d
theorem eqG_one : EqG X 0 DOne := by
  intro A pins s σ H x y u v sb I rx ry d
  obtain ⟨rfl, a, rfl⟩ := d
  cases rx
  cases ry
  exact SeqAt.EqAt.same (A := A) (s := s) (.ref a) X.prog X.w X.xe _ ⟨rfl, H, I, Ext.rfl'⟩
end
section
variable {X : Cx} {o : Expr} {p pos apos mpos : Pos} {td : TE}
/-- list(o.values()) of a dict -/
def tListVals (td : TE) : TE := fun σ H Q => td σ H fun x H1 => ∃ a kvs, x = V.ref a ∧ H1 a = some (.dK kvs) ∧ ∀ l, H1 l = none → Q (.ref l) (upd H1 l (.lst (kvs.map (·.2))))
theorem vals_vals {kvs : List (Key × V)} {vs : List (Key × Value)} (r : KV kvs vs) {us : List Value} (hn : us.length = vs.length) (hu : ∀ (j : Nat) v, us[j]? = some v → ∃ k, vs[j]? = some (k, v)) : Vals (kvs.map (·.2)) us := by
  have e : us = vs.map (·.2) := PySem.W.kdl_vals_eq us hn hu
  subst e
  unfold KV at r
  clear hn hu
  induction r with
  | nil => exact .nil
  | cons h t ih => exact .cons h.2 ih
theorem pe_listVals (hcalm : X.calm = true) (hg : Gl X "list") (hm : X.mg "list" = none) (hd : PE X o td) (hbase : attributeBase o "values" X.env (eval o X.env) = eval o X.env := by rfl) (hline : (apos.endLine == mpos.line) = true := by rfl)
    (hse : starEach [Expr.Call (.Attribute o "values" apos) [] [] mpos] X.env = [(false, eval (Expr.Call (.Attribute o "values" apos) [] [] mpos) X.env)] := by rfl) :
    PE X (.Call (.Name "list" p) [.Call (.Attribute o "values" apos) [] [] mpos] [] pos) (tListVals td) := by
  refine ⟨fun pins s σ H Q I h => ?_⟩
  refine wpAny_Call_Name_kw (ld_blt I hg hm (u := .type "list") (by first | rfl | decide +kernel) ?_ (by first | decide +kernel | decide) (by first | decide +kernel | decide))
  rw [hse]
  refine PySem.callWith_type1 (wpAny_Call_method0_late hbase hline (thn (hd.run pins s σ H _ I h) fun v s1 ⟨x, H1, I1, r1, a, kvs, ex, ha, q⟩ => ?_))
  subst ex
  obtain rfl : v = Value.ref a := r1
  obtain ⟨hz, hsys, vs, rel, dof⟩ := dk_of I1.hok ha
  obtain ⟨ep, dat⟩ := dof.dictAt
  obtain ⟨ob, es, ho, ex, _⟩ := id dat
  refine ⟨"dict", "dict.values", F.plainAttrs_dict, F.slot_dict_values, F.type_dict_values, ⟨ob, ho, ex.1⟩, fun b e => ?_, Calls.callWith_builtin rfl (PySem.evalArgs_none ?_)⟩
  · cases e
    exact ⟨ob, ho, ex.2.1⟩
  refine call_meetsIn F.slot_dict_values ⟨ob, ho, ex.1⟩ F.entry_dict_values (F.args_dict_values_1 _) (meets_dict_values (mixKind X.prog X.w) a hsys) ⟨⟨vs, dof⟩, ?_⟩
  have up : ∀ b u, s1.heap.get? b = some u → (s1.heap.push { cls := .type "dict_values", data := .fields #[.ref a] }).get? b = some u := fun b u e => Heap.get?_push_of_some _ e
  have hlen : vs.length = kvs.length := (KV.length rel).symm
  refine PySem.W.kdl_call (PySem.W.kdl_values (knd := mixKind X.prog X.w) (kvs := vs) (ep := ep)) (I1.ok.hd hcalm) ⟨⟨_, Heap.get?_push_size _ rfl, rfl, rfl⟩, dat.keep up⟩ (by rw [hlen]; exact hz) fun h' tk acc c' hk hD hacc => ?_
  have hv : Vals (kvs.map (·.2)) acc.toList := vals_vals rel (by rw [Array.length_toList]; exact hacc.1) fun j v e => hacc.2 j v (by rw [← Array.getElem?_toList]; exact e)
  refine ⟨.ref _, upd H1 _ (.lst (kvs.map (·.2))), I1.laid (t' := tk) (fun b u e => hk b u (up b u e)) (Nat.le_of_lt (Nat.lt_of_lt_of_le (Nat.lt_succ_self _) (by rw [Heap.size_push]; exact Nat.le_refl _)))
    (show ObjOk X.prog X.w _ _ _ (.lst (kvs.map (·.2))) from ⟨by rw [List.length_map]; exact hz, acc.toList, c', hv, by rw [Array.toArray_toList]; exact hD⟩), rfl, q _ (I1.hok.fresh (Nat.le_of_lt (Nat.lt_of_lt_of_le (Nat.lt_succ_self _) (by rw [Heap.size_push]; exact Nat.le_refl _))))⟩
end
end L2

set_option Elab.async false
set_option linter.all false
set_option maxRecDepth 100000
set_option maxHeartbeats 4000000
namespace L2
open PySem PySem.Spec PyProof.Rows
section
variable {X : Cx} {n : Nat} {CX : CXT} {C f : Addr} {fd : FuncData} {ps : List Str} {sp : Sp} {E : XK}
/-- x op y of two instances of one class, with an own method for it -/
def rOwnOp (C : Addr) (sp : Sp) (E : XK) : R2 := fun x y H Q => ∃ a b dx dy fs gs, x = .ref a ∧ y = .ref b ∧ H a = some (.ins C dx fs) ∧ H b = some (.ins C dy gs) ∧ sp [x, y] H Q E
theorem op_own {op : Operator} (hc : PySem.W.selfFirst X.K C = true) (hs : PySem.W.findIn X.K (.ref C) (PySem.dunder op.info.2) = some (some (.ref f))) (hf : PySem.W.isFn X.K (.ref f) = true)
    (F : FnOk X.prog X.w X.K X.mg X.base CX n f fd ps sp) (hb : Binds X.K fd ps []) (hx : Passes CX X E) (hr : Room n X.A) : OpR X (binaryOp op) (rOwnOp C sp E) := by
  intro pins s σ H x y v u Q I rx ry hq
  obtain ⟨a, b, dx, dy, fs, gs, rfl, rfl, ha, hb', hsp⟩ := hq
  cases rx
  cases ry
  obtain ⟨mA, J, _⟩ := ins_get I.hok ha
  obtain ⟨mB, J', _⟩ := ins_get I.hok hb'
  obtain ⟨od, J, _⟩ := J.look
  obtain ⟨od', J', _⟩ := J'.look
  obtain ⟨m, Fm⟩ := I.fr
  refine PySem.W.binop_K Fm I.ok.mod.kin J J'.type hc hs hf (wpAny_mono (run_fn (us := [.ref a, .ref b]) (vs := [.ref a, .ref b]) F hr hb .nil hx I (.cons rfl (.cons rfl .nil)) hsp) (fun z s' hz => ?_) fun _ _ e => e)
  obtain ⟨zv, H', I', rz, q⟩ := hz
  exact SlX.cmpback rz ⟨zv, H', I', rz, q⟩
end
end L2

set_option Elab.async false
set_option linter.all false
set_option maxRecDepth 100000
set_option maxHeartbeats 4000000
namespace L2
open PySem PySem.Spec PyProof.Rows
/-! ### o.f as a target among others -/
section
variable {X : Cx} {o : Expr} {ta : TE} {f : Str} {pos : Pos}
def gFld (K : PySem.W.Frag) (ta : TE) (f : Str) : TG := fun v σ H Q => ta σ H fun x H1 => ∃ a C dx fs, x = .ref a ∧ H1 a = some (.ins C dx fs) ∧ Cls K C ∧ NoAttr K C f ∧ fs.length < 1000 ∧ Q σ (upd H1 a (.ins C dx (putF f v fs)))
theorem pg_fld (ha : PE X o ta) : PG X (.Attribute o f pos) (gFld X.K ta f) := by
  refine ⟨fun pins s σ H v u Q I r h => ?_⟩
  rw [assign_Attribute]
  refine wpAny_bind (wpAny_holding (thn (ha.run pins s σ H _ I h) fun ov s1 ⟨x, H1, I1, rx, a, C, dx, fs, ex, ea, c, n, l, q⟩ => ?_))
  subst ex
  obtain rfl : ov = Value.ref a := rx
  refine wpAny_bind (wpAny_standAt ?_)
  refine wpAny_bind (wpAny_holding (setattr_ok I1 ea c n l r fun s3 I3 => ?_))
  exact wpAny_release ⟨σ, _, I3, q⟩
end
/-! ### operators of instances of a family of classes -/
section
variable {prog : Program} {w : World} {A : Around} {E : Value → Shared → Prop} {s : Shared} {K : PySem.W.Frag} {x C D L f : Addr} {h₀ : Heap} {m : Str → Option Value} {ox : Obj} {od : Option Obj}
open PySem.W PySem.Calls in
/-- x op y of instances of two classes, none of which is beneath the other -/
theorem binO {op : Operator} {b : Value} {rc rd : Option Value} {g : Addr} {Q : Value → Shared → Prop} (F : Fr h₀ L s.heap m) (X₀ : K.In h₀) (I : InstAt s.heap x ox C od) (hb : Looks (model prog w) s.heap (typeOf b) (.ref D)) (hne : C ≠ D) (hc : selfFirst K C = true) (hd : selfFirst K D = true)
    (hs : findIn K (.ref C) (PySem.dunder op.info.2) = some (some (.ref f))) (hf : isFn K (.ref f) = true) (hr : findIn K (.ref C) (dunderR op.info.2) = some rc) (hp : rc = none ∨ ∃ g : Addr, rc = some (.ref g))
    (gs : findIn K (.ref D) (PySem.dunder op.info.2) = some (some (.ref g))) (gr : findIn K (.ref D) (dunderR op.info.2) = some rd) (gp : rd = none ∨ ∃ g : Addr, rd = some (.ref g)) (hsub : subIn K (.ref D) (.ref C) = some false)
    (h : wpAny (model prog w) A (call (.ref f) [.ref x, b]) (PySem.W.CmpBack Q) E s) : wpAny (model prog w) A (binaryOp op (.ref x) b) Q E s := by
  have X := X₀.keeps F.keep
  obtain ⟨cd, rest, hcd, hm⟩ := ksp_first hc
  obtain ⟨dd, rest', hdd, hm'⟩ := ksp_first hd
  rcases hi : op.info with ⟨sym, nm'⟩
  rw [hi] at hs hr gs gr
  dsimp only at hs hr gs gr
  have one := ksp_try X I hs hf h
  obtain ⟨hh, gg, d, tt, os⟩ := s
  have L1 : Looks (model prog w) hh (typeOf (.ref x)) (.ref C) := I.type
  have L3 : Looks (model prog w) hh (fillsNumberSlot (.ref C) nm') true := fills_K X hcd hm hs
  have L4 : Looks (model prog w) hh (fillsNumberSlot (.ref D) nm') true := fills_K X hdd hm' gs
  have L5 : Looks (model prog w) hh (isSubtype (.ref D) (.ref C)) false := looks_subIn X hsub
  have L6 : Looks (model prog w) hh (numberSlotInPython (.ref C) nm') true := ksp_inPy X hs hr hp
  have L7 : Looks (model prog w) hh (numberSlotInPython (.ref D) nm') true := ksp_inPy X gs gr gp
  have hne' : (Value.ref C == Value.ref D) = false := Bool.eq_false_iff.mpr fun q => by
    have := beq_iff_eq.mp q
    cases this
    exact hne rfl
  simp only [binaryOp, hi]
  refine wpAny_holding (wpAny_bind ?_)
  unfold binaryOp1
  refine wpAny_bind (L1.at (wpAny_bind (hb.at (wpAny_bind (L3.at ?_)))))
  simp only [hne', Bool.false_eq_true, if_false]
  ksp_lk
  refine wpAny_mono one (fun r s' hr' => ?_) fun _ _ e => e
  obtain ⟨v, rfl, hq⟩ := hr'
  ksp_lk
  exact hq
end
/-- what the top says of an operator of a family of classes -/
structure OpF (K : PySem.W.Frag) (S : Addr → Prop) (op : Operator) (f : Addr) : Prop where
  sf : ∀ C, S C → PySem.W.selfFirst K C = true
  at_ : ∀ C, S C → PySem.W.findIn K (.ref C) (PySem.dunder op.info.2) = some (some (.ref f))
  rt : ∀ C, S C → PySem.W.findIn K (.ref C) (dunderR op.info.2) = some none
  fn : PySem.W.isFn K (.ref f) = true
  sub : ∀ C D, S C → S D → C ≠ D → PySem.W.subIn K (.ref D) (.ref C) = some false
section
variable {X : Cx} {n : Nat} {CX : CXT} {f : Addr} {fd : FuncData} {ps : List Str} {sp : Sp} {E : XK} {S : Addr → Prop} {op : Operator}
def rOpF (S : Addr → Prop) (sp : Sp) (E : XK) : R2 := fun x y H Q => ∃ a b C D dx dy fs gs, x = .ref a ∧ y = .ref b ∧ H a = some (.ins C dx fs) ∧ S C ∧ H b = some (.ins D dy gs) ∧ S D ∧ sp [x, y] H Q E
theorem op_fam (O : OpF X.K S op f) (F : FnOk X.prog X.w X.K X.mg X.base CX n f fd ps sp) (hb : Binds X.K fd ps []) (hx : Passes CX X E) (hr : Room n X.A) : OpR X (binaryOp op) (rOpF S sp E) := by
  intro pins s σ H x y v u Q I rx ry hq
  obtain ⟨a, b, C, D, dx, dy, fs, gs, rfl, rfl, ha, sC, hb', sD, hsp⟩ := hq
  cases rx
  cases ry
  obtain ⟨mA, J, _⟩ := ins_get I.hok ha
  obtain ⟨mB, J', _⟩ := ins_get I.hok hb'
  obtain ⟨od, J, _⟩ := J.look
  obtain ⟨od', J', _⟩ := J'.look
  obtain ⟨m, Fm⟩ := I.fr
  have body : wpAny (model X.prog X.w) X.A (call (.ref f) [.ref a, .ref b]) (PySem.W.CmpBack (EP X pins σ Q)) X.xe s := wpAny_mono (run_fn (us := [.ref a, .ref b]) (vs := [.ref a, .ref b]) F hr hb .nil hx I (.cons rfl (.cons rfl .nil)) hsp) (fun z s' hz => by
    obtain ⟨zv, H', I', rz, q⟩ := hz
    exact SlX.cmpback rz ⟨zv, H', I', rz, q⟩) fun _ _ e => e
  by_cases e : C = D
  · subst e
    exact PySem.W.binop_K Fm I.ok.mod.kin J J'.type (O.sf C sC) (O.at_ C sC) O.fn body
  · exact binO Fm I.ok.mod.kin J J'.type e (O.sf C sC) (O.sf D sD) (O.at_ C sC) O.fn (O.rt C sC) (.inl rfl) (O.at_ D sD) (O.rt D sD) (.inl rfl) (O.sub C D sC sD e) body
/-- with an int -/
structure OpI (K : PySem.W.Frag) (S : Addr → Prop) (op : Operator) (f : Addr) : Prop where
  sf : ∀ C, S C → PySem.W.selfFirst K C = true
  at_ : ∀ C, S C → PySem.W.findIn K (.ref C) (PySem.dunder op.info.2) = some (some (.ref f))
  rt : ∀ C, S C → PySem.W.findIn K (.ref C) (dunderR op.info.2) = some none
  fn : PySem.W.isFn K (.ref f) = true
  sub : ∀ C, S C → PySem.W.subIn K (.type "int") (.ref C) = some false
  i1 : ∃ fo, PySem.W.findIn K (.type "int") (PySem.dunder op.info.2) = some fo
  i2 : ∃ ro, PySem.W.findIn K (.type "int") (dunderR op.info.2) = some ro
def rOpI (S : Addr → Prop) (sp : Sp) (E : XK) : R2 := fun x y H Q => ∃ a C dx fs i, x = .ref a ∧ y = .int i ∧ H a = some (.ins C dx fs) ∧ S C ∧ sp [x, y] H Q E
theorem op_int (O : OpI X.K S op f) (F : FnOk X.prog X.w X.K X.mg X.base CX n f fd ps sp) (hb : Binds X.K fd ps []) (hx : Passes CX X E) (hr : Room n X.A) : OpR X (binaryOp op) (rOpI S sp E) := by
  intro pins s σ H x y v u Q I rx ry hq
  obtain ⟨a, C, dx, fs, i, rfl, rfl, ha, sC, hsp⟩ := hq
  cases rx
  obtain ⟨t, rfl⟩ := (show ∃ t, u = Value.int i t from ry)
  obtain ⟨mA, J, _⟩ := ins_get I.hok ha
  obtain ⟨od, J, _⟩ := J.look
  obtain ⟨m, Fm⟩ := I.fr
  obtain ⟨fo, h1⟩ := O.i1
  obtain ⟨ro, h2⟩ := O.i2
  refine PySem.W.ksp_binT (T := "int") Fm I.ok.mod.kin J rfl (O.sf C sC) (O.at_ C sC) O.fn (O.rt C sC) (.inl rfl) h1 h2 (O.sub C sC) (wpAny_mono (run_fn (us := [.ref a, .int i t]) (vs := [.ref a, .int i]) F hr hb .nil hx I (.cons rfl (.cons ⟨t, rfl⟩ .nil)) hsp) (fun z s' hz => ?_) fun _ _ e => e)
  obtain ⟨zv, H', I', rz, q⟩ := hz
  exact SlX.cmpback rz ⟨zv, H', I', rz, q⟩
end
/-! ### methods of a family of classes -/
/-- a method that all of the classes have from one place -/
structure MethF (K : PySem.W.Frag) (S : Addr → Prop) (m : Str) (f : Addr) : Prop where
  at_ : ∀ C, S C → Cls K C ∧ PySem.W.findIn K (.ref C) m = some (some (.ref f))
  fn : PySem.W.isFn K (.ref f) = true
  kp : PySem.W.keepIn K (.ref f) = true
section
variable {X : Cx} {k : Nat} {CX : CXT} {f : Addr} {fd : FuncData} {ps : List Str} {sp : Sp} {E : XK} {S : Addr → Prop} {o e : Expr} {es : List Expr} {m : Str} {ta : TE} {t : TA} {apos pos : Pos}
def tMethF (S : Addr → Prop) (m : Str) (sp : Sp) (E : XK) (ta : TE) (t : TA) : TE := fun σ H Q => ta σ H fun x H1 => ∃ a C dx fs, x = .ref a ∧ H1 a = some (.ins C dx fs) ∧ S C ∧ fs.lookup m = none ∧
  t σ H1 fun vs H2 => sp (x :: vs) H2 Q E
theorem pe_methF {pl : Sem Bool} (he : PE X o ta) (M : MethF X.K S m f) (F : FnOk X.prog X.w X.K X.mg X.base CX k f fd ps sp) (hr : Room k X.A) (hb : Binds X.K fd ps []) (hx : Passes CX X E) (ha : PA X (e :: es) t)
    (hst : starEach (e :: es) X.env = (false, eval e X.env) :: starEach es X.env := by rfl) (hpl : (backTo pos (starEach es X.env)).any (·.1) = false := by rfl)
    (ht : eval (.Call (.Attribute o m apos) (e :: es) [] pos) X.env = (do
      let ov ← eval o X.env
      standAt apos.atName
      let (f, first) ← holding [ov] (getMethod ov m pl)
      callWith pos f first (backTo pos (starEach (e :: es) X.env)) (backToKw pos (keywordEach [] X.env))) := by rfl) :
    PE X (.Call (.Attribute o m apos) (e :: es) [] pos) (tMethF S m sp E ta t) := by
  refine ⟨fun pins s σ H Q I h => ?_⟩
  refine PySem.W.methodCall_KW (pl := pl) (thn (he.run pins s σ H _ I h) fun u s1 ⟨x, H1, I1, rx, a, C, dx, fs, ex, ea, sC, l, q⟩ => ?_) ht
  subst ex
  obtain rfl : u = Value.ref a := rx
  obtain ⟨c, at_⟩ := M.at_ C sC
  have hm : Meth X.K C m f := ⟨at_, M.fn, M.kp⟩
  refine getmeth_ok I1 ea c hm l ?_
  refine PySem.W.callWith_K (first := [.ref a]) (h₀ := X.base) I.ok.mod.kin hm.kp (thn (ha.run pos pins s1 σ H1 _ I1 q) fun us s2 ⟨vs, H2, I2, r, q2⟩ => ⟨I2.kIn, ?_⟩) hst hpl
  exact run_fn (us := .ref a :: us) (vs := .ref a :: vs) F hr hb .nil hx I2 (.cons rfl r) (by simpa using q2)
theorem pe_methF0 {pl : Sem Bool} (he : PE X o ta) (M : MethF X.K S m f) (F : FnOk X.prog X.w X.K X.mg X.base CX k f fd ps sp) (hr : Room k X.A) (hb : Binds X.K fd ps []) (hx : Passes CX X E)
    (ht : eval (.Call (.Attribute o m apos) [] [] pos) X.env = (do
      let ov ← eval o X.env
      standAt apos.atName
      let (f, first) ← holding [ov] (getMethod ov m pl)
      callWith pos f first (backTo pos (starEach [] X.env)) (backToKw pos (keywordEach [] X.env))) := by rfl) :
    PE X (.Call (.Attribute o m apos) [] [] pos) (tMethF S m sp E ta tNil) := by
  refine ⟨fun pins s σ H Q I h => ?_⟩
  refine PySem.W.methodCall_KW (pl := pl) (thn (he.run pins s σ H _ I h) fun u s1 ⟨x, H1, I1, rx, a, C, dx, fs, ex, ea, sC, l, q⟩ => ?_) ht
  subst ex
  obtain rfl : u = Value.ref a := rx
  obtain ⟨c, at_⟩ := M.at_ C sC
  have hm : Meth X.K C m f := ⟨at_, M.fn, M.kp⟩
  refine getmeth_ok I1 ea c hm l ?_
  exact PySem.W.callWith_K0 (first := [.ref a]) I1.kIn hm.kp (run_fn (us := [.ref a]) (vs := [.ref a]) F hr hb .nil hx I1 (.cons rfl .nil) q)
end
/-! ### max(xs, default=d) -/
def mxD : List Int → Int → Int
  | [], d => d
  | y :: ys, _ => PySem.W.maxOf y ys
section
variable {X : Cx}
def rMaxD (K : PySem.W.Frag) : List V → List V → Hp → VK → Prop := fun vs zs H Q => ∃ (a : Addr) (ns : List Int) (d : Int), vs = [V.ref a] ∧ zs = [V.int d] ∧ SqL K H a (ns.map V.int) ∧ Q (.int (mxD ns d)) H
theorem cr_maxD (hc : X.calm = true) (hu : X.A.units + 9 < cLine) : CallRK X (.builtin "max") [Str.ofString "default"] (rMaxD X.K) := by
  intro pins s σ H vs zs us ws Q I r rz h
  obtain ⟨a, ns, d, rfl, rfl, hs, q⟩ := h
  obtain rfl := Vals.ref1 r
  obtain ⟨w1, rfl, e1⟩ := vals1 rz
  obtain ⟨t, rfl⟩ := (show ∃ t, w1 = Value.int d t from e1)
  obtain ⟨its, rv, hL, hz⟩ := I.list hs
  have hH : PySem.W.HoldAll s.heap its.toArray.toList ns := PySem.W.HoldAll.of_ints (by simpa using rv.ints)
  refine PySem.W.max_list_datum_default (I.ok.hd hc) hL.isList hH ?_ (fun e h' tk hk => ?_) fun y ys i v h' tk e hi hv hk => ?_
  · have : PySem.W.Datum.depth Int = 0 := rfl
    omega
  · subst e
    exact ⟨.int d, H, I.kept hk, ⟨_, rfl⟩, q⟩
  · subst e
    obtain ⟨t', rfl⟩ := PySem.W.int_of_holds hv
    exact ⟨.int _, H, I.kept hk, ⟨_, rfl⟩, q⟩
end
end L2

set_option Elab.async false
set_option linter.all false
set_option maxRecDepth 100000
set_option maxHeartbeats 4000000
namespace Ash
open PySem PySem.Spec PyProof.Rows L2
/-! ### moment terms -/
inductive Tm where
  | now
  | last (s : Str) (t : Tm)
  | next (s : Str) (t : Tm)
  | shift (n : Int) (t : Tm)
  | either (a b : Tm)
  | later (a b : Tm)
  | earlier (a b : Tm)
  deriving DecidableEq
namespace Tm
def mx (a b : Int) : Int := if a < b then b else a
def dep : Tm → Int
  | .now => 1
  | .last _ t => 1 + dep t
  | .next _ t => 1 + dep t
  | .shift _ t => 1 + dep t
  | .either a b => 1 + mx (dep a) (dep b)
  | .later a b => 1 + mx (dep a) (dep b)
  | .earlier a b => 1 + mx (dep a) (dep b)
def par : Tm → Int
  | .now => 1
  | .last _ t => 1 + par t
  | .next _ t => 1 + par t
  | .shift _ t => 1 + par t
  | .either a b => 1 + (par a + par b)
  | .later a b => 1 + (par a + par b)
  | .earlier a b => 1 + (par a + par b)
def lok : Tm → Int
  | .now => 0
  | .last _ t => 1 + lok t
  | .next _ t => 1 + lok t
  | .shift _ t => 0 + lok t
  | .either a b => 0 + (lok a + lok b)
  | .later a b => 0 + (lok a + lok b)
  | .earlier a b => 0 + (lok a + lok b)
def cho : Tm → Int
  | .now => 0
  | .last _ t => 1 + cho t
  | .next _ t => 1 + cho t
  | .shift _ t => 0 + cho t
  | .either a b => 0 + (cho a + cho b)
  | .later a b => 1 + (cho a + cho b)
  | .earlier a b => 1 + (cho a + cho b)
def spell : Tm → List V
  | .now => [.str "now"]
  | .last s t => .str "last" :: .str s :: spell t
  | .next s t => .str "next" :: .str s :: spell t
  | .shift n t => .str "shift" :: .int n :: spell t
  | .either a b => .str "either" :: (spell a ++ spell b)
  | .later a b => .str "later" :: (spell a ++ spell b)
  | .earlier a b => .str "earlier" :: (spell a ++ spell b)
/-- not too large -/
def Fit (t : Tm) : Prop := t.dep ≤ 12 ∧ t.par ≤ 40 ∧ t.lok ≤ 12
theorem mx_l (a b : Int) : a ≤ mx a b := by unfold mx; split <;> omega
theorem mx_r (a b : Int) : b ≤ mx a b := by unfold mx; split <;> omega
theorem par_pos : ∀ t : Tm, 1 ≤ t.par
  | .now => by simp [par]
  | .last _ t => by have := par_pos t; simp [par]; omega
  | .next _ t => by have := par_pos t; simp [par]; omega
  | .shift _ t => by have := par_pos t; simp [par]; omega
  | .either a b => by have := par_pos a; have := par_pos b; simp [par]; omega
  | .later a b => by have := par_pos a; have := par_pos b; simp [par]; omega
  | .earlier a b => by have := par_pos a; have := par_pos b; simp [par]; omega
theorem lok_nn : ∀ t : Tm, 0 ≤ t.lok
  | .now => by simp [lok]
  | .last _ t => by have := lok_nn t; simp [lok]; omega
  | .next _ t => by have := lok_nn t; simp [lok]; omega
  | .shift _ t => by have := lok_nn t; simp [lok]; omega
  | .either a b => by have := lok_nn a; have := lok_nn b; simp [lok]; omega
  | .later a b => by have := lok_nn a; have := lok_nn b; simp [lok]; omega
  | .earlier a b => by have := lok_nn a; have := lok_nn b; simp [lok]; omega
theorem dep_pos : ∀ t : Tm, 1 ≤ t.dep
  | .now => by simp [dep]
  | .last _ t => by have := dep_pos t; simp [dep]; omega
  | .next _ t => by have := dep_pos t; simp [dep]; omega
  | .shift _ t => by have := dep_pos t; simp [dep]; omega
  | .either a b => by have := dep_pos a; have := mx_l a.dep b.dep; simp [dep]; omega
  | .later a b => by have := dep_pos a; have := mx_l a.dep b.dep; simp [dep]; omega
  | .earlier a b => by have := dep_pos a; have := mx_l a.dep b.dep; simp [dep]; omega
/-- a spelling is no longer than three times its parts -/
theorem spell_len : ∀ t : Tm, ((spell t).length : Int) ≤ 3 * t.par
  | .now => by simp [spell, par]
  | .last _ t => by have := spell_len t; simp [spell, par]; omega
  | .next _ t => by have := spell_len t; simp [spell, par]; omega
  | .shift _ t => by have := spell_len t; simp [spell, par]; omega
  | .either a b => by have := spell_len a; have := spell_len b; simp [spell, par]; omega
  | .later a b => by have := spell_len a; have := spell_len b; simp [spell, par]; omega
  | .earlier a b => by have := spell_len a; have := spell_len b; simp [spell, par]; omega
/-- all streams are names -/
def Nm : Tm → Prop
  | .now => True
  | .last s t => (1 ≤ s.length ∧ s.length ≤ 8) ∧ Nm t
  | .next s t => (1 ≤ s.length ∧ s.length ≤ 8) ∧ Nm t
  | .shift _ t => Nm t
  | .either a b => Nm a ∧ Nm b
  | .later a b => Nm a ∧ Nm b
  | .earlier a b => Nm a ∧ Nm b
end Tm
/-- the classes of terms -/
structure TC where
  now : Addr
  last : Addr
  next : Addr
  shift : Addr
  either : Addr
  later : Addr
  earlier : Addr
def TC.of (C : TC) : Tm → Addr
  | .now => C.now
  | .last _ _ => C.last
  | .next _ _ => C.next
  | .shift _ _ => C.shift
  | .either _ _ => C.either
  | .later _ _ => C.later
  | .earlier _ _ => C.earlier
/-- one of the classes -/
def TC.Is (C : TC) (a : Addr) : Prop := a = C.now ∨ a = C.last ∨ a = C.next ∨ a = C.shift ∨ a = C.either ∨ a = C.later ∨ a = C.earlier
theorem TC.is_of (C : TC) (t : Tm) : C.Is (C.of t) := by
  cases t
  · exact .inl rfl
  · exact .inr (.inl rfl)
  · exact .inr (.inr (.inl rfl))
  · exact .inr (.inr (.inr (.inl rfl)))
  · exact .inr (.inr (.inr (.inr (.inl rfl))))
  · exact .inr (.inr (.inr (.inr (.inr (.inl rfl)))))
  · exact .inr (.inr (.inr (.inr (.inr (.inr rfl)))))
/-- what stands in each term -/
def fCom (sp : Addr) (t : Tm) : List (Str × V) := [("spelling", .ref sp), ("depth", .int t.dep), ("parts", .int t.par), ("looks", .int t.lok), ("choices", .int t.cho)]
/-- the term t at a -/
def TmAt (C : TC) (H : Hp) : Addr → Tm → Prop
  | a, .now => ∃ dx sp, H a = some (.ins C.now dx (fCom sp .now)) ∧ H sp = some (.tup (Tm.spell .now))
  | a, .last s t => ∃ dx b sp, H a = some (.ins C.last dx (("stream", .str s) :: ("term", .ref b) :: fCom sp (.last s t))) ∧ H sp = some (.tup (Tm.spell (.last s t))) ∧ TmAt C H b t
  | a, .next s t => ∃ dx b sp, H a = some (.ins C.next dx (("stream", .str s) :: ("term", .ref b) :: fCom sp (.next s t))) ∧ H sp = some (.tup (Tm.spell (.next s t))) ∧ TmAt C H b t
  | a, .shift n t => ∃ dx b sp, H a = some (.ins C.shift dx (("term", .ref b) :: ("amount", .int n) :: fCom sp (.shift n t))) ∧ H sp = some (.tup (Tm.spell (.shift n t))) ∧ TmAt C H b t
  | a, .either s t => ∃ dx b c sp, H a = some (.ins C.either dx (("first", .ref b) :: ("second", .ref c) :: fCom sp (.either s t))) ∧ H sp = some (.tup (Tm.spell (.either s t))) ∧ TmAt C H b s ∧ TmAt C H c t
  | a, .later s t => ∃ dx b c sp, H a = some (.ins C.later dx (("first", .ref b) :: ("second", .ref c) :: fCom sp (.later s t))) ∧ H sp = some (.tup (Tm.spell (.later s t))) ∧ TmAt C H b s ∧ TmAt C H c t
  | a, .earlier s t => ∃ dx b c sp, H a = some (.ins C.earlier dx (("first", .ref b) :: ("second", .ref c) :: fCom sp (.earlier s t))) ∧ H sp = some (.tup (Tm.spell (.earlier s t))) ∧ TmAt C H b s ∧ TmAt C H c t
/-- all but lists stands -/
def NL (H H' : Hp) : Prop := ∀ c o, H c = some o → (∀ xs, o ≠ .lst xs) → H' c = some o
theorem NL.trans {H H1 H2 : Hp} (a : NL H H1) (b : NL H1 H2) : NL H H2 := fun c o h n => b c o (a c o h n) n
theorem nl_same {H H' : Hp} (s : Same H H') : NL H H' := fun c o h _ => s c o h
theorem TmAt.nl {C : TC} {H H' : Hp} (n : NL H H') : ∀ {t : Tm} {a : Addr}, TmAt C H a t → TmAt C H' a t
  | .now, a, ⟨dx, sp, h1, h2⟩ => ⟨dx, sp, n _ _ h1 (fun _ z => nomatch z), n _ _ h2 (fun _ z => nomatch z)⟩
  | .last s t, a, ⟨dx, b, sp, h1, h2, h3⟩ => ⟨dx, b, sp, n _ _ h1 (fun _ z => nomatch z), n _ _ h2 (fun _ z => nomatch z), TmAt.nl n h3⟩
  | .next s t, a, ⟨dx, b, sp, h1, h2, h3⟩ => ⟨dx, b, sp, n _ _ h1 (fun _ z => nomatch z), n _ _ h2 (fun _ z => nomatch z), TmAt.nl n h3⟩
  | .shift s t, a, ⟨dx, b, sp, h1, h2, h3⟩ => ⟨dx, b, sp, n _ _ h1 (fun _ z => nomatch z), n _ _ h2 (fun _ z => nomatch z), TmAt.nl n h3⟩
  | .either s t, a, ⟨dx, b, c, sp, h1, h2, h3, h4⟩ => ⟨dx, b, c, sp, n _ _ h1 (fun _ z => nomatch z), n _ _ h2 (fun _ z => nomatch z), TmAt.nl n h3, TmAt.nl n h4⟩
  | .later s t, a, ⟨dx, b, c, sp, h1, h2, h3, h4⟩ => ⟨dx, b, c, sp, n _ _ h1 (fun _ z => nomatch z), n _ _ h2 (fun _ z => nomatch z), TmAt.nl n h3, TmAt.nl n h4⟩
  | .earlier s t, a, ⟨dx, b, c, sp, h1, h2, h3, h4⟩ => ⟨dx, b, c, sp, n _ _ h1 (fun _ z => nomatch z), n _ _ h2 (fun _ z => nomatch z), TmAt.nl n h3, TmAt.nl n h4⟩
theorem TmAt.same {C : TC} {H H' : Hp} {t : Tm} {a : Addr} (h : TmAt C H a t) (s : Same H H') : TmAt C H' a t := h.nl (nl_same s)
/-- what all terms have -/
theorem TmAt.ins {C : TC} {H : Hp} : ∀ {t : Tm} {a : Addr}, TmAt C H a t → ∃ dx fs sp, H a = some (.ins (C.of t) dx fs) ∧ H sp = some (.tup t.spell) ∧ ∃ x y : Str × V, (fs = fCom sp t ∨ fs = x :: y :: fCom sp t ∧ x.1 ∈ [("stream" : Str), "term", "first"] ∧ y.1 ∈ [("term" : Str), "amount", "second"])
  | .now, a, ⟨dx, sp, h1, h2⟩ => ⟨dx, _, sp, h1, h2, ("", .non), ("", .non), .inl rfl⟩
  | .last s t, a, ⟨dx, b, sp, h1, h2, h3⟩ => ⟨dx, _, sp, h1, h2, _, _, .inr ⟨rfl, by simp, by simp⟩⟩
  | .next s t, a, ⟨dx, b, sp, h1, h2, h3⟩ => ⟨dx, _, sp, h1, h2, _, _, .inr ⟨rfl, by simp, by simp⟩⟩
  | .shift s t, a, ⟨dx, b, sp, h1, h2, h3⟩ => ⟨dx, _, sp, h1, h2, _, _, .inr ⟨rfl, by simp, by simp⟩⟩
  | .either s t, a, ⟨dx, b, c, sp, h1, h2, h3, h4⟩ => ⟨dx, _, sp, h1, h2, _, _, .inr ⟨rfl, by simp, by simp⟩⟩
  | .later s t, a, ⟨dx, b, c, sp, h1, h2, h3, h4⟩ => ⟨dx, _, sp, h1, h2, _, _, .inr ⟨rfl, by simp, by simp⟩⟩
  | .earlier s t, a, ⟨dx, b, c, sp, h1, h2, h3, h4⟩ => ⟨dx, _, sp, h1, h2, _, _, .inr ⟨rfl, by simp, by simp⟩⟩
theorem skip2 {x y : Str × V} {l : List (Str × V)} {f : Str} (hx : x.1 ∈ [("stream" : Str), "term", "first"]) (hy : y.1 ∈ [("term" : Str), "amount", "second"]) (hf : f ∉ [("stream" : Str), "term", "first", "amount", "second"]) : List.lookup f (x :: y :: l) = List.lookup f l := by
  obtain ⟨x1, x2⟩ := x
  obtain ⟨y1, y2⟩ := y
  have e1 : (f == x1) = false := by
    refine beq_eq_false_iff_ne.mpr fun z => hf ?_
    subst z
    simp only [List.mem_cons, List.not_mem_nil, or_false] at hx ⊢
    rcases hx with h | h | h <;> simp [h]
  have e2 : (f == y1) = false := by
    refine beq_eq_false_iff_ne.mpr fun z => hf ?_
    subst z
    simp only [List.mem_cons, List.not_mem_nil, or_false] at hy ⊢
    rcases hy with h | h | h <;> simp [h]
  simp only [List.lookup, e1, e2]
/-- the attributes that all terms have -/
structure TmIn (C : TC) (H : Hp) (a : Addr) (t : Tm) (dx : Addr) (fs : List (Str × V)) (sp : Addr) : Prop where
  at_ : H a = some (.ins (C.of t) dx fs)
  spl : H sp = some (.tup t.spell)
  spelling : fs.lookup ("spelling" : Str) = some (.ref sp)
  depth : fs.lookup ("depth" : Str) = some (.int t.dep)
  parts : fs.lookup ("parts" : Str) = some (.int t.par)
  looks : fs.lookup ("looks" : Str) = some (.int t.lok)
  choices : fs.lookup ("choices" : Str) = some (.int t.cho)
  no : ∀ f : Str, f ∉ [("stream" : Str), "term", "first", "amount", "second"] → f ∉ [("spelling" : Str), "depth", "parts", "looks", "choices"] → fs.lookup f = none
theorem fCom_no {sp : Addr} {t : Tm} {f : Str} (h : f ∉ [("spelling" : Str), "depth", "parts", "looks", "choices"]) : (fCom sp t).lookup f = none := by
  simp only [List.mem_cons, List.not_mem_nil, or_false, not_or] at h
  obtain ⟨h1, h2, h3, h4, h5⟩ := h
  simp [fCom, List.lookup, beq_eq_false_iff_ne.mpr h1, beq_eq_false_iff_ne.mpr h2, beq_eq_false_iff_ne.mpr h3, beq_eq_false_iff_ne.mpr h4, beq_eq_false_iff_ne.mpr h5]
theorem TmAt.in_ {C : TC} {H : Hp} {t : Tm} {a : Addr} (h : TmAt C H a t) : ∃ dx fs sp, TmIn C H a t dx fs sp := by
  obtain ⟨dx, fs, sp, h1, h2, x, y, e⟩ := h.ins
  refine ⟨dx, fs, sp, h1, h2, ?_, ?_, ?_, ?_, ?_, fun f n1 n2 => ?_⟩
  · rcases e with rfl | ⟨rfl, ex, ey⟩
    · rfl
    · rw [skip2 ex ey (by decide +kernel)]; rfl
  · rcases e with rfl | ⟨rfl, ex, ey⟩
    · rfl
    · rw [skip2 ex ey (by decide +kernel)]; rfl
  · rcases e with rfl | ⟨rfl, ex, ey⟩
    · rfl
    · rw [skip2 ex ey (by decide +kernel)]; rfl
  · rcases e with rfl | ⟨rfl, ex, ey⟩
    · rfl
    · rw [skip2 ex ey (by decide +kernel)]; rfl
  · rcases e with rfl | ⟨rfl, ex, ey⟩
    · rfl
    · rw [skip2 ex ey (by decide +kernel)]; rfl
  · rcases e with rfl | ⟨rfl, ex, ey⟩
    · exact fCom_no n2
    · rw [skip2 ex ey n1]; exact fCom_no n2
end Ash

set_option Elab.async false
set_option linter.all false
set_option maxRecDepth 100000
set_option maxHeartbeats 4000000
namespace L2
open PySem PySem.Spec PyProof.Rows
def rGtT (K : PySem.W.Frag) : R2 := fun x y H Q => ∃ (a b : Addr) (i j k l : Int), x = .ref a ∧ y = .ref b ∧ SqT K H a [.int i, .int j] ∧ SqT K H b [.int k, .int l] ∧
  Q (.bl (if i = k then (if j = l then false else decide (l < j)) else decide (k < i))) H
/-- (i, j) > (k, l) -/
theorem op_gtT {X : Cx} (hu : X.A.units < cLine) : OpR X (compareOp .Gt) (rGtT X.K) := by
  intro pins s σ H x y v u Q I rx ry h
  obtain ⟨a, b, i0, j0, k0, l0, rfl, rfl, ha, hb, q⟩ := h
  cases rx
  cases ry
  obtain ⟨its, r1, p1, _⟩ := I.tuple ha
  obtain ⟨its2, r2, p2, _⟩ := I.tuple hb
  obtain ⟨ns, hns⟩ : ∃ ns : List Int, ns = [i0, j0] := ⟨_, rfl⟩
  obtain ⟨ms, hms⟩ : ∃ ms : List Int, ms = [k0, l0] := ⟨_, rfl⟩
  have i1 : IntsAre its ns := Vals.ints (by rw [hns]; exact r1)
  have i2 : IntsAre its2 ms := Vals.ints (by rw [hms]; exact r2)
  have e1 : its.toArray.size = ns.length := by rw [List.size_toArray]; exact i1.length
  have e2 : its2.toArray.size = ms.length := by rw [List.size_toArray]; exact i2.length
  have at1 : ∀ j (h1 : j < its.toArray.size), ∃ t, its.toArray[j] = .int (ns.getD j 0) t := fun j h1 => PyProof.Rows.IntsAre.int_at i1 _ _ (by simp at h1; simp [h1])
  have at2 : ∀ j (h1 : j < its2.toArray.size), ∃ t, its2.toArray[j] = .int (ms.getD j 0) t := fun j h1 => PyProof.Rows.IntsAre.int_at i2 _ _ (by simp at h1; simp [h1])
  have R := Ob.RcOp.tuples_gt (A := X.A) (s := s) (e := fun j => decide (ns.getD j 0 = ms.getD j 0)) (r := fun j => decide (ms.getD j 0 < ns.getD j 0)) p1 p2 hu (fun j h1 h2 => by
    obtain ⟨t, et⟩ := at1 j h1
    obtain ⟨t', et'⟩ := at2 j h2
    rw [et, et']
    have z : (ns.getD j 0 == ms.getD j 0) = decide (ns.getD j 0 = ms.getD j 0) := by
      by_cases q : ns.getD j 0 = ms.getD j 0
      · rw [decide_eq_true q]; exact beq_iff_eq.mpr q
      · rw [decide_eq_false q]; exact beq_eq_false_iff_ne.mpr q
    rw [← z]
    exact SeqAt.EqAt.int_int _ _ _ _) (fun j h1 h2 _ => by
    obtain ⟨t, et⟩ := at1 j h1
    obtain ⟨t', et'⟩ := at2 j h2
    rw [et, et']
    exact Ob.RcOp.gt_int _ _ _ _)
  rw [e1, e2, hns, hms] at R
  have z : wpAny (model X.prog X.w) X.A (compareOp .Gt (.ref a) (.ref b)) (EP X pins σ Q) X.xe s := by
    refine R X.prog X.w X.xe (EP X pins σ Q) ⟨.bl _, H, I, rfl, ?_⟩
    have ee : Ob.lexAt (fun j => decide (([i0, j0] : List Int).getD j 0 = ([k0, l0] : List Int).getD j 0)) (fun j => decide (([k0, l0] : List Int).getD j 0 < ([i0, j0] : List Int).getD j 0)) (decide (([i0, j0] : List Int).length > ([k0, l0] : List Int).length)) 0 (min ([i0, j0] : List Int).length ([k0, l0] : List Int).length) = (if i0 = k0 then (if j0 = l0 then false else decide (l0 < j0)) else decide (k0 < i0)) := by
      show Ob.lexAt _ _ _ 0 2 = _
      rw [Ob.lexAt_succ, Ob.lexAt_succ, Ob.lexAt_zero]
      show (if decide (i0 = k0) = true then (if decide (j0 = l0) = true then decide (2 > 2) else decide (l0 < j0)) else decide (k0 < i0)) = _
      by_cases c1 : i0 = k0 <;> by_cases c2 : j0 = l0 <;> simp [c1, c2]
    rw [← ee] at q
    exact q
  exact z
end L2
namespace Ash
open PySem PySem.Spec PyProof.Rows L2 SrtT
open C8 (pss_cut)
/-! ### rows by streams, as data -/
theorem none_of {H H' : Hp} {q : Addr} (s : Same H H') (h : H' q = none) : H q = none := by
  cases e : H q with
  | none => rfl
  | some o => rw [s _ _ e] at h; cases h
theorem list_take {α : Type} {l : List α} {i : Nat} {x : α} (h : l[i]? = some x) : l.take (i + 1) = l.take i ++ [x] := by
  rw [List.take_add_one, h]
  rfl
def tv (t : T3) : List V := [.int t.1, .int t.2.1, .int t.2.2]
/-- ys are tuples of the triples ts -/
def TrAt (H : Hp) (ys : List V) (ts : List T3) : Prop := ys.length = ts.length ∧ ∀ (i : Nat) v t, ys[i]? = some v → ts[i]? = some t → ∃ e, v = .ref e ∧ H e = some (.tup (tv t))
theorem TrAt.tk {H H' : Hp} {ys : List V} {ts : List T3} (h : TrAt H ys ts) (s : ∀ t xs, H t = some (.tup xs) → H' t = some (.tup xs)) : TrAt H' ys ts := ⟨h.1, fun i v t a b => by
  obtain ⟨e, h1, h2⟩ := h.2 i v t a b
  exact ⟨e, h1, s _ _ h2⟩⟩
theorem TrAt.snoc {H : Hp} {ys : List V} {ts : List T3} {e : Addr} {t : T3} (h : TrAt H ys ts) (he : H e = some (.tup (tv t))) : TrAt H (ys ++ [.ref e]) (ts ++ [t]) := by
  refine ⟨by rw [List.length_append, List.length_append, h.1]; rfl, fun i v u a b => ?_⟩
  by_cases hi : i < ys.length
  · rw [List.getElem?_append_left hi] at a
    rw [List.getElem?_append_left (by rw [← h.1]; exact hi)] at b
    exact h.2 i v u a b
  · have hi' : i = ys.length := by
      have := (List.getElem?_eq_some_iff.mp a).1
      rw [List.length_append] at this
      have : i < ys.length + 1 := this
      omega
    subst hi'
    rw [List.getElem?_append_right (Nat.le_refl _), Nat.sub_self] at a
    rw [h.1, List.getElem?_append_right (Nat.le_refl _), Nat.sub_self] at b
    cases a
    cases b
    exact ⟨e, rfl, he⟩
/-- the triple of a tuple -/
def triOf (H : Hp) : V → T3
  | .ref e => match H e with
    | some (.tup [.int a, .int b, .int c]) => (a, b, c)
    | _ => (0, 0, 0)
  | _ => (0, 0, 0)
theorem triOf_at {H : Hp} {e : Addr} {t : T3} (h : H e = some (.tup (tv t))) : triOf H (.ref e) = t := by
  show (match H e with
    | some (.tup [.int a, .int b, .int c]) => (a, b, c)
    | _ => (0, 0, 0)) = t
  rw [h]
  rfl
theorem TrAt.map {H : Hp} {ys : List V} {ts : List T3} (h : TrAt H ys ts) : ys.map (triOf H) = ts := by
  apply List.ext_getElem?
  intro i
  rw [List.getElem?_map]
  by_cases hi : i < ys.length
  · have hj : i < ts.length := by rw [← h.1]; exact hi
    obtain ⟨e, h1, h2⟩ := h.2 i _ _ (List.getElem?_eq_getElem hi) (List.getElem?_eq_getElem hj)
    rw [List.getElem?_eq_getElem hi, List.getElem?_eq_getElem hj, h1, Option.map_some, triOf_at h2]
  · rw [List.getElem?_eq_none (by omega), List.getElem?_eq_none (by rw [← h.1]; omega)]
    rfl
theorem TrAt.get {H : Hp} {ys : List V} {ts : List T3} (h : TrAt H ys ts) {i : Nat} {t : T3} (e : ts[i]? = some t) : ∃ a, ys[i]? = some (.ref a) ∧ H a = some (.tup (tv t)) := by
  have hi : i < ys.length := by rw [h.1]; exact (List.getElem?_eq_some_iff.mp e).1
  obtain ⟨a, h1, h2⟩ := h.2 i _ _ (List.getElem?_eq_getElem hi) e
  exact ⟨a, by rw [List.getElem?_eq_getElem hi, h1], h2⟩
abbrev Tr := Str → List T3
def idsOf (names : List Str) (T : Tr) : List Int := names.flatMap fun z => (T z).map (·.2.1)
def addT (T : Tr) (z : Str) (t : T3) : Tr := fun y => if y = z then T z ++ [t] else T y
theorem addT_at {T : Tr} {z : Str} {t : T3} : addT T z t z = T z ++ [t] := if_pos rfl
theorem addT_no {T : Tr} {z y : Str} {t : T3} (h : ¬ y = z) : addT T z t y = T y := if_neg h
theorem ids_skip {T : Tr} {z : Str} {t : T3} : ∀ {names : List Str}, z ∉ names → idsOf names (addT T z t) = idsOf names T
  | [], _ => rfl
  | a :: r, h => by
    have h1 : ¬ a = z := fun q => h (by rw [q]; exact List.mem_cons_self)
    show (addT T z t a).map (·.2.1) ++ idsOf r (addT T z t) = (T a).map (·.2.1) ++ idsOf r T
    rw [addT_no h1, ids_skip (fun q => h (List.mem_cons_of_mem _ q))]
theorem ids_add {T : Tr} {z : Str} {t : T3} : ∀ {names : List Str}, names.Nodup → z ∈ names → (idsOf names (addT T z t)).Perm (idsOf names T ++ [t.2.1])
  | [], _, h => nomatch h
  | a :: r, hn, h => by
    obtain ⟨h1, h2⟩ := List.nodup_cons.mp hn
    show ((addT T z t a).map (·.2.1) ++ idsOf r (addT T z t)).Perm ((T a).map (·.2.1) ++ idsOf r T ++ [t.2.1])
    by_cases e : a = z
    · subst e
      rw [ids_skip h1, addT_at, List.map_append, List.append_assoc, List.append_assoc]
      exact List.Perm.append_left _ (List.perm_append_comm)
    · rw [addT_no e, List.append_assoc]
      exact List.Perm.append_left _ (ids_add h2 ((List.mem_cons.mp h).resolve_left fun q => e q.symm))
theorem mem_ids {names : List Str} {T : Tr} {i : Int} : i ∈ idsOf names T ↔ ∃ z ∈ names, ∃ t ∈ T z, t.2.1 = i := by
  unfold idsOf
  simp only [List.mem_flatMap, List.mem_map]
theorem ids_sub {names : List Str} {T : Tr} {z : Str} : z ∈ names → ((T z).map (·.2.1)).Sublist (idsOf names T) := fun h => by
  unfold idsOf
  induction names with
  | nil => cases h
  | cons a r ih =>
    rw [List.flatMap_cons]
    rcases List.mem_cons.mp h with rfl | h
    · exact List.sublist_append_left _ _
    · exact (ih h).trans (List.sublist_append_right _ _)
/-- rows whose ids are told apart -/
structure GoodT (names : List Str) (T : Tr) (n : Nat) : Prop where
  len : (idsOf names T).length = n
  nd : (idsOf names T).Nodup
  lo : ∀ i ∈ idsOf names T, 0 ≤ i
theorem GoodT.few {names : List Str} {T : Tr} {n : Nat} {z : Str} (g : GoodT names T n) (h : z ∈ names) : (T z).length ≤ n := by
  have := (ids_sub (T := T) h).length_le
  rw [List.length_map, g.len] at this
  exact this
theorem GoodT.apart {names : List Str} {T : Tr} {n : Nat} {z : Str} (g : GoodT names T n) (h : z ∈ names) : ((T z).map (·.2.1)).Nodup := g.nd.sublist (ids_sub h)
/-- the rows of each stream, in the lists of a dict -/
structure RwAt (H : Hp) (d : Addr) (names : List Str) (A : Str → Addr) (T : Tr) : Prop where
  at_ : H d = some (.dK (names.map fun z => (Sum.inr z, V.ref (A z))))
  row : ∀ z ∈ names, ∃ ys, H (A z) = some (.lst ys) ∧ TrAt H ys (T z)
  inj : ∀ z ∈ names, ∀ y ∈ names, A z = A y → z = y
theorem RwAt.same {H H' : Hp} {d : Addr} {names : List Str} {A : Str → Addr} {T : Tr} (h : RwAt H d names A T) (s : Same H H') : RwAt H' d names A T :=
  ⟨s _ _ h.at_, fun z hz => by
    obtain ⟨ys, h1, h2⟩ := h.row z hz
    exact ⟨ys, s _ _ h1, h2.tk fun t xs q => s _ _ q⟩, h.inj⟩
theorem RwAt.pl {H H' : Hp} {p s d : Addr} {names : List Str} {A : Str → Addr} {T : Tr} (h : RwAt H d names A T) (P0 : PoolAt H p s) (n : ∀ z ∈ names, A z ≠ p) (P : Pl H H' p s) : RwAt H' d names A T := by
  obtain ⟨ns, i, c, k, m, hp, _⟩ := id P0
  exact ⟨P.keep h.at_ (ne_of h.at_ hp (by intro z; cases z)), fun z hz => by
    obtain ⟨ys, h1, h2⟩ := h.row z hz
    exact ⟨ys, P.keep h1 (n z hz), h2.tk fun t xs q => P.keep q (ne_of q hp (by intro z; cases z))⟩, h.inj⟩
theorem valV_nm {A : Str → V} {z : Str} : ∀ {names : List Str}, valV (names.map fun z => ((Sum.inr z : Key), A z)) (Sum.inr z : Key) = if z ∈ names then some (A z) else none
  | [] => rfl
  | a :: r => by
    rw [List.map_cons]
    by_cases e : a = z
    · subst e
      rw [valV_pos rfl, if_pos List.mem_cons_self]
    · rw [valV_neg (fun q => e (Sum.inr.inj q)), valV_nm]
      by_cases h : z ∈ r
      · rw [if_pos h, if_pos (List.mem_cons_of_mem _ h)]
      · rw [if_neg h, if_neg (fun q => (List.mem_cons.mp q).elim (fun q => e q.symm) h)]
/-- one more row -/
theorem RwAt.add {H1 : Hp} {d e : Addr} {names : List Str} {A : Str → Addr} {T : Tr} {z : Str} {t : T3} {ys : List V} (h : RwAt H1 d names A T) (hz : z ∈ names) (hy : H1 (A z) = some (.lst ys)) (hT : TrAt H1 ys (T z)) (he : H1 e = some (.tup (tv t))) :
    RwAt (upd H1 (A z) (.lst (ys ++ [.ref e]))) d names A (addT T z t) := by
  have tk : ∀ t xs, H1 t = some (.tup xs) → (upd H1 (A z) (.lst (ys ++ [.ref e]))) t = some (.tup xs) := fun t xs q => by rw [upd_ne (ne_of q hy (by intro z; cases z))]; exact q
  refine ⟨by rw [upd_ne (ne_of h.at_ hy (by intro z; cases z))]; exact h.at_, fun y hy2 => ?_, h.inj⟩
  by_cases c : y = z
  · subst c
    rw [addT_at]
    exact ⟨_, upd_same, (hT.tk tk).snoc (tk _ _ he)⟩
  · rw [addT_no c]
    obtain ⟨us, h1, h2⟩ := h.row y hy2
    exact ⟨us, by rw [upd_ne (fun q => c (h.inj y hy2 z hz q))]; exact h1, h2.tk tk⟩
/-- a moment, or an amount, is not far -/
def Bd (m : Int) : Prop := -10000000000000000000000 ≤ m ∧ m ≤ 10000000000000000000000
def spMoment : Sp := fun vs H Q _ => ∃ (p s : Addr), vs = [.ref p] ∧ PoolAt H p s ∧ ∀ (m : Int) H', Bd m → Pl H H' p s → Q (.int m) H'
def spLWRows : Sp := fun vs H Q _ => ∃ (p s l : Addr) (names : List Str) (many : Int), vs = [.ref p, .ref l, .int many] ∧ PoolAt H p s ∧ l ≠ p ∧ H l = some (.lst (names.map V.str)) ∧ 1 ≤ names.length ∧ names.length ≤ 25 ∧ names.Nodup ∧ 0 ≤ many ∧ many ≤ 100 ∧
  ∀ (d : Addr) (A : Str → Addr) (T : Tr) H', H d = none → (∀ z ∈ names, H (A z) = none) → RwAt H' d names A T → GoodT names T many.toNat → (∀ i ∈ idsOf names T, i < 11 * many) → (∀ y, ∀ t ∈ T y, Bd t.2.2) → Pl H H' p s → Q (.ref d) H'
theorem bd_far {y u : Int} (y0 : 0 ≤ y) (y8 : y < 2000001) (u0 : 0 ≤ u) (u8 : u < 5) : Bd ((y - 1000000) * (10 : Int) ^ (15 : Int).toNat + u) := by
  have e : (10 : Int) ^ (15 : Int).toNat = 1000000000000000 := by decide
  rw [e]
  unfold Bd
  omega
section
variable {P : Program} {w : World} {K : PySem.W.Frag} {mg : Str → Option Value} {base : Heap}
abbrev s_l_moment : Stmt := topS 74
theorem sc_l_moment : FnScope ["pool"] ["pool"] (defScope s_l_moment) := ⟨rfl, rfl, rfl, by decide +kernel, rfl, by decide +kernel, by decide +kernel⟩
theorem ok_moment {f : Addr} {fd : FuncData} (F : Fun K "_law_moment" "_law_moment" s_l_moment f fd) (B : Blt mg) (G : G1 P w K mg base) : FnOk P w K mg base CX0 2 f fd ["pool"] spMoment := by
  refine F.ok sc_l_moment (fun vs H Q E h => ?_) (fun cdv A outer s H vs Q E hr h => ?_)
  · obtain ⟨p, _, rfl, _⟩ := h
    rfl
  · obtain ⟨p, s0, rfl, hP, kk⟩ := h
    refine ⟨_, (pss_cons (ps_if (pt_cmpR op_eq (pe_cal G.law_draw (hr.mono (by decide)) pass0 (pa_cons (pv 0) (pa_cons pe_int pa_nil))) pe_int (nomark _))
      (pss_one (ps_ret (pe_op op_add (pe_op op_mul (pe_op op_sub (pe_cal G.law_draw (hr.mono (by decide)) pass0 (pa_cons (pv 0) (pa_cons pe_int pa_nil))) pe_int) (pe_op op_pow pe_int pe_int)) (pe_cal G.law_draw (hr.mono (by decide)) pass0 (pa_cons (pv 0) (pa_cons pe_int pa_nil))))))
      pss_nil)
    (pss_one (ps_ret (pe_op op_sub (pe_cal G.law_draw (hr.mono (by decide)) pass0 (pa_cons (pv 0) (pa_cons pe_int pa_nil))) pe_int)))), ?_⟩
    refine ⟨_, rfl, p, s0, 8, rfl, hP, (by decide), (by decide), fun x H1 x0 x8 P1 => ⟨rfl, _, rfl, ?_⟩⟩
    refine ite2 (fun c => ?_) (fun c => ?_)
    · refine ⟨_, rfl, p, s0, 2000001, rfl, P1.now, (by decide), (by decide), fun y H2 y0 y8 P2 => ?_⟩
      refine ⟨_, _, rfl, rfl, _, _, rfl, rfl, ⟨by decide, by decide, by decide⟩, _, _, rfl, rfl, .inl ⟨by omega, by omega⟩, _, rfl, p, s0, 5, rfl, P2.now, (by decide), (by decide), fun u H3 u0 u8 P3 => ⟨_, _, rfl, rfl, kk _ H3 (bd_far y0 y8 u0 u8) ((P1.trans P2).trans P3)⟩⟩
    · refine ⟨_, rfl, p, s0, 15, rfl, P1.now, (by decide), (by decide), fun y H2 y0 y8 P2 => ⟨_, _, rfl, rfl, kk _ H2 (by unfold Bd; omega) (P1.trans P2)⟩⟩
structure G2w (P : Program) (w : World) (K : PySem.W.Frag) (mg : Str → Option Value) (base : Heap) : Prop extends G1 P w K mg base where
  law_moment : Cal P w K mg base CX0 "_law_moment" 2 ["pool"] spMoment
abbrev s_l_rows : Stmt := topS 75
theorem sc_l_rows : FnScope ["pool", "streams", "many", "rows", "stream", "k"] ["pool", "streams", "many"] (defScope s_l_rows) := ⟨rfl, rfl, rfl, by decide +kernel, rfl, by decide +kernel, by decide +kernel⟩
theorem ok_wrows {f : Addr} {fd : FuncData} (F : Fun K "_law_rows" "_law_rows" s_l_rows f fd) (B : Blt mg) (G : G2w P w K mg base) : FnOk P w K mg base CX0 3 f fd ["pool", "streams", "many"] spLWRows := by
  refine F.ok sc_l_rows (fun vs H Q E h => ?_) (fun cdv A outer s H vs Q E hr h => ?_)
  · obtain ⟨p, _, l, names, many, rfl, _⟩ := h
    rfl
  · obtain ⟨p, s0, l, names, many, rfl, hP, hlp, hl, n1, n25, hnd, m0, m100, kk⟩ := h
    have hu := hu_of hr
    refine ⟨_, (pss_cons (ps_set (i := 3) sc_l_rows.nd rfl (Or.inl rfl) pe_dnewK)
    (pss_cons (ps_for PassesOwn.never rfl (pi_list (pv 1)) (pg_name (i := 4) sc_l_rows.nd rfl (Or.inl rfl))
      (pss_one (ps_dput hu (pv 3) (pv 4) (pe_lst pa_nil) rfl)))
    (pss_cons (ps_for PassesOwn.never rfl (pi_range1 (by rfl) B.range (pa_cons (pv 2) pa_nil)) (pg_name (i := 5) sc_l_rows.nd rfl (Or.inl rfl))
      (pss_cons (ps_set (i := 4) sc_l_rows.nd rfl (Or.inl rfl) (pe_ix ix_list (pv 1) (pe_cal G.law_draw (hr.mono (by decide)) pass0 (pa_cons (pv 0) (pa_cons (pe_callB call_len (by rfl) B.len (by decide +kernel) (pa_cons (pv 1) pa_nil)) pa_nil))) (fun _ _ => rfl)))
      (pss_one (ps_expr (pe_bm PySem.F.plainAttrs_list PySem.F.slot_list_append PySem.F.type_list_append mt_append (pe_dget hu (pv 3) (pv 4) (fun _ _ => rfl)) (pa_cons (pe_tup (pa_cons (pe_cal G.law_moment (hr.mono (by decide)) pass0 (pa_cons (pv 0) pa_nil)) (pa_cons (pe_op op_add (pe_op op_mul pe_int (pv 5)) (pe_cal G.law_draw (hr.mono (by decide)) pass0 (pa_cons (pv 0) (pa_cons pe_int pa_nil)))) (pa_cons (pe_cal G.law_moment (hr.mono (by decide)) pass0 (pa_cons (pv 0) pa_nil)) pa_nil)))) pa_nil))))))
    (pss_one (ps_ret (pv 3)))))), ?_⟩
    intro d hd
    have dp : d ≠ p := fun z => hP.ne.1 (z ▸ hd)
    have ds : d ≠ s0 := fun z => hP.ne.2 (z ▸ hd)
    have dl : l ≠ d := fun z => by rw [← z, hl] at hd; cases hd
    refine ⟨_, rfl, l, rfl, ⟨_, SqL.of (by rw [upd_ne dl]; exact hl)⟩, for_list (K := K) (a := l) (xs := names.map V.str) (fun i σ H1 => (∃ a b, σ = [some (.ref p), some (.ref l), some (.int many), some (.ref d), a, b]) ∧ Same H H1 ∧ ∃ A : Str → Addr, (H1 d = some (.dK ((names.take i).map fun z => (Sum.inr z, V.ref (A z))))) ∧ (∀ z ∈ names.take i, H1 (A z) = some (.lst []) ∧ H (A z) = none ∧ A z ≠ d) ∧ ∀ z ∈ names.take i, ∀ y ∈ names.take i, A z = A y → z = y) ?_ (fun i σ H1 _ hv => SqL.of (hv.2.1 _ _ hl)) ?_ ?_⟩
    · exact ⟨⟨_, _, rfl⟩, sameAt (Same.refl H) hd, fun _ => d, upd_same, (fun z hz => nomatch hz), (fun z hz => nomatch hz)⟩
    · rintro i y σ H1 hi ⟨⟨a, b, rfl⟩, s1, A, h1, h2, h3⟩
      obtain ⟨z, hz, rfl⟩ : ∃ z, names[i]? = some z ∧ y = V.str z := by
        rw [List.getElem?_map] at hi
        cases e : names[i]? with
        | none => rw [e] at hi; cases hi
        | some z => rw [e] at hi; exact ⟨z, rfl, (Option.some.inj hi).symm⟩
      have hzt : z ∉ names.take i := fun hm => by
        obtain ⟨j, hj, e⟩ := List.getElem_of_mem hm
        rw [List.length_take] at hj
        rw [List.getElem_take] at e
        have := nd_ix hnd (List.getElem?_eq_some_iff.mpr ⟨by omega, e⟩) hz
        omega
      have tl : (names.take i).length ≤ 25 := by rw [List.length_take]; omega
      refine ⟨(by show 0 ≤ sizeLine; decide), fun e he => ?_⟩
      have e0 : H e = none := none_of s1 he
      have ed : e ≠ d := fun q => by rw [q, h1] at he; cases he
      refine ⟨_, rfl, _, rfl, d, _, rfl, DPut.k (k := Sum.inr z) (by rw [upd_ne (Ne.symm ed)]; exact h1) (by rw [List.length_map]; exact small1000 (by omega)), ⟨_, _, rfl⟩, ?_, fun y => if y = z then e else A y, ?_, ?_, ?_⟩
      · exact fun c o hc => by rw [upd_ne (ne_of_none hc hd), upd_ne (ne_of_none hc e0)]; exact s1 _ _ hc
      · rw [upd_same, putK_new _ (by rw [valV_nm, if_neg hzt]), list_take hz, List.map_append]
        show some (HO.dK (_ ++ [(Sum.inr z, V.ref e)])) = some (HO.dK (_ ++ [(Sum.inr z, V.ref (if z = z then e else A z))]))
        rw [if_pos rfl]
        refine congrArg (fun q => some (HO.dK (q ++ [((Sum.inr z : Key), V.ref e)]))) (List.map_congr_left fun y hy => ?_)
        show (Sum.inr y, V.ref (A y)) = ((Sum.inr y : Key), V.ref (if y = z then e else A y))
        rw [if_neg (fun q : y = z => hzt (by rw [← q]; exact hy))]
      · intro y hy
        rw [list_take hz] at hy
        show upd _ _ _ (if y = z then e else A y) = _ ∧ H (if y = z then e else A y) = none ∧ (if y = z then e else A y) ≠ d
        rcases List.mem_append.mp hy with hy | hy
        · have hn : ¬ y = z := fun q => hzt (by rw [← q]; exact hy)
          obtain ⟨q1, q2, q3⟩ := h2 y hy
          have qe : A y ≠ e := fun q => by rw [q, he] at q1; cases q1
          rw [if_neg hn]
          exact ⟨by rw [upd_ne q3, upd_ne qe]; exact q1, q2, q3⟩
        · rw [List.mem_singleton.mp hy, if_pos rfl]
          exact ⟨by rw [upd_ne ed, upd_same], e0, ed⟩
      · intro y hy x hx
        rw [list_take hz] at hy hx
        show (if y = z then e else A y) = (if x = z then e else A x) → _
        have nz : ∀ u ∈ names.take i, ¬ u = z := fun u hu q => hzt (by rw [← q]; exact hu)
        have ne : ∀ u ∈ names.take i, A u ≠ e := fun u hu q => by
          have := (h2 u hu).1
          rw [q, he] at this
          cases this
        rcases List.mem_append.mp hy with hy | hy <;> rcases List.mem_append.mp hx with hx | hx
        · rw [if_neg (nz y hy), if_neg (nz x hx)]
          exact h3 y hy x hx
        · rw [List.mem_singleton.mp hx, if_neg (nz y hy), if_pos rfl]
          exact fun q => absurd q (ne y hy)
        · rw [List.mem_singleton.mp hy, if_neg (nz x hx), if_pos rfl]
          exact fun q => absurd q.symm (ne x hx)
        · rw [List.mem_singleton.mp hx, List.mem_singleton.mp hy]
          exact fun _ => rfl
    · rintro σ H1 ⟨⟨a, b, rfl⟩, s1, A, h1, h2, h3⟩
      rw [List.length_map, List.take_length] at h1 h2 h3
      have hAp : ∀ z ∈ names, A z ≠ p := fun z hz q => hP.ne.1 (q ▸ (h2 z hz).2.1)
      refine ⟨_, rfl, _, rfl, (by omega), (by omega), for_range (n := many.toNat) (fun k σ H2 => (∃ a b, σ = [some (.ref p), some (.ref l), some (.int many), some (.ref d), a, b]) ∧ ∃ T : Tr, RwAt H2 d names A T ∧ GoodT names T k ∧ (∀ i ∈ idsOf names T, i < 11 * (k : Int)) ∧ Pl H H2 p s0 ∧ H2 l = some (.lst (names.map V.str)) ∧ ∀ y, ∀ t ∈ T y, Bd t.2.2) ?_ ?_ ?_⟩
      · refine ⟨⟨_, _, rfl⟩, fun _ => [], ⟨h1, fun z hz => ⟨[], (h2 z hz).1, rfl, fun i v t a b => by simp at a⟩, h3⟩, ?_, ?_, (Pl.refl hP).same s1, s1 _ _ hl, fun y t ht => nomatch ht⟩
        · have e : idsOf names (fun _ => []) = [] := by
            unfold idsOf
            induction names with
            | nil => rfl
            | cons a r ih => simp
          exact ⟨by rw [e]; rfl, by rw [e]; exact List.nodup_nil, by rw [e]; exact fun i hi => nomatch hi⟩
        · intro i hi
          obtain ⟨z, _, t, ht, _⟩ := mem_ids.mp hi
          cases ht
      · rintro k σ H2 hk ⟨⟨a, b, rfl⟩, T, R, G2, up, P2, hl2, bd⟩
        refine ⟨_, rfl, _, rfl, _, rfl, _, _, rfl, .inl ⟨_, SqL.of hl2, rfl⟩, p, s0, _, rfl, P2.now, (by rw [List.length_map]; omega), Int.lt_of_le_of_lt (show ((names.map V.str).length : Int) ≤ 25 by rw [List.length_map]; omega) (by decide), fun g H3 g0 g1 P3 => ?_⟩
        rw [List.length_map] at g1
        obtain ⟨j, rfl⟩ : ∃ j : Nat, g = (j : Int) := ⟨g.toNat, by omega⟩
        have hj : j < names.length := by omega
        have hz : names[j] ∈ names := List.getElem_mem hj
        generalize hzz : names[j] = z at hz
        refine ⟨_, _, _, .str z, rfl, rfl, SqL.of (P3.keep hl2 hlp), atI_nat (by rw [List.getElem?_map, List.getElem?_eq_getElem hj, hzz]; rfl), ?_⟩
        have R3 := R.pl P2.now hAp P3
        have P13 := P2.trans P3
        have hg := DGet.k (k := Sum.inr z) R3.at_
        rw [valV_nm, if_pos hz] at hg
        obtain ⟨ys3, hy3, _⟩ := R3.row z hz
        refine ⟨_, rfl, _, rfl, d, _, rfl, hg, .inl ⟨rfl, _, SqL.of hy3⟩, ?_⟩
        -- the moment
        refine ⟨_, rfl, p, s0, rfl, P3.now, fun m1 H4 _ P4 => ?_⟩
        have R4 := R3.pl P3.now hAp P4
        refine ⟨_, rfl, _, _, rfl, rfl, .inl ⟨by decide, by decide⟩, _, rfl, p, s0, 11, rfl, P4.now, (by decide), (by decide), fun u H5 u0 u11 P5 => ⟨_, _, rfl, rfl, ?_⟩⟩
        have R5 := R4.pl P4.now hAp P5
        refine ⟨_, rfl, p, s0, rfl, P5.now, fun m2 H6 hm2 P6 => ?_⟩
        have R6 := R5.pl P5.now hAp P6
        have P16 := (((P13.trans P4).trans P5).trans P6)
        refine ⟨(by show 3 ≤ sizeLine; decide), fun e he => ?_⟩
        have R7 : RwAt (upd H6 e (.tup (tv (m1, 11 * (0 + (k : Int)) + u, m2)))) d names A T := R6.same (sameAt (Same.refl H6) he)
        obtain ⟨ys, hy, hT⟩ := R7.row z hz
        have G2z := G2.few hz
        have yl := hT.1
        have P17 : Pl H (upd H6 e (.tup (tv (m1, 11 * (0 + (k : Int)) + u, m2)))) p s0 := P16.new he
        refine ⟨A z, ys, _, rfl, rfl, hy, (by rw [yl]; exact small1000 (by omega)), ⟨_, _, rfl⟩, addT T z (m1, 11 * (0 + (k : Int)) + u, m2), R7.add hz hy hT upd_same, ?_, ?_, P17.at (h2 z hz).2.1, ?_, fun y t ht => ?_⟩
        · have pm := ids_add (T := T) (t := (m1, 11 * (0 + (k : Int)) + u, m2)) hnd hz
          refine ⟨by rw [pm.length_eq, List.length_append, G2.len]; rfl, ?_, fun i hi => ?_⟩
          · rw [pm.nodup_iff, List.nodup_append]
            refine ⟨G2.nd, by simp, fun x hx y hy q => ?_⟩
            have := up x hx
            rw [List.mem_singleton.mp hy] at q
            have q : x = 11 * (0 + (k : Int)) + u := q
            omega
          · rcases List.mem_append.mp (pm.mem_iff.mp hi) with hi | hi
            · exact G2.lo i hi
            · rw [List.mem_singleton.mp hi]
              show 0 ≤ 11 * (0 + (k : Int)) + u
              omega
        · intro i hi
          have pm := ids_add (T := T) (t := (m1, 11 * (0 + (k : Int)) + u, m2)) hnd hz
          rcases List.mem_append.mp (pm.mem_iff.mp hi) with hi | hi
          · have := up i hi
            omega
          · rw [List.mem_singleton.mp hi]
            show 11 * (0 + (k : Int)) + u < _
            omega
        · have hl6 := P6.keep (P5.keep (P4.keep (P3.keep hl2 hlp) hlp) hlp) hlp
          rw [upd_ne (fun q => by rw [q] at hl; rw [(h2 z hz).2.1] at hl; cases hl), upd_ne (ne_of_none hl6 he)]
          exact hl6
        · by_cases ey : y = z
          · subst ey
            rw [addT_at] at ht
            rcases List.mem_append.mp ht with ht | ht
            · exact bd y t ht
            · rw [List.mem_singleton.mp ht]
              exact hm2
          · rw [addT_no ey] at ht
            exact bd y t ht
      · rintro σ H2 ⟨⟨a, b, rfl⟩, T, R, G2, up, P2, hl2, bd⟩
        exact ⟨_, rfl, kk d A T H2 hd (fun z hz => (h2 z hz).2.1) R G2 (fun i hi => by have := up i hi; omega) bd P2⟩
end
end Ash

set_option Elab.async false
set_option linter.all false
set_option maxRecDepth 100000
set_option maxHeartbeats 4000000
namespace Ash
open PySem PySem.Spec PyProof.Rows L2
open C8 (pss_cut)
/-! ### kinds of values -/
def NotInt (K : PySem.W.Frag) (H : Hp) (v : V) : Prop := ∃ t bi bb, TyX K H v t ∧ PySem.W.kitOne K t (.type "int") = some bi ∧ PySem.W.kitOne K t (.type "bool") = some bb ∧ (bi && !bb) = false
def NotStr (K : PySem.W.Frag) (H : Hp) (v : V) : Prop := ∃ t, TyX K H v t ∧ PySem.W.kitOne K t (.type "str") = some false
def NotTup (K : PySem.W.Frag) (H : Hp) (v : V) : Prop := ∃ t, TyX K H v t ∧ PySem.W.kitOne K t (.type "tuple") = some false
def spIsInt (K : PySem.W.Frag) : Sp := fun vs H Q _ => ∃ v, vs = [v] ∧ ((∃ n, v = .int n ∧ Q (.bl true) H) ∨ (NotInt K H v ∧ Q (.bl false) H))
def spIsNat (K : PySem.W.Frag) : Sp := fun vs H Q _ => ∃ v, vs = [v] ∧ ((∃ n, v = .int n ∧ Q (.bl (decide (0 ≤ n))) H) ∨ (NotInt K H v ∧ Q (.bl false) H))
/-- the test of names -/
def nmB (z : Str) : Bool := decide (1 ≤ z.length ∧ z.length ≤ 8) && z.cps.toList.all fun c => decide (c ∈ LET)
theorem nmB_iff (z : Str) : nmB z = true ↔ IsNm z := by
  unfold nmB IsNm
  simp only [Bool.and_eq_true, decide_eq_true_eq, List.all_eq_true]
  exact ⟨fun ⟨⟨a, b⟩, c⟩ => ⟨a, b, c⟩, fun ⟨a, b, c⟩ => ⟨⟨a, b⟩, c⟩⟩
def spIsName (K : PySem.W.Frag) : Sp := fun vs H Q _ => ∃ v, vs = [v] ∧ ((∃ z, v = .str z ∧ z.length ≤ sizeLine ∧ ∀ H', Same H H' → Q (.bl (nmB z)) H') ∨ (NotStr K H v ∧ Q (.bl false) H))
def spAreInts (K : PySem.W.Frag) : Sp := fun vs H Q _ => ∃ (a : Addr) (ns : List Int), vs = [.ref a] ∧ SqT K H a (ns.map V.int) ∧ ns.length ≤ 100 ∧ ∀ H', Same H H' → Q (.bl true) H'
def spIsRow (K : PySem.W.Frag) : Sp := fun vs H Q _ => ∃ (a : Addr) (us : List V), vs = [.ref a] ∧ (H a = some (.lst us) ∨ SqT K H a us) ∧ ∀ H', Same H H' → Q (.bl true) H'
theorem list_lit (l : List Nat) : ∀ i x, l[i]? = some x → l.take (i + 1) = l.take i ++ [x] := fun i x h => by
  rw [List.take_add_one, h]
  rfl
structure Cst (mg : Str → Option Value) : Prop where
  k_LETTERS : ∃ t, mg "LETTERS" = some (.str abc t)
  k_LONGEST_NAME : ∃ t, mg "LONGEST_NAME" = some (.int 8 t)
  k_MOST_DEPTH : ∃ t, mg "MOST_DEPTH" = some (.int 12 t)
  k_MOST_PARTS : ∃ t, mg "MOST_PARTS" = some (.int 40 t)
  k_MOST_LOOKS : ∃ t, mg "MOST_LOOKS" = some (.int 12 t)
  k_MOST_ROWS : ∃ t, mg "MOST_ROWS" = some (.int 400 t)
  k_MOMENT : ∃ t, mg "MOMENT" = some (.int 0 t)
  k_AMOUNT : ∃ t, mg "AMOUNT" = some (.int 2 t)
section
variable {P : Program} {w : World} {K : PySem.W.Frag} {mg : Str → Option Value} {base : Heap}
structure K1 (P : Program) (w : World) (K : PySem.W.Frag) (mg : Str → Option Value) (base : Heap) : Prop where
  is_integer : Cal P w K mg base CX0 "is_integer" 1 ["thing"] (spIsInt K)
abbrev s_is_integer : Stmt := topS 12
theorem sc_is_integer : FnScope ["thing"] ["thing"] (defScope s_is_integer) := ⟨rfl, rfl, rfl, by decide +kernel, rfl, by decide +kernel, by decide +kernel⟩
theorem ok_is_integer {f : Addr} {fd : FuncData} (F : Fun K "is_integer" "is_integer" s_is_integer f fd) (B : Blt mg) : FnOk P w K mg base CX0 1 f fd ["thing"] (spIsInt K) := by
  refine F.ok sc_is_integer (fun vs H Q E h => ?_) (fun cdv A outer s H vs Q E hr h => ?_)
  · obtain ⟨v, rfl, _⟩ := h
    rfl
  · obtain ⟨v, rfl, hv⟩ := h
    refine ⟨_, (pss_one (ps_ret (pe_and (pe_callB call_isi (by rfl) B.isinstance (by decide +kernel) (pa_cons (pv 0) (pa_cons (pe_bltn (v := .ty "int") (by rfl) B.int (by decide +kernel) rfl) pa_nil))) (pe_one (pe_not (pe_callB call_isi (by rfl) B.isinstance (by decide +kernel) (pa_cons (pv 0) (pa_cons (pe_bltn (v := .ty "bool") (by rfl) B.bool (by decide +kernel) rfl) pa_nil)))))))), ?_⟩
    rcases hv with ⟨n, rfl, q⟩ | ⟨⟨t, bi, bb, ty, e1, e2, e3⟩, q⟩
    · refine ⟨_, rfl, _, _, _, _, true, rfl, ClsV.ty _, .base (.int n), kit_ty (by decide +kernel), _, rfl, iteT ?_⟩
      refine ⟨_, rfl, _, _, _, _, false, rfl, ClsV.ty _, .base (.int n), kit_ty (by decide +kernel), _, rfl, q⟩
    · refine ⟨_, rfl, _, _, _, _, bi, rfl, ClsV.ty _, ty, e1, _, rfl, ?_⟩
      cases bi with
      | false => exact iteF q
      | true =>
        refine iteT ⟨_, rfl, _, _, _, _, bb, rfl, ClsV.ty _, ty, e2, _, rfl, ?_⟩
        have e3 : (!bb) = false := e3
        rw [e3]
        exact q
abbrev s_is_natural : Stmt := topS 13
theorem sc_is_natural : FnScope ["thing"] ["thing"] (defScope s_is_natural) := ⟨rfl, rfl, rfl, by decide +kernel, rfl, by decide +kernel, by decide +kernel⟩
theorem ok_is_natural {f : Addr} {fd : FuncData} (F : Fun K "is_natural" "is_natural" s_is_natural f fd) (B : Blt mg) (G : K1 P w K mg base) : FnOk P w K mg base CX0 2 f fd ["thing"] (spIsNat K) := by
  refine F.ok sc_is_natural (fun vs H Q E h => ?_) (fun cdv A outer s H vs Q E hr h => ?_)
  · obtain ⟨v, rfl, _⟩ := h
    rfl
  · obtain ⟨v, rfl, hv⟩ := h
    refine ⟨_, (pss_one (ps_ret (pe_and (pe_cal G.is_integer (hr.mono (by decide)) pass0 (pa_cons (pv 0) pa_nil)) (pe_one (pe_cmpR op_ge (pv 0) pe_int (nomark _)))))), ?_⟩
    rcases hv with ⟨n, rfl, q⟩ | ⟨ni, q⟩
    · exact ⟨_, rfl, _, rfl, .inl ⟨n, rfl, _, rfl, iteT ⟨_, rfl, _, _, rfl, rfl, q⟩⟩⟩
    · exact ⟨_, rfl, _, rfl, .inr ⟨ni, _, rfl, iteF q⟩⟩
abbrev s_is_name : Stmt := topS 14
theorem sc_is_name : FnScope ["thing", "letter"] ["thing"] (defScope s_is_name) := ⟨rfl, rfl, rfl, by decide +kernel, rfl, by decide +kernel, by decide +kernel⟩
theorem ok_is_name {f : Addr} {fd : FuncData} (F : Fun K "is_name" "is_name" s_is_name f fd) (B : Blt mg) (Cs : Cst mg) : FnOk P w K mg base CX0 1 f fd ["thing"] (spIsName K) := by
  obtain ⟨t1, g_LETTERS⟩ := Cs.k_LETTERS
  obtain ⟨t2, g_LONGEST_NAME⟩ := Cs.k_LONGEST_NAME
  refine F.ok sc_is_name (fun vs H Q E h => ?_) (fun cdv A outer s H vs Q E hr h => ?_)
  · obtain ⟨v, rfl, _⟩ := h
    rfl
  · obtain ⟨v, rfl, hv⟩ := h
    refine ⟨_, (pss_cons (ps_if (PW.pt (pw_or (pt_not (pt_val (pe_callB call_isi (by rfl) B.isinstance (by decide +kernel) (pa_cons (pv 0) (pa_cons (pe_bltn (v := .ty "str") (by rfl) B.str (by decide +kernel) rfl) pa_nil))))) (pw_or1 (pt_not (pt_chain op_le op_le pe_int (pe_callB call_len_str (by rfl) B.len (by decide +kernel) (pa_cons (pv 0) pa_nil)) (pe_glob (v := .int 8) (by rfl) g_LONGEST_NAME ⟨_, rfl⟩))))))
      (pss_one (ps_ret pe_bl))
      pss_nil)
    (pss_one (ps_ret (pe_callB (cr_all rfl) (by rfl) B.all (by decide +kernel) (pa_cons (pe_lc (own := [("letter", 1)]) (g := gName 1) (tt := tYes) (by rfl) sc_is_name.nd (pi_str (pv 0)) (blkOk_by (own := [("letter", 1)]) (N := ["thing", "letter"]) (sc := defScope s_is_name) (by decide +kernel)) (fun _ _ _ _ _ => (pg_name (i := 1) sc_is_name.nd rfl (Or.inl rfl))) (fun _ _ _ _ _ => pts_nil) (fun _ _ _ _ _ => (pe_cmpR op_in_sign (pv 1) (pe_glob (v := .str "abcdefghijklmnopqrstuvwxyz") (by rfl) g_LETTERS ⟨_, rfl⟩) rfl))) pa_nil))))), ?_⟩
    rcases hv with ⟨z, rfl, hz, q⟩ | ⟨⟨t, ty, e1⟩, q⟩
    · refine ⟨_, rfl, _, _, _, _, true, rfl, ClsV.ty _, .base (.str z), kit_ty (by decide +kernel), _, rfl, iteF ?_⟩
      refine ⟨_, rfl, _, rfl, hz, _, _, rfl, rfl, _, rfl, ?_⟩
      refine ite2 (fun c1 => ?_) (fun c1 => ?_)
      · have c1 : (1 : Int) ≤ z.length := of_decide_eq_true c1
        refine ⟨_, _, rfl, rfl, _, rfl, ?_⟩
        by_cases c8 : (z.length : Int) ≤ 8
        · refine iteNS c8 ?_
          refine ⟨_, rfl, z, rfl, fun D hD => lc_it (walk_str (z := z)) (fun i H1 => H1 D = some (.lst (((z.cps.toList.take i).map fun c => decide (c ∈ LET)).map V.bl)) ∧ Same H H1) ⟨upd_same, sameAt (Same.refl H) hD⟩ (fun _ _ _ _ => trivial) ?_ ?_⟩
          · rintro i x H1 H2 hi ⟨hD1, hs⟩ ⟨rfl, c, hc, rfl⟩
            have hc' : z.cps.toList[i]? = some c := by rw [Array.getElem?_toList]; exact hc
            have hlen : (z.cps.toList.take i).length ≤ 8 := by
              have : i < z.length := hi
              rw [List.length_take]
              omega
            refine ⟨rfl, _, rfl, c, abc, rfl, rfl, _, hD1, (by rw [List.length_map, List.length_map]; exact small1000 (by omega)), ?_, sameAt hs hD⟩
            rw [upd_same, list_lit _ _ _ hc', abc_let, List.map_append, List.map_append]
            rfl
          · rintro H1 ⟨hD1, hs⟩
            have e : z.cps.toList.take z.cps.size = z.cps.toList := by rw [← Array.length_toList, List.take_length]
            rw [e] at hD1
            refine ⟨D, _, rfl, SqL.of hD1, ?_⟩
            have e2 : ((z.cps.toList.map fun c => decide (c ∈ LET)).all id) = nmB z := by
              unfold nmB
              rw [decide_eq_true (show 1 ≤ z.length ∧ z.length ≤ 8 by omega), Bool.true_and, List.all_map]
              rfl
            rw [e2]
            exact q _ hs
        · rw [decide_eq_false c8]
          refine iteT ?_
          have e2 : nmB z = false := by
            unfold nmB
            rw [decide_eq_false (show ¬ (1 ≤ z.length ∧ z.length ≤ 8) by omega), Bool.false_and]
          have := q H (Same.refl H)
          rw [e2] at this
          exact this
      · have c1 : ¬ (1 : Int) ≤ z.length := by simpa using c1
        refine ⟨_, rfl, iteT ?_⟩
        have e2 : nmB z = false := by
          unfold nmB
          rw [decide_eq_false (show ¬ (1 ≤ z.length ∧ z.length ≤ 8) by omega), Bool.false_and]
        have := q H (Same.refl H)
        rw [e2] at this
        exact this
    · refine ⟨_, rfl, _, _, _, _, false, rfl, ClsV.ty _, ty, e1, _, rfl, iteT q⟩
structure K2 (P : Program) (w : World) (K : PySem.W.Frag) (mg : Str → Option Value) (base : Heap) : Prop extends K1 P w K mg base where
  is_natural : Cal P w K mg base CX0 "is_natural" 2 ["thing"] (spIsNat K)
  is_name : Cal P w K mg base CX0 "is_name" 1 ["thing"] (spIsName K)
abbrev s_are_integers : Stmt := topS 16
theorem sc_are_integers : FnScope ["things", "thing"] ["things"] (defScope s_are_integers) := ⟨rfl, rfl, rfl, by decide +kernel, rfl, by decide +kernel, by decide +kernel⟩
theorem ok_are_integers {f : Addr} {fd : FuncData} (F : Fun K "are_integers" "are_integers" s_are_integers f fd) (B : Blt mg) (G : K2 P w K mg base) : FnOk P w K mg base CX0 2 f fd ["things"] (spAreInts K) := by
  refine F.ok sc_are_integers (fun vs H Q E h => ?_) (fun cdv A outer s H vs Q E hr h => ?_)
  · obtain ⟨a, ns, rfl, _⟩ := h
    rfl
  · obtain ⟨a, ns, rfl, hS, hn, q⟩ := h
    refine ⟨_, (pss_one (ps_ret (pe_callB (cr_all rfl) (by rfl) B.all (by decide +kernel) (pa_cons (pe_lc (own := [("thing", 1)]) (g := gName 1) (tt := tYes) (by rfl) sc_are_integers.nd (pi_tup (pv 0)) (blkOk_by (own := [("thing", 1)]) (N := ["things", "thing"]) (sc := defScope s_are_integers) (by decide +kernel)) (fun _ _ _ _ _ => (pg_name (i := 1) sc_are_integers.nd rfl (Or.inl rfl))) (fun _ _ _ _ _ => pts_nil) (fun _ _ _ _ _ => (pe_cal G.is_integer (hr.mono (by decide)) pass0 (pa_cons (pv 1) pa_nil)))) pa_nil)))), ?_⟩
    refine ⟨_, rfl, a, rfl, ⟨_, hS⟩, fun D hD => lc_it (walk_tup (xs := ns.map V.int)) (fun i H1 => H1 D = some (.lst ((List.replicate i true).map V.bl)) ∧ Same H H1) ⟨upd_same, sameAt (Same.refl H) hD⟩ (fun i H1 _ hv => ?_) ?_ ?_⟩
    · rcases hS with (h | ⟨o, h⟩) | h
      · exact .inl (.inl (hv.2 _ _ h))
      · exact .inl (.inr ⟨o, hv.2 _ _ h⟩)
      · exact .inr h
    · rintro i x H1 H2 hi ⟨hD1, hs⟩ ⟨rfl, hx⟩
      obtain ⟨z, rfl⟩ : ∃ z, x = V.int z := by
        rw [List.getElem?_map] at hx
        cases e : ns[i]? with
        | none => rw [e] at hx; cases hx
        | some z => rw [e] at hx; exact ⟨z, (Option.some.inj hx).symm⟩
      rw [List.length_map] at hi
      refine ⟨rfl, _, rfl, _, rfl, .inl ⟨z, rfl, _, hD1, (by rw [List.length_map, List.length_replicate]; exact small1000 (by omega)), ?_, sameAt hs hD⟩⟩
      rw [upd_same, List.replicate_succ', List.map_append]
      rfl
    · rintro H1 ⟨hD1, hs⟩
      refine ⟨D, _, rfl, SqL.of hD1, ?_⟩
      rw [List.length_map] at hD1 ⊢
      have e2 : ((List.replicate ns.length true).all id) = true := by simp
      rw [e2]
      exact q _ hs
abbrev s_is_row : Stmt := topS 15
theorem sc_is_row : FnScope ["thing"] ["thing"] (defScope s_is_row) := ⟨rfl, rfl, rfl, by decide +kernel, rfl, by decide +kernel, by decide +kernel⟩
theorem ok_is_row {f : Addr} {fd : FuncData} (F : Fun K "is_row" "is_row" s_is_row f fd) (B : Blt mg) : FnOk P w K mg base CX0 1 f fd ["thing"] (spIsRow K) := by
  refine F.ok sc_is_row (fun vs H Q E h => ?_) (fun cdv A outer s H vs Q E hr h => ?_)
  · obtain ⟨a, us, rfl, _⟩ := h
    rfl
  · obtain ⟨a, us, rfl, hS, q⟩ := h
    refine ⟨_, (pss_one (ps_ret (pe_callB call_isiT (by rfl) B.isinstance (by decide +kernel) (pa_cons (pv 0) (pa_cons (pe_tup (pa_cons (pe_bltn (v := .ty "list") (by rfl) B.list (by decide +kernel) rfl) (pa_cons (pe_bltn (v := .ty "tuple") (by rfl) B.tuple (by decide +kernel) rfl) pa_nil))) pa_nil))))), ?_⟩
    refine ⟨_, rfl, (by show 2 ≤ sizeLine; decide), fun p hp => ?_⟩
    rcases hS with hS | hS
    · refine ⟨_, p, _, .type "list", [.type "list", .type "tuple"], true, rfl, upd_same, .cons (ClsV.ty _) (.cons (ClsV.ty _) .nil), .base (.lst (by rw [upd_ne (ne_of_none hS hp)]; exact hS)), kitAny_cons (b := true) (kit_ty (by decide +kernel)) (fun z => by cases z) (fun _ => rfl), q _ (sameAt (Same.refl H) hp)⟩
    · have ty : TyX K (upd H p (.tup [.ty "list", .ty "tuple"])) (.ref a) (.type "tuple") := by
        rcases hS with (h | ⟨o, h⟩) | ⟨o, its, n, h1, h2, h3⟩
        · exact .base (.tup (by rw [upd_ne (ne_of_none h hp)]; exact h))
        · exact .fTuple (by rw [upd_ne (ne_of_none h hp)]; exact h)
        · exact .kTuple h1 h2
      refine ⟨_, p, _, .type "tuple", [.type "list", .type "tuple"], true, rfl, upd_same, .cons (ClsV.ty _) (.cons (ClsV.ty _) .nil), ty, kitAny_cons (b := false) (kit_ty (by decide +kernel)) (fun _ => kitAny_cons (b := true) (kit_ty (by decide +kernel)) (fun z => by cases z) (fun _ => rfl)) (fun z => by cases z), q _ (sameAt (Same.refl H) hp)⟩
structure K3 (P : Program) (w : World) (K : PySem.W.Frag) (mg : Str → Option Value) (base : Heap) : Prop extends K2 P w K mg base where
  are_integers : Cal P w K mg base CX0 "are_integers" 2 ["things"] (spAreInts K)
  is_row : Cal P w K mg base CX0 "is_row" 1 ["thing"] (spIsRow K)
end
end Ash

set_option Elab.async false
set_option linter.all false
set_option maxRecDepth 100000
set_option maxHeartbeats 4000000
namespace SrtT
open PySem PySem.Spec PyProof.Rows L2 Srt SrtO
section
variable {prog : Program} {w : World} {A : Around} {E : Value → Shared → Prop} {s : Shared}
/-- the items of a tuple, collected in a new list -/
theorem coll_tup {l : Addr} {vs : List Value} {Q : List Value → Shared → Prop} (hl : s.heap.IsTuple l vs.toArray) (hz : vs.length ≤ sizeLine)
    (h : Q vs { s with heap := (s.heap.push (seqObj "list" #[] 0)).update s.heap.objs.size (Obj.mapSeq (· ++ vs.toArray)) }) : wpAny (model prog w) A (collect (.ref l)) Q E s := by
  have ⟨o, ho, hc, n, hd⟩ := hl
  have hp : (s.heap.push (seqObj "list" #[] 0)).get? l = some o := Heap.get?_push_of_some _ ho
  have hq : (s.heap.push (seqObj "list" #[] 0)).get? s.heap.objs.size = some (seqObj "list" #[] 0) := Heap.get?_push_size _ rfl
  have room : (#[] ++ vs.toArray : Array Value).size ≤ sizeLine + 1 := by
    rw [Array.size_append, List.size_toArray]
    show 0 + vs.length ≤ _
    omega
  unfold collect
  refine wpAny_bind <| wpAny_runValue <| codeAny_builtin entry_proto_collect' ?_
  show wpAny _ _ (newList [] >>= fun v => again (.builtin "list.__iadd__" ⟨[v, .ref l], []⟩)) _ _ s
  refine wpAny_bind <| wpAny_newList <| wpAny_pure ⟨Code.quiet_builtin _ (by decide +kernel), codeAny_builtin entry_list_iadd' ?_⟩
  show wpAny _ _ (PySem.Builtin.List.listExtendWith (.ref s.heap.objs.size) (.ref l) (.ref s.heap.objs.size)) _ _ { s with heap := s.heap.push (seqObj "list" #[] 0) }
  unfold PySem.Builtin.List.listExtendWith
  refine wpAny_bind <| wpAny_typeOf (T := "tuple") ⟨o, hp, hc⟩ ?_
  rw [if_pos (by rw [show (Value.type "tuple" == Value.type "tuple") = true from rfl, Bool.or_true])]
  refine wpAny_bind <| listItems_at hp hd <| wpAny_bind <| listItems_at (xs := #[]) (n := 0) hq rfl ?_
  rw [if_neg (by simp)]
  refine wpAny_bind <| listUpdate_at (xs := #[]) (n := 0) hq rfl ?_ (Nat.zero_le _) room
  refine wpAny_pure ?_
  show wpAny (model prog w) A (load s.heap.objs.size >>= fun o => match o.data with | .seq xs _ => pure xs.toList | _ => unsupported "internal:collect") Q E { s with heap := (s.heap.push (seqObj "list" #[] 0)).update s.heap.objs.size (Obj.mapSeq (· ++ vs.toArray)) }
  refine wpAny_bind <| wpAny_load (get?_update_seq hq _) ?_
  have e : ((#[] : Array Value) ++ vs.toArray).toList = vs := by simp
  show wpAny _ _ (pure ((#[] : Array Value) ++ vs.toArray).toList) Q E _
  rw [e]
  exact wpAny_pure h
/-- sorted(t), t a tuple -/
theorem sorted_tupO {l : Addr} {vs : List Value} {ltv : Value → Value → Bool} {Q : Value → Shared → Prop} (O : Swo ltv) (hl : s.heap.IsTuple l vs.toArray) (hz : vs.length ≤ sizeLine)
    (hS : 2 ≤ vs.length → ∀ (h₁ : Heap) (a : Addr), h₁.get? a = some (seqObj "list" vs.toArray 0) → (∀ b o, s.heap.get? b = some o → b ≠ a ∧ h₁.get? b = some o) → SortableO prog w A.in1.in1 { s with heap := h₁ } a vs ltv)
    (h : ∀ out : List Value, Srtd ltv out → Stb ltv out vs → Q (.ref (s.heap.objs.size + 1)) { s with heap := sortedAll s.heap vs out.toArray }) : wpAny (model prog w) A (call (.builtin "sorted") [.ref l]) Q E s := by
  have h1 : ((s.heap.push (seqObj "list" #[] 0)).update s.heap.objs.size (Obj.mapSeq (· ++ vs.toArray))).objs.size = s.heap.objs.size + 1 := by rw [Heap.size_update, size_push']
  have h2 : (((s.heap.push (seqObj "list" #[] 0)).update s.heap.objs.size (Obj.mapSeq (· ++ vs.toArray))).push (seqObj "list" vs.toArray 0)).get? (s.heap.objs.size + 1) = some (seqObj "list" vs.toArray 0) := by
    have := Heap.get?_push_size ((s.heap.push (seqObj "list" #[] 0)).update s.heap.objs.size (Obj.mapSeq (· ++ vs.toArray))) (o := seqObj "list" vs.toArray 0) rfl
    rwa [h1] at this
  have stay : ∀ b o, s.heap.get? b = some o → b ≠ s.heap.objs.size + 1 ∧ (((s.heap.push (seqObj "list" #[] 0)).update s.heap.objs.size (Obj.mapSeq (· ++ vs.toArray))).push (seqObj "list" vs.toArray 0)).get? b = some o := fun b o q => by
    have lt : b < s.heap.objs.size := Heap.lt_size q
    refine ⟨Nat.ne_of_lt (Nat.lt_succ_of_lt lt), Heap.get?_push_of_some _ ?_⟩
    rw [Heap.get?_update_ne _ _ _ _ (Nat.ne_of_lt lt)]
    exact Heap.get?_push_of_some _ q
  refine Calls.call_function_entry kind_sorted plain_sorted entry_sorted (args_sorted1 _) ?_
  unfold Builtin.«sorted»
  refine wpAny_bind (m := checkCount "sorted" 1 1 _) <| wpAny_pure <| wpAny_bind <| coll_tup hl hz <| wpAny_bind <| wpAny_newList ?_ hz
  show wpAny _ _ _ _ _ { s with heap := ((s.heap.push (seqObj "list" #[] 0)).update s.heap.objs.size (Obj.mapSeq (· ++ vs.toArray))).push (seqObj "list" vs.toArray 0) }
  rw [h1]
  refine wpAny_bind <| wpAny_holding <| wpAny_call_entry slot_list_sort ⟨_, h2, rfl⟩ entry_list_sort (list_sort_ord O h2 hz (fun k => hS k _ _ h2 stay) fun out hs hb => ⟨_, rfl, ?_⟩) (args_list_sort _)
  exact wpAny_pure ⟨_, rfl, h out hs hb⟩
/-- sorted(t) of triples of ints -/
theorem sorted3T {l : Addr} {vs : List Value} {k : Value → T3} {Q : Value → Shared → Prop} (hl : s.heap.IsTuple l vs.toArray) (hz : vs.length ≤ sizeLine) (hp : ∀ v ∈ vs, Is3 s.heap v (k v))
    (h : ∀ (h' : Heap) (d : Addr) (out : List Value), Srtd (fun v u => lex3 (k v) (k u)) out → Stb (fun v u => lex3 (k v) (k u)) out vs → (∀ b o, s.heap.get? b = some o → h'.get? b = some o) → s.heap.objs.size ≤ d → (∃ n, h'.get? d = some (seqObj "list" out.toArray n)) → Q (.ref d) { s with heap := h' }) :
    wpAny (model prog w) A (call (.builtin "sorted") [.ref l]) Q E s := by
  refine sorted_tupO (swo3 k) hl hz (fun h2 h₁ a ha kk => ?_) fun out hs hb => h _ _ out hs hb (fun b o g => sortedAll_old g) (Nat.le_succ _) (sortedAll_at s.heap vs out.toArray)
  refine sortable3 (s := { s with heap := h₁ }) (by omega) (fun v hv => (hp v hv).stay fun b o g _ => (kk b o g).2) fun o g c => ?_
  have same : some o = some (seqObj "list" vs.toArray 0) := by rw [← g, ha]
  cases same
  exact absurd (Value.type.inj c) (by decide)
end
end SrtT
namespace L2
open PySem PySem.Spec PyProof.Rows SrtT
/-- a list or a tuple -/
def SqA (K : PySem.W.Frag) (H : Hp) (a : Addr) (xs : List V) : Prop := SqL K H a xs ∨ SqT K H a xs
def iAny (K : PySem.W.Frag) (tl : TE) : TI := fun σ H R => tl σ H fun x H1 => ∃ a, x = .ref a ∧ (((∃ xs, SqL K H1 a xs) ∧ R (Itl K a) H1) ∨ ((∃ xs, SqT K H1 a xs) ∧ R (Itt K a) H1))
theorem pi_any {X : Cx} {tg l : Expr} {tl : TE} (hl : PE X l tl) : PI X tg l (iAny X.K tl) := by
  constructor
  intro pins s σ H R I h
  refine thn (hl.run pins s σ H _ I h) ?_
  rintro v s1 ⟨x, H1, I1, r1, a, e, q⟩
  subst e
  cases r1
  have fp : ∀ b ∈ [s1.heap.objs.size], FpOk X pins H1 b := fun b hb => by
    rw [List.mem_singleton.mp hb]
    exact I1.fpOk (Nat.le_refl _) (I1.hok.fresh (Nat.le_refl _))
  rcases q with ⟨⟨xs, hq⟩, q⟩ | ⟨⟨xs, hq⟩, q⟩
  · obtain ⟨its, rv, p, hz⟩ := I1.list hq
    exact wpAny_pyIter_list p.isList ⟨_, [_], _, _, H1, rfl, I1.kept (t' := s1.toks) (fun b o e => Heap.get?_push_of_some _ e), turn_list a _, ⟨_, Heap.get?_push_size _ rfl, rfl, rfl⟩, fp, q⟩
  · obtain ⟨its, rv, p, hz⟩ := I1.tuple hq
    have p' : s1.heap.IsTuple a its.toArray := p
    exact wpAny_pyIter_tuple p' ⟨_, [_], _, _, H1, rfl, I1.kept (t' := s1.toks) (fun b o e => Heap.get?_push_of_some _ e), turn_tuple a _, ⟨_, Heap.get?_push_size _ rfl, rfl, rfl⟩, fp, q⟩
/-- sorted of a list or a tuple of triples -/
def rSort3A (K : PySem.W.Frag) : List V → Hp → VK → Prop := fun vs H Q => ∃ (a : Addr) (xs : List V) (k : V → T3), vs = [V.ref a] ∧ SqA K H a xs ∧ (∀ x ∈ xs, ∃ t, x = V.ref t ∧ H t = some (.tup [.int (k x).1, .int (k x).2.1, .int (k x).2.2])) ∧
  ∀ ys p, SrtO.Srtd (fun x y => lex3 (k x) (k y)) ys → ys.Perm xs → H p = none → Q (.ref p) (upd H p (.lst ys))
theorem cr_sort3A {X : Cx} : CallR X (.builtin "sorted") (rSort3A X.K) := by
  intro pins s σ H vs us Q I r h
  obtain ⟨a, xs, k, rfl, hs | hs, hx, q⟩ := h
  · exact cr_sorted3 pins s σ H _ us Q I r ⟨a, xs, k, rfl, hs, hx, q⟩
  · obtain ⟨its, rv, hl, hz⟩ := I.tuple hs
    rw [Vals.ref1 r]
    obtain ⟨e1, e2⟩ := refs_back rv fun x m => (hx x m).imp fun t ht => ht.1
    have hl' : s.heap.IsTuple a its.toArray := hl
    refine sorted3T (k := fun u => k (backV u)) hl' (by rw [← rv.length]; exact hz) ?_ ?_
    · intro v hv
      obtain ⟨t, rfl⟩ := e2 v hv
      obtain ⟨t', e, ht⟩ := hx (.ref t) (by rw [e1]; exact List.mem_map.mpr ⟨_, hv, rfl⟩)
      cases e
      obtain ⟨_, its2, r2, o, ho, hc, n, hdt⟩ := I.hok _ _ ht
      obtain ⟨ta, tb, tc, rfl⟩ : ∃ ta tb tc, its2 = [.int (k (.ref t)).1 ta, .int (k (.ref t)).2.1 tb, .int (k (.ref t)).2.2 tc] := by
        cases r2 with
        | cons q1 r2 =>
          obtain ⟨ta, rfl⟩ := q1
          cases r2 with
          | cons q2 r2 =>
            obtain ⟨tb, rfl⟩ := q2
            cases r2 with
            | cons q3 r2 =>
              obtain ⟨tc, rfl⟩ := q3
              cases r2
              exact ⟨ta, tb, tc, rfl⟩
      exact ⟨t, o, ta, tb, tc, n, rfl, ho, hc, hdt⟩
    · intro h' d out g1 g2 kp hd hn
      obtain ⟨n, hn⟩ := hn
      have back : ∀ u ∈ out, ∃ a, u = Value.ref a := fun u hu => e2 u (g2.perm.mem_iff.mp hu)
      have pm : (out.map backV).Perm xs := by rw [e1]; exact g2.perm.map backV
      have ok : (out.map backV).length ≤ sizeLine := by rw [pm.length_eq]; exact hz
      exact ⟨.ref d, upd H d (.lst (out.map backV)), I.laid (t' := s.toks) kp hd ⟨ok, out, n, vals_back back, hn⟩, rfl, q _ d (SrtO.srtd_map g1) pm (I.hok.fresh hd)⟩
end L2

set_option Elab.async false
set_option linter.all false
set_option maxRecDepth 100000
set_option maxHeartbeats 4000000
namespace L2
open PySem PySem.Spec PyProof.Rows
/-- a walk, whatever is done in a turn -/
theorem w_it {J : It} {n : Nat} {G : Hp → Prop} {Y : Nat → Hp → V → Hp → Prop} (w : Walk J n G Y) {Nx : Hp → Prop} {Bd : V → Hp → (Hp → Prop) → Prop} {H1 : Hp} (Pv : Nat → Hp → Prop) (h0 : Pv 0 H1) (hG : ∀ i H, i ≤ n → Pv i H → G H)
    (hs : ∀ i x H H', i < n → Pv i H → Y i H x H' → Bd x H' (Pv (i + 1))) (hd : ∀ H, Pv n H → Nx H) :
    ∃ W : Nat → Nat → Hp → Prop, (∃ m, W 0 m H1) ∧ ∀ i m H, W i m H →
      (J.stop i H ∧ Nx H) ∨ (J.go i H ∧ ∃ N : Hp → Prop, (∀ H', N H' → ∃ m', m' < m ∧ W (i + 1) m' H') ∧ ∀ x H', J.yld i H x H' → Bd x H' N) := by
  refine ⟨fun i m H => m = n - i ∧ i ≤ n ∧ Pv i H, ⟨n, by simp, Nat.zero_le _, h0⟩, ?_⟩
  rintro i m H ⟨rfl, hi, p⟩
  have q := hG i H hi p
  by_cases hlt : i < n
  · refine .inr ⟨w.goes i H hlt q, Pv (i + 1), fun H' p' => ⟨n - (i + 1), by omega, rfl, hlt, p'⟩, fun x H' y => hs i x H H' hlt p (w.yields i H x H' hlt q y)⟩
  · have e : i = n := by omega
    subst e
    exact .inl ⟨w.stops H q, hd H p⟩
def tTru (K : PySem.W.Frag) (ta : TE) : TT := fun σ H Q => ta σ H fun x H' => ∃ k, TruV K x H' k ∧ Q k H'
def rTupS (K : PySem.W.Frag) : List V → Hp → VK → Prop := fun xs H Q => ∃ p ys, xs = [.ref p] ∧ ((SqL K H p ys ∧ ∀ l, H l = none → Q (.ref l) (upd H l (.tup ys))) ∨ (SqT K H p ys ∧ Q (.ref p) H))
end L2
namespace Ash
open PySem PySem.Spec PyProof.Rows L2 SrtT
open C8 (pss_cut)
/-! ### worlds -/
/-- the rows of the streams, sorted -/
def RowsW (names : List Str) (T W : Tr) : Prop := (∀ z ∈ names, (W z).Perm (T z) ∧ (W z).Pairwise fun a b => lex3 a b = true) ∧ ∀ z, z ∉ names → W z = []
/-- the world of the rows W at a -/
def WAt (CW : Addr) (H : Hp) (a : Addr) (W : Tr) : Prop := ∃ dx d t kvs ids, H a = some (.ins CW dx [("_rows", .ref d), ("_ids", .ref t)]) ∧ H d = some (.dK kvs) ∧ H t = some (.tup ids) ∧
  ∀ z, (W z).length ≤ 400 ∧ ((valV kvs (Sum.inr z : Key) = none ∧ W z = []) ∨ ∃ e ys, valV kvs (Sum.inr z : Key) = some (.ref e) ∧ H e = some (.tup ys) ∧ TrAt H ys (W z))
theorem WAt.nl {CW : Addr} {H H' : Hp} {a : Addr} {W : Tr} (h : WAt CW H a W) (n : NL H H') : WAt CW H' a W := by
  obtain ⟨dx, d, t, kvs, ids, h1, h2, h3, h4⟩ := h
  refine ⟨dx, d, t, kvs, ids, n _ _ h1 (fun _ z => nomatch z), n _ _ h2 (fun _ z => nomatch z), n _ _ h3 (fun _ z => nomatch z), fun z => ⟨(h4 z).1, (h4 z).2.imp id ?_⟩⟩
  rintro ⟨e, ys, a1, a2, a3⟩
  exact ⟨e, ys, a1, n _ _ a2 (fun _ z => nomatch z), a3.tk fun t xs q => n _ _ q (fun _ z => nomatch z)⟩
theorem WAt.same {CW : Addr} {H H' : Hp} {a : Addr} {W : Tr} (h : WAt CW H a W) (s : Same H H') : WAt CW H' a W := h.nl (nl_same s)
theorem pk_len {κ : Type} [DecidableEq κ] (c : List (κ × V)) (k : κ) (x : V) : (putK c k x).length ≤ c.length + 1 := by
  unfold putK
  split
  · rw [List.length_map]
    omega
  · rw [List.length_append]
    exact Nat.le_refl _
theorem TrAt.tri {H : Hp} {ys : List V} {ts : List T3} (h : TrAt H ys ts) : ∀ x ∈ ys, ∃ t, x = .ref t ∧ H t = some (.tup (tv (triOf H x))) := fun x hx => by
  obtain ⟨i, hi, e⟩ := List.getElem_of_mem hx
  have hx' := List.getElem?_eq_getElem hi
  rw [e] at hx'
  obtain ⟨a, h1, h2⟩ := h.2 i _ _ hx' (List.getElem?_eq_getElem (by rw [← h.1]; exact hi))
  subst h1
  exact ⟨a, rfl, by rw [triOf_at h2]; exact h2⟩
theorem TrAt.of_tri {H : Hp} {zs : List V} (h : ∀ x ∈ zs, ∃ t, x = .ref t ∧ H t = some (.tup (tv (triOf H x)))) : TrAt H zs (zs.map (triOf H)) := by
  refine ⟨by rw [List.length_map], fun i v t a b => ?_⟩
  rw [List.getElem?_map, a, Option.map_some] at b
  cases b
  obtain ⟨e, h1, h2⟩ := h v (List.mem_of_getElem? a)
  exact ⟨e, h1, h2⟩
theorem asc_of {ts : List T3} (hs : ts.Pairwise fun a b => lex3 b a = false) (hn : (ts.map (·.2.1)).Nodup) : ts.Pairwise fun a b => lex3 a b = true := by
  have hn' : ts.Pairwise fun a b => a.2.1 ≠ b.2.1 := List.pairwise_map.mp hn
  refine (hs.and hn').imp fun {a b} ⟨h1, h2⟩ => ?_
  rw [lex3_no] at h1
  rw [lex3_iff]
  omega
theorem unlock {H1 Hx : Hp} {d : Addr} {od : Obj} {u : HO} (s : Same (upd H1 d (.frz od u)) Hx) (hd : H1 d = some u) : Same H1 (upd Hx d u) := fun b o hb => by
  by_cases e : b = d
  · rw [e] at hb ⊢
    rw [hd] at hb
    rw [← hb, upd_same]
  · rw [upd_ne e]
    exact s _ _ (by rw [upd_ne e]; exact hb)
structure Cw (K : PySem.W.Frag) (mg : Str → Option Value) (CW : Addr) : Prop where
  cl : Cls K CW
  nR : NoAttr K CW "_rows"
  nI : NoAttr K CW "_ids"
  c : mg "World" = some (.ref CW)
/-- a list or a tuple in the heap -/
def SeqAt2 (H : Hp) (a : Addr) (ys : List V) : Prop := H a = some (.lst ys) ∨ H a = some (.tup ys)
theorem SeqAt2.to {H H' : Hp} {a : Addr} {ys : List V} (h : SeqAt2 H a ys) (f : ∀ o, H a = some o → H' a = some o) : SeqAt2 H' a ys := h.imp (f _) (f _)
theorem SeqAt2.some_ {H : Hp} {a : Addr} {ys : List V} (h : SeqAt2 H a ys) : ∃ o, H a = some o ∧ (o = .lst ys ∨ o = .tup ys) := by
  rcases h with h | h
  · exact ⟨_, h, .inl rfl⟩
  · exact ⟨_, h, .inr rfl⟩
theorem SeqAt2.sq {K : PySem.W.Frag} {H : Hp} {a : Addr} {ys : List V} (h : SeqAt2 H a ys) : SqA K H a ys := h.imp SqL.of SqT.of
theorem SeqAt2.tru {K : PySem.W.Frag} {H : Hp} {a : Addr} {ys : List V} (h : SeqAt2 H a ys) : TruV K (.ref a) H (!ys.isEmpty) := h.elim (fun h => .inl ⟨ys, SqL.of h, rfl⟩) (fun h => .inr (.inl ⟨ys, SqT.of h, rfl⟩))
/-- the rows of each stream, in lists or tuples -/
structure RqAt (H : Hp) (d : Addr) (names : List Str) (A : Str → Addr) (T : Tr) : Prop where
  at_ : H d = some (.dK (names.map fun z => (Sum.inr z, V.ref (A z))))
  row : ∀ z ∈ names, ∃ ys, SeqAt2 H (A z) ys ∧ TrAt H ys (T z)
theorem RwAt.rq {H : Hp} {d : Addr} {names : List Str} {A : Str → Addr} {T : Tr} (R : RwAt H d names A T) : RqAt H d names A T := ⟨R.at_, fun z hz => by
  obtain ⟨ys, h1, h2⟩ := R.row z hz
  exact ⟨ys, .inl h1, h2⟩⟩
theorem RqAt.same {H H' : Hp} {d : Addr} {names : List Str} {A : Str → Addr} {T : Tr} (h : RqAt H d names A T) (s : Same H H') : RqAt H' d names A T :=
  ⟨s _ _ h.at_, fun z hz => by
    obtain ⟨ys, h1, h2⟩ := h.row z hz
    exact ⟨ys, h1.to (s _), h2.tk fun t xs q => s _ _ q⟩⟩
def spAreRows (K : PySem.W.Frag) : Sp := fun vs H Q _ => ∃ (a : Addr) (ys : List V) (ts : List T3), vs = [.ref a] ∧ SeqAt2 H a ys ∧ TrAt H ys ts ∧ ts.length ≤ 400 ∧ (∀ t ∈ ts, 0 ≤ t.2.1) ∧ ∀ H', Same H H' → Q (.bl true) H'
def spTwice (K : PySem.W.Frag) : Sp := fun vs H Q _ => ∃ (a : Addr) (ns : List Int), vs = [.ref a] ∧ SqL K H a (ns.map V.int) ∧ ns.length ≤ 400 ∧ ns.Nodup ∧ Q .non H
def spIsRows : Sp := fun vs H Q _ => ∃ (d : Addr) (names : List Str) (A : Str → Addr) (T : Tr), vs = [.ref d] ∧ RqAt H d names A T ∧ names.length ≤ 100 ∧ (∀ z ∈ names, IsNm z ∧ (T z).length ≤ 400 ∧ ∀ t ∈ T z, 0 ≤ t.2.1) ∧ ∀ H', Same H H' → Q (.bl true) H'
def spWorldInit (CW : Addr) : Sp := fun vs H Q _ => ∃ (b dx d : Addr) (names : List Str) (A : Str → Addr) (T : Tr) (n : Nat), vs = [.ref b, .ref d] ∧ H b = some (.ins CW dx []) ∧ RqAt H d names A T ∧ names.length ≤ 100 ∧ names.Nodup ∧ (∀ z ∈ names, IsNm z) ∧ GoodT names T n ∧ n ≤ 400 ∧
  ∀ H' W, WAt CW H' b W → RowsW names T W → (∀ c o, H c = some o → c ≠ b → H' c = some o) → Q .non H'
def spWorldRows (CW : Addr) : Sp := fun vs H Q _ => ∃ (a : Addr) (W : Tr) (z : Str), vs = [.ref a, .str z] ∧ WAt CW H a W ∧ IsNm z ∧ ∀ (p : Addr) ys H', Same H H' → H p = none → H' p = some (.lst ys) → TrAt H' ys (W z) → Q (.ref p) H'
section
variable {P : Program} {w : World} {K : PySem.W.Frag} {mg : Str → Option Value} {base : Heap}
abbrev s_are_rows : Stmt := topS 50
theorem sc_are_rows : FnScope ["things", "thing"] ["things"] (defScope s_are_rows) := ⟨rfl, rfl, rfl, by decide +kernel, rfl, by decide +kernel, by decide +kernel⟩
theorem ok_are_rows {f : Addr} {fd : FuncData} (F : Fun K "are_rows" "are_rows" s_are_rows f fd) (B : Blt mg) (G : K3 P w K mg base) : FnOk P w K mg base CX0 3 f fd ["things"] (spAreRows K) := by
  refine F.ok sc_are_rows (fun vs H Q E h => ?_) (fun cdv A outer s H vs Q E hr h => ?_)
  · obtain ⟨a, ys, ts, rfl, _⟩ := h
    rfl
  · obtain ⟨a, ys, ts, rfl, ha, hT, hl, h0, q⟩ := h
    refine ⟨_, (pss_cons (ps_for PassesOwn.never rfl (pi_any (pv 0)) (pg_name (i := 1) sc_are_rows.nd rfl (Or.inl rfl))
      (pss_cons (ps_if (PW.pt (pw_or (pt_not (pt_val (pe_callB call_isi (by rfl) B.isinstance (by decide +kernel) (pa_cons (pv 1) (pa_cons (pe_bltn (v := .ty "tuple") (by rfl) B.tuple (by decide +kernel) rfl) pa_nil))))) (pw_or1 (pt_cmpR op_ne (pe_callB call_len_seq (by rfl) B.len (by decide +kernel) (pa_cons (pv 1) pa_nil)) pe_int (nomark _)))))
        (pss_one (ps_ret pe_bl))
        pss_nil)
      (pss_one (ps_if (PW.pt (pw_or (pt_not (pt_val (pe_cal G.are_integers (hr.mono (by decide)) pass0 (pa_cons (pv 1) pa_nil)))) (pw_or1 (pt_not (pt_val (pe_cal G.is_natural (hr.mono (by decide)) pass0 (pa_cons (pe_ix ix_tup (pv 1) pe_int (fun _ _ => rfl)) pa_nil)))))))
        (pss_one (ps_ret pe_bl))
        pss_nil))))
    (pss_one (ps_ret pe_bl))), ?_⟩
    have yl := hT.1
    rcases ha with ha | ha
    · refine ⟨_, rfl, a, rfl, .inl ⟨⟨_, SqL.of ha⟩, for_it (walk_list (K := K) (a := a) (xs := ys)) (fun i σ H1 => (∃ b, σ = [some (.ref a), b]) ∧ Same H H1) ⟨⟨_, rfl⟩, Same.refl H⟩ (fun i σ H1 _ hv => SqL.of (hv.2 _ _ ha)) ?_ ?_⟩⟩
      · rintro i y σ H1 _ _ ⟨⟨b, rfl⟩, s1⟩ ⟨rfl, hi⟩
        have hil : i < ts.length := by rw [← yl]; exact (List.getElem?_eq_some_iff.mp hi).1
        obtain ⟨t, ht⟩ : ∃ t, ts[i]? = some t := ⟨_, List.getElem?_eq_getElem hil⟩
        obtain ⟨e, rfl, he⟩ := hT.2 i y t hi ht
        have he1 := s1 _ _ he
        refine ⟨_, rfl, _, _, _, _, true, rfl, ClsV.ty _, .base (.tup he1), kit_ty (by decide +kernel), _, rfl, iteF ?_⟩
        refine ⟨_, rfl, _, _, rfl, .inr (SqT.of he1), rfl, _, rfl, iteF ?_⟩
        refine ⟨_, rfl, e, [t.1, t.2.1, t.2.2], rfl, SqT.of he1, (by show 3 ≤ 100; decide), fun H2 s2 => ⟨_, rfl, iteF ?_⟩⟩
        have he2 := s2 _ _ he1
        refine ⟨_, rfl, _, _, _, _, rfl, rfl, SqT.of he2, rfl, _, rfl, .inl ⟨t.2.1, rfl, ?_⟩⟩
        rw [decide_eq_true (h0 t (List.mem_of_getElem? ht))]
        exact ⟨_, rfl, iteF ⟨⟨_, rfl⟩, s1.trans s2⟩⟩
      · rintro σ H1 ⟨⟨b, rfl⟩, s1⟩
        exact q H1 s1
    · refine ⟨_, rfl, a, rfl, .inr ⟨⟨_, SqT.of ha⟩, for_it (walk_tup (K := K) (a := a) (xs := ys)) (fun i σ H1 => (∃ b, σ = [some (.ref a), b]) ∧ Same H H1) ⟨⟨_, rfl⟩, Same.refl H⟩ (fun i σ H1 _ hv => SqT.of (hv.2 _ _ ha)) ?_ ?_⟩⟩
      · rintro i y σ H1 _ _ ⟨⟨b, rfl⟩, s1⟩ ⟨rfl, hi⟩
        have hil : i < ts.length := by rw [← yl]; exact (List.getElem?_eq_some_iff.mp hi).1
        obtain ⟨t, ht⟩ : ∃ t, ts[i]? = some t := ⟨_, List.getElem?_eq_getElem hil⟩
        obtain ⟨e, rfl, he⟩ := hT.2 i y t hi ht
        have he1 := s1 _ _ he
        refine ⟨_, rfl, _, _, _, _, true, rfl, ClsV.ty _, .base (.tup he1), kit_ty (by decide +kernel), _, rfl, iteF ?_⟩
        refine ⟨_, rfl, _, _, rfl, .inr (SqT.of he1), rfl, _, rfl, iteF ?_⟩
        refine ⟨_, rfl, e, [t.1, t.2.1, t.2.2], rfl, SqT.of he1, (by show 3 ≤ 100; decide), fun H2 s2 => ⟨_, rfl, iteF ?_⟩⟩
        have he2 := s2 _ _ he1
        refine ⟨_, rfl, _, _, _, _, rfl, rfl, SqT.of he2, rfl, _, rfl, .inl ⟨t.2.1, rfl, ?_⟩⟩
        rw [decide_eq_true (h0 t (List.mem_of_getElem? ht))]
        exact ⟨_, rfl, iteF ⟨⟨_, rfl⟩, s1.trans s2⟩⟩
      · rintro σ H1 ⟨⟨b, rfl⟩, s1⟩
        exact q H1 s1
abbrev s_first_twice : Stmt := topS 51
theorem sc_first_twice : FnScope ["numbers", "at"] ["numbers"] (defScope s_first_twice) := ⟨rfl, rfl, rfl, by decide +kernel, rfl, by decide +kernel, by decide +kernel⟩
theorem ok_twice {f : Addr} {fd : FuncData} (F : Fun K "first_twice" "first_twice" s_first_twice f fd) (B : Blt mg) : FnOk P w K mg base CX0 1 f fd ["numbers"] (spTwice K) := by
  refine F.ok sc_first_twice (fun vs H Q E h => ?_) (fun cdv A outer s H vs Q E hr h => ?_)
  · obtain ⟨a, ns, rfl, _⟩ := h
    rfl
  · obtain ⟨a, ns, rfl, ha, hl, hn, q⟩ := h
    refine ⟨_, (pss_cons (ps_for PassesOwn.never rfl (pi_range2 (by rfl) B.range (pa_cons pe_int (pa_cons (pe_callB call_len_seq (by rfl) B.len (by decide +kernel) (pa_cons (pv 0) pa_nil)) pa_nil))) (pg_name (i := 1) sc_first_twice.nd rfl (Or.inl rfl))
      (pss_one (ps_if (pt_cmpR op_eq (pe_ix ix_list (pv 0) (pe_op op_sub (pv 1) pe_int) (fun _ _ => rfl)) (pe_ix ix_list (pv 0) (pv 1) (fun _ _ => rfl)) (nomark _))
        (pss_one (ps_ret (pe_ix ix_list (pv 0) (pv 1) (fun _ _ => rfl))))
        pss_nil)))
    (pss_one (ps_ret pe_non))), ?_⟩
    refine ⟨_, rfl, _, _, rfl, .inl ha, _, _, rfl, (by rw [List.length_map]; omega), for_range (n := (((ns.map V.int).length : Int) - 1).toNat) (fun i σ H1 => (∃ b, σ = [some (.ref a), b]) ∧ H1 = H) ⟨⟨_, rfl⟩, rfl⟩ ?_ ?_⟩
    · rintro i σ H1 hi ⟨⟨b, rfl⟩, rfl⟩
      rw [List.length_map] at hi
      have h1 : i < ns.length := by omega
      have h2 : i + 1 < ns.length := by omega
      have e1 : atI (ns.map V.int) (1 + (i : Int) - 1) = some (V.int ns[i]) := by
        rw [show (1 : Int) + i - 1 = (i : Nat) by omega, atI_nat (by rw [List.getElem?_map, List.getElem?_eq_getElem h1]; rfl)]
      have e2 : atI (ns.map V.int) (1 + (i : Int)) = some (V.int ns[i + 1]) := by
        rw [show (1 : Int) + i = (i + 1 : Nat) by omega, atI_nat (by rw [List.getElem?_map, List.getElem?_eq_getElem h2]; rfl)]
      refine ⟨_, rfl, _, rfl, _, _, rfl, rfl, _, _, _, _, rfl, rfl, ha, e1, _, rfl, _, rfl, _, _, _, _, rfl, rfl, ha, e2, rfl, _, rfl, ?_⟩
      have ne : ns[i] ≠ ns[i + 1] := fun z => by
        have := nd_ix hn (List.getElem?_eq_getElem h1) (by rw [List.getElem?_eq_getElem h2, z])
        omega
      rw [show decide (V.int ns[i] = V.int ns[i + 1]) = false from decide_eq_false fun z => ne (V.int.inj z)]
      exact iteF ⟨⟨_, rfl⟩, rfl⟩
    · rintro σ H1 ⟨⟨b, rfl⟩, rfl⟩
      exact q
structure W1 (P : Program) (w : World) (K : PySem.W.Frag) (mg : Str → Option Value) (base : Heap) : Prop extends K3 P w K mg base where
  are_rows : Cal P w K mg base CX0 "are_rows" 3 ["things"] (spAreRows K)
  first_twice : Cal P w K mg base CX0 "first_twice" 1 ["numbers"] (spTwice K)
abbrev s_is_rows : Stmt := topS 49
theorem sc_is_rows : FnScope ["thing", "stream", "rows"] ["thing"] (defScope s_is_rows) := ⟨rfl, rfl, rfl, by decide +kernel, rfl, by decide +kernel, by decide +kernel⟩
theorem ok_is_rows {f : Addr} {fd : FuncData} (F : Fun K "is_rows" "is_rows" s_is_rows f fd) (B : Blt mg) (G : W1 P w K mg base) : FnOk P w K mg base CX0 4 f fd ["thing"] spIsRows := by
  refine F.ok sc_is_rows (fun vs H Q E h => ?_) (fun cdv A outer s H vs Q E hr h => ?_)
  · obtain ⟨d, names, A, T, rfl, _⟩ := h
    rfl
  · obtain ⟨d, names, A, T, rfl, R, nl, hz, q⟩ := h
    refine ⟨_, (pss_cons (ps_if (pt_not (pt_val (pe_callB call_isi (by rfl) B.isinstance (by decide +kernel) (pa_cons (pv 0) (pa_cons (pe_bltn (v := .ty "dict") (by rfl) B.dict (by decide +kernel) rfl) pa_nil)))))
      (pss_one (ps_ret pe_bl))
      pss_nil)
    (pss_one (ps_ret (pe_callB (cr_all rfl) (by rfl) B.all (by decide +kernel) (pa_cons (pe_lock (pe_lc (own := [("stream", 1), ("rows", 2)]) (g := gTup K 2 (gCons (gName 1) (gCons (gName 2) gNil))) (tt := tYes) (by rfl) sc_is_rows.nd (pi_items (pv 0)) (blkOk_by (own := [("stream", 1), ("rows", 2)]) (N := ["thing", "stream", "rows"]) (sc := defScope s_is_rows) (by decide +kernel)) (fun _ _ _ _ _ => (pg_tup (by rfl) (pgs_cons (pg_name (i := 1) sc_is_rows.nd rfl (Or.inl rfl)) (pgs_cons (pg_name (i := 2) sc_is_rows.nd rfl (Or.inl rfl)) pgs_nil)))) (fun _ _ _ _ _ => pts_nil) (fun _ _ _ _ _ => (pe_and (pe_cal G.is_name (hr.mono (by decide)) pass0 (pa_cons (pv 1) pa_nil)) (pe_and (pe_cal G.is_row (hr.mono (by decide)) pass0 (pa_cons (pv 2) pa_nil)) (pe_one (pe_cal G.are_rows (hr.mono (by decide)) pass0 (pa_cons (pv 2) pa_nil)))))))) pa_nil))))), ?_⟩
    have hd := R.at_
    refine ⟨_, rfl, _, _, _, _, true, rfl, ClsV.ty _, .base (.dK hd), kit_ty (by decide +kernel), _, rfl, iteF ?_⟩
    refine ⟨d, _, hd, trivial, fun od => ?_⟩
    have hDd : ∀ {D : Addr}, (upd H d (.frz od (.dK (names.map fun z => (Sum.inr z, V.ref (A z)))))) D = none → D ≠ d := fun h z => by rw [z, upd_same] at h; cases h
    refine ⟨_, rfl, d, od, _, rfl, upd_same, fun D hD => lc_it (walk_items (kvs := names.map fun z => ((Sum.inr z : Key), V.ref (A z)))) (fun i H1 => H1 D = some (.lst ((List.replicate i true).map V.bl)) ∧ Same (upd H d (.frz od (.dK (names.map fun z => (Sum.inr z, V.ref (A z)))))) H1) ⟨upd_same, sameAt (Same.refl _) hD⟩ (fun i H1 _ hv => hv.2 _ _ upd_same) ?_ ?_⟩
    · rintro i x H1 H2 hi ⟨hD1, hs⟩ ⟨T', x1, x2, rfl, hT', rfl, h1, h2⟩
      rw [List.length_map] at hi
      have hx : (names.map fun z => ((Sum.inr z : Key), V.ref (A z)))[i]? = some (Sum.inr names[i], V.ref (A names[i])) := by
        rw [List.getElem?_map, List.getElem?_eq_getElem hi]
        rfl
      simp only [hx, Option.map_some] at h1 h2
      cases h1
      cases h2
      have hm : names[i] ∈ names := List.getElem_mem hi
      generalize names[i] = z at hm
      obtain ⟨hN, hT4, hT0⟩ := hz z hm
      have hDT : D ≠ T' := fun z => by rw [← z, hD1] at hT'; cases hT'
      obtain ⟨ys, hy, hTr⟩ := R.row z hm
      have nAd : A z ≠ d := fun q => by rcases hy with h | h <;> (rw [q, hd] at h; cases h)
      have sT : Same (upd H d (.frz od (.dK (names.map fun z => (Sum.inr z, V.ref (A z)))))) (upd H1 T' (.tup [V.str z, .ref (A z)])) := hs.trans (sameAt (Same.refl H1) hT')
      have tkd : ∀ t xs, H t = some (.tup xs) → upd H d (.frz od (.dK (names.map fun z => (Sum.inr z, V.ref (A z))))) t = some (.tup xs) := fun t xs q => by rw [upd_ne (ne_of q hd (by intro z; cases z))]; exact q
      have hy1 : SeqAt2 (upd H d (.frz od (.dK (names.map fun z => (Sum.inr z, V.ref (A z)))))) (A z) ys := hy.to fun o h => by rw [upd_ne nAd]; exact h
      refine ⟨T', _, rfl, SqT.of upd_same, rfl, _, _, rfl, _, _, rfl, rfl, rfl, ?_⟩
      refine ⟨_, rfl, _, rfl, .inl ⟨z, rfl, (by have := hN.2.1; rw [sizeLine_eq]; omega), fun H3 s3 => ⟨_, rfl, ?_⟩⟩⟩
      rw [(nmB_iff z).mpr hN]
      refine iteT ⟨_, rfl, _, _, rfl, ((hy1.to fun o h => s3 _ _ (sT _ _ h)).imp id SqT.of), fun H4 s4 => ⟨_, rfl, iteT ?_⟩⟩
      refine ⟨_, rfl, A z, ys, T z, rfl, (hy1.to fun o h => s4 _ _ (s3 _ _ (sT _ _ h))), (((hTr.tk tkd).tk fun t xs q => sT _ _ q).tk fun t xs q => s3 _ _ q).tk (fun t xs q => s4 _ _ q), hT4, hT0, fun H5 s5 => ?_⟩
      have s15 : Same (upd H1 T' (.tup [V.str z, .ref (A z)])) H5 := (s3.trans s4).trans s5
      refine ⟨_, s15 _ _ (by rw [upd_ne hDT]; exact hD1), (by rw [List.length_map, List.length_replicate]; exact small1000 (by omega)), ?_, fun b o hb => ?_⟩
      · rw [upd_same, List.replicate_succ', List.map_append]
        rfl
      · rw [upd_ne (ne_of_none hb hD)]
        refine s15 _ _ ?_
        rw [upd_ne (ne_of_none (hs _ _ hb) hT')]
        exact hs _ _ hb
    · rintro H1 ⟨hD1, hs⟩
      refine ⟨hs _ _ upd_same, D, _, rfl, SqL.of (by rw [upd_ne (hDd hD)]; exact hD1), ?_⟩
      have e2 : ((List.replicate (names.map fun z => ((Sum.inr z : Key), V.ref (A z))).length true).all id) = true := by simp
      rw [e2]
      refine q _ fun b o hb => ?_
      by_cases e : b = d
      · rw [e, hd] at hb
        cases hb
        rw [e, upd_same]
      · rw [upd_ne e]
        exact hs _ _ (by rw [upd_ne e]; exact hb)
structure W2 (P : Program) (w : World) (K : PySem.W.Frag) (mg : Str → Option Value) (base : Heap) : Prop extends W1 P w K mg base where
  is_rows : Cal P w K mg base CX0 "is_rows" 4 ["thing"] spIsRows
abbrev s_World_init : Stmt := inClass (topS 48) 0
theorem sc_World_init : FnScope ["self", "rows", "ids", "twice", "stream", "row"] ["self", "rows"] (defScope s_World_init) := ⟨rfl, rfl, rfl, by decide +kernel, rfl, by decide +kernel, by decide +kernel⟩
theorem ok_world_init {f CW : Addr} {fd : FuncData} (F : Fun K "__init__" "World.__init__" s_World_init f fd) (B : Blt mg) (Cs : Cst mg) (T0 : Cw K mg CW) (G : W2 P w K mg base) : FnOk P w K mg base CX0 5 f fd ["self", "rows"] (spWorldInit CW) := by
  obtain ⟨t1, g_MOST_ROWS⟩ := Cs.k_MOST_ROWS
  refine F.ok sc_World_init (fun vs H Q E h => ?_) (fun cdv A outer s H vs Q E hr h => ?_)
  · obtain ⟨b, dx, d, names, A, T, n, rfl, _⟩ := h
    rfl
  · obtain ⟨b, dx, d, names, A0, T, n, rfl, hb, R, nl, nd, nm, G0, n4, q⟩ := h
    have hu := hu_of hr
    refine ⟨_, (pss_cons (ps_if (pt_not (pt_val (pe_cal G.is_rows (hr.mono (by decide)) pass0 (pa_cons (pv 1) pa_nil))))
      (pss_one ps_never)
      pss_nil)
    (pss_cons (ps_set (i := 2) sc_World_init.nd rfl (Or.inl rfl) (pe_callB cr_sortedI (by rfl) B.sorted (by decide +kernel) (pa_cons (pe_lock (pe_lc2 (own := [("stream", 4), ("row", 5)]) (vs1 := [5]) (g := gName 4) (g1 := gName 5) (tt := tYes) (tt1 := tYes) (by rfl) sc_World_init.nd (pi_keys (pv 1)) (blkOk_by (own := [("stream", 4), ("row", 5)]) (N := ["self", "rows", "ids", "twice", "stream", "row"]) (sc := defScope s_World_init) (by decide +kernel)) (by decide) (fun _ _ _ _ _ => (pg_name (i := 4) sc_World_init.nd rfl (Or.inl rfl))) (fun _ _ _ _ _ => pts_nil) (fun _ _ _ _ _ => (show PI _ _ _ (iAny K _) from pi_any (pe_dget hu (pv 1) (pv 4) (fun _ _ => rfl)))) (fun _ _ _ _ _ => (pg_name (i := 5) sc_World_init.nd rfl (Or.inl rfl))) (fun _ _ _ _ _ => pts_nil) (fun _ _ _ _ _ => (pe_ix (show IxR _ (rIxT K) from ix_tup) (pv 5) pe_int (fun _ _ => rfl))))) pa_nil)))
    (pss_cons (ps_set (i := 3) sc_World_init.nd rfl (Or.inl rfl) (pe_cal G.first_twice (hr.mono (by decide)) pass0 (pa_cons (pv 2) pa_nil)))
    (pss_cons (ps_if (pt_cmpR op_notN (pv 3) pe_non (nomark _))
      (pss_one ps_never)
      pss_nil)
    (pss_cons (ps_if (pt_cmpR op_gt (pe_callB call_len_seq (by rfl) B.len (by decide +kernel) (pa_cons (pv 2) pa_nil)) (pe_glob (v := .int 400) (by rfl) g_MOST_ROWS ⟨_, rfl⟩) (nomark _))
      (pss_one ps_never)
      pss_nil)
    (pss_cons (ps_fld (pv 0) (pe_lock (pe_dc (own := [("stream", 4)]) (g := gName 4) (by rfl) sc_World_init.nd (pi_keys (pv 1)) (blkOk_by (own := [("stream", 4)]) (N := ["self", "rows", "ids", "twice", "stream", "row"]) (sc := defScope s_World_init) (by decide +kernel)) (fun _ _ _ _ _ => (pg_name (i := 4) sc_World_init.nd rfl (Or.inl rfl))) (fun _ _ _ _ _ => pts_one (show PT _ _ (tTru K _) from pt_truth (pe_dget hu (pv 1) (pv 4) (fun _ _ => rfl)) (fun _ => rfl))) (fun _ _ _ _ _ => (pv 4)) (fun _ _ _ _ _ => (pe_callTy (show CallR _ _ (rTupS K) from call_tuple_of) (by rfl) B.tuple (by decide +kernel) (pa_cons (pe_callB (show CallR _ _ (rSort3A K) from cr_sort3A) (by rfl) B.sorted (by decide +kernel) (pa_cons (pe_dget hu (pv 1) (pv 4) (fun _ _ => rfl)) pa_nil)) pa_nil))))) rfl)
    (pss_one (ps_fld (pv 0) (pe_callTy call_tuple_of (by rfl) B.tuple (by decide +kernel) (pa_cons (pv 2) pa_nil)) rfl)))))))), ?_⟩
    have hd := R.at_
    refine ⟨_, rfl, d, names, A0, T, rfl, R, nl, fun z hz => ⟨nm z hz, Nat.le_trans (G0.few hz) n4, fun t ht => G0.lo _ (mem_ids.mpr ⟨z, hz, t, ht, rfl⟩)⟩, fun H1 s1 => ⟨_, rfl, iteF ?_⟩⟩
    have R1 := R.same s1
    have hd1 := R1.at_
    -- in the locked heap
    have dg : ∀ {Hb od Hx}, Same (upd Hb d (.frz od (.dK (names.map fun z => (Sum.inr z, V.ref (A0 z)))))) Hx → ∀ z ∈ names, DGet Hx d (.str z) (some (.ref (A0 z))) := fun {Hb od Hx} sx z hz => by
      have this : DGet Hx d (kV (Sum.inr z)) (valV (names.map fun z => ((Sum.inr z : Key), V.ref (A0 z))) (Sum.inr z : Key)) := .inl ⟨_, Sum.inr z, .inr ⟨od, sx _ _ upd_same⟩, rfl, rfl⟩
      rw [valV_nm, if_pos hz] at this
      exact this
    have dl : ∀ {Hb u}, RqAt Hb d names A0 T → ∀ z ∈ names, ∃ ys, SeqAt2 (upd Hb d u) (A0 z) ys ∧ TrAt (upd Hb d u) ys (T z) := fun {Hb u} R1 z hz => by
      obtain ⟨ys, hy, hT⟩ := R1.row z hz
      have nAd : A0 z ≠ d := fun q => by rcases hy with h | h <;> (rw [q, R1.at_] at h; cases h)
      exact ⟨ys, hy.to fun o h => by rw [upd_ne nAd]; exact h, hT.tk fun t xs q => by rw [upd_ne (ne_of q R1.at_ (by intro z; cases z))]; exact q⟩
    refine ⟨d, _, hd1, trivial, fun od => ⟨_, rfl, d, od, rfl, .inl ⟨_, upd_same, fun D hD => w_it (walk_keys (kvs := names.map fun z => ((Sum.inr z : Key), V.ref (A0 z)))) (fun i Hx => Hx D = some (.lst ((idsOf (names.take i) T).map V.int)) ∧ Same (upd H1 d (.frz od (.dK (names.map fun z => (Sum.inr z, V.ref (A0 z)))))) Hx) ⟨upd_same, sameAt (Same.refl _) hD⟩ (fun i Hx _ hv => hv.2 _ _ upd_same) ?_ ?_⟩⟩⟩
    · rintro i x Hx Hy hi ⟨hDx, sx⟩ ⟨rfl, k, v, hkv, rfl⟩
      rw [List.length_map] at hi
      rw [List.getElem?_map, List.getElem?_eq_getElem hi, Option.map_some] at hkv
      cases hkv
      have hm : names[i] ∈ names := List.getElem_mem hi
      have tk1 : names.take (i + 1) = names.take i ++ [names[i]] := list_take (List.getElem?_eq_getElem hi)
      generalize names[i] = z at hm tk1
      have hg := dg sx z hm
      obtain ⟨ys, hy, hT⟩ := dl (u := .frz od (.dK (names.map fun z => (Sum.inr z, V.ref (A0 z))))) R1 z hm
      have e1 : idsOf (names.take (i + 1)) T = idsOf (names.take i) T ++ (T z).map (·.2.1) := by
        rw [tk1]
        unfold idsOf
        rw [List.flatMap_append]
        simp
      have fewI : (idsOf (names.take (i + 1)) T).length ≤ 400 := by
        have sl : (idsOf (names.take (i + 1)) T).Sublist (idsOf names T) := by
          have e : idsOf names T = idsOf (names.take (i + 1)) T ++ idsOf (names.drop (i + 1)) T := by
            show names.flatMap _ = _
            unfold idsOf
            rw [← List.flatMap_append, List.take_append_drop]
          rw [e]
          exact List.sublist_append_left _ _
        exact Nat.le_trans sl.length_le (by rw [G0.len]; exact n4)
      rcases hy with hy | hy
      · refine ⟨rfl, _, rfl, _, rfl, d, _, rfl, hg, A0 z, rfl, .inl ⟨⟨_, SqL.of (sx _ _ hy)⟩, w_it (walk_list (xs := ys)) (fun j Hz => Hz D = some (.lst ((idsOf (names.take i) T ++ ((T z).take j).map (·.2.1)).map V.int)) ∧ Same (upd H1 d (.frz od (.dK (names.map fun z => (Sum.inr z, V.ref (A0 z)))))) Hz) ?_ (fun j Hz _ hv => SqL.of (hv.2 _ _ hy)) ?_ ?_⟩⟩
        · refine ⟨?_, sx⟩
          rw [hDx]
          simp
        · rintro j x Hz Hw hj ⟨hDz, sz⟩ ⟨rfl, hxj⟩
          have hj2 : j < (T z).length := by rw [← hT.1]; exact hj
          obtain ⟨t, ht⟩ : ∃ t, (T z)[j]? = some t := ⟨_, List.getElem?_eq_getElem hj2⟩
          obtain ⟨e, rfl, he⟩ := hT.2 j x t hxj ht
          have he1 := sz _ _ he
          refine ⟨rfl, _, rfl, _, _, _, _, rfl, rfl, SqT.of he1, rfl, _, hDz, ?_, ?_, sameAt sz hD⟩
          · refine small1000 ?_
            rw [e1] at fewI
            rw [List.length_append, List.length_map] at fewI
            rw [List.length_map, List.length_append, List.length_map, List.length_take]
            omega
          · rw [upd_same, list_take ht, List.map_append, List.map_append (l₁ := (T z).take j), List.map_append, List.map_append, List.append_assoc]
            rfl
        · rintro Hz ⟨hDz, sz⟩
          refine ⟨?_, sz⟩
          rw [e1, hDz, hT.1, List.take_length]
      · refine ⟨rfl, _, rfl, _, rfl, d, _, rfl, hg, A0 z, rfl, .inr ⟨⟨_, SqT.of (sx _ _ hy)⟩, w_it (walk_tup (xs := ys)) (fun j Hz => Hz D = some (.lst ((idsOf (names.take i) T ++ ((T z).take j).map (·.2.1)).map V.int)) ∧ Same (upd H1 d (.frz od (.dK (names.map fun z => (Sum.inr z, V.ref (A0 z)))))) Hz) ?_ (fun j Hz _ hv => SqT.of (hv.2 _ _ hy)) ?_ ?_⟩⟩
        · refine ⟨?_, sx⟩
          rw [hDx]
          simp
        · rintro j x Hz Hw hj ⟨hDz, sz⟩ ⟨rfl, hxj⟩
          have hj2 : j < (T z).length := by rw [← hT.1]; exact hj
          obtain ⟨t, ht⟩ : ∃ t, (T z)[j]? = some t := ⟨_, List.getElem?_eq_getElem hj2⟩
          obtain ⟨e, rfl, he⟩ := hT.2 j x t hxj ht
          have he1 := sz _ _ he
          refine ⟨rfl, _, rfl, _, _, _, _, rfl, rfl, SqT.of he1, rfl, _, hDz, ?_, ?_, sameAt sz hD⟩
          · refine small1000 ?_
            rw [e1] at fewI
            rw [List.length_append, List.length_map] at fewI
            rw [List.length_map, List.length_append, List.length_map, List.length_take]
            omega
          · rw [upd_same, list_take ht, List.map_append, List.map_append (l₁ := (T z).take j), List.map_append, List.map_append, List.append_assoc]
            rfl
        · rintro Hz ⟨hDz, sz⟩
          refine ⟨?_, sz⟩
          rw [e1, hDz, hT.1, List.take_length]
    · rintro Hx ⟨hDx, sx⟩
      rw [List.length_map, List.take_length] at hDx
      have Dd : D ≠ d := fun z => by rw [z, upd_same] at hD; cases hD
      have s2 := unlock sx hd1
      have il : (idsOf names T).length ≤ 400 := by rw [G0.len]; exact n4
      refine ⟨sx _ _ upd_same, D, idsOf names T, rfl, SqL.of (by rw [upd_ne Dd]; exact hDx), fun ns' p hperm hsort hp => ?_⟩
      have s3 := s2.trans (sameAt (Same.refl _) hp (o := .lst (ns'.map V.int)))
      have nl' : ns'.length ≤ 400 := by rw [hperm.length_eq]; exact il
      refine ⟨_, rfl, p, ns', rfl, SqL.of upd_same, nl', hperm.symm.nodup G0.nd, ?_⟩
      refine ⟨_, rfl, rfl, _, rfl, iteF ?_⟩
      have d4 : decide ((400 : Int) < ((ns'.map V.int).length : Int)) = false := decide_eq_false (by rw [List.length_map]; omega)
      refine ⟨_, rfl, _, _, rfl, .inl (SqL.of upd_same), _, _, rfl, rfl, _, rfl, ?_⟩
      rw [d4]
      refine iteF ?_
      have hp3 : (upd (upd Hx d (.dK (names.map fun z => (Sum.inr z, V.ref (A0 z))))) p (.lst (ns'.map V.int))) p = some (.lst (ns'.map V.int)) := upd_same
      generalize upd (upd Hx d (.dK (names.map fun z => (Sum.inr z, V.ref (A0 z))))) p (.lst (ns'.map V.int)) = H3 at s3 hp3 ⊢
      have R3 := R1.same s3
      refine ⟨d, _, R3.at_, trivial, fun od2 => ⟨_, rfl, d, od2, rfl, .inl ⟨_, upd_same, fun D2 hD2 => dc_it (walk_keys (kvs := names.map fun z => ((Sum.inr z : Key), V.ref (A0 z)))) (fun i Hy => ∃ kvs, Hy D2 = some (.dK kvs) ∧ kvs.length ≤ i ∧ Same (upd H3 d (.frz od2 (.dK (names.map fun z => (Sum.inr z, V.ref (A0 z)))))) Hy ∧
        ∀ z, (z ∉ names.take i → valV kvs (Sum.inr z : Key) = none) ∧ (z ∈ names.take i → (valV kvs (Sum.inr z : Key) = none ∧ T z = []) ∨ ∃ e ys ws, valV kvs (Sum.inr z : Key) = some (.ref e) ∧ Hy e = some (.tup ys) ∧ TrAt Hy ys ws ∧ ws.Perm (T z) ∧ ws.Pairwise fun a b => lex3 a b = true)) ?_ (fun i Hy _ hv => by
          obtain ⟨kvs, _, _, sx, _⟩ := hv
          exact sx _ _ upd_same) ?_ ?_⟩⟩⟩
      · exact ⟨[], upd_same, Nat.le_refl _, sameAt (Same.refl _) hD2, fun z => ⟨fun _ => rfl, fun h => nomatch h⟩⟩
      · rintro i x Hy Hz hi ⟨kvs, hDy, hl, sx, hv⟩ ⟨rfl, k, v, hkv, rfl⟩
        rw [List.length_map] at hi
        rw [List.getElem?_map, List.getElem?_eq_getElem hi, Option.map_some] at hkv
        cases hkv
        have hm : names[i] ∈ names := List.getElem_mem hi
        have tk1 : names.take (i + 1) = names.take i ++ [names[i]] := list_take (List.getElem?_eq_getElem hi)
        have hnt : names[i] ∉ names.take i := fun hm => by
          obtain ⟨j, hj, e⟩ := List.getElem_of_mem hm
          rw [List.length_take] at hj
          rw [List.getElem_take] at e
          have := nd_ix nd (List.getElem?_eq_some_iff.mpr ⟨by omega, e⟩) (List.getElem?_eq_getElem hi)
          omega
        generalize names[i] = z at hm tk1 hnt
        have hg := dg sx z hm
        obtain ⟨ys, hy, hT⟩ := dl (u := .frz od2 (.dK (names.map fun z => (Sum.inr z, V.ref (A0 z))))) R3 z hm
        refine ⟨rfl, _, rfl, _, rfl, d, _, rfl, hg, _, (hy.to fun o h => sx _ _ h).tru, ?_⟩
        cases ys with
        | nil =>
          refine ⟨kvs, hDy, by omega, sx, fun y => ?_⟩
          have T0 : T z = [] := List.length_eq_zero_iff.mp hT.1.symm
          rw [tk1]
          refine ⟨fun h => (hv y).1 fun q => h (List.mem_append_left _ q), fun h => ?_⟩
          rcases List.mem_append.mp h with h | h
          · exact (hv y).2 h
          · rw [List.mem_singleton.mp h]
            exact .inl ⟨(hv z).1 hnt, T0⟩
        | cons y0 yr =>
          refine iteT ⟨_, rfl, _, rfl, _, rfl, d, _, rfl, hg, A0 z, y0 :: yr, triOf Hz, rfl, (hy.to fun o h => sx _ _ h).sq, (hT.tk fun t xs q => sx _ _ q).tri, fun zs p2 hsrt hpm hp2 => ⟨p2, zs, rfl, .inl ⟨SqL.of upd_same, fun l hl => ?_⟩⟩⟩
          have hT' := hT.tk fun t xs q => sx _ _ q
          have p2D : p2 ≠ D2 := fun q => by rw [q, hDy] at hp2; cases hp2
          have hl0 : Hz l = none := none_of (sameAt (Same.refl Hz) hp2) hl
          have lD : l ≠ D2 := fun q => by rw [q, hDy] at hl0; cases hl0
          have lp : l ≠ p2 := fun q => by rw [q, upd_same] at hl; cases hl
          have sF : ∀ {u}, Same (upd H3 d (.frz od2 (.dK (names.map fun z => (Sum.inr z, V.ref (A0 z)))))) (upd (upd (upd Hz p2 (.lst zs)) l (.tup zs)) D2 u) := fun {u} => sameAt ((sx.trans (sameAt (Same.refl _) hp2)).trans (sameAt (Same.refl _) hl)) hD2
          have tkF : ∀ {u} t xs, Hz t = some (.tup xs) → (upd (upd (upd Hz p2 (.lst zs)) l (.tup zs)) D2 u) t = some (.tup xs) := fun {u} t xs q => by
            rw [upd_ne (ne_of q hDy (by intro z; cases z)), upd_ne (ne_of_none q hl0), upd_ne (ne_of_none q hp2)]
            exact q
          refine ⟨kvs, Sum.inr z, rfl, by rw [upd_ne (Ne.symm lD), upd_ne (Ne.symm p2D)]; exact hDy, small1000 (by omega), _, upd_same, Nat.le_trans (pk_len _ _ _) (by omega), sF, fun y => ?_⟩
          rw [tk1, valV_put]
          refine ⟨fun h => ?_, fun h => ?_⟩
          · rw [if_neg (fun q => h (by rw [Sum.inr.inj q]; simp))]
            exact (hv y).1 fun q => h (List.mem_append_left _ q)
          · by_cases ez : y = z
            · subst ez
              rw [if_pos rfl]
              have tz : TrAt Hz zs (zs.map (triOf Hz)) := TrAt.of_tri fun x hx => hT'.tri x (hpm.mem_iff.mp hx)
              have pz : (zs.map (triOf Hz)).Perm (T y) := by
                have := hpm.map (triOf Hz)
                rw [hT'.map] at this
                exact this
              refine .inr ⟨l, zs, zs.map (triOf Hz), rfl, by rw [upd_ne lD, upd_same], tz.tk tkF, pz, asc_of (List.pairwise_map.mpr hsrt) ((pz.map (·.2.1)).symm.nodup (G0.apart hm))⟩
            · rw [if_neg (fun q => ez (Sum.inr.inj q))]
              rcases List.mem_append.mp h with h | h
              · rcases (hv y).2 h with h1 | ⟨e, ys', ws, g1, g2, g3, g4⟩
                · exact .inl h1
                · exact .inr ⟨e, ys', ws, g1, tkF _ _ g2, g3.tk tkF, g4⟩
              · exact absurd (List.mem_singleton.mp h) ez
      · rintro Hy ⟨kvs, hDy, hl, sx, hv⟩
        rw [List.length_map, List.take_length] at hv
        have s5 := unlock sx R3.at_
        have hdy := sx _ _ upd_same
        have hb3 := s3 _ _ (s1 _ _ hb)
        have hbF := s5 _ _ hb3
        have hpF := s5 _ _ hp3
        have pb : p ≠ b := ne_of hp3 hb3 (by intro z; cases z)
        have bd : b ≠ d := fun q => by rw [q] at hb3; rw [R3.at_] at hb3; cases hb3
        have hbY : Hy b = some (.ins CW dx []) := by rw [upd_ne bd] at hbF; exact hbF
        have D2b : D2 ≠ b := fun q => by rw [q, hbY] at hDy; cases hDy
        have D2d : D2 ≠ d := fun q => by rw [q, hdy] at hDy; cases hDy
        refine ⟨hdy, _, rfl, b, CW, dx, [], rfl, hbF, T0.cl, T0.nR, (by show 0 < 1000; decide), ?_⟩
        refine ⟨_, rfl, p, _, rfl, .inl ⟨SqL.of (by rw [upd_ne pb]; exact hpF), fun t ht => ?_⟩⟩
        have tb : t ≠ b := fun q => by rw [q, upd_same] at ht; cases ht
        have ht0 : upd Hy d (.dK (names.map fun z => (Sum.inr z, V.ref (A0 z)))) t = none := by rw [upd_ne tb] at ht; exact ht
        have td : t ≠ d := fun q => by rw [q, upd_same] at ht0; cases ht0
        have htY : Hy t = none := by rw [upd_ne td] at ht0; exact ht0
        refine ⟨_, rfl, b, CW, dx, _, rfl, by rw [upd_ne (Ne.symm tb), upd_same], T0.cl, T0.nI, (by show 1 < 1000; decide), ?_⟩
        have ex : ∀ z, ∃ ws : List T3, (z ∈ names → ws.Perm (T z) ∧ ws.Pairwise fun a b => lex3 a b = true) ∧ (z ∉ names → ws = []) ∧ ws.length ≤ 400 ∧ ((valV kvs (Sum.inr z : Key) = none ∧ ws = []) ∨ ∃ e ys, valV kvs (Sum.inr z : Key) = some (.ref e) ∧ Hy e = some (.tup ys) ∧ TrAt Hy ys ws) := fun z => by
          by_cases hz : z ∈ names
          · rcases (hv z).2 hz with ⟨h1, h2⟩ | ⟨e, ys, ws, g1, g2, g3, g4, g5⟩
            · exact ⟨[], fun _ => ⟨by rw [h2], List.Pairwise.nil⟩, fun _ => rfl, by simp, .inl ⟨h1, rfl⟩⟩
            · exact ⟨ws, fun _ => ⟨g4, g5⟩, fun h => absurd hz h, by rw [g4.length_eq]; exact Nat.le_trans (G0.few hz) n4, .inr ⟨e, ys, g1, g2, g3⟩⟩
          · exact ⟨[], fun h => absurd h hz, fun _ => rfl, by simp, .inl ⟨(hv z).1 hz, rfl⟩⟩
        obtain ⟨W, hW⟩ := Classical.axiomOfChoice ex
        have kp : ∀ {u1 u2 u3} c o, Hy c = some o → c ≠ b → c ≠ d → upd (upd (upd (upd Hy d u1) b u2) t u3) b (.ins CW dx (putF "_ids" (.ref t) [("_rows", .ref D2)])) c = some o := fun {u1 u2 u3} c o hc n1 n2 => by
          rw [upd_ne n1, upd_ne (ne_of_none hc htY), upd_ne n1, upd_ne n2]
          exact hc
        refine q _ W ⟨dx, D2, t, kvs, _, upd_same, kp _ _ hDy D2b D2d, by rw [upd_ne tb, upd_same], fun z => ⟨(hW z).2.2.1, ?_⟩⟩ ⟨fun z hz => (hW z).1 hz, fun z hz => (hW z).2.1 hz⟩ fun c o hc hn => ?_
        · have tkF : ∀ {u1 u2 u3} t' xs, Hy t' = some (.tup xs) → upd (upd (upd (upd Hy d u1) b u2) t u3) b (.ins CW dx (putF "_ids" (.ref t) [("_rows", .ref D2)])) t' = some (.tup xs) := fun {u1 u2 u3} t' xs q => kp _ _ q (ne_of q hbY (by intro z; cases z)) (ne_of q hdy (by intro z; cases z))
          rcases (hW z).2.2.2 with h | ⟨e, ys, g1, g2, g3⟩
          · exact .inl h
          · exact .inr ⟨e, ys, g1, tkF _ _ g2, g3.tk tkF⟩
        · have hc5 := s5 _ _ (s3 _ _ (s1 _ _ hc))
          rw [upd_ne hn, upd_ne (ne_of_none hc5 ht0), upd_ne hn]
          exact hc5
abbrev s_World_rows : Stmt := inClass (topS 48) 3
theorem sc_World_rows : FnScope ["self", "stream"] ["self", "stream"] (defScope s_World_rows) := ⟨rfl, rfl, rfl, by decide +kernel, rfl, by decide +kernel, by decide +kernel⟩
theorem ok_world_rows {f CW : Addr} {fd : FuncData} (F : Fun K "rows" "World.rows" s_World_rows f fd) (B : Blt mg) (T0 : Cw K mg CW) (G : K2 P w K mg base) : FnOk P w K mg base CX0 2 f fd ["self", "stream"] (spWorldRows CW) := by
  refine F.ok sc_World_rows (fun vs H Q E h => ?_) (fun cdv A outer s H vs Q E hr h => ?_)
  · obtain ⟨a, W, z, rfl, _⟩ := h
    rfl
  · obtain ⟨a, W, z, rfl, hW, hz, q⟩ := h
    have hu := hu_of hr
    refine ⟨_, (pss_cons (ps_if (pt_not (pt_val (pe_cal G.is_name (hr.mono (by decide)) pass0 (pa_cons (pv 1) pa_nil))))
      (pss_one ps_never)
      pss_nil)
    (pss_one (ps_ret (pe_callTy call_list_of (by rfl) B.list (by decide +kernel) (pa_cons (pe_dget2 hu (pe_fld (pv 0) rfl) (pv 1) (pe_tup pa_nil) ⟨rfl, rfl, rfl, rfl⟩) pa_nil))))), ?_⟩
    obtain ⟨dx, d, t, kvs, ids, h1, h2, h3, h4⟩ := id hW
    refine ⟨_, rfl, _, rfl, .inl ⟨z, rfl, (by have := hz.2.1; rw [sizeLine_eq]; omega), fun H1 s1 => ⟨_, rfl, ?_⟩⟩⟩
    rw [(nmB_iff z).mpr hz]
    refine iteF ?_
    refine ⟨_, rfl, a, CW, dx, _, _, rfl, s1 _ _ h1, T0.cl, T0.nR, rfl, d, rfl, .inl ⟨_, .inl (s1 _ _ h2)⟩, _, rfl, (by show 0 ≤ sizeLine; decide), fun e he => ⟨_, DGet.k (k := Sum.inr z) (sameAt (Same.refl H1) he _ _ (s1 _ _ h2)), ?_⟩⟩
    have s2 : Same H (upd H1 e (.tup [])) := s1.trans (sameAt (Same.refl H1) he)
    rcases (h4 z).2 with ⟨hv, hw⟩ | ⟨t', ys, hv, ht, hT⟩
    · rw [hv]
      refine ⟨e, [], rfl, .inr (SqT.of upd_same), fun l hl => ?_⟩
      refine q l [] _ (s2.trans (sameAt (Same.refl _) hl)) (none_of s2 hl) upd_same ?_
      rw [hw]
      exact ⟨rfl, fun i v t a b => by simp at a⟩
    · rw [hv]
      refine ⟨t', ys, rfl, .inr (SqT.of (s2 _ _ ht)), fun l hl => ?_⟩
      exact q l ys _ (s2.trans (sameAt (Same.refl _) hl)) (none_of s2 hl) upd_same (hT.tk fun t xs q => sameAt (Same.refl _) hl _ _ (s2 _ _ q))
end
end Ash

set_option Elab.async false
set_option linter.all false
set_option maxRecDepth 100000
set_option maxHeartbeats 4000000
namespace Ash
open PySem PySem.Spec PyProof.Rows L2
open C8 (pss_cut)
/-! ### terms: classes, sizes -/
abbrev ATTRS : List Str := ["stream", "term", "first", "second", "amount", "spelling", "depth", "parts", "looks", "choices"]
/-- the facts of the classes of terms -/
structure TF (K : PySem.W.Frag) (mg : Str → Option Value) (C : TC) : Prop where
  cl : ∀ a, C.Is a → Cls K a
  no : ∀ a, C.Is a → ∀ f ∈ ATTRS, NoAttr K a f
  ty : ∀ a, C.Is a → PySem.W.findIn K (.ref a) "__class__" = some (some (.builtin "object.__class__")) ∧ PySem.W.specialIn K (.builtin "object.__class__") "__get__" = some (some (.builtin "getset_descriptor.__get__")) ∧ PySem.W.takesIn K (.builtin "object.__class__") = some true ∧ PySem.W.mroIn K a (.type "object") = some true
  one : ∀ a b, C.Is a → C.Is b → PySem.W.kitOne K (.ref a) (.ref b) = some (decide (a = b))
  Now : mg "Now" = some (.ref C.now)
  Last : mg "Last" = some (.ref C.last)
  Next : mg "Next" = some (.ref C.next)
  Shift : mg "Shift" = some (.ref C.shift)
  Either : mg "Either" = some (.ref C.either)
  Later : mg "Later" = some (.ref C.later)
  Earlier : mg "Earlier" = some (.ref C.earlier)
theorem TF.tyx {K : PySem.W.Frag} {mg : Str → Option Value} {C : TC} (T : TF K mg C) {H : Hp} {a : Addr} {t : Tm} (h : TmAt C H a t) : TyX K H (.ref a) (.ref (C.of t)) := by
  obtain ⟨dx, fs, sp, i⟩ := h.in_
  obtain ⟨h1, h2, h3, h4⟩ := T.ty _ (C.is_of t)
  exact .base (.ins i.at_ (T.cl _ (C.is_of t)) h1 h2 h3 h4)
theorem TmAt.off {C : TC} {H H' : Hp} {b D dx : Addr} (hb : H b = some (.ins D dx [])) (k : ∀ c o, H c = some o → c ≠ b → H' c = some o) : ∀ {t : Tm} {a : Addr}, TmAt C H a t → TmAt C H' a t
  | .now, a, ⟨dx, sp, h1, h2⟩ => ⟨dx, sp, k _ _ h1 (ne_of h1 hb (by intro z; cases z)), k _ _ h2 (ne_of h2 hb (by intro z; cases z))⟩
  | .last s t, a, ⟨dx, c, sp, h1, h2, h3⟩ => ⟨dx, c, sp, k _ _ h1 (ne_of h1 hb (by intro z; cases z)), k _ _ h2 (ne_of h2 hb (by intro z; cases z)), TmAt.off hb k h3⟩
  | .next s t, a, ⟨dx, c, sp, h1, h2, h3⟩ => ⟨dx, c, sp, k _ _ h1 (ne_of h1 hb (by intro z; cases z)), k _ _ h2 (ne_of h2 hb (by intro z; cases z)), TmAt.off hb k h3⟩
  | .shift s t, a, ⟨dx, c, sp, h1, h2, h3⟩ => ⟨dx, c, sp, k _ _ h1 (ne_of h1 hb (by intro z; cases z)), k _ _ h2 (ne_of h2 hb (by intro z; cases z)), TmAt.off hb k h3⟩
  | .either s t, a, ⟨dx, c, d, sp, h1, h2, h3, h4⟩ => ⟨dx, c, d, sp, k _ _ h1 (ne_of h1 hb (by intro z; cases z)), k _ _ h2 (ne_of h2 hb (by intro z; cases z)), TmAt.off hb k h3, TmAt.off hb k h4⟩
  | .later s t, a, ⟨dx, c, d, sp, h1, h2, h3, h4⟩ => ⟨dx, c, d, sp, k _ _ h1 (ne_of h1 hb (by intro z; cases z)), k _ _ h2 (ne_of h2 hb (by intro z; cases z)), TmAt.off hb k h3, TmAt.off hb k h4⟩
  | .earlier s t, a, ⟨dx, c, d, sp, h1, h2, h3, h4⟩ => ⟨dx, c, d, sp, k _ _ h1 (ne_of h1 hb (by intro z; cases z)), k _ _ h2 (ne_of h2 hb (by intro z; cases z)), TmAt.off hb k h3, TmAt.off hb k h4⟩
def Tm.isLook : Tm → Bool
  | .last _ _ => true
  | .next _ _ => true
  | _ => false
theorem tyx_same {K : PySem.W.Frag} {H H' : Hp} {v : V} {t : Value} (h : TyX K H v t) (s : Same H H') : TyX K H' v t := by
  cases h with
  | base b =>
    refine .base ?_
    cases b with
    | non => exact .non
    | bl x => exact .bl x
    | int x => exact .int x
    | str x => exact .str x
    | flt x => exact .flt x
    | lst e => exact .lst (s _ _ e)
    | frz e => exact .frz (s _ _ e)
    | tup e => exact .tup (s _ _ e)
    | dK e => exact .dK (s _ _ e)
    | dT e => exact .dT (s _ _ e)
    | ins e c a b d f => exact .ins (s _ _ e) c a b d f
  | byt b => exact .byt b
  | set e => exact .set (s _ _ e)
  | kList e c => exact .kList e c
  | kTuple e c => exact .kTuple e c
  | kDict e c => exact .kDict e c
  | fTuple e => exact .fTuple (s _ _ e)
  | fDict e => exact .fDict (s _ _ e)
/-- the classes are apart -/
structure TD (C : TC) : Prop where
  nd : [C.now, C.last, C.next, C.shift, C.either, C.later, C.earlier].Nodup
theorem TD.look {C : TC} (D : TD C) (t : Tm) : decide (C.of t ∈ [C.last, C.next]) = t.isLook := by
  have h := D.nd
  simp only [List.nodup_cons, List.mem_cons, List.not_mem_nil, or_false, not_or] at h
  obtain ⟨⟨a1, a2, a3, a4, a5, a6⟩, ⟨b1, b2, b3, b4, b5⟩, ⟨c1, c2, c3, c4⟩, _⟩ := h
  cases t <;> simp [TC.of, Tm.isLook, a1, a2, Ne.symm b2, Ne.symm b3, Ne.symm b4, Ne.symm b5, Ne.symm c1, Ne.symm c2, Ne.symm c3, Ne.symm c4, Ne.symm b1]
/-- no term -/
def NotTm (K : PySem.W.Frag) (C : TC) (H : Hp) (v : V) : Prop := ∃ t, TyX K H v t ∧ ∀ a, C.Is a → PySem.W.kitOne K t (.ref a) = some false
def spIsTerm (K : PySem.W.Frag) (C : TC) : Sp := fun vs H Q _ => ∃ v, vs = [v] ∧ ((∃ a t, v = .ref a ∧ TmAt C H a t ∧ ∀ H', Same H H' → Q (.bl true) H') ∨ (NotTm K C H v ∧ ∀ H', Same H H' → Q (.bl false) H'))
def spIsLook (C : TC) : Sp := fun vs H Q _ => ∃ a t, vs = [.ref a] ∧ TmAt C H a t ∧ ∀ H', Same H H' → Q (.bl t.isLook) H'
def spCStream : Sp := fun vs H Q _ => ∃ z, vs = [.str z] ∧ IsNm z ∧ ∀ H', Same H H' → Q (.str z) H'
def spCTerm (C : TC) : Sp := fun vs H Q _ => ∃ a t, vs = [.ref a] ∧ TmAt C H a t ∧ ∀ H', Same H H' → Q (.ref a) H'
def szD (ts : List Tm) : Int := 1 + mxD (ts.map Tm.dep) 0
def szP (ts : List Tm) : Int := 1 + (ts.map Tm.par).sum
def szL (ts : List Tm) : Int := (ts.map Tm.lok).sum
def szC (ts : List Tm) : Int := (ts.map Tm.cho).sum
def spSizes (C : TC) : Sp := fun vs H Q _ => ∃ (tp : Addr) (as : List Addr) (ts : List Tm) (l0 c0 : Int), vs = [.ref tp, .int l0, .int c0] ∧ H tp = some (.tup (as.map V.ref)) ∧ as.length = ts.length ∧ as.length ≤ 2 ∧ (∀ (i : Nat) a t, as[i]? = some a → ts[i]? = some t → TmAt C H a t) ∧
  szD ts ≤ 12 ∧ szP ts ≤ 40 ∧ l0 + szL ts ≤ 12 ∧ ∀ (q : Addr) H', Same H H' → H q = none → H' q = some (.tup [.int (szD ts), .int (szP ts), .int (l0 + szL ts), .int (c0 + szC ts)]) → Q (.ref q) H'
/-- one more attribute -/
def Keep (b : Addr) (H H' : Hp) : Prop := ∀ c o, H c = some o → c ≠ b → H' c = some o
def spInit0 (C : TC) : Sp := fun vs H Q _ => ∃ (b dx : Addr), vs = [.ref b] ∧ H b = some (.ins C.now dx []) ∧ ∀ H', TmAt C H' b .now → Keep b H H' → Q .non H'
def spInitL (C : TC) (D : Addr) (mk : Str → Tm → Tm) : Sp := fun vs H Q _ => ∃ (b dx a : Addr) (z : Str) (t : Tm), vs = [.ref b, .str z, .ref a] ∧ H b = some (.ins D dx []) ∧ IsNm z ∧ TmAt C H a t ∧ (mk z t).Fit ∧ ∀ H', TmAt C H' b (mk z t) → Keep b H H' → Q .non H'
def spInitS (C : TC) : Sp := fun vs H Q _ => ∃ (b dx a : Addr) (n : Int) (t : Tm), vs = [.ref b, .ref a, .int n] ∧ H b = some (.ins C.shift dx []) ∧ TmAt C H a t ∧ (Tm.shift n t).Fit ∧ ∀ H', TmAt C H' b (.shift n t) → Keep b H H' → Q .non H'
def spInitP (C : TC) (D : Addr) (mk : Tm → Tm → Tm) : Sp := fun vs H Q _ => ∃ (b dx a c : Addr) (t u : Tm), vs = [.ref b, .ref a, .ref c] ∧ H b = some (.ins D dx []) ∧ TmAt C H a t ∧ TmAt C H c u ∧ (mk t u).Fit ∧ ∀ H', TmAt C H' b (mk t u) → Keep b H H' → Q .non H'
section
variable {P : Program} {w : World} {K : PySem.W.Frag} {mg : Str → Option Value} {base : Heap} {C : TC}
theorem TF.any (T : TF K mg C) {a : Addr} (ha : C.Is a) : ∀ {bs : List Addr}, (∀ b ∈ bs, C.Is b) → PySem.W.kitAny K (.ref a) (bs.map Value.ref) = some (decide (a ∈ bs))
  | [], _ => rfl
  | b :: r, h => by
    have ih := T.any ha (bs := r) fun b hb => h b (List.mem_cons_of_mem _ hb)
    refine kitAny_cons (b := decide (a = b)) (T.one a b ha (h b List.mem_cons_self)) (fun e => ?_) (fun e => ?_)
    · rw [ih]
      have : ¬ a = b := of_decide_eq_false e
      simp [this]
    · have : a = b := of_decide_eq_true e
      simp [this]
abbrev s_is_term : Stmt := topS 29
theorem sc_is_term : FnScope ["thing"] ["thing"] (defScope s_is_term) := ⟨rfl, rfl, rfl, by decide +kernel, rfl, by decide +kernel, by decide +kernel⟩
theorem ok_is_term {f : Addr} {fd : FuncData} (F : Fun K "is_term" "is_term" s_is_term f fd) (B : Blt mg) (T : TF K mg C) : FnOk P w K mg base CX0 1 f fd ["thing"] (spIsTerm K C) := by
  obtain ⟨t_cl, t_no, t_ty, t_one, c_Now, c_Last, c_Next, c_Shift, c_Either, c_Later, c_Earlier⟩ := id T
  refine F.ok sc_is_term (fun vs H Q E h => ?_) (fun cdv A outer s H vs Q E hr h => ?_)
  · obtain ⟨v, rfl, _⟩ := h
    rfl
  · obtain ⟨v, rfl, hv⟩ := h
    refine ⟨_, (pss_one (ps_ret (pe_callB call_isiT (by rfl) B.isinstance (by decide +kernel) (pa_cons (pv 0) (pa_cons (pe_tup (pa_cons (pe_glob (v := .ref C.now) (by rfl) c_Now rfl) (pa_cons (pe_glob (v := .ref C.last) (by rfl) c_Last rfl) (pa_cons (pe_glob (v := .ref C.next) (by rfl) c_Next rfl) (pa_cons (pe_glob (v := .ref C.shift) (by rfl) c_Shift rfl) (pa_cons (pe_glob (v := .ref C.either) (by rfl) c_Either rfl) (pa_cons (pe_glob (v := .ref C.later) (by rfl) c_Later rfl) (pa_cons (pe_glob (v := .ref C.earlier) (by rfl) c_Earlier rfl) pa_nil)))))))) pa_nil))))), ?_⟩
    refine ⟨_, rfl, (by show 7 ≤ sizeLine; decide), fun p hp => ?_⟩
    have s1 : ∀ {o}, Same H (upd H p o) := fun {o} => sameAt (Same.refl H) hp
    have cs : ∀ b ∈ [C.now, C.last, C.next, C.shift, C.either, C.later, C.earlier], C.Is b := fun b hb => by
      simp only [List.mem_cons, List.not_mem_nil, or_false] at hb
      exact hb
    rcases hv with ⟨a, t, rfl, h, q⟩ | ⟨⟨t, h, hn⟩, q⟩
    · have k := T.any (C.is_of t) cs
      have e : decide (C.of t ∈ [C.now, C.last, C.next, C.shift, C.either, C.later, C.earlier]) = true := by
        have := C.is_of t
        simp only [List.mem_cons, List.not_mem_nil, or_false, decide_eq_true_eq]
        exact this
      rw [e] at k
      exact ⟨_, p, _, _, _, true, rfl, upd_same, .cons (.own _) (.cons (.own _) (.cons (.own _) (.cons (.own _) (.cons (.own _) (.cons (.own _) (.cons (.own _) .nil)))))), T.tyx (h.same s1), k, q _ s1⟩
    · have k : PySem.W.kitAny K t ([C.now, C.last, C.next, C.shift, C.either, C.later, C.earlier].map Value.ref) = some false := by
        have : ∀ bs : List Addr, (∀ b ∈ bs, C.Is b) → PySem.W.kitAny K t (bs.map Value.ref) = some false := fun bs => by
          induction bs with
          | nil => exact fun _ => rfl
          | cons b r ih => exact fun hb => kitAny_cons (hn b (hb b List.mem_cons_self)) (fun _ => ih fun b hb' => hb b (List.mem_cons_of_mem _ hb')) (fun z => nomatch z)
        exact this _ cs
      exact ⟨_, p, _, _, _, false, rfl, upd_same, .cons (.own _) (.cons (.own _) (.cons (.own _) (.cons (.own _) (.cons (.own _) (.cons (.own _) (.cons (.own _) .nil)))))), tyx_same h s1, k, q _ s1⟩
abbrev s_is_look : Stmt := topS 30
theorem sc_is_look : FnScope ["thing"] ["thing"] (defScope s_is_look) := ⟨rfl, rfl, rfl, by decide +kernel, rfl, by decide +kernel, by decide +kernel⟩
theorem ok_is_look {f : Addr} {fd : FuncData} (F : Fun K "is_look" "is_look" s_is_look f fd) (B : Blt mg) (T : TF K mg C) (D : TD C) : FnOk P w K mg base CX0 1 f fd ["thing"] (spIsLook C) := by
  obtain ⟨t_cl, t_no, t_ty, t_one, c_Now, c_Last, c_Next, c_Shift, c_Either, c_Later, c_Earlier⟩ := id T
  refine F.ok sc_is_look (fun vs H Q E h => ?_) (fun cdv A outer s H vs Q E hr h => ?_)
  · obtain ⟨a, t, rfl, _⟩ := h
    rfl
  · obtain ⟨a, t, rfl, h, q⟩ := h
    refine ⟨_, (pss_one (ps_ret (pe_callB call_isiT (by rfl) B.isinstance (by decide +kernel) (pa_cons (pv 0) (pa_cons (pe_tup (pa_cons (pe_glob (v := .ref C.last) (by rfl) c_Last rfl) (pa_cons (pe_glob (v := .ref C.next) (by rfl) c_Next rfl) pa_nil))) pa_nil))))), ?_⟩
    refine ⟨_, rfl, (by show 2 ≤ sizeLine; decide), fun p hp => ?_⟩
    have s1 : ∀ {o}, Same H (upd H p o) := fun {o} => sameAt (Same.refl H) hp
    have cs : ∀ b ∈ [C.last, C.next], C.Is b := fun b hb => by
      simp only [List.mem_cons, List.not_mem_nil, or_false] at hb
      exact .inr (hb.elim .inl fun z => .inr (.inl z))
    have k := T.any (C.is_of t) cs
    refine ⟨_, p, _, _, _, _, rfl, upd_same, .cons (.own _) (.cons (.own _) .nil), T.tyx (h.same s1), k, ?_⟩
    have e : decide (C.of t ∈ [C.last, C.next]) = t.isLook := D.look t
    rw [e]
    exact q _ s1
structure T1 (P : Program) (w : World) (K : PySem.W.Frag) (mg : Str → Option Value) (base : Heap) (C : TC) : Prop extends W2 P w K mg base where
  is_term : Cal P w K mg base CX0 "is_term" 1 ["thing"] (spIsTerm K C)
  is_look : Cal P w K mg base CX0 "is_look" 1 ["thing"] (spIsLook C)
abbrev s_checked_stream : Stmt := topS 31
theorem sc_checked_stream : FnScope ["stream"] ["stream"] (defScope s_checked_stream) := ⟨rfl, rfl, rfl, by decide +kernel, rfl, by decide +kernel, by decide +kernel⟩
theorem ok_cstream {f : Addr} {fd : FuncData} (F : Fun K "checked_stream" "checked_stream" s_checked_stream f fd) (B : Blt mg) (G : T1 P w K mg base C) : FnOk P w K mg base CX0 2 f fd ["stream"] spCStream := by
  refine F.ok sc_checked_stream (fun vs H Q E h => ?_) (fun cdv A outer s H vs Q E hr h => ?_)
  · obtain ⟨z, rfl, _⟩ := h
    rfl
  · obtain ⟨z, rfl, hz, q⟩ := h
    refine ⟨_, (pss_cons (ps_if (pt_not (pt_val (pe_cal G.is_name (hr.mono (by decide)) pass0 (pa_cons (pv 0) pa_nil))))
      (pss_one ps_never)
      pss_nil)
    (pss_one (ps_ret (pv 0)))), ?_⟩
    refine ⟨_, rfl, _, rfl, .inl ⟨z, rfl, (by have := hz.2.1; rw [sizeLine_eq]; omega), fun H1 s1 => ⟨_, rfl, ?_⟩⟩⟩
    rw [(nmB_iff z).mpr hz]
    exact iteF ⟨_, rfl, q H1 s1⟩
abbrev s_checked_term : Stmt := topS 32
theorem sc_checked_term : FnScope ["term"] ["term"] (defScope s_checked_term) := ⟨rfl, rfl, rfl, by decide +kernel, rfl, by decide +kernel, by decide +kernel⟩
theorem ok_cterm {f : Addr} {fd : FuncData} (F : Fun K "checked_term" "checked_term" s_checked_term f fd) (B : Blt mg) (G : T1 P w K mg base C) : FnOk P w K mg base CX0 2 f fd ["term"] (spCTerm C) := by
  refine F.ok sc_checked_term (fun vs H Q E h => ?_) (fun cdv A outer s H vs Q E hr h => ?_)
  · obtain ⟨a, t, rfl, _⟩ := h
    rfl
  · obtain ⟨a, t, rfl, h, q⟩ := h
    refine ⟨_, (pss_cons (ps_if (pt_not (pt_val (pe_cal G.is_term (hr.mono (by decide)) pass0 (pa_cons (pv 0) pa_nil))))
      (pss_one ps_never)
      pss_nil)
    (pss_one (ps_ret (pv 0)))), ?_⟩
    exact ⟨_, rfl, _, rfl, .inl ⟨a, t, rfl, h, fun H1 s1 => ⟨_, rfl, iteF ⟨_, rfl, q H1 s1⟩⟩⟩⟩
abbrev s_sizes : Stmt := topS 33
theorem sc_sizes : FnScope ["children", "looks", "choices", "depth", "parts", "child"] ["children", "looks", "choices"] (defScope s_sizes) := ⟨rfl, rfl, rfl, by decide +kernel, rfl, by decide +kernel, by decide +kernel⟩
theorem ok_sizes {f : Addr} {fd : FuncData} (F : Fun K "sizes" "sizes" s_sizes f fd) (B : Blt mg) (Cs : Cst mg) (T : TF K mg C) : FnOk P w K mg base CX0 1 f fd ["children", "looks", "choices"] (spSizes C) := by
  obtain ⟨t1, g_MOST_DEPTH⟩ := Cs.k_MOST_DEPTH
  obtain ⟨t2, g_MOST_PARTS⟩ := Cs.k_MOST_PARTS
  obtain ⟨t3, g_MOST_LOOKS⟩ := Cs.k_MOST_LOOKS
  refine F.ok sc_sizes (fun vs H Q E h => ?_) (fun cdv A outer s H vs Q E hr h => ?_)
  · obtain ⟨tp, as, ts, l0, c0, rfl, _⟩ := h
    rfl
  · obtain ⟨tp, as, ts, l0, c0, rfl, ht, hl, h2, hT, hd, hp, hk, q⟩ := h
    have hu9 : (A.deeper (envOfC "sizes" (defScope s_sizes) s.heap.objs.size f cdv)).units + 9 < cLine := by
      have := hr.units
      omega
    have comp : ∀ (nm : Str) (F : Tm → Int) (hF : ∀ {H2 a t dx fs sp}, TmIn C H2 a t dx fs sp → fs.lookup nm = some (.int (F t))) (hA : nm ∈ ATTRS) (H1 : Hp) (s1 : Same H H1) (D : Addr) (hD : H1 D = none) (x1 x2 x3 x4 x5 : Option V) (Qd : Hp → Prop), (∀ H2, Same H H2 → H2 D = some (.lst ((ts.map F).map V.int)) → Qd H2) →
        ∃ W : Nat → Nat → Hp → Prop, (∃ m, W 0 m (upd H1 D (.lst []))) ∧ ∀ i m H, W i m H →
          ((Itt K tp).stop i H ∧ Qd H) ∨ ((Itt K tp).go i H ∧ ∃ Nx : Hp → Prop, (∀ H', Nx H' → ∃ m', m' < m ∧ W (i + 1) m' H') ∧ ∀ x H', (Itt K tp).yld i H x H' → gName 5 x (wipe [some (.ref tp), x1, x2, x3, x4, x5] [5]) H' fun σ2 H2 => wipe σ2 [5] = wipe [some (.ref tp), x1, x2, x3, x4, x5] [5] ∧ tYes σ2 H2 fun b H3 =>
            if b = true then tFld K (tVar 5) nm σ2 H3 fun y H4 => ∃ acc, H4 D = some (.lst acc) ∧ acc.length < sizeLine ∧ Nx (upd H4 D (.lst (acc ++ [y]))) else Nx H3) := fun nm F hF hA H1 s1 D hD x1 x2 x3 x4 x5 Qd q2 => by
      refine lc_it (walk_tup (xs := as.map V.ref)) (fun i H3 => H3 D = some (.lst (((ts.take i).map F).map V.int)) ∧ Same H1 H3) ⟨upd_same, sameAt (Same.refl H1) hD⟩ (fun i H3 _ hv => SqT.of (hv.2 _ _ (s1 _ _ ht))) ?_ ?_
      · rintro i x H3 H4 hi ⟨hD3, s3⟩ ⟨rfl, hx⟩
        rw [List.length_map] at hi
        rw [List.getElem?_map, List.getElem?_eq_getElem hi, Option.map_some] at hx
        cases hx
        have hi2 : i < ts.length := by rw [← hl]; exact hi
        have ht2 := List.getElem?_eq_getElem hi2
        have hm := (hT i _ _ (List.getElem?_eq_getElem hi) ht2).same (s1.trans s3)
        obtain ⟨dx, fs, sp, In⟩ := hm.in_
        refine ⟨rfl, _, rfl, _, _, dx, fs, _, rfl, In.at_, T.cl _ (C.is_of _), T.no _ (C.is_of _) _ hA, hF In, _, hD3, ?_, ?_, sameAt s3 hD⟩
        · rw [List.length_map, List.length_map, List.length_take]
          exact small1000 (by omega)
        · rw [upd_same, list_take ht2, List.map_append, List.map_append]
          rfl
      · rintro H3 ⟨hD3, s3⟩
        rw [List.length_map, hl, List.take_length] at hD3
        exact q2 H3 (s1.trans s3) hD3
    refine ⟨_, (pss_cons (ps_set (i := 3) sc_sizes.nd rfl (Or.inl rfl) (pe_op op_add pe_int (pe_callBK (cr_maxD rfl hu9) (by rfl) B.max (by decide +kernel) (pa_cons (pe_lc (own := [("child", 5)]) (g := gName 5) (tt := tYes) (by rfl) sc_sizes.nd (pi_tup (pv 0)) (blkOk_by (own := [("child", 5)]) (N := ["children", "looks", "choices", "depth", "parts", "child"]) (sc := defScope s_sizes) (by decide +kernel)) (fun _ _ _ _ _ => (pg_name (i := 5) sc_sizes.nd rfl (Or.inl rfl))) (fun _ _ _ _ _ => pts_nil) (fun _ _ _ _ _ => (show PE _ _ (tFld K _ _) from pe_fld (pv 5) rfl))) pa_nil) (pk_cons pe_int pk_nil))))
    (pss_cons (ps_set (i := 4) sc_sizes.nd rfl (Or.inl rfl) (pe_op op_add pe_int (pe_callB (cr_sum rfl) (by rfl) B.sum (by decide +kernel) (pa_cons (pe_lc (own := [("child", 5)]) (g := gName 5) (tt := tYes) (by rfl) sc_sizes.nd (pi_tup (pv 0)) (blkOk_by (own := [("child", 5)]) (N := ["children", "looks", "choices", "depth", "parts", "child"]) (sc := defScope s_sizes) (by decide +kernel)) (fun _ _ _ _ _ => (pg_name (i := 5) sc_sizes.nd rfl (Or.inl rfl))) (fun _ _ _ _ _ => pts_nil) (fun _ _ _ _ _ => (show PE _ _ (tFld K _ _) from pe_fld (pv 5) rfl))) pa_nil))))
    (pss_cons (ps_set (i := 1) sc_sizes.nd rfl (Or.inl rfl) (pe_op op_add (pv 1) (pe_callB (cr_sum rfl) (by rfl) B.sum (by decide +kernel) (pa_cons (pe_lc (own := [("child", 5)]) (g := gName 5) (tt := tYes) (by rfl) sc_sizes.nd (pi_tup (pv 0)) (blkOk_by (own := [("child", 5)]) (N := ["children", "looks", "choices", "depth", "parts", "child"]) (sc := defScope s_sizes) (by decide +kernel)) (fun _ _ _ _ _ => (pg_name (i := 5) sc_sizes.nd rfl (Or.inl rfl))) (fun _ _ _ _ _ => pts_nil) (fun _ _ _ _ _ => (show PE _ _ (tFld K _ _) from pe_fld (pv 5) rfl))) pa_nil))))
    (pss_cons (ps_set (i := 2) sc_sizes.nd rfl (Or.inl rfl) (pe_op op_add (pv 2) (pe_callB (cr_sum rfl) (by rfl) B.sum (by decide +kernel) (pa_cons (pe_lc (own := [("child", 5)]) (g := gName 5) (tt := tYes) (by rfl) sc_sizes.nd (pi_tup (pv 0)) (blkOk_by (own := [("child", 5)]) (N := ["children", "looks", "choices", "depth", "parts", "child"]) (sc := defScope s_sizes) (by decide +kernel)) (fun _ _ _ _ _ => (pg_name (i := 5) sc_sizes.nd rfl (Or.inl rfl))) (fun _ _ _ _ _ => pts_nil) (fun _ _ _ _ _ => (show PE _ _ (tFld K _ _) from pe_fld (pv 5) rfl))) pa_nil))))
    (pss_cons (ps_if (PW.pt (pw_or (pt_cmpR op_gt (pv 3) (pe_glob (v := .int 12) (by rfl) g_MOST_DEPTH ⟨_, rfl⟩) (nomark _)) (pw_or (pt_cmpR op_gt (pv 4) (pe_glob (v := .int 40) (by rfl) g_MOST_PARTS ⟨_, rfl⟩) (nomark _)) (pw_or1 (pt_cmpR op_gt (pv 1) (pe_glob (v := .int 12) (by rfl) g_MOST_LOOKS ⟨_, rfl⟩) (nomark _))))))
      (pss_one ps_never)
      pss_nil)
    (pss_one (ps_ret (pe_tup (pa_cons (pv 3) (pa_cons (pv 4) (pa_cons (pv 1) (pa_cons (pv 2) pa_nil)))))))))))), ?_⟩
    refine ⟨_, rfl, tp, rfl, ⟨_, SqT.of ht⟩, fun D1 hD1 => comp "depth" Tm.dep (fun i => i.depth) (by decide +kernel) H (Same.refl H) D1 hD1 _ _ _ _ _ _ fun H1 s1 h1 => ?_⟩
    refine ⟨D1, ts.map Tm.dep, 0, rfl, rfl, SqL.of h1, _, _, rfl, rfl, ?_⟩
    refine ⟨_, rfl, tp, rfl, ⟨_, SqT.of (s1 _ _ ht)⟩, fun D2 hD2 => comp "parts" Tm.par (fun i => i.parts) (by decide +kernel) H1 s1 D2 hD2 _ _ _ _ _ _ fun H2 s2 h2' => ?_⟩
    refine ⟨D2, ts.map Tm.par, rfl, SqL.of h2', _, _, rfl, rfl, _, rfl, ?_⟩
    refine ⟨_, rfl, tp, rfl, ⟨_, SqT.of (s2 _ _ ht)⟩, fun D3 hD3 => comp "looks" Tm.lok (fun i => i.looks) (by decide +kernel) H2 s2 D3 hD3 _ _ _ _ _ _ fun H3 s3 h3 => ?_⟩
    refine ⟨D3, ts.map Tm.lok, rfl, SqL.of h3, _, _, rfl, rfl, _, rfl, ?_⟩
    refine ⟨_, rfl, tp, rfl, ⟨_, SqT.of (s3 _ _ ht)⟩, fun D4 hD4 => comp "choices" Tm.cho (fun i => i.choices) (by decide +kernel) H3 s3 D4 hD4 _ _ _ _ _ _ fun H4 s4 h4 => ?_⟩
    refine ⟨D4, ts.map Tm.cho, rfl, SqL.of h4, _, _, rfl, rfl, ?_⟩
    have e1 : decide ((12 : Int) < 1 + mxD (ts.map Tm.dep) 0) = false := decide_eq_false (by have h : 1 + mxD (ts.map Tm.dep) 0 ≤ 12 := hd; omega)
    have e2 : decide ((40 : Int) < 1 + (ts.map Tm.par).sum) = false := decide_eq_false (by have h : 1 + (ts.map Tm.par).sum ≤ 40 := hp; omega)
    have e3 : decide ((12 : Int) < l0 + (ts.map Tm.lok).sum) = false := decide_eq_false (by have h : l0 + (ts.map Tm.lok).sum ≤ 12 := hk; omega)
    refine ⟨_, rfl, _, _, rfl, rfl, _, rfl, ?_⟩
    rw [e1]
    refine iteF ⟨_, rfl, _, _, rfl, rfl, _, rfl, ?_⟩
    rw [e2]
    refine iteF ⟨_, rfl, _, _, rfl, rfl, _, rfl, ?_⟩
    rw [e3]
    refine iteF ⟨_, rfl, _, rfl, _, rfl, _, rfl, (by show 4 ≤ sizeLine; decide), fun t ht2 => ?_⟩
    exact q t _ (s4.trans (sameAt (Same.refl H4) ht2)) (none_of s4 ht2) upd_same
structure T2 (P : Program) (w : World) (K : PySem.W.Frag) (mg : Str → Option Value) (base : Heap) (C : TC) : Prop extends T1 P w K mg base C where
  checked_stream : Cal P w K mg base CX0 "checked_stream" 2 ["stream"] spCStream
  checked_term : Cal P w K mg base CX0 "checked_term" 2 ["term"] (spCTerm C)
  sizes : Cal P w K mg base CX0 "sizes" 1 ["children", "looks", "choices"] (spSizes C)
theorem putF_no {f : Str} {v : V} : ∀ {fs : List (Str × V)}, fs.lookup f = none → putF f v fs = fs ++ [(f, v)]
  | [], _ => rfl
  | (g, x) :: r, h => by
    by_cases e : g = f
    · subst e
      simp [List.lookup] at h
    · have h' : (f == g) = false := beq_eq_false_iff_ne.mpr fun z => e z.symm
      simp only [List.lookup, h'] at h
      show (if g = f then (g, v) :: r else (g, x) :: putF f v r) = _
      rw [if_neg e, putF_no h]
      rfl
theorem pl {f : Str} {v : V} {n : Nat} {fs : List (Str × V)} (h : fs.length ≤ n) : (putF f v fs).length ≤ n + 1 := by
  induction fs generalizing n with
  | nil => exact Nat.succ_le_succ (Nat.zero_le n)
  | cons x r ih =>
    obtain ⟨g, x⟩ := x
    show (if g = f then (g, v) :: r else (g, x) :: putF f v r).length ≤ n + 1
    have h : r.length + 1 ≤ n := h
    split
    · show r.length + 1 ≤ n + 1
      omega
    · show (putF f v r).length + 1 ≤ n + 1
      have := ih (n := n - 1) (by omega)
      omega
theorem lk_app {f : Str} : ∀ {fs gs : List (Str × V)}, fs.lookup f = none → gs.lookup f = none → (fs ++ gs).lookup f = none
  | [], _, _, h => h
  | (g, x) :: r, gs, h1, h2 => by
    by_cases e : f = g
    · subst e
      simp [List.lookup] at h1
    · have h' : (f == g) = false := beq_eq_false_iff_ne.mpr e
      simp only [List.lookup, h'] at h1
      show List.lookup f ((g, x) :: (r ++ gs)) = none
      simp only [List.lookup, h']
      exact lk_app h1 h2
theorem fend {pre : List (Str × V)} {s d p l c : V} (h1 : pre.lookup ("spelling" : Str) = none) (h2 : pre.lookup ("depth" : Str) = none) (h3 : pre.lookup ("parts" : Str) = none) (h4 : pre.lookup ("looks" : Str) = none) (h5 : pre.lookup ("choices" : Str) = none) :
    putF "choices" c (putF "looks" l (putF "parts" p (putF "depth" d (putF "spelling" s pre)))) = pre ++ [(("spelling" : Str), s), ("depth", d), ("parts", p), ("looks", l), ("choices", c)] := by
  rw [putF_no h1, putF_no (lk_app h2 (by rfl)), putF_no (lk_app (lk_app h3 (by rfl)) (by rfl)), putF_no (lk_app (lk_app (lk_app h4 (by rfl)) (by rfl)) (by rfl)), putF_no (lk_app (lk_app (lk_app (lk_app h5 (by rfl)) (by rfl)) (by rfl)) (by rfl))]
  simp
theorem Keep.same {b : Addr} {H H1 H2 : Hp} (k : Keep b H H1) (s : Same H1 H2) : Keep b H H2 := fun c o hc hn => s _ _ (k c o hc hn)
theorem Keep.upd {b : Addr} {H H1 : Hp} {u : HO} (k : Keep b H H1) : Keep b H (upd H1 b u) := fun c o hc hn => by rw [upd_ne hn]; exact k c o hc hn
theorem Keep.refl {b : Addr} {H : Hp} : Keep b H H := fun _ _ h _ => h
theorem Keep.at {b q : Addr} {H H1 : Hp} {u : HO} (k : Keep b H H1) (hq : H1 q = none) : Keep b H (L2.upd H1 q u) := k.same (sameAt (Same.refl H1) hq)
abbrev s_Now_init : Stmt := inClass (topS 22) 0
theorem sc_Now_init : FnScope ["self"] ["self"] (defScope s_Now_init) := ⟨rfl, rfl, rfl, by decide +kernel, rfl, by decide +kernel, by decide +kernel⟩
theorem ok_now {f : Addr} {fd : FuncData} (F : Fun K "__init__" "Now.__init__" s_Now_init f fd) (B : Blt mg) (T : TF K mg C) (G : T2 P w K mg base C) : FnOk P w K mg base CX0 2 f fd ["self"] (spInit0 C) := by
  refine F.ok sc_Now_init (fun vs H Q E h => ?_) (fun cdv A outer s H vs Q E hr h => ?_)
  · obtain ⟨b, dx, rfl, _⟩ := h
    rfl
  · obtain ⟨b, dx, rfl, hb, q⟩ := h
    have Is : C.Is C.now := C.is_of .now
    refine ⟨_, (pss_cons (ps_fld (pv 0) (pe_tup (pa_cons pe_str pa_nil)) rfl)
    (pss_one (ps_asg (pe_cal G.sizes (hr.mono (by decide)) pass0 (pa_cons (pe_tup pa_nil) (pa_cons pe_int (pa_cons pe_int pa_nil)))) (pg_tup (by rfl) (pgs_cons (pg_fld (pv 0)) (pgs_cons (pg_fld (pv 0)) (pgs_cons (pg_fld (pv 0)) (pgs_cons (pg_fld (pv 0)) pgs_nil)))))))), ?_⟩
    refine ⟨(by show 1 ≤ sizeLine; decide), fun sp hsp => ⟨_, rfl, b, C.now, dx, [], rfl, (sameAt (Same.refl H) hsp) _ _ hb, T.cl _ Is, T.no _ Is _ (by decide +kernel), (by show 0 < 1000; decide), ?_⟩⟩
    have sb : sp ≠ b := fun z => by rw [z, hb] at hsp; cases hsp
    have K1 : Keep b H (upd (upd H sp (.tup [.str "now"])) b (.ins C.now dx (putF "spelling" (.ref sp) []))) := (Keep.refl.at hsp).upd
    refine ⟨(by show 0 ≤ sizeLine; decide), fun tp htp => ⟨tp, [], [], 0, 0, rfl, upd_same, rfl, by decide, (fun i a t h => by simp at h), by decide, by decide, by decide, fun q1 H5 s5 hq1 hq5 => ?_⟩⟩
    have K5 := (K1.at htp (u := .tup [])).same s5
    have HB : H5 b = some (.ins C.now dx (putF "spelling" (.ref sp) [])) := s5 _ _ (sameAt (Same.refl _) htp _ _ upd_same)
    have hs5 : H5 sp = some (.tup [.str "now"]) := s5 _ _ (sameAt (Same.refl _) htp _ _ (by rw [upd_ne sb, upd_same]))
    have h0 : (putF "spelling" (.ref sp) []).length ≤ 1 := Nat.le_refl 1
    obtain ⟨D, hD⟩ : ∃ D, D = C.now := ⟨_, rfl⟩
    obtain ⟨fs0, hf⟩ : ∃ fs0, fs0 = putF "spelling" (.ref sp) [] := ⟨_, rfl⟩
    rw [← hD] at Is
    rw [← hD, ← hf] at HB
    rw [← hf] at h0
    refine ⟨q1, _, rfl, SqT.of hq5, rfl, _, _, rfl, _, rfl, b, D, dx, fs0, rfl, HB, T.cl _ Is, T.no _ Is _ (by decide +kernel), Nat.lt_of_le_of_lt h0 (by decide), _, _, rfl, _, rfl, b, D, dx, _, rfl, upd_same, T.cl _ Is, T.no _ Is _ (by decide +kernel), Nat.lt_of_le_of_lt (pl h0) (by decide), _, _, rfl, _, rfl, b, D, dx, _, rfl, upd_same, T.cl _ Is, T.no _ Is _ (by decide +kernel), Nat.lt_of_le_of_lt (pl (pl h0)) (by decide), _, _, rfl, _, rfl, b, D, dx, _, rfl, upd_same, T.cl _ Is, T.no _ Is _ (by decide +kernel), Nat.lt_of_le_of_lt (pl (pl (pl h0))) (by decide), rfl, ?_⟩
    refine q _ ⟨dx, sp, ?_, ?_⟩ K5.upd.upd.upd.upd
    · rw [upd_same, hf, fend (by rfl) (by rfl) (by rfl) (by rfl) (by rfl), hD]
      rfl
    · rw [upd_ne sb, upd_ne sb, upd_ne sb, upd_ne sb]
      exact hs5
end
end Ash

set_option Elab.async false
set_option linter.all false
set_option maxRecDepth 100000
set_option maxHeartbeats 4000000
namespace Ash
open PySem PySem.Spec PyProof.Rows L2
open C8 (pss_cut)
/-! ### the other terms are made -/
theorem szD1 (t : Tm) : szD [t] = 1 + t.dep := rfl
theorem szP1 (t : Tm) : szP [t] = 1 + t.par := by simp [szP]
theorem szL1 (t : Tm) : szL [t] = t.lok := by simp [szL]
theorem szC1 (t : Tm) : szC [t] = t.cho := by simp [szC]
theorem szD2 (t u : Tm) : szD [t, u] = 1 + Tm.mx t.dep u.dep := by
  show 1 + (if decide (t.dep < u.dep) = true then u.dep else t.dep) = 1 + (if t.dep < u.dep then u.dep else t.dep)
  by_cases c : t.dep < u.dep
  · rw [if_pos c, if_pos (decide_eq_true c)]
  · rw [if_neg c, if_neg (fun z => c (of_decide_eq_true z))]
theorem szP2 (t u : Tm) : szP [t, u] = 1 + (t.par + u.par) := by simp [szP]
theorem szL2 (t u : Tm) : szL [t, u] = t.lok + u.lok := by simp [szL]
theorem szC2 (t u : Tm) : szC [t, u] = t.cho + u.cho := by simp [szC]
theorem pre2 {x y : Str} {v1 v2 : V} (h : x ≠ y) : putF y v2 (putF x v1 []) = [(x, v1), (y, v2)] := by
  show (if x = y then (x, v2) :: [] else (x, v1) :: putF y v2 []) = _
  rw [if_neg h]
  rfl
section
variable {P : Program} {w : World} {K : PySem.W.Frag} {mg : Str → Option Value} {base : Heap} {C : TC}
abbrev s_Last_init : Stmt := inClass (topS 23) 0
theorem sc_Last_init : FnScope ["self", "stream", "term"] ["self", "stream", "term"] (defScope s_Last_init) := ⟨rfl, rfl, rfl, by decide +kernel, rfl, by decide +kernel, by decide +kernel⟩
theorem ok_last {f : Addr} {fd : FuncData} (F : Fun K "__init__" "Last.__init__" s_Last_init f fd) (B : Blt mg) (T : TF K mg C) (G : T2 P w K mg base C) : FnOk P w K mg base CX0 3 f fd ["self", "stream", "term"] (spInitL C C.last Tm.last) := by
  refine F.ok sc_Last_init (fun vs H Q E h => ?_) (fun cdv A outer s H vs Q E hr h => ?_)
  · obtain ⟨b, dx, a, z, t, rfl, _⟩ := h
    rfl
  · obtain ⟨b, dx, a, z, t, rfl, hb, hz, hT, hF, q⟩ := h
    refine ⟨_, (pss_cons (ps_fld (pv 0) (pe_cal G.checked_stream (hr.mono (by decide)) pass0 (pa_cons (pv 1) pa_nil)) rfl)
    (pss_cons (ps_fld (pv 0) (pe_cal G.checked_term (hr.mono (by decide)) pass0 (pa_cons (pv 2) pa_nil)) rfl)
    (pss_cons (ps_fld (pv 0) (pe_tup (pa_cons pe_str (pa_cons (pv 1) (StX.pa_star (pe_fld (pv 2) rfl) pa_nil)))) rfl)
    (pss_one (ps_asg (pe_cal G.sizes (hr.mono (by decide)) pass0 (pa_cons (pe_tup (pa_cons (pv 2) pa_nil)) (pa_cons pe_int (pa_cons pe_int pa_nil)))) (pg_tup (by rfl) (pgs_cons (pg_fld (pv 0)) (pgs_cons (pg_fld (pv 0)) (pgs_cons (pg_fld (pv 0)) (pgs_cons (pg_fld (pv 0)) pgs_nil)))))))))), ?_⟩
    obtain ⟨D, hD⟩ : ∃ D, D = C.last := ⟨_, rfl⟩
    have Is : C.Is D := by rw [hD]; exact C.is_of (.last z t)
    rw [← hD] at hb
    refine ⟨_, rfl, z, rfl, hz, fun H1 s1 => ⟨_, rfl, b, D, dx, [], rfl, s1 _ _ hb, T.cl _ Is, T.no _ Is _ (by decide +kernel), (by show 0 < 1000; decide), ?_⟩⟩
    have K1 : Keep b H (upd H1 b (.ins D dx (putF "stream" (.str z) []))) := (Keep.refl.same s1).upd
    refine ⟨_, rfl, a, t, rfl, hT.off hb K1, fun H2 s2 => ⟨_, rfl, b, D, dx, _, rfl, s2 _ _ upd_same, T.cl _ Is, T.no _ Is _ (by decide +kernel), (by show 1 < 1000; decide), ?_⟩⟩
    have K2 : Keep b H (upd H2 b (.ins D dx (putF "term" (.ref a) (putF "stream" (.str z) [])))) := (K1.same s2).upd
    obtain ⟨dx1, fs1, sp1, In⟩ := (hT.off hb K2).in_
    have sl := Tm.spell_len t
    have hF2 : t.par ≤ 39 := by
      have h : 1 + t.par ≤ 40 := hF.2.1
      omega
    refine ⟨_, rfl, _, rfl, _, _, dx1, fs1, _, rfl, In.at_, T.cl _ (C.is_of _), T.no _ (C.is_of _) _ (by decide +kernel), In.spelling, sp1, _, rfl, .inl (SqT.of In.spl), ?_, fun sp hsp => ⟨_, rfl, b, D, dx, _, rfl, sameAt (Same.refl _) hsp _ _ upd_same, T.cl _ Is, T.no _ Is _ (by decide +kernel), (by show 2 < 1000; decide), ?_⟩⟩
    · show (t.spell ++ []).length + 1 + 1 ≤ sizeLine
      rw [sizeLine_eq, List.append_nil]
      omega
    have sb : sp ≠ b := fun z => by rw [z, upd_same] at hsp; cases hsp
    have K3 := (K2.at hsp (u := .tup (.str "last" :: .str z :: (t.spell ++ [])))).upd (u := .ins D dx (putF "spelling" (.ref sp) (putF "term" (.ref a) (putF "stream" (.str z) []))))
    refine ⟨_, rfl, (by show 1 ≤ sizeLine; decide), fun tp htp => ?_⟩
    have K4 := K3.at htp (u := .tup ([a].map V.ref))
    refine ⟨tp, [a], [t], 1, 1, rfl, upd_same, rfl, (by show 1 ≤ 2; decide), (fun i a' t' h1 h2 => ?_), ?_, ?_, ?_, fun q1 H5 s5 hq1 hq5 => ?_⟩
    · 
      match i, h1, h2 with
      | 0, h1, h2 =>
        cases h1
        cases h2
        exact hT.off hb K4
      | i + 1, h1, h2 => simp at h1
    · rw [szD1]; exact hF.1
    · rw [szP1]; exact hF.2.1
    · rw [szL1]; exact hF.2.2
    have K5 := K4.same s5
    obtain ⟨fs0, hf⟩ : ∃ fs0, fs0 = putF "spelling" (.ref sp) (putF "term" (.ref a) (putF "stream" (.str z) [])) := ⟨_, rfl⟩
    have HB : H5 b = some (.ins D dx fs0) := by rw [hf]; exact s5 _ _ (sameAt (Same.refl _) htp _ _ upd_same)
    have hs5 : H5 sp = some (.tup (.str "last" :: .str z :: (t.spell ++ []))) := s5 _ _ (sameAt (Same.refl _) htp _ _ (by rw [upd_ne sb, upd_same]))
    have h0 : fs0.length ≤ 3 := by rw [hf]; exact pl (pl (pl (Nat.le_refl 0)))
    refine ⟨q1, _, rfl, SqT.of hq5, rfl, _, _, rfl, _, rfl, b, D, dx, fs0, rfl, HB, T.cl _ Is, T.no _ Is _ (by decide +kernel), Nat.lt_of_le_of_lt h0 (by decide), _, _, rfl, _, rfl, b, D, dx, _, rfl, upd_same, T.cl _ Is, T.no _ Is _ (by decide +kernel), Nat.lt_of_le_of_lt (pl h0) (by decide), _, _, rfl, _, rfl, b, D, dx, _, rfl, upd_same, T.cl _ Is, T.no _ Is _ (by decide +kernel), Nat.lt_of_le_of_lt (pl (pl h0)) (by decide), _, _, rfl, _, rfl, b, D, dx, _, rfl, upd_same, T.cl _ Is, T.no _ Is _ (by decide +kernel), Nat.lt_of_le_of_lt (pl (pl (pl h0))) (by decide), rfl, ?_⟩
    have K9 := (((K5.upd (u := .ins D dx (putF "depth" (.int (szD [t])) fs0))).upd (u := .ins D dx (putF "parts" (.int (szP [t])) (putF "depth" (.int (szD [t])) fs0)))).upd (u := .ins D dx (putF "looks" (.int (1 + szL [t])) (putF "parts" (.int (szP [t])) (putF "depth" (.int (szD [t])) fs0))))).upd (u := .ins D dx (putF "choices" (.int (1 + szC [t])) (putF "looks" (.int (1 + szL [t])) (putF "parts" (.int (szP [t])) (putF "depth" (.int (szD [t])) fs0)))))
    refine q _ ⟨dx, a, sp, ?_, ?_, hT.off hb K9⟩ K9
    · rw [upd_same, hf, pre2 (by decide +kernel), fend (by rfl) (by rfl) (by rfl) (by rfl) (by rfl), hD, szD1, szP1, szL1, szC1]
      rfl
    · rw [upd_ne sb, upd_ne sb, upd_ne sb, upd_ne sb, hs5]
      simp [Tm.spell]
abbrev s_Next_init : Stmt := inClass (topS 24) 0
theorem sc_Next_init : FnScope ["self", "stream", "term"] ["self", "stream", "term"] (defScope s_Next_init) := ⟨rfl, rfl, rfl, by decide +kernel, rfl, by decide +kernel, by decide +kernel⟩
theorem ok_next {f : Addr} {fd : FuncData} (F : Fun K "__init__" "Next.__init__" s_Next_init f fd) (B : Blt mg) (T : TF K mg C) (G : T2 P w K mg base C) : FnOk P w K mg base CX0 3 f fd ["self", "stream", "term"] (spInitL C C.next Tm.next) := by
  refine F.ok sc_Next_init (fun vs H Q E h => ?_) (fun cdv A outer s H vs Q E hr h => ?_)
  · obtain ⟨b, dx, a, z, t, rfl, _⟩ := h
    rfl
  · obtain ⟨b, dx, a, z, t, rfl, hb, hz, hT, hF, q⟩ := h
    refine ⟨_, (pss_cons (ps_fld (pv 0) (pe_cal G.checked_stream (hr.mono (by decide)) pass0 (pa_cons (pv 1) pa_nil)) rfl)
    (pss_cons (ps_fld (pv 0) (pe_cal G.checked_term (hr.mono (by decide)) pass0 (pa_cons (pv 2) pa_nil)) rfl)
    (pss_cons (ps_fld (pv 0) (pe_tup (pa_cons pe_str (pa_cons (pv 1) (StX.pa_star (pe_fld (pv 2) rfl) pa_nil)))) rfl)
    (pss_one (ps_asg (pe_cal G.sizes (hr.mono (by decide)) pass0 (pa_cons (pe_tup (pa_cons (pv 2) pa_nil)) (pa_cons pe_int (pa_cons pe_int pa_nil)))) (pg_tup (by rfl) (pgs_cons (pg_fld (pv 0)) (pgs_cons (pg_fld (pv 0)) (pgs_cons (pg_fld (pv 0)) (pgs_cons (pg_fld (pv 0)) pgs_nil)))))))))), ?_⟩
    obtain ⟨D, hD⟩ : ∃ D, D = C.next := ⟨_, rfl⟩
    have Is : C.Is D := by rw [hD]; exact C.is_of (.next z t)
    rw [← hD] at hb
    refine ⟨_, rfl, z, rfl, hz, fun H1 s1 => ⟨_, rfl, b, D, dx, [], rfl, s1 _ _ hb, T.cl _ Is, T.no _ Is _ (by decide +kernel), (by show 0 < 1000; decide), ?_⟩⟩
    have K1 : Keep b H (upd H1 b (.ins D dx (putF "stream" (.str z) []))) := (Keep.refl.same s1).upd
    refine ⟨_, rfl, a, t, rfl, hT.off hb K1, fun H2 s2 => ⟨_, rfl, b, D, dx, _, rfl, s2 _ _ upd_same, T.cl _ Is, T.no _ Is _ (by decide +kernel), (by show 1 < 1000; decide), ?_⟩⟩
    have K2 : Keep b H (upd H2 b (.ins D dx (putF "term" (.ref a) (putF "stream" (.str z) [])))) := (K1.same s2).upd
    obtain ⟨dx1, fs1, sp1, In⟩ := (hT.off hb K2).in_
    have sl := Tm.spell_len t
    have hF2 : t.par ≤ 39 := by
      have h : 1 + t.par ≤ 40 := hF.2.1
      omega
    refine ⟨_, rfl, _, rfl, _, _, dx1, fs1, _, rfl, In.at_, T.cl _ (C.is_of _), T.no _ (C.is_of _) _ (by decide +kernel), In.spelling, sp1, _, rfl, .inl (SqT.of In.spl), ?_, fun sp hsp => ⟨_, rfl, b, D, dx, _, rfl, sameAt (Same.refl _) hsp _ _ upd_same, T.cl _ Is, T.no _ Is _ (by decide +kernel), (by show 2 < 1000; decide), ?_⟩⟩
    · show (t.spell ++ []).length + 1 + 1 ≤ sizeLine
      rw [sizeLine_eq, List.append_nil]
      omega
    have sb : sp ≠ b := fun z => by rw [z, upd_same] at hsp; cases hsp
    have K3 := (K2.at hsp (u := .tup (.str "next" :: .str z :: (t.spell ++ [])))).upd (u := .ins D dx (putF "spelling" (.ref sp) (putF "term" (.ref a) (putF "stream" (.str z) []))))
    refine ⟨_, rfl, (by show 1 ≤ sizeLine; decide), fun tp htp => ?_⟩
    have K4 := K3.at htp (u := .tup ([a].map V.ref))
    refine ⟨tp, [a], [t], 1, 1, rfl, upd_same, rfl, (by show 1 ≤ 2; decide), (fun i a' t' h1 h2 => ?_), ?_, ?_, ?_, fun q1 H5 s5 hq1 hq5 => ?_⟩
    · 
      match i, h1, h2 with
      | 0, h1, h2 =>
        cases h1
        cases h2
        exact hT.off hb K4
      | i + 1, h1, h2 => simp at h1
    · rw [szD1]; exact hF.1
    · rw [szP1]; exact hF.2.1
    · rw [szL1]; exact hF.2.2
    have K5 := K4.same s5
    obtain ⟨fs0, hf⟩ : ∃ fs0, fs0 = putF "spelling" (.ref sp) (putF "term" (.ref a) (putF "stream" (.str z) [])) := ⟨_, rfl⟩
    have HB : H5 b = some (.ins D dx fs0) := by rw [hf]; exact s5 _ _ (sameAt (Same.refl _) htp _ _ upd_same)
    have hs5 : H5 sp = some (.tup (.str "next" :: .str z :: (t.spell ++ []))) := s5 _ _ (sameAt (Same.refl _) htp _ _ (by rw [upd_ne sb, upd_same]))
    have h0 : fs0.length ≤ 3 := by rw [hf]; exact pl (pl (pl (Nat.le_refl 0)))
    refine ⟨q1, _, rfl, SqT.of hq5, rfl, _, _, rfl, _, rfl, b, D, dx, fs0, rfl, HB, T.cl _ Is, T.no _ Is _ (by decide +kernel), Nat.lt_of_le_of_lt h0 (by decide), _, _, rfl, _, rfl, b, D, dx, _, rfl, upd_same, T.cl _ Is, T.no _ Is _ (by decide +kernel), Nat.lt_of_le_of_lt (pl h0) (by decide), _, _, rfl, _, rfl, b, D, dx, _, rfl, upd_same, T.cl _ Is, T.no _ Is _ (by decide +kernel), Nat.lt_of_le_of_lt (pl (pl h0)) (by decide), _, _, rfl, _, rfl, b, D, dx, _, rfl, upd_same, T.cl _ Is, T.no _ Is _ (by decide +kernel), Nat.lt_of_le_of_lt (pl (pl (pl h0))) (by decide), rfl, ?_⟩
    have K9 := (((K5.upd (u := .ins D dx (putF "depth" (.int (szD [t])) fs0))).upd (u := .ins D dx (putF "parts" (.int (szP [t])) (putF "depth" (.int (szD [t])) fs0)))).upd (u := .ins D dx (putF "looks" (.int (1 + szL [t])) (putF "parts" (.int (szP [t])) (putF "depth" (.int (szD [t])) fs0))))).upd (u := .ins D dx (putF "choices" (.int (1 + szC [t])) (putF "looks" (.int (1 + szL [t])) (putF "parts" (.int (szP [t])) (putF "depth" (.int (szD [t])) fs0)))))
    refine q _ ⟨dx, a, sp, ?_, ?_, hT.off hb K9⟩ K9
    · rw [upd_same, hf, pre2 (by decide +kernel), fend (by rfl) (by rfl) (by rfl) (by rfl) (by rfl), hD, szD1, szP1, szL1, szC1]
      rfl
    · rw [upd_ne sb, upd_ne sb, upd_ne sb, upd_ne sb, hs5]
      simp [Tm.spell]
abbrev s_Shift_init : Stmt := inClass (topS 25) 0
theorem sc_Shift_init : FnScope ["self", "term", "amount"] ["self", "term", "amount"] (defScope s_Shift_init) := ⟨rfl, rfl, rfl, by decide +kernel, rfl, by decide +kernel, by decide +kernel⟩
theorem ok_shift {f : Addr} {fd : FuncData} (F : Fun K "__init__" "Shift.__init__" s_Shift_init f fd) (B : Blt mg) (T : TF K mg C) (G : T2 P w K mg base C) : FnOk P w K mg base CX0 2 f fd ["self", "term", "amount"] (spInitS C) := by
  refine F.ok sc_Shift_init (fun vs H Q E h => ?_) (fun cdv A outer s H vs Q E hr h => ?_)
  · obtain ⟨b, dx, a, n, t, rfl, _⟩ := h
    rfl
  · obtain ⟨b, dx, a, n, t, rfl, hb, hT, hF, q⟩ := h
    refine ⟨_, (pss_cons (ps_fld (pv 0) (pv 1) rfl)
    (pss_cons (ps_fld (pv 0) (pv 2) rfl)
    (pss_cons (ps_fld (pv 0) (pe_tup (pa_cons pe_str (pa_cons (pv 2) (StX.pa_star (pe_fld (pv 1) rfl) pa_nil)))) rfl)
    (pss_one (ps_asg (pe_cal G.sizes (hr.mono (by decide)) pass0 (pa_cons (pe_tup (pa_cons (pv 1) pa_nil)) (pa_cons pe_int (pa_cons pe_int pa_nil)))) (pg_tup (by rfl) (pgs_cons (pg_fld (pv 0)) (pgs_cons (pg_fld (pv 0)) (pgs_cons (pg_fld (pv 0)) (pgs_cons (pg_fld (pv 0)) pgs_nil)))))))))), ?_⟩
    obtain ⟨D, hD⟩ : ∃ D, D = C.shift := ⟨_, rfl⟩
    have Is : C.Is D := by rw [hD]; exact C.is_of (.shift n t)
    rw [← hD] at hb
    refine ⟨_, rfl, _, rfl, b, D, dx, [], rfl, hb, T.cl _ Is, T.no _ Is _ (by decide +kernel), (by show 0 < 1000; decide), ?_⟩
    have K1 : Keep b H (upd H b (.ins D dx (putF "term" (.ref a) []))) := Keep.refl.upd
    refine ⟨_, rfl, _, rfl, b, D, dx, _, rfl, upd_same, T.cl _ Is, T.no _ Is _ (by decide +kernel), (by show 1 < 1000; decide), ?_⟩
    have K2 : Keep b H (upd _ b (.ins D dx (putF "amount" (.int n) (putF "term" (.ref a) [])))) := K1.upd
    obtain ⟨dx1, fs1, sp1, In⟩ := (hT.off hb K2).in_
    have sl := Tm.spell_len t
    have hF2 : t.par ≤ 39 := by
      have h : 1 + t.par ≤ 40 := hF.2.1
      omega
    refine ⟨_, rfl, _, rfl, _, _, dx1, fs1, _, rfl, In.at_, T.cl _ (C.is_of _), T.no _ (C.is_of _) _ (by decide +kernel), In.spelling, sp1, _, rfl, .inl (SqT.of In.spl), ?_, fun sp hsp => ⟨_, rfl, b, D, dx, _, rfl, sameAt (Same.refl _) hsp _ _ upd_same, T.cl _ Is, T.no _ Is _ (by decide +kernel), (by show 2 < 1000; decide), ?_⟩⟩
    · show (t.spell ++ []).length + 1 + 1 ≤ sizeLine
      rw [sizeLine_eq, List.append_nil]
      omega
    have sb : sp ≠ b := fun z => by rw [z, upd_same] at hsp; cases hsp
    have K3 := (K2.at hsp (u := .tup (.str "shift" :: .int n :: (t.spell ++ [])))).upd (u := .ins D dx (putF "spelling" (.ref sp) (putF "amount" (.int n) (putF "term" (.ref a) []))))
    refine ⟨_, rfl, (by show 1 ≤ sizeLine; decide), fun tp htp => ?_⟩
    have K4 := K3.at htp (u := .tup ([a].map V.ref))
    refine ⟨tp, [a], [t], 0, 0, rfl, upd_same, rfl, (by show 1 ≤ 2; decide), (fun i a' t' h1 h2 => ?_), ?_, ?_, ?_, fun q1 H5 s5 hq1 hq5 => ?_⟩
    · 
      match i, h1, h2 with
      | 0, h1, h2 =>
        cases h1
        cases h2
        exact hT.off hb K4
      | i + 1, h1, h2 => simp at h1
    · rw [szD1]; exact hF.1
    · rw [szP1]; exact hF.2.1
    · rw [szL1]; exact hF.2.2
    have K5 := K4.same s5
    obtain ⟨fs0, hf⟩ : ∃ fs0, fs0 = putF "spelling" (.ref sp) (putF "amount" (.int n) (putF "term" (.ref a) [])) := ⟨_, rfl⟩
    have HB : H5 b = some (.ins D dx fs0) := by rw [hf]; exact s5 _ _ (sameAt (Same.refl _) htp _ _ upd_same)
    have hs5 : H5 sp = some (.tup (.str "shift" :: .int n :: (t.spell ++ []))) := s5 _ _ (sameAt (Same.refl _) htp _ _ (by rw [upd_ne sb, upd_same]))
    have h0 : fs0.length ≤ 3 := by rw [hf]; exact pl (pl (pl (Nat.le_refl 0)))
    refine ⟨q1, _, rfl, SqT.of hq5, rfl, _, _, rfl, _, rfl, b, D, dx, fs0, rfl, HB, T.cl _ Is, T.no _ Is _ (by decide +kernel), Nat.lt_of_le_of_lt h0 (by decide), _, _, rfl, _, rfl, b, D, dx, _, rfl, upd_same, T.cl _ Is, T.no _ Is _ (by decide +kernel), Nat.lt_of_le_of_lt (pl h0) (by decide), _, _, rfl, _, rfl, b, D, dx, _, rfl, upd_same, T.cl _ Is, T.no _ Is _ (by decide +kernel), Nat.lt_of_le_of_lt (pl (pl h0)) (by decide), _, _, rfl, _, rfl, b, D, dx, _, rfl, upd_same, T.cl _ Is, T.no _ Is _ (by decide +kernel), Nat.lt_of_le_of_lt (pl (pl (pl h0))) (by decide), rfl, ?_⟩
    have K9 := (((K5.upd (u := .ins D dx (putF "depth" (.int (szD [t])) fs0))).upd (u := .ins D dx (putF "parts" (.int (szP [t])) (putF "depth" (.int (szD [t])) fs0)))).upd (u := .ins D dx (putF "looks" (.int (0 + szL [t])) (putF "parts" (.int (szP [t])) (putF "depth" (.int (szD [t])) fs0))))).upd (u := .ins D dx (putF "choices" (.int (0 + szC [t])) (putF "looks" (.int (0 + szL [t])) (putF "parts" (.int (szP [t])) (putF "depth" (.int (szD [t])) fs0)))))
    refine q _ ⟨dx, a, sp, ?_, ?_, hT.off hb K9⟩ K9
    · rw [upd_same, hf, pre2 (by decide +kernel), fend (by rfl) (by rfl) (by rfl) (by rfl) (by rfl), hD, szD1, szP1, szL1, szC1]
      rfl
    · rw [upd_ne sb, upd_ne sb, upd_ne sb, upd_ne sb, hs5]
      simp [Tm.spell]
abbrev s_Either_init : Stmt := inClass (topS 26) 0
theorem sc_Either_init : FnScope ["self", "first", "second"] ["self", "first", "second"] (defScope s_Either_init) := ⟨rfl, rfl, rfl, by decide +kernel, rfl, by decide +kernel, by decide +kernel⟩
theorem ok_either {f : Addr} {fd : FuncData} (F : Fun K "__init__" "Either.__init__" s_Either_init f fd) (B : Blt mg) (T : TF K mg C) (G : T2 P w K mg base C) : FnOk P w K mg base CX0 2 f fd ["self", "first", "second"] (spInitP C C.either Tm.either) := by
  refine F.ok sc_Either_init (fun vs H Q E h => ?_) (fun cdv A outer s H vs Q E hr h => ?_)
  · obtain ⟨b, dx, a, c, t, u, rfl, _⟩ := h
    rfl
  · obtain ⟨b, dx, a, c, t, u, rfl, hb, hT, hU, hF, q⟩ := h
    refine ⟨_, (pss_cons (ps_fld (pv 0) (pv 1) rfl)
    (pss_cons (ps_fld (pv 0) (pv 2) rfl)
    (pss_cons (ps_fld (pv 0) (pe_tup (pa_cons pe_str (StX.pa_star (pe_fld (pv 1) rfl) (StX.pa_star (pe_fld (pv 2) rfl) pa_nil)))) rfl)
    (pss_one (ps_asg (pe_cal G.sizes (hr.mono (by decide)) pass0 (pa_cons (pe_tup (pa_cons (pv 1) (pa_cons (pv 2) pa_nil))) (pa_cons pe_int (pa_cons pe_int pa_nil)))) (pg_tup (by rfl) (pgs_cons (pg_fld (pv 0)) (pgs_cons (pg_fld (pv 0)) (pgs_cons (pg_fld (pv 0)) (pgs_cons (pg_fld (pv 0)) pgs_nil)))))))))), ?_⟩
    obtain ⟨D, hD⟩ : ∃ D, D = C.either := ⟨_, rfl⟩
    have Is : C.Is D := by rw [hD]; exact C.is_of (.either t u)
    rw [← hD] at hb
    refine ⟨_, rfl, _, rfl, b, D, dx, [], rfl, hb, T.cl _ Is, T.no _ Is _ (by decide +kernel), (by show 0 < 1000; decide), ?_⟩
    have K1 : Keep b H (upd H b (.ins D dx (putF "first" (.ref a) []))) := Keep.refl.upd
    refine ⟨_, rfl, _, rfl, b, D, dx, _, rfl, upd_same, T.cl _ Is, T.no _ Is _ (by decide +kernel), (by show 1 < 1000; decide), ?_⟩
    have K2 : Keep b H (upd _ b (.ins D dx (putF "second" (.ref c) (putF "first" (.ref a) [])))) := K1.upd
    obtain ⟨dx1, fs1, sp1, In⟩ := (hT.off hb K2).in_
    have sl := Tm.spell_len t
    obtain ⟨dx2, fs2, sp2, In2⟩ := (hU.off hb K2).in_
    have sl2 := Tm.spell_len u
    have hF2 : t.par + u.par ≤ 39 := by
      have h : 1 + (t.par + u.par) ≤ 40 := hF.2.1
      omega
    refine ⟨_, rfl, _, _, dx1, fs1, _, rfl, In.at_, T.cl _ (C.is_of _), T.no _ (C.is_of _) _ (by decide +kernel), In.spelling, sp1, _, rfl, .inl (SqT.of In.spl), _, rfl, _, _, dx2, fs2, _, rfl, In2.at_, T.cl _ (C.is_of _), T.no _ (C.is_of _) _ (by decide +kernel), In2.spelling, sp2, _, rfl, .inl (SqT.of In2.spl), ?_, fun sp hsp => ⟨_, rfl, b, D, dx, _, rfl, sameAt (Same.refl _) hsp _ _ upd_same, T.cl _ Is, T.no _ Is _ (by decide +kernel), (by show 2 < 1000; decide), ?_⟩⟩
    · show (t.spell ++ (u.spell ++ [])).length + 1 ≤ sizeLine
      rw [sizeLine_eq, List.length_append, List.append_nil]
      omega
    have sb : sp ≠ b := fun z => by rw [z, upd_same] at hsp; cases hsp
    have K3 := (K2.at hsp (u := .tup (.str "either" :: (t.spell ++ (u.spell ++ []))))).upd (u := .ins D dx (putF "spelling" (.ref sp) (putF "second" (.ref c) (putF "first" (.ref a) []))))
    refine ⟨_, rfl, _, rfl, (by show 2 ≤ sizeLine; decide), fun tp htp => ?_⟩
    have K4 := K3.at htp (u := .tup ([a, c].map V.ref))
    refine ⟨tp, [a, c], [t, u], 0, 0, rfl, upd_same, rfl, (by show 2 ≤ 2; decide), (fun i a' t' h1 h2 => ?_), ?_, ?_, ?_, fun q1 H5 s5 hq1 hq5 => ?_⟩
    · 
      match i, h1, h2 with
      | 0, h1, h2 =>
        cases h1
        cases h2
        exact hT.off hb K4
      | 1, h1, h2 =>
        cases h1
        cases h2
        exact hU.off hb K4
      | i + 2, h1, h2 => simp at h1
    · rw [szD2]; exact hF.1
    · rw [szP2]; exact hF.2.1
    · rw [szL2]; exact hF.2.2
    have K5 := K4.same s5
    obtain ⟨fs0, hf⟩ : ∃ fs0, fs0 = putF "spelling" (.ref sp) (putF "second" (.ref c) (putF "first" (.ref a) [])) := ⟨_, rfl⟩
    have HB : H5 b = some (.ins D dx fs0) := by rw [hf]; exact s5 _ _ (sameAt (Same.refl _) htp _ _ upd_same)
    have hs5 : H5 sp = some (.tup (.str "either" :: (t.spell ++ (u.spell ++ [])))) := s5 _ _ (sameAt (Same.refl _) htp _ _ (by rw [upd_ne sb, upd_same]))
    have h0 : fs0.length ≤ 3 := by rw [hf]; exact pl (pl (pl (Nat.le_refl 0)))
    refine ⟨q1, _, rfl, SqT.of hq5, rfl, _, _, rfl, _, rfl, b, D, dx, fs0, rfl, HB, T.cl _ Is, T.no _ Is _ (by decide +kernel), Nat.lt_of_le_of_lt h0 (by decide), _, _, rfl, _, rfl, b, D, dx, _, rfl, upd_same, T.cl _ Is, T.no _ Is _ (by decide +kernel), Nat.lt_of_le_of_lt (pl h0) (by decide), _, _, rfl, _, rfl, b, D, dx, _, rfl, upd_same, T.cl _ Is, T.no _ Is _ (by decide +kernel), Nat.lt_of_le_of_lt (pl (pl h0)) (by decide), _, _, rfl, _, rfl, b, D, dx, _, rfl, upd_same, T.cl _ Is, T.no _ Is _ (by decide +kernel), Nat.lt_of_le_of_lt (pl (pl (pl h0))) (by decide), rfl, ?_⟩
    have K9 := (((K5.upd (u := .ins D dx (putF "depth" (.int (szD [t, u])) fs0))).upd (u := .ins D dx (putF "parts" (.int (szP [t, u])) (putF "depth" (.int (szD [t, u])) fs0)))).upd (u := .ins D dx (putF "looks" (.int (0 + szL [t, u])) (putF "parts" (.int (szP [t, u])) (putF "depth" (.int (szD [t, u])) fs0))))).upd (u := .ins D dx (putF "choices" (.int (0 + szC [t, u])) (putF "looks" (.int (0 + szL [t, u])) (putF "parts" (.int (szP [t, u])) (putF "depth" (.int (szD [t, u])) fs0)))))
    refine q _ ⟨dx, a, c, sp, ?_, ?_, hT.off hb K9, hU.off hb K9⟩ K9
    · rw [upd_same, hf, pre2 (by decide +kernel), fend (by rfl) (by rfl) (by rfl) (by rfl) (by rfl), hD, szD2, szP2, szL2, szC2]
      rfl
    · rw [upd_ne sb, upd_ne sb, upd_ne sb, upd_ne sb, hs5]
      simp [Tm.spell]
abbrev s_Later_init : Stmt := inClass (topS 27) 0
theorem sc_Later_init : FnScope ["self", "first", "second"] ["self", "first", "second"] (defScope s_Later_init) := ⟨rfl, rfl, rfl, by decide +kernel, rfl, by decide +kernel, by decide +kernel⟩
theorem ok_later {f : Addr} {fd : FuncData} (F : Fun K "__init__" "Later.__init__" s_Later_init f fd) (B : Blt mg) (T : TF K mg C) (G : T2 P w K mg base C) : FnOk P w K mg base CX0 2 f fd ["self", "first", "second"] (spInitP C C.later Tm.later) := by
  refine F.ok sc_Later_init (fun vs H Q E h => ?_) (fun cdv A outer s H vs Q E hr h => ?_)
  · obtain ⟨b, dx, a, c, t, u, rfl, _⟩ := h
    rfl
  · obtain ⟨b, dx, a, c, t, u, rfl, hb, hT, hU, hF, q⟩ := h
    refine ⟨_, (pss_cons (ps_fld (pv 0) (pv 1) rfl)
    (pss_cons (ps_fld (pv 0) (pv 2) rfl)
    (pss_cons (ps_fld (pv 0) (pe_tup (pa_cons pe_str (StX.pa_star (pe_fld (pv 1) rfl) (StX.pa_star (pe_fld (pv 2) rfl) pa_nil)))) rfl)
    (pss_one (ps_asg (pe_cal G.sizes (hr.mono (by decide)) pass0 (pa_cons (pe_tup (pa_cons (pv 1) (pa_cons (pv 2) pa_nil))) (pa_cons pe_int (pa_cons pe_int pa_nil)))) (pg_tup (by rfl) (pgs_cons (pg_fld (pv 0)) (pgs_cons (pg_fld (pv 0)) (pgs_cons (pg_fld (pv 0)) (pgs_cons (pg_fld (pv 0)) pgs_nil)))))))))), ?_⟩
    obtain ⟨D, hD⟩ : ∃ D, D = C.later := ⟨_, rfl⟩
    have Is : C.Is D := by rw [hD]; exact C.is_of (.later t u)
    rw [← hD] at hb
    refine ⟨_, rfl, _, rfl, b, D, dx, [], rfl, hb, T.cl _ Is, T.no _ Is _ (by decide +kernel), (by show 0 < 1000; decide), ?_⟩
    have K1 : Keep b H (upd H b (.ins D dx (putF "first" (.ref a) []))) := Keep.refl.upd
    refine ⟨_, rfl, _, rfl, b, D, dx, _, rfl, upd_same, T.cl _ Is, T.no _ Is _ (by decide +kernel), (by show 1 < 1000; decide), ?_⟩
    have K2 : Keep b H (upd _ b (.ins D dx (putF "second" (.ref c) (putF "first" (.ref a) [])))) := K1.upd
    obtain ⟨dx1, fs1, sp1, In⟩ := (hT.off hb K2).in_
    have sl := Tm.spell_len t
    obtain ⟨dx2, fs2, sp2, In2⟩ := (hU.off hb K2).in_
    have sl2 := Tm.spell_len u
    have hF2 : t.par + u.par ≤ 39 := by
      have h : 1 + (t.par + u.par) ≤ 40 := hF.2.1
      omega
    refine ⟨_, rfl, _, _, dx1, fs1, _, rfl, In.at_, T.cl _ (C.is_of _), T.no _ (C.is_of _) _ (by decide +kernel), In.spelling, sp1, _, rfl, .inl (SqT.of In.spl), _, rfl, _, _, dx2, fs2, _, rfl, In2.at_, T.cl _ (C.is_of _), T.no _ (C.is_of _) _ (by decide +kernel), In2.spelling, sp2, _, rfl, .inl (SqT.of In2.spl), ?_, fun sp hsp => ⟨_, rfl, b, D, dx, _, rfl, sameAt (Same.refl _) hsp _ _ upd_same, T.cl _ Is, T.no _ Is _ (by decide +kernel), (by show 2 < 1000; decide), ?_⟩⟩
    · show (t.spell ++ (u.spell ++ [])).length + 1 ≤ sizeLine
      rw [sizeLine_eq, List.length_append, List.append_nil]
      omega
    have sb : sp ≠ b := fun z => by rw [z, upd_same] at hsp; cases hsp
    have K3 := (K2.at hsp (u := .tup (.str "later" :: (t.spell ++ (u.spell ++ []))))).upd (u := .ins D dx (putF "spelling" (.ref sp) (putF "second" (.ref c) (putF "first" (.ref a) []))))
    refine ⟨_, rfl, _, rfl, (by show 2 ≤ sizeLine; decide), fun tp htp => ?_⟩
    have K4 := K3.at htp (u := .tup ([a, c].map V.ref))
    refine ⟨tp, [a, c], [t, u], 0, 1, rfl, upd_same, rfl, (by show 2 ≤ 2; decide), (fun i a' t' h1 h2 => ?_), ?_, ?_, ?_, fun q1 H5 s5 hq1 hq5 => ?_⟩
    · 
      match i, h1, h2 with
      | 0, h1, h2 =>
        cases h1
        cases h2
        exact hT.off hb K4
      | 1, h1, h2 =>
        cases h1
        cases h2
        exact hU.off hb K4
      | i + 2, h1, h2 => simp at h1
    · rw [szD2]; exact hF.1
    · rw [szP2]; exact hF.2.1
    · rw [szL2]; exact hF.2.2
    have K5 := K4.same s5
    obtain ⟨fs0, hf⟩ : ∃ fs0, fs0 = putF "spelling" (.ref sp) (putF "second" (.ref c) (putF "first" (.ref a) [])) := ⟨_, rfl⟩
    have HB : H5 b = some (.ins D dx fs0) := by rw [hf]; exact s5 _ _ (sameAt (Same.refl _) htp _ _ upd_same)
    have hs5 : H5 sp = some (.tup (.str "later" :: (t.spell ++ (u.spell ++ [])))) := s5 _ _ (sameAt (Same.refl _) htp _ _ (by rw [upd_ne sb, upd_same]))
    have h0 : fs0.length ≤ 3 := by rw [hf]; exact pl (pl (pl (Nat.le_refl 0)))
    refine ⟨q1, _, rfl, SqT.of hq5, rfl, _, _, rfl, _, rfl, b, D, dx, fs0, rfl, HB, T.cl _ Is, T.no _ Is _ (by decide +kernel), Nat.lt_of_le_of_lt h0 (by decide), _, _, rfl, _, rfl, b, D, dx, _, rfl, upd_same, T.cl _ Is, T.no _ Is _ (by decide +kernel), Nat.lt_of_le_of_lt (pl h0) (by decide), _, _, rfl, _, rfl, b, D, dx, _, rfl, upd_same, T.cl _ Is, T.no _ Is _ (by decide +kernel), Nat.lt_of_le_of_lt (pl (pl h0)) (by decide), _, _, rfl, _, rfl, b, D, dx, _, rfl, upd_same, T.cl _ Is, T.no _ Is _ (by decide +kernel), Nat.lt_of_le_of_lt (pl (pl (pl h0))) (by decide), rfl, ?_⟩
    have K9 := (((K5.upd (u := .ins D dx (putF "depth" (.int (szD [t, u])) fs0))).upd (u := .ins D dx (putF "parts" (.int (szP [t, u])) (putF "depth" (.int (szD [t, u])) fs0)))).upd (u := .ins D dx (putF "looks" (.int (0 + szL [t, u])) (putF "parts" (.int (szP [t, u])) (putF "depth" (.int (szD [t, u])) fs0))))).upd (u := .ins D dx (putF "choices" (.int (1 + szC [t, u])) (putF "looks" (.int (0 + szL [t, u])) (putF "parts" (.int (szP [t, u])) (putF "depth" (.int (szD [t, u])) fs0)))))
    refine q _ ⟨dx, a, c, sp, ?_, ?_, hT.off hb K9, hU.off hb K9⟩ K9
    · rw [upd_same, hf, pre2 (by decide +kernel), fend (by rfl) (by rfl) (by rfl) (by rfl) (by rfl), hD, szD2, szP2, szL2, szC2]
      rfl
    · rw [upd_ne sb, upd_ne sb, upd_ne sb, upd_ne sb, hs5]
      simp [Tm.spell]
abbrev s_Earlier_init : Stmt := inClass (topS 28) 0
theorem sc_Earlier_init : FnScope ["self", "first", "second"] ["self", "first", "second"] (defScope s_Earlier_init) := ⟨rfl, rfl, rfl, by decide +kernel, rfl, by decide +kernel, by decide +kernel⟩
theorem ok_earlier {f : Addr} {fd : FuncData} (F : Fun K "__init__" "Earlier.__init__" s_Earlier_init f fd) (B : Blt mg) (T : TF K mg C) (G : T2 P w K mg base C) : FnOk P w K mg base CX0 2 f fd ["self", "first", "second"] (spInitP C C.earlier Tm.earlier) := by
  refine F.ok sc_Earlier_init (fun vs H Q E h => ?_) (fun cdv A outer s H vs Q E hr h => ?_)
  · obtain ⟨b, dx, a, c, t, u, rfl, _⟩ := h
    rfl
  · obtain ⟨b, dx, a, c, t, u, rfl, hb, hT, hU, hF, q⟩ := h
    refine ⟨_, (pss_cons (ps_fld (pv 0) (pv 1) rfl)
    (pss_cons (ps_fld (pv 0) (pv 2) rfl)
    (pss_cons (ps_fld (pv 0) (pe_tup (pa_cons pe_str (StX.pa_star (pe_fld (pv 1) rfl) (StX.pa_star (pe_fld (pv 2) rfl) pa_nil)))) rfl)
    (pss_one (ps_asg (pe_cal G.sizes (hr.mono (by decide)) pass0 (pa_cons (pe_tup (pa_cons (pv 1) (pa_cons (pv 2) pa_nil))) (pa_cons pe_int (pa_cons pe_int pa_nil)))) (pg_tup (by rfl) (pgs_cons (pg_fld (pv 0)) (pgs_cons (pg_fld (pv 0)) (pgs_cons (pg_fld (pv 0)) (pgs_cons (pg_fld (pv 0)) pgs_nil)))))))))), ?_⟩
    obtain ⟨D, hD⟩ : ∃ D, D = C.earlier := ⟨_, rfl⟩
    have Is : C.Is D := by rw [hD]; exact C.is_of (.earlier t u)
    rw [← hD] at hb
    refine ⟨_, rfl, _, rfl, b, D, dx, [], rfl, hb, T.cl _ Is, T.no _ Is _ (by decide +kernel), (by show 0 < 1000; decide), ?_⟩
    have K1 : Keep b H (upd H b (.ins D dx (putF "first" (.ref a) []))) := Keep.refl.upd
    refine ⟨_, rfl, _, rfl, b, D, dx, _, rfl, upd_same, T.cl _ Is, T.no _ Is _ (by decide +kernel), (by show 1 < 1000; decide), ?_⟩
    have K2 : Keep b H (upd _ b (.ins D dx (putF "second" (.ref c) (putF "first" (.ref a) [])))) := K1.upd
    obtain ⟨dx1, fs1, sp1, In⟩ := (hT.off hb K2).in_
    have sl := Tm.spell_len t
    obtain ⟨dx2, fs2, sp2, In2⟩ := (hU.off hb K2).in_
    have sl2 := Tm.spell_len u
    have hF2 : t.par + u.par ≤ 39 := by
      have h : 1 + (t.par + u.par) ≤ 40 := hF.2.1
      omega
    refine ⟨_, rfl, _, _, dx1, fs1, _, rfl, In.at_, T.cl _ (C.is_of _), T.no _ (C.is_of _) _ (by decide +kernel), In.spelling, sp1, _, rfl, .inl (SqT.of In.spl), _, rfl, _, _, dx2, fs2, _, rfl, In2.at_, T.cl _ (C.is_of _), T.no _ (C.is_of _) _ (by decide +kernel), In2.spelling, sp2, _, rfl, .inl (SqT.of In2.spl), ?_, fun sp hsp => ⟨_, rfl, b, D, dx, _, rfl, sameAt (Same.refl _) hsp _ _ upd_same, T.cl _ Is, T.no _ Is _ (by decide +kernel), (by show 2 < 1000; decide), ?_⟩⟩
    · show (t.spell ++ (u.spell ++ [])).length + 1 ≤ sizeLine
      rw [sizeLine_eq, List.length_append, List.append_nil]
      omega
    have sb : sp ≠ b := fun z => by rw [z, upd_same] at hsp; cases hsp
    have K3 := (K2.at hsp (u := .tup (.str "earlier" :: (t.spell ++ (u.spell ++ []))))).upd (u := .ins D dx (putF "spelling" (.ref sp) (putF "second" (.ref c) (putF "first" (.ref a) []))))
    refine ⟨_, rfl, _, rfl, (by show 2 ≤ sizeLine; decide), fun tp htp => ?_⟩
    have K4 := K3.at htp (u := .tup ([a, c].map V.ref))
    refine ⟨tp, [a, c], [t, u], 0, 1, rfl, upd_same, rfl, (by show 2 ≤ 2; decide), (fun i a' t' h1 h2 => ?_), ?_, ?_, ?_, fun q1 H5 s5 hq1 hq5 => ?_⟩
    · 
      match i, h1, h2 with
      | 0, h1, h2 =>
        cases h1
        cases h2
        exact hT.off hb K4
      | 1, h1, h2 =>
        cases h1
        cases h2
        exact hU.off hb K4
      | i + 2, h1, h2 => simp at h1
    · rw [szD2]; exact hF.1
    · rw [szP2]; exact hF.2.1
    · rw [szL2]; exact hF.2.2
    have K5 := K4.same s5
    obtain ⟨fs0, hf⟩ : ∃ fs0, fs0 = putF "spelling" (.ref sp) (putF "second" (.ref c) (putF "first" (.ref a) [])) := ⟨_, rfl⟩
    have HB : H5 b = some (.ins D dx fs0) := by rw [hf]; exact s5 _ _ (sameAt (Same.refl _) htp _ _ upd_same)
    have hs5 : H5 sp = some (.tup (.str "earlier" :: (t.spell ++ (u.spell ++ [])))) := s5 _ _ (sameAt (Same.refl _) htp _ _ (by rw [upd_ne sb, upd_same]))
    have h0 : fs0.length ≤ 3 := by rw [hf]; exact pl (pl (pl (Nat.le_refl 0)))
    refine ⟨q1, _, rfl, SqT.of hq5, rfl, _, _, rfl, _, rfl, b, D, dx, fs0, rfl, HB, T.cl _ Is, T.no _ Is _ (by decide +kernel), Nat.lt_of_le_of_lt h0 (by decide), _, _, rfl, _, rfl, b, D, dx, _, rfl, upd_same, T.cl _ Is, T.no _ Is _ (by decide +kernel), Nat.lt_of_le_of_lt (pl h0) (by decide), _, _, rfl, _, rfl, b, D, dx, _, rfl, upd_same, T.cl _ Is, T.no _ Is _ (by decide +kernel), Nat.lt_of_le_of_lt (pl (pl h0)) (by decide), _, _, rfl, _, rfl, b, D, dx, _, rfl, upd_same, T.cl _ Is, T.no _ Is _ (by decide +kernel), Nat.lt_of_le_of_lt (pl (pl (pl h0))) (by decide), rfl, ?_⟩
    have K9 := (((K5.upd (u := .ins D dx (putF "depth" (.int (szD [t, u])) fs0))).upd (u := .ins D dx (putF "parts" (.int (szP [t, u])) (putF "depth" (.int (szD [t, u])) fs0)))).upd (u := .ins D dx (putF "looks" (.int (0 + szL [t, u])) (putF "parts" (.int (szP [t, u])) (putF "depth" (.int (szD [t, u])) fs0))))).upd (u := .ins D dx (putF "choices" (.int (1 + szC [t, u])) (putF "looks" (.int (0 + szL [t, u])) (putF "parts" (.int (szP [t, u])) (putF "depth" (.int (szD [t, u])) fs0)))))
    refine q _ ⟨dx, a, c, sp, ?_, ?_, hT.off hb K9, hU.off hb K9⟩ K9
    · rw [upd_same, hf, pre2 (by decide +kernel), fend (by rfl) (by rfl) (by rfl) (by rfl) (by rfl), hD, szD2, szP2, szL2, szC2]
      rfl
    · rw [upd_ne sb, upd_ne sb, upd_ne sb, upd_ne sb, hs5]
      simp [Tm.spell]
end
end Ash

set_option Elab.async false
set_option linter.all false
set_option maxRecDepth 100000
set_option maxHeartbeats 4000000
namespace Ash
open PySem PySem.Spec PyProof.Rows L2 SrtT
open C8 (pss_cut)
section
variable {X : Cx} {CX : CXT} {k : Nat} {ps : List Str} {sp : Sp} {E : XK} {o e : Expr} {es : List Expr} {ta : TE} {t : TA} {C : Addr} {m : Str} {apos pos : Pos}
theorem pe_met {pl : Sem Bool} (c : Cls X.K C) (G : Met X.prog X.w X.K X.mg X.base CX C m k ps sp) (hr : Room k X.A) (hx : Passes CX X E) (ho : PE X o ta) (ha : PA X (e :: es) t) 
    (he : starEach (e :: es) X.env = (false, eval e X.env) :: starEach es X.env := by rfl) (hpl : (backTo pos (starEach es X.env)).any (·.1) = false := by rfl)
    (ht : eval (.Call (.Attribute o m apos) (e :: es) [] pos) X.env = (do
      let ov ← eval o X.env
      standAt apos.atName
      let (f, first) ← holding [ov] (getMethod ov m pl)
      callWith pos f first (backTo pos (starEach (e :: es) X.env)) (backToKw pos (keywordEach [] X.env))) := by rfl) :
    PE X (.Call (.Attribute o m apos) (e :: es) [] pos) (tMeth C m sp [] E ta t) := by
  obtain ⟨f, fd, hm, hb, F⟩ := G.ex
  exact pe_meth ho c hm F hr hb .nil hx ha he hpl ht
end
/-! ### what a term answers -/
def lastR (rs : List T3) (m : Int) : Option T3 := (rs.filter fun t => decide (t.1 ≤ m)).getLast?
def nextR (rs : List T3) (m : Int) : Option T3 := (rs.filter fun t => decide (m ≤ t.1)).head?
abbrev Rs := Option Int × List Int
def lookR (r : Rs) (f : Int → Option T3) : Rs := match r.1 with
  | none => (none, r.2)
  | some m => match f m with
    | none => (none, r.2)
    | some t => (some t.1, r.2 ++ [t.2.1])
def moveR (r : Rs) (n : Int) : Rs := match r.1 with
  | none => (none, r.2)
  | some m => (some (m + n), r.2)
def eithR (r s : Rs) : Rs := match r.1 with
  | some m => (some m, r.2)
  | none => (s.1, r.2 ++ s.2)
def bothR (f : Int → Int → Int) (r s : Rs) : Rs := match r.1 with
  | none => (none, r.2)
  | some m => match s.1 with
    | none => (none, r.2 ++ s.2)
    | some k => (some (f m k), r.2 ++ s.2)
def mxI (i j : Int) : Int := if j > i then j else i
def mnI (i j : Int) : Int := if j < i then j else i
def ev (W : Tr) (now : Int) : Tm → Rs
  | .now => (some now, [])
  | .last s t => lookR (ev W now t) (lastR (W s))
  | .next s t => lookR (ev W now t) (nextR (W s))
  | .shift n t => moveR (ev W now t) n
  | .either a b => eithR (ev W now a) (ev W now b)
  | .later a b => bothR mxI (ev W now a) (ev W now b)
  | .earlier a b => bothR mnI (ev W now a) (ev W now b)
theorem lookR_len {r : Rs} {f : Int → Option T3} : (lookR r f).2.length ≤ 1 + r.2.length := by
  unfold lookR
  split
  · show r.2.length ≤ _; omega
  · split
    · show r.2.length ≤ _; omega
    · show (r.2 ++ [_]).length ≤ _
      rw [List.length_append]
      show r.2.length + 1 ≤ _
      omega
theorem moveR_len {r : Rs} {n : Int} : (moveR r n).2.length = r.2.length := by
  unfold moveR
  split <;> rfl
theorem eithR_len {r s : Rs} : (eithR r s).2.length ≤ r.2.length + s.2.length := by
  unfold eithR
  split
  · show r.2.length ≤ _; omega
  · show (r.2 ++ s.2).length ≤ _
    rw [List.length_append]
    omega
theorem bothR_len {g : Int → Int → Int} {r s : Rs} : (bothR g r s).2.length ≤ r.2.length + s.2.length := by
  unfold bothR
  split
  · show r.2.length ≤ _; omega
  · split
    · show (r.2 ++ s.2).length ≤ _
      rw [List.length_append]
      omega
    · show (r.2 ++ s.2).length ≤ _
      rw [List.length_append]
      omega
theorem ev_len {W : Tr} {now : Int} : ∀ t : Tm, ((ev W now t).2.length : Int) ≤ t.lok
  | .now => by show ((0 : Nat) : Int) ≤ 0; omega
  | .last s t => by
    have := ev_len (W := W) (now := now) t
    have h := lookR_len (r := ev W now t) (f := lastR (W s))
    show ((lookR (ev W now t) (lastR (W s))).2.length : Int) ≤ 1 + t.lok
    omega
  | .next s t => by
    have := ev_len (W := W) (now := now) t
    have h := lookR_len (r := ev W now t) (f := nextR (W s))
    show ((lookR (ev W now t) (nextR (W s))).2.length : Int) ≤ 1 + t.lok
    omega
  | .shift n t => by
    have := ev_len (W := W) (now := now) t
    have h := moveR_len (r := ev W now t) (n := n)
    show ((moveR (ev W now t) n).2.length : Int) ≤ 0 + t.lok
    omega
  | .either a b => by
    have h1 := ev_len (W := W) (now := now) a
    have h2 := ev_len (W := W) (now := now) b
    have h := eithR_len (r := ev W now a) (s := ev W now b)
    show ((eithR (ev W now a) (ev W now b)).2.length : Int) ≤ 0 + (a.lok + b.lok)
    omega
  | .later a b => by
    have h1 := ev_len (W := W) (now := now) a
    have h2 := ev_len (W := W) (now := now) b
    have h := bothR_len (g := mxI) (r := ev W now a) (s := ev W now b)
    show ((bothR mxI (ev W now a) (ev W now b)).2.length : Int) ≤ 0 + (a.lok + b.lok)
    omega
  | .earlier a b => by
    have h1 := ev_len (W := W) (now := now) a
    have h2 := ev_len (W := W) (now := now) b
    have h := bothR_len (g := mnI) (r := ev W now a) (s := ev W now b)
    show ((bothR mnI (ev W now a) (ev W now b)).2.length : Int) ≤ 0 + (a.lok + b.lok)
    omega
/-- all its streams are names -/
def Tm.NmS : Tm → Prop
  | .now => True
  | .last s t => IsNm s ∧ t.NmS
  | .next s t => IsNm s ∧ t.NmS
  | .shift _ t => t.NmS
  | .either a b => a.NmS ∧ b.NmS
  | .later a b => a.NmS ∧ b.NmS
  | .earlier a b => a.NmS ∧ b.NmS
/-- t + n -/
def Tm.plus (t : Tm) (n : Int) : Tm := if n = 0 then t else match t with
  | .shift m u => if m + n = 0 then u else .shift (m + n) u
  | t => .shift n t
def oV : Option Int → V
  | none => .non
  | some i => .int i
def RowV (H : Hp) (v : V) : Option T3 → Prop
  | none => v = .non
  | some t => ∃ e, v = .ref e ∧ H e = some (.tup (tv t))
/-- a pair of an answer and what was seen -/
def Ans (H : Hp) (Q : VK) (r : Rs) : Prop := ∀ (q l : Addr) H', Same H H' → H' q = some (.tup [oV r.1, .ref l]) → H' l = some (.lst (r.2.map V.int)) → Q (.ref q) H'
def spShifted (C : TC) : Sp := fun vs H Q _ => ∃ (a : Addr) (t : Tm) (n : Int), vs = [.ref a, .int n] ∧ TmAt C H a t ∧ (t.plus n).Fit ∧ ∀ a' H', TmAt C H' a' (t.plus n) → Same H H' → Q (.ref a') H'
def spLastRow (CW : Addr) (g : List T3 → Int → Option T3) : Sp := fun vs H Q _ => ∃ (a : Addr) (W : Tr) (z : Str) (m : Int), vs = [.ref a, .str z, .int m] ∧ WAt CW H a W ∧ IsNm z ∧ ∀ v H', Same H H' → RowV H' v (g (W z) m) → Q v H'
def spFol (C : TC) (CW : Addr) (d : Nat) : Sp := fun vs H Q _ => ∃ (a b : Addr) (t : Tm) (W : Tr) (now : Int), vs = [.ref a, .ref b, .int now] ∧ TmAt C H a t ∧ WAt CW H b W ∧ t.NmS ∧ t.Fit ∧ t.dep ≤ (d : Int) ∧ Ans H Q (ev W now t)
def spMoved (C : TC) (CW : Addr) (d : Nat) : Sp := fun vs H Q _ => ∃ (a b : Addr) (t : Tm) (W : Tr) (now n : Int), vs = [.ref a, .ref b, .int now] ∧ TmAt C H a (.shift n t) ∧ WAt CW H b W ∧ t.NmS ∧ t.Fit ∧ t.dep ≤ (d : Int) ∧ Ans H Q (ev W now (.shift n t))
def spLooked (C : TC) (CW : Addr) (d : Nat) : Sp := fun vs H Q _ => ∃ (a b : Addr) (t u : Tm) (s : Str) (W : Tr) (now : Int), vs = [.ref a, .ref b, .int now, .int 0] ∧ TmAt C H a u ∧ (u = .last s t ∨ u = .next s t) ∧ WAt CW H b W ∧ IsNm s ∧ t.NmS ∧ t.Fit ∧ t.dep ≤ (d : Int) ∧ Ans H Q (ev W now u)
def spEith (C : TC) (CW : Addr) (d : Nat) : Sp := fun vs H Q _ => ∃ (a b : Addr) (t u : Tm) (W : Tr) (now : Int), vs = [.ref a, .ref b, .int now] ∧ TmAt C H a (.either t u) ∧ WAt CW H b W ∧ t.NmS ∧ u.NmS ∧ t.Fit ∧ u.Fit ∧ t.dep ≤ (d : Int) ∧ u.dep ≤ (d : Int) ∧ Ans H Q (ev W now (.either t u))
def spBoth (C : TC) (CW : Addr) (d : Nat) : Sp := fun vs H Q _ => ∃ (a b : Addr) (t u x : Tm) (W : Tr) (now : Int), vs = [.ref a, .ref b, .int now] ∧ TmAt C H a x ∧ (x = .later t u ∨ x = .earlier t u) ∧ WAt CW H b W ∧ t.NmS ∧ u.NmS ∧ t.Fit ∧ u.Fit ∧ t.dep ≤ (d : Int) ∧ u.dep ≤ (d : Int) ∧ Ans H Q (ev W now x)
theorem keep_make {H H' : Hp} {x dx : Addr} {o1 o2 : HO} (k : Keep x (upd (upd H dx o1) x o2) H') (hx : H x = none) (hd : H dx = none) : Same H H' := fun c o hc => k c o (by rw [upd_ne (ne_of_none hc hx), upd_ne (ne_of_none hc hd)]; exact hc) (ne_of_none hc hx)
def Tm.isShift : Tm → Bool
  | .shift _ _ => true
  | _ => false
theorem TD.shift {C : TC} (D : TD C) (t : Tm) : decide (C.of t = C.shift) = t.isShift := by
  have h := D.nd
  simp only [List.nodup_cons, List.mem_cons, List.not_mem_nil, or_false, not_or] at h
  obtain ⟨⟨a1, a2, a3, a4, a5, a6⟩, ⟨b1, b2, b3, b4, b5⟩, ⟨c1, c2, c3, c4⟩, ⟨d1, d2, d3⟩, _⟩ := h
  cases t <;> simp [TC.of, Tm.isShift, a1, a2, a3, b2, c1, Ne.symm d1, Ne.symm d2, Ne.symm d3]
theorem plus_no {t : Tm} {n : Int} (h : t.isShift = false) (n0 : ¬ n = 0) : t.plus n = .shift n t := by
  unfold Tm.plus
  rw [if_neg n0]
  cases t <;> first | rfl | exact absurd h (by simp [Tm.isShift])
section
variable {P : Program} {w : World} {K : PySem.W.Frag} {mg : Str → Option Value} {base : Heap} {C : TC} {CW : Addr}
structure T3s (P : Program) (w : World) (K : PySem.W.Frag) (mg : Str → Option Value) (base : Heap) (C : TC) (CW : Addr) : Prop extends T2 P w K mg base C where
  Shift : Mak P w K mg base CX0 "Shift" C.shift 2 ["self", "term", "amount"] (spInitS C)
  rows : Met P w K mg base CX0 CW "rows" 2 ["self", "stream"] (spWorldRows CW)
abbrev s_shifted : Stmt := topS 34
theorem sc_shifted : FnScope ["term", "amount", "inner", "total"] ["term", "amount"] (defScope s_shifted) := ⟨rfl, rfl, rfl, by decide +kernel, rfl, by decide +kernel, by decide +kernel⟩
theorem ok_shifted {f : Addr} {fd : FuncData} (F : Fun K "shifted" "shifted" s_shifted f fd) (B : Blt mg) (T : TF K mg C) (D : TD C) (G : T3s P w K mg base C CW) : FnOk P w K mg base CX0 4 f fd ["term", "amount"] (spShifted C) := by
  obtain ⟨t_cl, t_no, t_ty, t_one, c_Now, c_Last, c_Next, c_Shift, c_Either, c_Later, c_Earlier⟩ := id T
  refine F.ok sc_shifted (fun vs H Q E h => ?_) (fun cdv A outer s H vs Q E hr h => ?_)
  · obtain ⟨a, t, n, rfl, _⟩ := h
    rfl
  · obtain ⟨a, t, n, rfl, hT, hF, q⟩ := h
    refine ⟨_, (pss_cons (ps_if (pt_cmpR op_eq (pv 1) pe_int (nomark _))
      (pss_one (ps_ret (pv 0)))
      pss_nil)
    (pss_cons (ps_par (i := 2) (j := 3) (by rfl) sc_shifted.nd rfl rfl (by decide) rfl rfl (pa_cons (pv 0) (pa_cons (pv 1) pa_nil)) (by rfl))
    (pss_cons (ps_if (pt_val (pe_callB call_isi (by rfl) B.isinstance (by decide +kernel) (pa_cons (pv 0) (pa_cons (pe_glob (v := .ref C.shift) (by rfl) c_Shift rfl) pa_nil))))
      (pss_one (ps_par (i := 2) (j := 3) (by rfl) sc_shifted.nd rfl rfl (by decide) rfl rfl (pa_cons (pe_fld (pv 0) rfl) (pa_cons (pe_op op_add (pe_fld (pv 0) rfl) (pv 1)) pa_nil)) (by rfl)))
      pss_nil)
    (pss_cons (ps_if (pt_cmpR op_eq (pv 3) pe_int (nomark _))
      (pss_one (ps_ret (pv 2)))
      pss_nil)
    (pss_one (ps_ret (pe_mak G.Shift (hr.mono (by decide)) pass0 (pa_cons (pv 2) (pa_cons (pv 3) pa_nil))))))))), ?_⟩
    refine ⟨_, rfl, rfl, _, rfl, ?_⟩
    refine ite2 (fun c => ?_) (fun c => ?_)
    · have n0 : n = 0 := V.int.inj (of_decide_eq_true c)
      subst n0
      have q : ∀ a' H', TmAt C H' a' t → Same H H' → Q (.ref a') H' := q
      exact ⟨_, rfl, q a H hT (Same.refl H)⟩
    · have n0 : ¬ n = 0 := fun z => by rw [z] at c; simp at c
      have tx := T.tyx hT
      have k := T.one (C.of t) C.shift (C.is_of t) (C.is_of (.shift 0 .now))
      rw [D.shift] at k
      refine ⟨_, rfl, _, rfl, _, _, rfl, _, rfl, _, _, _, _, _, rfl, .own _, tx, k, _, rfl, ?_⟩
      cases hs : t.isShift with
      | false =>
        rw [plus_no hs n0] at hF q
        refine iteF ⟨_, rfl, rfl, _, rfl, ?_⟩
        rw [show decide (V.int n = V.int 0) = false from decide_eq_false fun z => n0 (V.int.inj z)]
        refine iteF ⟨_, rfl, _, rfl, fun x dx hx hdx hne => ⟨x, dx, a, n, t, rfl, upd_same, hT.same (sameAt (sameAt (Same.refl H) hdx) hx), hF, fun H' hT' hK => ⟨rfl, q x H' hT' (keep_make hK hx hdx)⟩⟩⟩
      | true =>
        cases t with
        | shift m u =>
          have e : (Tm.shift m u).plus n = if m + n = 0 then u else .shift (m + n) u := by
            show (if n = 0 then _ else _) = _
            rw [if_neg n0]
          rw [e] at hF q
          obtain ⟨dx, b, sp, h1, h2, h3⟩ := id hT
          have Is : C.Is C.shift := C.is_of (.shift 0 .now)
          refine iteT ⟨_, rfl, a, C.shift, dx, _, _, rfl, h1, T.cl _ Is, T.no _ Is _ (by decide +kernel), rfl, _, rfl, a, C.shift, dx, _, _, rfl, h1, T.cl _ Is, T.no _ Is _ (by decide +kernel), rfl, _, rfl, _, _, rfl, rfl, _, _, rfl, ?_⟩
          refine ⟨_, rfl, rfl, _, rfl, ?_⟩
          refine ite2 (fun c2 => ?_) (fun c2 => ?_)
          · have z : m + n = 0 := V.int.inj (of_decide_eq_true c2)
            rw [if_pos z] at q
            exact ⟨_, rfl, q b H h3 (Same.refl H)⟩
          · have z : ¬ m + n = 0 := fun z => c2 (decide_eq_true (by show V.int (m + n) = V.int 0; rw [z]))
            rw [if_neg z] at q hF
            exact ⟨_, rfl, _, rfl, fun x dx hx hdx hne => ⟨x, dx, b, m + n, u, rfl, upd_same, h3.same (sameAt (sameAt (Same.refl H) hdx) hx), hF, fun H' hT' hK => ⟨rfl, q x H' hT' (keep_make hK hx hdx)⟩⟩⟩
        | _ => exact absurd hs (by simp [Tm.isShift])
abbrev s_last_row : Stmt := topS 65
theorem sc_last_row : FnScope ["world", "stream", "moment", "rows", "row"] ["world", "stream", "moment"] (defScope s_last_row) := ⟨rfl, rfl, rfl, by decide +kernel, rfl, by decide +kernel, by decide +kernel⟩
theorem ok_lastrow {f : Addr} {fd : FuncData} (F : Fun K "last_row" "last_row" s_last_row f fd) (B : Blt mg) (T0 : Cw K mg CW) (G : T3s P w K mg base C CW) : FnOk P w K mg base CX0 3 f fd ["world", "stream", "moment"] (spLastRow CW lastR) := by
  refine F.ok sc_last_row (fun vs H Q E h => ?_) (fun cdv A outer s H vs Q E hr h => ?_)
  · obtain ⟨a, W, z, m, rfl, _⟩ := h
    rfl
  · obtain ⟨a, W, z, m, rfl, hW, hz, q⟩ := h
    refine ⟨_, (pss_cons (ps_setLc (i := 3) (own := [("row", 4)]) (g := gName 4) (by rfl) sc_last_row.nd rfl rfl (sw_true rfl rfl rfl (by decide +kernel)) (pi_list (pe_met T0.cl G.rows (hr.mono (by decide)) pass0 (pv 0) (pa_cons (pv 1) pa_nil))) (blkOk_by (own := [("row", 4)]) (N := ["world", "stream", "moment", "rows", "row"]) (sc := defScope s_last_row) (by decide +kernel)) (fun _ _ _ _ _ => (pg_name (i := 4) sc_last_row.nd rfl (Or.inl rfl))) (fun _ _ _ _ _ => pts_one (pt_cmpR op_le (pe_ix (show IxR _ (rIxT K) from ix_tup) (pv 4) pe_int (fun _ _ => rfl)) (pv 2) (nomark _))) (fun _ _ _ _ _ => (pv 4)))
    (pss_cons (ps_if (pt_cmpR op_eq (pe_callB call_len_seq (by rfl) B.len (by decide +kernel) (pa_cons (pv 3) pa_nil)) pe_int (nomark _))
      (pss_one (ps_ret pe_non))
      pss_nil)
    (pss_one (ps_ret (pe_ix ix_list (pv 3) (pe_un un_neg pe_int) (fun _ _ => rfl)))))), ?_⟩
    obtain ⟨dx, d, t, kvs, ids, h1, h2, h3, h4⟩ := id hW
    have l4 := (h4 z).1
    refine ⟨_, rfl, a, dx, _, rfl, h1, rfl, _, rfl, a, W, z, rfl, hW, hz, fun p ys H1 s1 hp hys hTr => ?_⟩
    refine ⟨p, rfl, ⟨_, SqL.of hys⟩, fun D hD => lc_it (walk_list (xs := ys)) (fun i H2 => (∃ zs, H2 D = some (.lst zs) ∧ TrAt H2 zs (((W z).take i).filter (fun t : T3 => decide (t.1 ≤ m)))) ∧ Same H1 H2) ⟨⟨[], upd_same, rfl, fun i v t a b => by simp at a⟩, sameAt (Same.refl H1) hD⟩ (fun i H2 _ hv => SqL.of (hv.2 _ _ hys)) ?_ ?_⟩
    · rintro i x H2 H3 hi ⟨⟨zs, hD2, hT2⟩, s2⟩ ⟨rfl, hx⟩
      have hi2 : i < (W z).length := by rw [← hTr.1]; exact hi
      obtain ⟨t, ht⟩ : ∃ t, (W z)[i]? = some t := ⟨_, List.getElem?_eq_getElem hi2⟩
      obtain ⟨e, rfl, he⟩ := hTr.2 i x t hx ht
      have he1 := s2 _ _ he
      have tk : ∀ {u} t xs, H3 t = some (.tup xs) → upd H3 D (.lst u) t = some (.tup xs) := fun {u} t xs q => by rw [upd_ne (ne_of q hD2 (by intro z; cases z))]; exact q
      refine ⟨rfl, _, rfl, _, _, _, _, rfl, rfl, SqT.of he1, rfl, _, rfl, _, _, rfl, rfl, _, rfl, ?_⟩
      rw [list_take ht, List.filter_append]
      have lz : zs.length ≤ 400 := by
        rw [hT2.1]
        refine Nat.le_trans (List.length_filter_le _ _) ?_
        rw [List.length_take]
        omega
      refine ite2 (fun c => ?_) (fun c => ?_)
      · refine ⟨_, rfl, zs, hD2, small1000 (by omega), ⟨_, upd_same, ?_⟩, sameAt s2 hD⟩
        rw [show List.filter (fun t : T3 => decide (t.1 ≤ m)) [t] = [t] by rw [List.filter_cons, if_pos c]; rfl]
        exact (hT2.tk tk).snoc (tk _ _ he1)
      · refine ⟨⟨zs, hD2, ?_⟩, s2⟩
        rw [show List.filter (fun t : T3 => decide (t.1 ≤ m)) [t] = [] by rw [List.filter_cons, if_neg c]; rfl, List.append_nil]
        exact hT2
    · rintro H2 ⟨⟨zs, hD2, hT2⟩, s2⟩
      rw [hTr.1, List.take_length] at hT2
      have s12 := s1.trans s2
      refine ⟨_, rfl, _, _, rfl, .inl (SqL.of hD2), rfl, _, rfl, ?_⟩
      cases zs with
      | nil =>
        have e : (W z).filter (fun t : T3 => decide (t.1 ≤ m)) = [] := List.length_eq_zero_iff.mp hT2.1.symm
        refine iteT (q .non H2 s12 ?_)
        rw [show lastR (W z) m = ((W z).filter (fun t : T3 => decide (t.1 ≤ m))).getLast? from rfl, e]
        rfl
      | cons y yr =>
        rw [show decide (V.int (((y :: yr).length : Nat) : Int) = V.int 0) = false from decide_eq_false fun z => by
          have := V.int.inj z
          rw [List.length_cons] at this
          omega]
        refine iteF ?_
        obtain ⟨t, ht⟩ : ∃ t, ((W z).filter (fun t : T3 => decide (t.1 ≤ m)))[yr.length]? = some t := ⟨_, List.getElem?_eq_getElem (by rw [← hT2.1, List.length_cons]; omega)⟩
        obtain ⟨e, he, het⟩ := hT2.get ht
        refine ⟨_, rfl, _, rfl, D, y :: yr, -1, .ref e, rfl, rfl, SqL.of hD2, ?_, q _ H2 s12 ?_⟩
        · unfold atI ixN
          rw [if_neg (by decide), if_pos (by rw [List.length_cons]; omega), Option.bind_some, show ((-1 : Int) + (((y :: yr).length : Nat) : Int)).toNat = yr.length by rw [List.length_cons]; omega]
          exact he
        · show RowV H2 (.ref e) (((W z).filter (fun t : T3 => decide (t.1 ≤ m))).getLast?)
          rw [List.getLast?_eq_getElem?, ← hT2.1, List.length_cons, Nat.add_sub_cancel, ht]
          exact ⟨e, rfl, het⟩
abbrev s_next_row : Stmt := topS 66
theorem sc_next_row : FnScope ["world", "stream", "moment", "rows", "row"] ["world", "stream", "moment"] (defScope s_next_row) := ⟨rfl, rfl, rfl, by decide +kernel, rfl, by decide +kernel, by decide +kernel⟩
theorem ok_nextrow {f : Addr} {fd : FuncData} (F : Fun K "next_row" "next_row" s_next_row f fd) (B : Blt mg) (T0 : Cw K mg CW) (G : T3s P w K mg base C CW) : FnOk P w K mg base CX0 3 f fd ["world", "stream", "moment"] (spLastRow CW nextR) := by
  refine F.ok sc_next_row (fun vs H Q E h => ?_) (fun cdv A outer s H vs Q E hr h => ?_)
  · obtain ⟨a, W, z, m, rfl, _⟩ := h
    rfl
  · obtain ⟨a, W, z, m, rfl, hW, hz, q⟩ := h
    refine ⟨_, (pss_cons (ps_setLc (i := 3) (own := [("row", 4)]) (g := gName 4) (by rfl) sc_next_row.nd rfl rfl (sw_true rfl rfl rfl (by decide +kernel)) (pi_list (pe_met T0.cl G.rows (hr.mono (by decide)) pass0 (pv 0) (pa_cons (pv 1) pa_nil))) (blkOk_by (own := [("row", 4)]) (N := ["world", "stream", "moment", "rows", "row"]) (sc := defScope s_next_row) (by decide +kernel)) (fun _ _ _ _ _ => (pg_name (i := 4) sc_next_row.nd rfl (Or.inl rfl))) (fun _ _ _ _ _ => pts_one (pt_cmpR op_ge (pe_ix (show IxR _ (rIxT K) from ix_tup) (pv 4) pe_int (fun _ _ => rfl)) (pv 2) (nomark _))) (fun _ _ _ _ _ => (pv 4)))
    (pss_cons (ps_if (pt_cmpR op_eq (pe_callB call_len_seq (by rfl) B.len (by decide +kernel) (pa_cons (pv 3) pa_nil)) pe_int (nomark _))
      (pss_one (ps_ret pe_non))
      pss_nil)
    (pss_one (ps_ret (pe_ix ix_list (pv 3) pe_int (fun _ _ => rfl)))))), ?_⟩
    obtain ⟨dx, d, t, kvs, ids, h1, h2, h3, h4⟩ := id hW
    have l4 := (h4 z).1
    refine ⟨_, rfl, a, dx, _, rfl, h1, rfl, _, rfl, a, W, z, rfl, hW, hz, fun p ys H1 s1 hp hys hTr => ?_⟩
    refine ⟨p, rfl, ⟨_, SqL.of hys⟩, fun D hD => lc_it (walk_list (xs := ys)) (fun i H2 => (∃ zs, H2 D = some (.lst zs) ∧ TrAt H2 zs (((W z).take i).filter (fun t : T3 => decide (m ≤ t.1)))) ∧ Same H1 H2) ⟨⟨[], upd_same, rfl, fun i v t a b => by simp at a⟩, sameAt (Same.refl H1) hD⟩ (fun i H2 _ hv => SqL.of (hv.2 _ _ hys)) ?_ ?_⟩
    · rintro i x H2 H3 hi ⟨⟨zs, hD2, hT2⟩, s2⟩ ⟨rfl, hx⟩
      have hi2 : i < (W z).length := by rw [← hTr.1]; exact hi
      obtain ⟨t, ht⟩ : ∃ t, (W z)[i]? = some t := ⟨_, List.getElem?_eq_getElem hi2⟩
      obtain ⟨e, rfl, he⟩ := hTr.2 i x t hx ht
      have he1 := s2 _ _ he
      have tk : ∀ {u} t xs, H3 t = some (.tup xs) → upd H3 D (.lst u) t = some (.tup xs) := fun {u} t xs q => by rw [upd_ne (ne_of q hD2 (by intro z; cases z))]; exact q
      refine ⟨rfl, _, rfl, _, _, _, _, rfl, rfl, SqT.of he1, rfl, _, rfl, _, _, rfl, rfl, _, rfl, ?_⟩
      rw [list_take ht, List.filter_append]
      have lz : zs.length ≤ 400 := by
        rw [hT2.1]
        refine Nat.le_trans (List.length_filter_le _ _) ?_
        rw [List.length_take]
        omega
      refine ite2 (fun c => ?_) (fun c => ?_)
      · refine ⟨_, rfl, zs, hD2, small1000 (by omega), ⟨_, upd_same, ?_⟩, sameAt s2 hD⟩
        rw [show List.filter (fun t : T3 => decide (m ≤ t.1)) [t] = [t] by rw [List.filter_cons, if_pos c]; rfl]
        exact (hT2.tk tk).snoc (tk _ _ he1)
      · refine ⟨⟨zs, hD2, ?_⟩, s2⟩
        rw [show List.filter (fun t : T3 => decide (m ≤ t.1)) [t] = [] by rw [List.filter_cons, if_neg c]; rfl, List.append_nil]
        exact hT2
    · rintro H2 ⟨⟨zs, hD2, hT2⟩, s2⟩
      rw [hTr.1, List.take_length] at hT2
      have s12 := s1.trans s2
      refine ⟨_, rfl, _, _, rfl, .inl (SqL.of hD2), rfl, _, rfl, ?_⟩
      cases zs with
      | nil =>
        have e : (W z).filter (fun t : T3 => decide (m ≤ t.1)) = [] := List.length_eq_zero_iff.mp hT2.1.symm
        refine iteT (q .non H2 s12 ?_)
        rw [show nextR (W z) m = ((W z).filter (fun t : T3 => decide (m ≤ t.1))).head? from rfl, e]
        rfl
      | cons y yr =>
        rw [show decide (V.int (((y :: yr).length : Nat) : Int) = V.int 0) = false from decide_eq_false fun z => by
          have := V.int.inj z
          rw [List.length_cons] at this
          omega]
        refine iteF ?_
        obtain ⟨t, ht⟩ : ∃ t, ((W z).filter (fun t : T3 => decide (m ≤ t.1)))[0]? = some t := ⟨_, List.getElem?_eq_getElem (by rw [← hT2.1, List.length_cons]; omega)⟩
        obtain ⟨e, he, het⟩ := hT2.get ht
        refine ⟨_, rfl, D, y :: yr, 0, .ref e, rfl, rfl, SqL.of hD2, atI_nat (j := 0) he, q _ H2 s12 ?_⟩
        show RowV H2 (.ref e) (((W z).filter (fun t : T3 => decide (m ≤ t.1))).head?)
        rw [List.head?_eq_getElem?, ht]
        exact ⟨e, rfl, het⟩
end
end Ash

set_option Elab.async false
set_option linter.all false
set_option maxRecDepth 100000
set_option maxHeartbeats 4000000
namespace Ash
open PySem PySem.Spec PyProof.Rows L2 SrtT
open C8 (pss_cut)
section
variable {P : Program} {w : World} {K : PySem.W.Frag} {mg : Str → Option Value} {base : Heap} {C : TC} {CW : Addr}
theorem Tm.Fit.ofL {s : Str} {t : Tm} (h : (Tm.last s t).Fit) : t.Fit := by
  obtain ⟨h1, h2, h3⟩ := h
  have h1 : 1 + t.dep ≤ 12 := h1
  have h2 : 1 + t.par ≤ 40 := h2
  have h3 : 1 + t.lok ≤ 12 := h3
  exact ⟨by omega, by omega, by omega⟩
theorem Tm.Fit.ofN {s : Str} {t : Tm} (h : (Tm.next s t).Fit) : t.Fit := Tm.Fit.ofL (s := s) h
theorem Tm.Fit.ofS {n : Int} {t : Tm} (h : (Tm.shift n t).Fit) : t.Fit := by
  obtain ⟨h1, h2, h3⟩ := h
  have h1 : 1 + t.dep ≤ 12 := h1
  have h2 : 1 + t.par ≤ 40 := h2
  have h3 : 0 + t.lok ≤ 12 := h3
  exact ⟨by omega, by omega, by omega⟩
theorem Tm.Fit.ofE {t u : Tm} (h : (Tm.either t u).Fit) : t.Fit ∧ u.Fit := by
  obtain ⟨h1, h2, h3⟩ := h
  have h1 : 1 + Tm.mx t.dep u.dep ≤ 12 := h1
  have h2 : 1 + (t.par + u.par) ≤ 40 := h2
  have h3 : 0 + (t.lok + u.lok) ≤ 12 := h3
  have := Tm.mx_l t.dep u.dep
  have := Tm.mx_r t.dep u.dep
  have := t.par_pos
  have := u.par_pos
  have := t.lok_nn
  have := u.lok_nn
  exact ⟨⟨by omega, by omega, by omega⟩, ⟨by omega, by omega, by omega⟩⟩
def Tm.isNow : Tm → Bool
  | .now => true
  | _ => false
def Tm.isEith : Tm → Bool
  | .either _ _ => true
  | _ => false
theorem TD.now_ (D : TD C) (t : Tm) : decide (C.of t = C.now) = t.isNow := by
  have h := D.nd
  simp only [List.nodup_cons, List.mem_cons, List.not_mem_nil, or_false, not_or] at h
  obtain ⟨⟨a1, a2, a3, a4, a5, a6⟩, _⟩ := h
  cases t <;> simp [TC.of, Tm.isNow, Ne.symm a1, Ne.symm a2, Ne.symm a3, Ne.symm a4, Ne.symm a5, Ne.symm a6]
theorem TD.eith (D : TD C) (t : Tm) : decide (C.of t = C.either) = t.isEith := by
  have h := D.nd
  simp only [List.nodup_cons, List.mem_cons, List.not_mem_nil, or_false, not_or] at h
  obtain ⟨⟨a1, a2, a3, a4, a5, a6⟩, ⟨b1, b2, b3, b4, b5⟩, ⟨c1, c2, c3, c4⟩, ⟨d1, d2, d3⟩, ⟨e1, e2⟩, _⟩ := h
  cases t <;> simp [TC.of, Tm.isEith, a4, b3, c2, d1, Ne.symm e1, Ne.symm e2]
theorem Ans.same {H H1 : Hp} {Q : VK} {r : Rs} (h : Ans H Q r) (s : Same H H1) : Ans H1 Q r := fun q l H' s2 => h q l H' (s.trans s2)
theorem oV_none {o : Option Int} : decide (oV o = V.non) = o.isNone := by
  cases o with
  | none => rfl
  | some i => exact decide_eq_false fun z => nomatch z
/-- what stands of a term with an inner one -/
theorem TmAt.inner {H : Hp} {a : Addr} {s : Str} {t u : Tm} (h : TmAt C H a u) (e : u = .last s t ∨ u = .next s t) : ∃ dx b sp, H a = some (.ins (C.of u) dx (("stream", .str s) :: ("term", .ref b) :: fCom sp u)) ∧ TmAt C H b t := by
  rcases e with rfl | rfl
  · obtain ⟨dx, b, sp, h1, h2, h3⟩ := h
    exact ⟨dx, b, sp, h1, h3⟩
  · obtain ⟨dx, b, sp, h1, h2, h3⟩ := h
    exact ⟨dx, b, sp, h1, h3⟩
theorem TmAt.two {H : Hp} {a : Addr} {t u x : Tm} (h : TmAt C H a x) (e : x = .either t u ∨ x = .later t u ∨ x = .earlier t u) : ∃ dx b c sp, H a = some (.ins (C.of x) dx (("first", .ref b) :: ("second", .ref c) :: fCom sp x)) ∧ TmAt C H b t ∧ TmAt C H c u := by
  rcases e with rfl | rfl | rfl
  · obtain ⟨dx, b, c, sp, h1, h2, h3, h4⟩ := h
    exact ⟨dx, b, c, sp, h1, h3, h4⟩
  · obtain ⟨dx, b, c, sp, h1, h2, h3, h4⟩ := h
    exact ⟨dx, b, c, sp, h1, h3, h4⟩
  · obtain ⟨dx, b, c, sp, h1, h2, h3, h4⟩ := h
    exact ⟨dx, b, c, sp, h1, h3, h4⟩
structure A1 (P : Program) (w : World) (K : PySem.W.Frag) (mg : Str → Option Value) (base : Heap) (C : TC) (CW : Addr) : Prop extends T3s P w K mg base C CW where
  last_row : Cal P w K mg base CX0 "last_row" 3 ["world", "stream", "moment"] (spLastRow CW lastR)
  next_row : Cal P w K mg base CX0 "next_row" 3 ["world", "stream", "moment"] (spLastRow CW nextR)
structure A2 (P : Program) (w : World) (K : PySem.W.Frag) (mg : Str → Option Value) (base : Heap) (C : TC) (CW : Addr) (d : Nat) : Prop extends A1 P w K mg base C CW where
  followed : Cal P w K mg base CX0 "followed" (2 * d + 4) ["term", "world", "now"] (spFol C CW d)
abbrev s_moved : Stmt := topS 60
theorem sc_moved : FnScope ["shift", "world", "now", "answer", "seen"] ["shift", "world", "now"] (defScope s_moved) := ⟨rfl, rfl, rfl, by decide +kernel, rfl, by decide +kernel, by decide +kernel⟩
theorem ok_moved {f : Addr} {fd : FuncData} {d : Nat} (F : Fun K "moved" "moved" s_moved f fd) (B : Blt mg) (T : TF K mg C) (G : A2 P w K mg base C CW d) : FnOk P w K mg base CX0 (2 * d + 5) f fd ["shift", "world", "now"] (spMoved C CW d) := by
  refine F.ok sc_moved (fun vs H Q E h => ?_) (fun cdv A outer s H vs Q E hr h => ?_)
  · obtain ⟨a, b, t, W, now, n, rfl, _⟩ := h
    rfl
  · obtain ⟨a, b, t, W, now, n, rfl, hT, hW, hN, hF, hd, q⟩ := h
    refine ⟨_, (pss_cons (ps_asg (pe_cal G.followed (hr.mono (by omega)) pass0 (pa_cons (pe_fld (pv 0) rfl) (pa_cons (pv 1) (pa_cons (pv 2) pa_nil)))) (pg_tup (by rfl) (pgs_cons (pg_name (i := 3) sc_moved.nd rfl (Or.inl rfl)) (pgs_cons (pg_name (i := 4) sc_moved.nd rfl (Or.inl rfl)) pgs_nil))))
    (pss_cons (ps_if (pt_cmpR op_isN (pv 3) pe_non (nomark _))
      (pss_one (ps_ret (pe_tup (pa_cons pe_non (pa_cons (pv 4) pa_nil)))))
      pss_nil)
    (pss_one (ps_ret (pe_tup (pa_cons (pe_op op_add (pv 3) (pe_fld (pv 0) rfl)) (pa_cons (pv 4) pa_nil))))))), ?_⟩
    obtain ⟨dx, c, sp, h1, h2, h3⟩ := id hT
    have Is : C.Is C.shift := C.is_of (.shift 0 .now)
    refine ⟨_, rfl, a, C.shift, dx, _, _, rfl, h1, T.cl _ Is, T.no _ Is _ (by decide +kernel), rfl, _, rfl, _, rfl, c, b, t, W, now, rfl, h3, hW, hN, hF, hd, fun q1 l H1 s1 hq1 hl => ?_⟩
    have q : Ans H Q (moveR (ev W now t) n) := q
    generalize ev W now t = r at q hq1 hl
    obtain ⟨r1, r2⟩ := r
    refine ⟨q1, _, rfl, SqT.of hq1, rfl, _, _, rfl, _, _, rfl, rfl, ?_⟩
    refine ⟨_, rfl, rfl, _, rfl, ?_⟩
    cases r1 with
    | none =>
      refine ite2 (fun _ => ?_) (fun c => absurd rfl c)
      exact ⟨_, rfl, (by show 2 ≤ sizeLine; decide), fun t2 ht2 => q t2 l _ (s1.trans (sameAt (Same.refl H1) ht2)) upd_same (sameAt (Same.refl H1) ht2 _ _ hl)⟩
    | some m =>
      refine ite2 (fun c => absurd (of_decide_eq_true c) (fun z => nomatch z)) (fun _ => ?_)
      exact ⟨_, rfl, _, rfl, a, C.shift, dx, _, _, rfl, s1 _ _ h1, T.cl _ Is, T.no _ Is _ (by decide +kernel), rfl, _, _, rfl, rfl, _, rfl, (by show 2 ≤ sizeLine; decide), fun t2 ht2 => q t2 l _ (s1.trans (sameAt (Same.refl H1) ht2)) upd_same (sameAt (Same.refl H1) ht2 _ _ hl)⟩
abbrev s_looked : Stmt := topS 61
theorem sc_looked : FnScope ["question", "world", "now", "place", "answer", "seen", "row"] ["question", "world", "now", "place"] (defScope s_looked) := ⟨rfl, rfl, rfl, by decide +kernel, rfl, by decide +kernel, by decide +kernel⟩
theorem ok_looked {f : Addr} {fd : FuncData} {d : Nat} (F : Fun K "looked" "looked" s_looked f fd) (B : Blt mg) (T : TF K mg C) (D : TD C) (G : A2 P w K mg base C CW d) : FnOk P w K mg base CX0 (2 * d + 5) f fd ["question", "world", "now", "place"] (spLooked C CW d) := by
  obtain ⟨t_cl, t_no, t_ty, t_one, c_Now, c_Last, c_Next, c_Shift, c_Either, c_Later, c_Earlier⟩ := id T
  refine F.ok sc_looked (fun vs H Q E h => ?_) (fun cdv A outer s H vs Q E hr h => ?_)
  · obtain ⟨a, b, t, u, z, W, now, rfl, _⟩ := h
    rfl
  · obtain ⟨a, b, t, u, z, W, now, rfl, hT, hu, hW, hz, hN, hF, hd, q⟩ := h
    refine ⟨_, (pss_cons (ps_asg (pe_cal G.followed (hr.mono (by omega)) pass0 (pa_cons (pe_fld (pv 0) rfl) (pa_cons (pv 1) (pa_cons (pv 2) pa_nil)))) (pg_tup (by rfl) (pgs_cons (pg_name (i := 4) sc_looked.nd rfl (Or.inl rfl)) (pgs_cons (pg_name (i := 5) sc_looked.nd rfl (Or.inl rfl)) pgs_nil))))
    (pss_cons (ps_if (pt_cmpR op_isN (pv 4) pe_non (nomark _))
      (pss_one (ps_ret (pe_tup (pa_cons pe_non (pa_cons (pv 5) pa_nil)))))
      pss_nil)
    (pss_cons (ps_if (pt_val (pe_callB call_isi (by rfl) B.isinstance (by decide +kernel) (pa_cons (pv 0) (pa_cons (pe_glob (v := .ref C.next) (by rfl) c_Next rfl) pa_nil))))
      (pss_one (ps_set (i := 6) sc_looked.nd rfl (Or.inl rfl) (pe_cal G.next_row (hr.mono (by omega)) pass0 (pa_cons (pv 1) (pa_cons (pe_fld (pv 0) rfl) (pa_cons (pv 4) pa_nil))))))
      (pss_one (ps_set (i := 6) sc_looked.nd rfl (Or.inl rfl) (pe_cal G.last_row (hr.mono (by omega)) pass0 (pa_cons (pv 1) (pa_cons (pe_fld (pv 0) rfl) (pa_cons (pv 4) pa_nil)))))))
    (pss_cons (ps_if (pt_cmpR op_isN (pv 6) pe_non (nomark _))
      (pss_one (ps_ret (pe_tup (pa_cons pe_non (pa_cons (pv 5) pa_nil)))))
      pss_nil)
    (pss_one (ps_ret (pe_tup (pa_cons (pe_ix ix_tup (pv 6) (pv 3) (fun _ _ => rfl)) (pa_cons (pe_lst (StX.pa_star (pv 5) (pa_cons (pe_ix ix_tup (pv 6) pe_int (fun _ _ => rfl)) pa_nil))) pa_nil))))))))), ?_⟩
    obtain ⟨dx, c, sp, h1, h3⟩ := hT.inner hu
    refine ⟨_, rfl, a, _, dx, _, _, rfl, h1, T.cl _ (C.is_of _), T.no _ (C.is_of _) _ (by decide +kernel), rfl, _, rfl, _, rfl, c, b, t, W, now, rfl, h3, hW, hN, hF, hd, fun q1 l H1 s1 hq1 hl => ?_⟩
    have ln := ev_len (W := W) (now := now) t
    have l12 := hF.2.2
    have q : Ans H Q (lookR (ev W now t) (if C.of u = C.next then nextR (W z) else lastR (W z))) := by
      have h := D.nd
      simp only [List.nodup_cons, List.mem_cons, List.not_mem_nil, or_false, not_or] at h
      rcases hu with rfl | rfl
      · rw [if_neg (show ¬ C.of (Tm.last z t) = C.next from h.2.1.1)]
        exact q
      · rw [if_pos (show C.of (Tm.next z t) = C.next from rfl)]
        exact q
    generalize ev W now t = r at q hq1 hl ln
    obtain ⟨r1, r2⟩ := r
    have ln : (r2.length : Int) ≤ t.lok := ln
    have k := T.one (C.of u) C.next (C.is_of u) (C.is_of (.next z .now))
    refine ⟨q1, _, rfl, SqT.of hq1, rfl, _, _, rfl, _, _, rfl, rfl, ?_⟩
    refine ⟨_, rfl, rfl, _, rfl, ?_⟩
    cases r1 with
    | none =>
      refine ite2 (fun _ => ?_) (fun c => absurd rfl c)
      exact ⟨_, rfl, (by show 2 ≤ sizeLine; decide), fun t2 ht2 => q t2 l _ (s1.trans (sameAt (Same.refl H1) ht2)) upd_same (sameAt (Same.refl H1) ht2 _ _ hl)⟩
    | some m =>
      refine ite2 (fun c => absurd (of_decide_eq_true c) (fun z => nomatch z)) (fun _ => ?_)
      refine ⟨_, rfl, _, _, _, _, _, rfl, .own _, T.tyx (hT.same s1), k, _, rfl, ?_⟩
      refine ite2 (fun cn => ?_) (fun cn => ?_)
      · rw [if_pos (of_decide_eq_true cn)] at q
        refine ⟨_, rfl, _, rfl, a, _, dx, _, _, rfl, s1 _ _ h1, T.cl _ (C.is_of _), T.no _ (C.is_of _) _ (by decide +kernel), rfl, _, rfl, b, W, z, m, rfl, hW.same s1, hz, fun v H2 s2 hv => ?_⟩
        have hl2 := s2 _ _ hl
        have s12 := s1.trans s2
        refine ⟨_, rfl, rfl, _, rfl, ?_⟩
        cases hrow : nextR (W z) m with
        | none =>
          rw [hrow] at hv
          have hv : v = .non := hv
          subst hv
          have q : Ans H Q (none, r2) := by
            have q : Ans H Q (lookR (some m, r2) (nextR (W z))) := q
            rw [show lookR (some m, r2) (nextR (W z)) = (none, r2) by show (match nextR (W z) m with | none => _ | some t => _) = _; rw [hrow]] at q
            exact q
          refine ite2 (fun _ => ?_) (fun c => absurd rfl c)
          exact ⟨_, rfl, (by show 2 ≤ sizeLine; decide), fun t2 ht2 => q t2 l _ (s12.trans (sameAt (Same.refl H2) ht2)) upd_same (sameAt (Same.refl H2) ht2 _ _ hl2)⟩
        | some t3 =>
          rw [hrow] at hv
          obtain ⟨e, rfl, he⟩ := hv
          have q : Ans H Q (some t3.1, r2 ++ [t3.2.1]) := by
            have q : Ans H Q (lookR (some m, r2) (nextR (W z))) := q
            rw [show lookR (some m, r2) (nextR (W z)) = (some t3.1, r2 ++ [t3.2.1]) by show (match nextR (W z) m with | none => _ | some t => _) = _; rw [hrow]] at q
            exact q
          refine ite2 (fun c => absurd (of_decide_eq_true c) (fun z => nomatch z)) (fun _ => ?_)
          refine ⟨_, rfl, _, rfl, _, _, _, _, rfl, rfl, SqT.of he, rfl, _, rfl, l, _, rfl, .inr (SqL.of hl2), _, rfl, _, _, _, _, rfl, rfl, SqT.of he, rfl, ?_, fun l2 hl3 => ⟨(by show 2 ≤ sizeLine; decide), fun t2 ht2 => ?_⟩⟩
          · show (r2.map V.int ++ [_]).length ≤ sizeLine
            rw [List.length_append, List.length_map, sizeLine_eq]
            show r2.length + 1 ≤ _
            omega
          · have s3 := s12.trans (sameAt (Same.refl H2) hl3 (o := .lst (r2.map V.int ++ [.int t3.2.1])))
            have hl4 : upd H2 l2 (.lst (r2.map V.int ++ [.int t3.2.1])) l2 = some (.lst ((r2 ++ [t3.2.1]).map V.int)) := by
              rw [upd_same, List.map_append]
              rfl
            exact q t2 l2 _ (s3.trans (sameAt (Same.refl _) ht2)) upd_same (sameAt (Same.refl _) ht2 _ _ hl4)
      · rw [if_neg (fun z => cn (decide_eq_true z))] at q
        refine ⟨_, rfl, _, rfl, a, _, dx, _, _, rfl, s1 _ _ h1, T.cl _ (C.is_of _), T.no _ (C.is_of _) _ (by decide +kernel), rfl, _, rfl, b, W, z, m, rfl, hW.same s1, hz, fun v H2 s2 hv => ?_⟩
        have hl2 := s2 _ _ hl
        have s12 := s1.trans s2
        refine ⟨_, rfl, rfl, _, rfl, ?_⟩
        cases hrow : lastR (W z) m with
        | none =>
          rw [hrow] at hv
          have hv : v = .non := hv
          subst hv
          have q : Ans H Q (none, r2) := by
            have q : Ans H Q (lookR (some m, r2) (lastR (W z))) := q
            rw [show lookR (some m, r2) (lastR (W z)) = (none, r2) by show (match lastR (W z) m with | none => _ | some t => _) = _; rw [hrow]] at q
            exact q
          refine ite2 (fun _ => ?_) (fun c => absurd rfl c)
          exact ⟨_, rfl, (by show 2 ≤ sizeLine; decide), fun t2 ht2 => q t2 l _ (s12.trans (sameAt (Same.refl H2) ht2)) upd_same (sameAt (Same.refl H2) ht2 _ _ hl2)⟩
        | some t3 =>
          rw [hrow] at hv
          obtain ⟨e, rfl, he⟩ := hv
          have q : Ans H Q (some t3.1, r2 ++ [t3.2.1]) := by
            have q : Ans H Q (lookR (some m, r2) (lastR (W z))) := q
            rw [show lookR (some m, r2) (lastR (W z)) = (some t3.1, r2 ++ [t3.2.1]) by show (match lastR (W z) m with | none => _ | some t => _) = _; rw [hrow]] at q
            exact q
          refine ite2 (fun c => absurd (of_decide_eq_true c) (fun z => nomatch z)) (fun _ => ?_)
          refine ⟨_, rfl, _, rfl, _, _, _, _, rfl, rfl, SqT.of he, rfl, _, rfl, l, _, rfl, .inr (SqL.of hl2), _, rfl, _, _, _, _, rfl, rfl, SqT.of he, rfl, ?_, fun l2 hl3 => ⟨(by show 2 ≤ sizeLine; decide), fun t2 ht2 => ?_⟩⟩
          · show (r2.map V.int ++ [_]).length ≤ sizeLine
            rw [List.length_append, List.length_map, sizeLine_eq]
            show r2.length + 1 ≤ _
            omega
          · have s3 := s12.trans (sameAt (Same.refl H2) hl3 (o := .lst (r2.map V.int ++ [.int t3.2.1])))
            have hl4 : upd H2 l2 (.lst (r2.map V.int ++ [.int t3.2.1])) l2 = some (.lst ((r2 ++ [t3.2.1]).map V.int)) := by
              rw [upd_same, List.map_append]
              rfl
            exact q t2 l2 _ (s3.trans (sameAt (Same.refl _) ht2)) upd_same (sameAt (Same.refl _) ht2 _ _ hl4)
abbrev s_followed_either : Stmt := topS 62
theorem sc_followed_either : FnScope ["term", "world", "now", "first", "seen", "second", "more"] ["term", "world", "now"] (defScope s_followed_either) := ⟨rfl, rfl, rfl, by decide +kernel, rfl, by decide +kernel, by decide +kernel⟩
theorem ok_feither {f : Addr} {fd : FuncData} {d : Nat} (F : Fun K "followed_either" "followed_either" s_followed_either f fd) (B : Blt mg) (T : TF K mg C) (G : A2 P w K mg base C CW d) : FnOk P w K mg base CX0 (2 * d + 5) f fd ["term", "world", "now"] (spEith C CW d) := by
  refine F.ok sc_followed_either (fun vs H Q E h => ?_) (fun cdv A outer s H vs Q E hr h => ?_)
  · obtain ⟨a, b, t, u, W, now, rfl, _⟩ := h
    rfl
  · obtain ⟨a, b, t, u, W, now, rfl, hT, hW, hN, hN2, hF, hF2, hd, hd2, q⟩ := h
    refine ⟨_, (pss_cons (ps_asg (pe_cal G.followed (hr.mono (by omega)) pass0 (pa_cons (pe_fld (pv 0) rfl) (pa_cons (pv 1) (pa_cons (pv 2) pa_nil)))) (pg_tup (by rfl) (pgs_cons (pg_name (i := 3) sc_followed_either.nd rfl (Or.inl rfl)) (pgs_cons (pg_name (i := 4) sc_followed_either.nd rfl (Or.inl rfl)) pgs_nil))))
    (pss_cons (ps_if (pt_cmpR op_notN (pv 3) pe_non (nomark _))
      (pss_one (ps_ret (pe_tup (pa_cons (pv 3) (pa_cons (pv 4) pa_nil)))))
      pss_nil)
    (pss_cons (ps_asg (pe_cal G.followed (hr.mono (by omega)) pass0 (pa_cons (pe_fld (pv 0) rfl) (pa_cons (pv 1) (pa_cons (pv 2) pa_nil)))) (pg_tup (by rfl) (pgs_cons (pg_name (i := 5) sc_followed_either.nd rfl (Or.inl rfl)) (pgs_cons (pg_name (i := 6) sc_followed_either.nd rfl (Or.inl rfl)) pgs_nil))))
    (pss_one (ps_ret (pe_tup (pa_cons (pv 5) (pa_cons (pe_lst (StX.pa_star (pv 4) (StX.pa_star (pv 6) pa_nil))) pa_nil)))))))), ?_⟩
    obtain ⟨dx, c1, c2, sp, h1, h3, h4⟩ := hT.two (.inl rfl)
    refine ⟨_, rfl, a, _, dx, _, _, rfl, h1, T.cl _ (C.is_of _), T.no _ (C.is_of _) _ (by decide +kernel), rfl, _, rfl, _, rfl, c1, b, t, W, now, rfl, h3, hW, hN, hF, hd, fun q1 l H1 s1 hq1 hl => ?_⟩
    have ln := ev_len (W := W) (now := now) t
    have ln2 := ev_len (W := W) (now := now) u
    have l12 := hF.2.2
    have l13 := hF2.2.2
    have q : Ans H Q (eithR (ev W now t) (ev W now u)) := q
    generalize ev W now t = r at q hq1 hl ln
    obtain ⟨r1, r2⟩ := r
    have ln : (r2.length : Int) ≤ t.lok := ln
    refine ⟨q1, _, rfl, SqT.of hq1, rfl, _, _, rfl, _, _, rfl, rfl, ?_⟩
    refine ⟨_, rfl, rfl, _, rfl, ?_⟩
    cases r1 with
    | some m =>
      refine ite2 (fun _ => ?_) (fun c => absurd rfl c)
      exact ⟨_, rfl, _, rfl, (by show 2 ≤ sizeLine; decide), fun t2 ht2 => q t2 l _ (s1.trans (sameAt (Same.refl H1) ht2)) upd_same (sameAt (Same.refl H1) ht2 _ _ hl)⟩
    | none =>
      refine ite2 (fun c => absurd (show (!decide (V.non = V.non)) = true from c) (by decide)) (fun _ => ?_)
      refine ⟨_, rfl, a, _, dx, _, _, rfl, s1 _ _ h1, T.cl _ (C.is_of _), T.no _ (C.is_of _) _ (by decide +kernel), rfl, _, rfl, _, rfl, c2, b, u, W, now, rfl, h4.same s1, hW.same s1, hN2, hF2, hd2, fun q2 l2 H2 s2 hq2 hl2 => ?_⟩
      have q : Ans H Q ((ev W now u).1, r2 ++ (ev W now u).2) := q
      generalize ev W now u = r' at q hq2 hl2 ln2
      obtain ⟨x1, x2⟩ := r'
      have ln2 : (x2.length : Int) ≤ u.lok := ln2
      have s12 := s1.trans s2
      refine ⟨q2, _, rfl, SqT.of hq2, rfl, _, _, rfl, _, _, rfl, rfl, ?_⟩
      refine ⟨_, rfl, _, rfl, l, _, rfl, .inr (SqL.of (s2 _ _ hl)), _, rfl, l2, _, rfl, .inr (SqL.of hl2), ?_, fun l3 hl3 => ⟨(by show 2 ≤ sizeLine; decide), fun t2 ht2 => ?_⟩⟩
      · show (r2.map V.int ++ (x2.map V.int ++ [])).length ≤ sizeLine
        rw [List.length_append, List.length_append, List.length_map, List.length_map, sizeLine_eq]
        show r2.length + (x2.length + 0) ≤ _
        omega
      · have s3 := s12.trans (sameAt (Same.refl H2) hl3 (o := .lst (r2.map V.int ++ (x2.map V.int ++ []))))
        have hl4 : upd H2 l3 (.lst (r2.map V.int ++ (x2.map V.int ++ []))) l3 = some (.lst ((r2 ++ x2).map V.int)) := by
          rw [upd_same, List.map_append, List.append_nil]
        exact q t2 l3 _ (s3.trans (sameAt (Same.refl _) ht2)) upd_same (sameAt (Same.refl _) ht2 _ _ hl4)
abbrev s_followed_both : Stmt := topS 63
theorem sc_followed_both : FnScope ["term", "world", "now", "first", "seen", "second", "more"] ["term", "world", "now"] (defScope s_followed_both) := ⟨rfl, rfl, rfl, by decide +kernel, rfl, by decide +kernel, by decide +kernel⟩
theorem ok_fboth {f : Addr} {fd : FuncData} {d : Nat} (F : Fun K "followed_both" "followed_both" s_followed_both f fd) (B : Blt mg) (T : TF K mg C) (D : TD C) (G : A2 P w K mg base C CW d) : FnOk P w K mg base CX0 (2 * d + 5) f fd ["term", "world", "now"] (spBoth C CW d) := by
  obtain ⟨t_cl, t_no, t_ty, t_one, c_Now, c_Last, c_Next, c_Shift, c_Either, c_Later, c_Earlier⟩ := id T
  refine F.ok sc_followed_both (fun vs H Q E h => ?_) (fun cdv A outer s H vs Q E hr h => ?_)
  · obtain ⟨a, b, t, u, x, W, now, rfl, _⟩ := h
    rfl
  · obtain ⟨a, b, t, u, x, W, now, rfl, hT, hx, hW, hN, hN2, hF, hF2, hd, hd2, q⟩ := h
    refine ⟨_, (pss_cons (ps_asg (pe_cal G.followed (hr.mono (by omega)) pass0 (pa_cons (pe_fld (pv 0) rfl) (pa_cons (pv 1) (pa_cons (pv 2) pa_nil)))) (pg_tup (by rfl) (pgs_cons (pg_name (i := 3) sc_followed_both.nd rfl (Or.inl rfl)) (pgs_cons (pg_name (i := 4) sc_followed_both.nd rfl (Or.inl rfl)) pgs_nil))))
    (pss_cons (ps_if (pt_cmpR op_isN (pv 3) pe_non (nomark _))
      (pss_one (ps_ret (pe_tup (pa_cons pe_non (pa_cons (pv 4) pa_nil)))))
      pss_nil)
    (pss_cons (ps_asg (pe_cal G.followed (hr.mono (by omega)) pass0 (pa_cons (pe_fld (pv 0) rfl) (pa_cons (pv 1) (pa_cons (pv 2) pa_nil)))) (pg_tup (by rfl) (pgs_cons (pg_name (i := 5) sc_followed_both.nd rfl (Or.inl rfl)) (pgs_cons (pg_name (i := 6) sc_followed_both.nd rfl (Or.inl rfl)) pgs_nil))))
    (pss_cons (ps_set (i := 4) sc_followed_both.nd rfl (Or.inl rfl) (pe_lst (StX.pa_star (pv 4) (StX.pa_star (pv 6) pa_nil))))
    (pss_cons (ps_if (pt_cmpR op_isN (pv 5) pe_non (nomark _))
      (pss_one (ps_ret (pe_tup (pa_cons pe_non (pa_cons (pv 4) pa_nil)))))
      pss_nil)
    (pss_cons (ps_if (pt_val (pe_callB call_isi (by rfl) B.isinstance (by decide +kernel) (pa_cons (pv 0) (pa_cons (pe_glob (v := .ref C.later) (by rfl) c_Later rfl) pa_nil))))
      (pss_one (ps_ret (pe_tup (pa_cons (pe_callB (call_max2 rfl) (by rfl) B.max (by decide +kernel) (pa_cons (pv 3) (pa_cons (pv 5) pa_nil))) (pa_cons (pv 4) pa_nil)))))
      pss_nil)
    (pss_one (ps_ret (pe_tup (pa_cons (pe_callB (call_min2 rfl) (by rfl) B.min (by decide +kernel) (pa_cons (pv 3) (pa_cons (pv 5) pa_nil))) (pa_cons (pv 4) pa_nil))))))))))), ?_⟩
    obtain ⟨dx, c1, c2, sp, h1, h3, h4⟩ := hT.two (.inr hx)
    refine ⟨_, rfl, a, _, dx, _, _, rfl, h1, T.cl _ (C.is_of _), T.no _ (C.is_of _) _ (by decide +kernel), rfl, _, rfl, _, rfl, c1, b, t, W, now, rfl, h3, hW, hN, hF, hd, fun q1 l H1 s1 hq1 hl => ?_⟩
    have ln := ev_len (W := W) (now := now) t
    have ln2 := ev_len (W := W) (now := now) u
    have l12 := hF.2.2
    have l13 := hF2.2.2
    have q : Ans H Q (bothR (if C.of x = C.later then mxI else mnI) (ev W now t) (ev W now u)) := by
      have h := D.nd
      simp only [List.nodup_cons, List.mem_cons, List.not_mem_nil, or_false, not_or] at h
      rcases hx with rfl | rfl
      · rw [if_pos (show C.of (Tm.later t u) = C.later from rfl)]
        exact q
      · rw [if_neg (show ¬ C.of (Tm.earlier t u) = C.later from fun z => h.2.2.2.2.2.1 z.symm)]
        exact q
    have k := T.one (C.of x) C.later (C.is_of x) (C.is_of (.later t u))
    generalize ev W now t = r at q hq1 hl ln
    obtain ⟨r1, r2⟩ := r
    have ln : (r2.length : Int) ≤ t.lok := ln
    refine ⟨q1, _, rfl, SqT.of hq1, rfl, _, _, rfl, _, _, rfl, rfl, ?_⟩
    refine ⟨_, rfl, rfl, _, rfl, ?_⟩
    cases r1 with
    | none =>
      refine ite2 (fun _ => ?_) (fun c => absurd rfl c)
      exact ⟨_, rfl, (by show 2 ≤ sizeLine; decide), fun t2 ht2 => q t2 l _ (s1.trans (sameAt (Same.refl H1) ht2)) upd_same (sameAt (Same.refl H1) ht2 _ _ hl)⟩
    | some m =>
      refine ite2 (fun c => absurd (of_decide_eq_true c) (fun z => nomatch z)) (fun _ => ?_)
      refine ⟨_, rfl, a, _, dx, _, _, rfl, s1 _ _ h1, T.cl _ (C.is_of _), T.no _ (C.is_of _) _ (by decide +kernel), rfl, _, rfl, _, rfl, c2, b, u, W, now, rfl, h4.same s1, hW.same s1, hN2, hF2, hd2, fun q2 l2 H2 s2 hq2 hl2 => ?_⟩
      generalize ev W now u = r' at q hq2 hl2 ln2
      obtain ⟨x1, x2⟩ := r'
      have ln2 : (x2.length : Int) ≤ u.lok := ln2
      have s12 := s1.trans s2
      refine ⟨q2, _, rfl, SqT.of hq2, rfl, _, _, rfl, _, _, rfl, rfl, ?_⟩
      refine ⟨_, rfl, l, _, rfl, .inr (SqL.of (s2 _ _ hl)), _, rfl, l2, _, rfl, .inr (SqL.of hl2), ?_, fun l3 hl3 => ?_⟩
      · show (r2.map V.int ++ (x2.map V.int ++ [])).length ≤ sizeLine
        rw [List.length_append, List.length_append, List.length_map, List.length_map, sizeLine_eq]
        show r2.length + (x2.length + 0) ≤ _
        omega
      have s3 := s12.trans (sameAt (Same.refl H2) hl3 (o := .lst (r2.map V.int ++ (x2.map V.int ++ []))))
      have hl4 : upd H2 l3 (.lst (r2.map V.int ++ (x2.map V.int ++ []))) l3 = some (.lst ((r2 ++ x2).map V.int)) := by
        rw [upd_same, List.map_append, List.append_nil]
      refine ⟨_, rfl, rfl, _, rfl, ?_⟩
      cases x1 with
      | none =>
        refine ite2 (fun _ => ?_) (fun c => absurd rfl c)
        exact ⟨_, rfl, (by show 2 ≤ sizeLine; decide), fun t2 ht2 => q t2 l3 _ (s3.trans (sameAt (Same.refl _) ht2)) upd_same (sameAt (Same.refl _) ht2 _ _ hl4)⟩
      | some m2 =>
        refine ite2 (fun c => absurd (of_decide_eq_true c) (fun z => nomatch z)) (fun _ => ?_)
        refine ⟨_, rfl, _, _, _, _, _, rfl, .own _, T.tyx (hT.same s3), k, _, rfl, ?_⟩
        refine ite2 (fun cn => ?_) (fun cn => ?_)
        · rw [if_pos (of_decide_eq_true cn)] at q
          exact ⟨_, rfl, _, rfl, _, _, rfl, _, rfl, (by show 2 ≤ sizeLine; decide), fun t2 ht2 => q t2 l3 _ (s3.trans (sameAt (Same.refl _) ht2)) upd_same (sameAt (Same.refl _) ht2 _ _ hl4)⟩
        · rw [if_neg (fun z => cn (decide_eq_true z))] at q
          exact ⟨_, rfl, _, rfl, _, _, rfl, _, rfl, (by show 2 ≤ sizeLine; decide), fun t2 ht2 => q t2 l3 _ (s3.trans (sameAt (Same.refl _) ht2)) upd_same (sameAt (Same.refl _) ht2 _ _ hl4)⟩
structure A3 (P : Program) (w : World) (K : PySem.W.Frag) (mg : Str → Option Value) (base : Heap) (C : TC) (CW : Addr) (d : Nat) : Prop extends A2 P w K mg base C CW d where
  moved : Cal P w K mg base CX0 "moved" (2 * d + 5) ["shift", "world", "now"] (spMoved C CW d)
  looked : Cal P w K mg base CX0 "looked" (2 * d + 5) ["question", "world", "now", "place"] (spLooked C CW d)
  followed_either : Cal P w K mg base CX0 "followed_either" (2 * d + 5) ["term", "world", "now"] (spEith C CW d)
  followed_both : Cal P w K mg base CX0 "followed_both" (2 * d + 5) ["term", "world", "now"] (spBoth C CW d)
abbrev s_followed : Stmt := topS 59
theorem sc_followed : FnScope ["term", "world", "now"] ["term", "world", "now"] (defScope s_followed) := ⟨rfl, rfl, rfl, by decide +kernel, rfl, by decide +kernel, by decide +kernel⟩
theorem ok_followed {f : Addr} {fd : FuncData} {d : Nat} (F : Fun K "followed" "followed" s_followed f fd) (B : Blt mg) (Cs : Cst mg) (T : TF K mg C) (D : TD C) (G : A3 P w K mg base C CW d) : FnOk P w K mg base CX0 (2 * (d + 1) + 4) f fd ["term", "world", "now"] (spFol C CW (d + 1)) := by
  obtain ⟨t_cl, t_no, t_ty, t_one, c_Now, c_Last, c_Next, c_Shift, c_Either, c_Later, c_Earlier⟩ := id T
  obtain ⟨t1, g_MOMENT⟩ := Cs.k_MOMENT
  refine F.ok sc_followed (fun vs H Q E h => ?_) (fun cdv A outer s H vs Q E hr h => ?_)
  · obtain ⟨a, b, t, W, now, rfl, _⟩ := h
    rfl
  · obtain ⟨a, b, t, W, now, rfl, hT, hW, hN, hF, hd, q⟩ := h
    refine ⟨_, (pss_cons (ps_if (pt_val (pe_callB call_isi (by rfl) B.isinstance (by decide +kernel) (pa_cons (pv 0) (pa_cons (pe_glob (v := .ref C.now) (by rfl) c_Now rfl) pa_nil))))
      (pss_one (ps_ret (pe_tup (pa_cons (pv 2) (pa_cons (pe_lst pa_nil) pa_nil)))))
      pss_nil)
    (pss_cons (ps_if (pt_val (pe_cal G.is_look (hr.mono (by omega)) pass0 (pa_cons (pv 0) pa_nil)))
      (pss_one (ps_ret (pe_cal G.looked (hr.mono (by omega)) pass0 (pa_cons (pv 0) (pa_cons (pv 1) (pa_cons (pv 2) (pa_cons (pe_glob (v := .int 0) (by rfl) g_MOMENT ⟨_, rfl⟩) pa_nil)))))))
      pss_nil)
    (pss_cons (ps_if (pt_val (pe_callB call_isi (by rfl) B.isinstance (by decide +kernel) (pa_cons (pv 0) (pa_cons (pe_glob (v := .ref C.shift) (by rfl) c_Shift rfl) pa_nil))))
      (pss_one (ps_ret (pe_cal G.moved (hr.mono (by omega)) pass0 (pa_cons (pv 0) (pa_cons (pv 1) (pa_cons (pv 2) pa_nil))))))
      pss_nil)
    (pss_cons (ps_if (pt_val (pe_callB call_isi (by rfl) B.isinstance (by decide +kernel) (pa_cons (pv 0) (pa_cons (pe_glob (v := .ref C.either) (by rfl) c_Either rfl) pa_nil))))
      (pss_one (ps_ret (pe_cal G.followed_either (hr.mono (by omega)) pass0 (pa_cons (pv 0) (pa_cons (pv 1) (pa_cons (pv 2) pa_nil))))))
      pss_nil)
    (pss_one (ps_ret (pe_cal G.followed_both (hr.mono (by omega)) pass0 (pa_cons (pv 0) (pa_cons (pv 1) (pa_cons (pv 2) pa_nil)))))))))), ?_⟩
    have tx := T.tyx hT
    have k0 := T.one (C.of t) C.now (C.is_of t) (C.is_of .now)
    have k1 := fun n u => T.one (C.of t) C.shift (C.is_of t) (C.is_of (.shift n u))
    have k2 := fun x y => T.one (C.of t) C.either (C.is_of t) (C.is_of (.either x y))
    rw [D.now_ t] at k0
    have k1 := k1 0 .now
    have k2 := k2 .now .now
    rw [D.shift t] at k1
    rw [D.eith t] at k2
    refine ⟨_, rfl, _, _, _, _, _, rfl, .own _, tx, k0, _, rfl, ?_⟩
    cases t with
    | now =>
      exact iteT ⟨_, rfl, (by show 0 ≤ sizeLine; decide), fun l hl => ⟨(by show 2 ≤ sizeLine; decide), fun t2 ht2 => q t2 l _ ((sameAt (Same.refl H) hl).trans (sameAt (Same.refl _) ht2)) upd_same (sameAt (Same.refl _) ht2 _ _ upd_same)⟩⟩
    | last z u =>
      have hd : 1 + u.dep ≤ ((d + 1 : Nat) : Int) := hd
      exact iteF ⟨_, rfl, a, _, rfl, hT, fun H1 s1 => ⟨_, rfl, iteT ⟨_, rfl, _, rfl, _, rfl, a, b, u, .last z u, z, W, now, rfl, hT.same s1, .inl rfl, hW.same s1, hN.1, hN.2, hF.ofL, by omega, q.same s1⟩⟩⟩
    | next z u =>
      have hd : 1 + u.dep ≤ ((d + 1 : Nat) : Int) := hd
      exact iteF ⟨_, rfl, a, _, rfl, hT, fun H1 s1 => ⟨_, rfl, iteT ⟨_, rfl, _, rfl, _, rfl, a, b, u, .next z u, z, W, now, rfl, hT.same s1, .inr rfl, hW.same s1, hN.1, hN.2, hF.ofN, by omega, q.same s1⟩⟩⟩
    | shift n u =>
      have hd : 1 + u.dep ≤ ((d + 1 : Nat) : Int) := hd
      exact iteF ⟨_, rfl, a, _, rfl, hT, fun H1 s1 => ⟨_, rfl, iteF ⟨_, rfl, _, _, _, _, _, rfl, .own _, T.tyx (hT.same s1), k1, _, rfl, iteT ⟨_, rfl, _, rfl, _, rfl, a, b, u, W, now, n, rfl, hT.same s1, hW.same s1, hN, hF.ofS, by omega, q.same s1⟩⟩⟩⟩
    | either x y =>
      have hd : 1 + Tm.mx x.dep y.dep ≤ ((d + 1 : Nat) : Int) := hd
      have := Tm.mx_l x.dep y.dep
      have := Tm.mx_r x.dep y.dep
      exact iteF ⟨_, rfl, a, _, rfl, hT, fun H1 s1 => ⟨_, rfl, iteF ⟨_, rfl, _, _, _, _, _, rfl, .own _, T.tyx (hT.same s1), k1, _, rfl, iteF ⟨_, rfl, _, _, _, _, _, rfl, .own _, T.tyx (hT.same s1), k2, _, rfl, iteT ⟨_, rfl, _, rfl, _, rfl, a, b, x, y, W, now, rfl, hT.same s1, hW.same s1, hN.1, hN.2, hF.ofE.1, hF.ofE.2, by omega, by omega, q.same s1⟩⟩⟩⟩⟩
    | later x y =>
      have hd : 1 + Tm.mx x.dep y.dep ≤ ((d + 1 : Nat) : Int) := hd
      have := Tm.mx_l x.dep y.dep
      have := Tm.mx_r x.dep y.dep
      have hF' : (Tm.either x y).Fit := hF
      exact iteF ⟨_, rfl, a, _, rfl, hT, fun H1 s1 => ⟨_, rfl, iteF ⟨_, rfl, _, _, _, _, _, rfl, .own _, T.tyx (hT.same s1), k1, _, rfl, iteF ⟨_, rfl, _, _, _, _, _, rfl, .own _, T.tyx (hT.same s1), k2, _, rfl, iteF ⟨_, rfl, _, rfl, _, rfl, a, b, x, y, _, W, now, rfl, hT.same s1, .inl rfl, hW.same s1, hN.1, hN.2, hF'.ofE.1, hF'.ofE.2, by omega, by omega, q.same s1⟩⟩⟩⟩⟩
    | earlier x y =>
      have hd : 1 + Tm.mx x.dep y.dep ≤ ((d + 1 : Nat) : Int) := hd
      have := Tm.mx_l x.dep y.dep
      have := Tm.mx_r x.dep y.dep
      have hF' : (Tm.either x y).Fit := hF
      exact iteF ⟨_, rfl, a, _, rfl, hT, fun H1 s1 => ⟨_, rfl, iteF ⟨_, rfl, _, _, _, _, _, rfl, .own _, T.tyx (hT.same s1), k1, _, rfl, iteF ⟨_, rfl, _, _, _, _, _, rfl, .own _, T.tyx (hT.same s1), k2, _, rfl, iteF ⟨_, rfl, _, rfl, _, rfl, a, b, x, y, _, W, now, rfl, hT.same s1, .inr rfl, hW.same s1, hN.1, hN.2, hF'.ofE.1, hF'.ofE.2, by omega, by omega, q.same s1⟩⟩⟩⟩⟩
end
end Ash

set_option Elab.async false
set_option linter.all false
set_option maxRecDepth 100000
set_option maxHeartbeats 4000000
namespace Ash
open PySem PySem.Spec PyProof.Rows L2
/-! ### what the top has written -/
/-- a def of the top -/
structure D1 (K : PySem.W.Frag) (mg : Str → Option Value) (x : Str) (st : Stmt) : Prop where
  ex : ∃ (f : Addr) (fd : FuncData), mg x = some (.ref f) ∧ Fun K x x st f fd
/-- a method -/
structure DM (K : PySem.W.Frag) (C : Addr) (m qual : Str) (st : Stmt) : Prop where
  ex : ∃ (f : Addr) (fd : FuncData), Meth K C m f ∧ Fun K m qual st f fd
/-- a method at a known place -/
structure DQ (K : PySem.W.Frag) (C f : Addr) (m qual : Str) (st : Stmt) : Prop where
  ex : ∃ fd : FuncData, Meth K C m f ∧ Fun K m qual st f fd
/-- an __init__ with one default -/
structure DD (K : PySem.W.Frag) (C a : Addr) (qual : Str) (st : Stmt) : Prop where
  ex : ∃ (f : Addr) (fd : FuncData), Mk K C f ∧ FunD K "__init__" qual (defArgs st) (defBody st) (defScope st) [.ref a] [] f fd
section
variable {K : PySem.W.Frag} {h : Heap} {mg : Str → Option Value} {x qual : Str} {st : Stmt} {f C : Addr} {oc kV dc pm cdv ct : Value} {od an : Option Addr} {sl : Array (Option Value)}
theorem d1 (X : K.In h) (G : h.Ns mainGlobals mg) (a : PySem.W.nsIn K mainGlobals x = some (some (.ref f))) (l : K.lookup f = some ⟨oc, od, .func (PySem.W.fnOf x x (defArgs st) (defBody st) (defScope st) .none kV dc pm an cdv ct), sl⟩) (c : PySem.W.codeIn K cdv x = true) (k : PySem.W.keepIn K (.ref f) = true) : D1 K mg x st :=
  ⟨f, _, PySem.W.mg_of X G a, fun_mk l c k⟩
theorem dm (a : PySem.W.findIn K (.ref C) x = some (some (.ref f))) (i : PySem.W.isFn K (.ref f) = true) (l : K.lookup f = some ⟨oc, od, .func (PySem.W.fnOf x qual (defArgs st) (defBody st) (defScope st) .none kV dc pm an cdv ct), sl⟩) (c : PySem.W.codeIn K cdv qual = true) (k : PySem.W.keepIn K (.ref f) = true) : DM K C x qual st :=
  ⟨f, _, ⟨a, i, k⟩, fun_mk l c k⟩
theorem dq (a : PySem.W.findIn K (.ref C) x = some (some (.ref f))) (i : PySem.W.isFn K (.ref f) = true) (l : K.lookup f = some ⟨oc, od, .func (PySem.W.fnOf x qual (defArgs st) (defBody st) (defScope st) .none kV dc pm an cdv ct), sl⟩) (c : PySem.W.codeIn K cdv qual = true) (k : PySem.W.keepIn K (.ref f) = true) : DQ K C f x qual st :=
  ⟨_, ⟨a, i, k⟩, fun_mk l c k⟩
theorem dd {a T : Addr} {oT : Value} {dT : Option Addr} {slT : Array (Option Value)} {n : Nat} (m1 : PySem.W.makesIn K C = true) (m2 : PySem.W.findIn K (.ref C) "__init__" = some (some (.ref f))) (m3 : PySem.W.isFn K (.ref f) = true) (m4 : PySem.W.keepIn K (.ref C) = true)
    (l : K.lookup f = some ⟨oc, od, .func (PySem.W.fnOf "__init__" qual (defArgs st) (defBody st) (defScope st) (.ref T) kV dc pm an cdv ct), sl⟩) (lT : K.lookup T = some ⟨oT, dT, .seq #[.ref a] n, slT⟩) (c : PySem.W.codeIn K cdv qual = true) (k : PySem.W.keepIn K (.ref f) = true) : DD K C a qual st :=
  ⟨f, _, ⟨m1, m2, m3, m4⟩, ⟨⟨oc, od, .ref T, kV, dc, pm, an, cdv, ct, sl, rfl, l, c, .inr ⟨by simp, T, _, [.ref a], n, rfl, lT, rfl, .cons rfl .nil⟩, .inl rfl⟩, k⟩⟩
theorem sq_of {a : Addr} {d : Option Addr} {n : Nat} (l : K.lookup a = some ⟨.type "tuple", d, .seq #[] n, sl⟩) (H : Hp) : SqT K H a [] := .inr ⟨_, #[], n, l, rfl, rfl, Nat.zero_le _, .nil⟩
theorem tt_mk {a : Addr} {d : Option Addr} {n : Nat} (l : K.lookup a = some ⟨.type "tuple", d, .seq #[] n, sl⟩) : ∃ (o : Obj) (n : Nat), K.lookup a = some o ∧ o.cls = .type "tuple" ∧ o.data = .seq #[] n := ⟨_, n, l, rfl, rfl⟩
end
section
variable {P : Program} {w : World} {K : PySem.W.Frag} {mg : Str → Option Value} {base : Heap} {CX : CXT} {x : Str} {st : Stmt} {ps : List Str} {k : Nat} {sp : Sp}
theorem cal_of (D : D1 K mg x st) (hb : ∀ (kV doc pm : Value) (an : Option Addr) (cdv ct : Value) (us : List Value), us.length = ps.length → bindArgs (PySem.W.fnOf x x (defArgs st) (defBody st) (defScope st) .none kV doc pm an cdv ct) ⟨us, []⟩ = pure (ps.zip us))
    (ok : ∀ f fd, Fun K x x st f fd → FnOk P w K mg base CX k f fd ps sp) : Cal P w K mg base CX x k ps sp := by
  obtain ⟨f, fd, hm, F⟩ := D.ex
  exact ⟨f, fd, hm, F.kp, F.binds hb, ok f fd F⟩
end
/-- a class is what its instances are -/
structure BkI (K : PySem.W.Frag) (CB : Addr) : Prop where
  ha : PySem.W.findIn K (.ref CB) "__class__" = some (some (.builtin "object.__class__"))
  hn : PySem.W.specialIn K (.builtin "object.__class__") "__get__" = some (some (.builtin "getset_descriptor.__get__"))
  ht : PySem.W.takesIn K (.builtin "object.__class__") = some true
  hm : PySem.W.mroIn K CB (.type "object") = some true
theorem ne_mk {K : PySem.W.Frag} {C f N : Addr} {nm q : Str} {bs : List Value} {hd ab : Bool} {sn : List Str} {sub : List Value} {col : Option Bool} {dd : Option Addr} {k0 k1 k2 k3 k5 : Option Value} {nid : String} {fo : Obj} (h1 : K.lookup C = some (excClassObj nm q C N bs [.type "object"] hd sn sub ab col dd k0 k1 k2 k3 k5 nid)) {oN : Value} {dN : Option Addr} {es : Array DictEntry} {nn : Nat} {slN : Array (Option Value)} (h2 : K.lookup N = some ⟨oN, dN, .dict es nn, slN⟩) (h7 : (es.toList.all fun e => match e.key with | .str _ _ => true | _ => false) = true) (h3 : PySem.W.nsIn K N "__eq__" = some (some (.ref f))) (h4 : PySem.W.nsIn K N "__ne__" = some none) (h5 : K.lookup f = some fo) (h6 : fo.cls = .type "function") : NeC K C f :=
  ⟨⟨nm, q, N, bs, hd, sn, sub, ab, col, dd, k0, k1, k2, k3, k5, nid, fo, h1, by unfold PySem.W.nsOkIn; rw [h2]; exact (Array.all_toList ..).symm.trans h7, h3, h4, h5, h6⟩⟩
theorem kit_ref {K : PySem.W.Frag} {C : Addr} {T : String} {b : Bool} (hm : PySem.W.kitMeta T = true) (h : PySem.W.subIn K (.ref C) (.type T) = some b) : PySem.W.kitOne K (.ref C) (.type T) = some b := by
  have e : (Value.ref C == Value.type T) = false := rfl
  unfold PySem.W.kitOne PySem.W.kitCls
  rw [e, if_neg Bool.false_ne_true]
  show (if PySem.W.kitMeta T = true then _ else _) = _
  rw [if_pos hm]
  exact h
theorem exm_me {K : PySem.W.Frag} {C : Addr} (h1 : PySem.W.subIn K (.ref C) (.type "BaseException") = some true) (h2 : PySem.W.isClsIn K C = true) (h3 : PySem.W.typeIn K (.ref C) = some (.type "type")) (h4 : PySem.W.subIn K (.ref C) (.ref C) = some true) : PySem.W.exmOne K (.ref C) (.ref C) = some true := by
  have h2' : (PySem.W.clsIn K C).isSome = true := h2
  simp [PySem.W.exmOne, PySem.W.kitCls, h1, h2', h3, h4]
theorem exm_no {K : PySem.W.Frag} {C D : Addr} (h1 : PySem.W.subIn K (.ref D) (.type "BaseException") = some true) (h2 : PySem.W.isClsIn K D = true) (h3 : PySem.W.typeIn K (.ref D) = some (.type "type")) (h4 : PySem.W.subIn K (.ref C) (.ref D) = some false) : PySem.W.exmOne K (.ref C) (.ref D) = some false := by
  have h2' : (PySem.W.clsIn K D).isSome = true := h2
  simp [PySem.W.exmOne, PySem.W.kitCls, h1, h2', h3, h4]
open PySem.W PySem.Calls PySem.HandSPX in
/-- the facts of an own error's class -/
theorem txt_mk {P : Program} {K : PySem.W.Frag} {h : Heap} {mg : Str → Option Value} {par fl : Str} {C fI N cda cc : Addr} {nm q qual tx file : Str} {bs bm sub : List Value} {sn : List Str} {ab : Bool} {col : Option Bool} {dd : Option Addr} {m0 m1 m2 m3 m5 : Option Value}
    {oc doc pm ct ccl cl : Value} {od an cdd cld : Option Addr} {osl ccs csl : Array (Option Value)} {vs : Array Value} {pa : Arguments} {p0 p1 p2 p3 p4 p5 p6 p7 p8 p9 : Pos} {j : Nat} {a0 : Arg} {tf : Nat} (X : K.In h) (G : h.Ns mainGlobals mg)
    (cls : K.lookup C = some (excClassObj nm q C N bs bm true sn sub ab col dd m0 m1 m2 m3 m5 "ValueError.__new__")) (ref : PySem.HandSPX.refsVE bm = true)
    (sa : PySem.W.findIn K (.ref C) "__setattr__" = some (some (.builtin "object.__setattr__"))) (ga : PySem.W.findIn K (.ref C) "__getattribute__" = some (some (.builtin "BaseException.__getattribute__"))) (gg : PySem.W.findIn K (.ref C) "__getattr__" = some none) (noN : PySem.W.findIn K (.ref C) fl = some none)
    (iC : PySem.W.findIn K (.ref C) "__init__" = some (some (.ref fI))) (tC : PySem.W.typeIn K (.ref fI) = some (.type "function")) (kC : PySem.W.keepIn K (.ref C) = true) (exC : PySem.W.subIn K (.ref C) (.type "BaseException") = some true) (veC : PySem.W.subIn K (.ref C) (.type "ValueError") = some true)
    (slf : PySem.W.mroIn K C (.ref C) = some true) (tyC : PySem.W.typeIn K (.ref C) = some (.type "type")) (hdC : PySem.W.hasDictIn K C = true) (isC : PySem.W.isClsIn K C = true) (sC : PySem.W.subIn K (.ref C) (.ref C) = some true)
    (along : PySem.W.ks_superIn K C C "__init__" = some (some (.builtin "ValueError.__init__"))) (opq : PySem.W.nsIn K cStatics "thirdparty.any" = some none) (sup : PySem.W.nsIn K mainGlobals "super" = some none) (top : (P.main.scope.names.lookup ("super" : Str)).isSome = false)
    (lf : K.lookup fI = some ⟨oc, od, .func (PySem.W.ksFn "__init__" qual pa (PySem.BadX.shape tx par fl p0 p1 p2 p3 p4 p5 p6 p7 p8 p9 j) (PySem.BadX.sco par) .none .none doc pm an (.ref cda) ct cc), osl⟩) (cd : PySem.W.codeIn K (.ref cda) qual = true) (ha0 : (pa.posonlyargs ++ pa.args).head? = some a0) (ha1 : a0.arg = "self")
    (bd : ∀ (s : Shared) (u v : Value), BindsTo s (PySem.W.ksFn "__init__" qual pa (PySem.BadX.shape tx par fl p0 p1 p2 p3 p4 p5 p6 p7 p8 p9 j) (PySem.BadX.sco par) .none .none doc pm an (.ref cda) ct cc) ⟨[u, v], []⟩ [("self", u), (par, v)])
    (lc : K.lookup cda = some ⟨ccl, cdd, .fields vs, ccs⟩) (hvs : vs[2]? = some (.str file tf)) (hfile : ((P.main.file : Str) == file) = true) (hpe : (p2.endLine == p4.line) = true) (lcc : K.lookup cc = some ⟨cl, cld, .cell (some (.ref C)), csl⟩) : PySem.BadX.Txt P K mg par fl C fI :=
  { cls := ⟨nm, q, N, bs, bm, sn, sub, ab, col, dd, m0, m1, m2, m3, m5, cls, ref⟩, sa := sa, ga := ga, gg := gg, noN := noN, iC := iC, tC := tC, kC := kC, exC := exC, veC := veC, slf := slf, tyC := tyC, hdC := hdC, te := exm_me exC isC tyC sC, along := along, opq := opq, sup := PySem.W.mg_none_of X G sup, top := top,
    fn := ⟨oc, od, qual, tx, doc, pm, an, cda, cc, ct, osl, pa, p0, p1, p2, p3, p4, p5, p6, p7, p8, p9, j, a0, lf, cd, ha0, ha1, bd, ⟨ccl, cdd, vs, ccs, file, tf, lc, hvs, hfile⟩, hpe, ⟨cl, cld, csl, lcc⟩⟩ }
theorem ex_int {K : PySem.W.Frag} {h : Heap} {mg : Str → Option Value} {x : Str} {n : Int} {t : Tok} (X : K.In h) (G : h.Ns mainGlobals mg) (a : PySem.W.nsIn K mainGlobals x = some (some (.int n t))) : ∃ t, mg x = some (.int n t) := ⟨_, PySem.W.mg_of X G a⟩
theorem ex_str {K : PySem.W.Frag} {h : Heap} {mg : Str → Option Value} {x z : Str} {t : Tok} (X : K.In h) (G : h.Ns mainGlobals mg) (a : PySem.W.nsIn K mainGlobals x = some (some (.str z t))) : ∃ t, mg x = some (.str z t) := ⟨_, PySem.W.mg_of X G a⟩
end Ash

set_option Elab.async false
set_option linter.all false
set_option maxRecDepth 100000
set_option maxHeartbeats 4000000
namespace Ash
open PySem PySem.Spec PyProof.Rows L2 SrtT
open C8 (pss_cut)
section
variable {P : Program} {w : World} {K : PySem.W.Frag} {mg : Str → Option Value} {base : Heap} {C : TC} {CW : Addr}
theorem ok_fol0 {f : Addr} {fd : FuncData} (F : Fun K "followed" "followed" s_followed f fd) : FnOk P w K mg base CX0 (2 * 0 + 4) f fd ["term", "world", "now"] (spFol C CW 0) := by
  refine F.ok sc_followed (fun vs H Q E h => ?_) (fun cdv A outer s H vs Q E hr h => ?_)
  · obtain ⟨a, b, t, W, now, rfl, _⟩ := h
    rfl
  · obtain ⟨a, b, t, W, now, rfl, _, _, _, _, hd, _⟩ := h
    have := t.dep_pos
    have hd : t.dep ≤ 0 := hd
    omega
theorem fol_all (B : Blt mg) (Cs : Cst mg) (T : TF K mg C) (D : TD C) (G : A1 P w K mg base C CW) (d1 : D1 K mg "moved" s_moved) (d2 : D1 K mg "looked" s_looked) (d3 : D1 K mg "followed_either" s_followed_either) (d4 : D1 K mg "followed_both" s_followed_both) (d5 : D1 K mg "followed" s_followed) : ∀ d, A2 P w K mg base C CW d
  | 0 => { G with followed := cal_of d5 (fun _ _ _ _ _ _ us hl => match us, hl with | [_, _, _], _ => rfl) fun f fd F => ok_fol0 F }
  | d + 1 => by
    have g := fol_all B Cs T D G d1 d2 d3 d4 d5 d
    have c1 := cal_of (P := P) (w := w) (base := base) (ps := ["shift", "world", "now"]) d1 (fun _ _ _ _ _ _ us hl => match us, hl with | [_, _, _], _ => rfl) fun f fd F => ok_moved F B T g
    have c2 := cal_of (P := P) (w := w) (base := base) (ps := ["question", "world", "now", "place"]) d2 (fun _ _ _ _ _ _ us hl => match us, hl with | [_, _, _, _], _ => rfl) fun f fd F => ok_looked F B T D g
    have c3 := cal_of (P := P) (w := w) (base := base) (ps := ["term", "world", "now"]) d3 (fun _ _ _ _ _ _ us hl => match us, hl with | [_, _, _], _ => rfl) fun f fd F => ok_feither F B T g
    have c4 := cal_of (P := P) (w := w) (base := base) (ps := ["term", "world", "now"]) d4 (fun _ _ _ _ _ _ us hl => match us, hl with | [_, _, _], _ => rfl) fun f fd F => ok_fboth F B T D g
    have g3 : A3 P w K mg base C CW d := { g with moved := c1, looked := c2, followed_either := c3, followed_both := c4 }
    exact { G with followed := cal_of d5 (fun _ _ _ _ _ _ us hl => match us, hl with | [_, _, _], _ => rfl) fun f fd F => ok_followed F B Cs T D g3 }
abbrev s_Term_add : Stmt := inClass (topS 21) 1
theorem sc_Term_add : FnScope ["self", "other"] ["self", "other"] (defScope s_Term_add) := ⟨rfl, rfl, rfl, by decide +kernel, rfl, by decide +kernel, by decide +kernel⟩
structure V3 (P : Program) (w : World) (K : PySem.W.Frag) (mg : Str → Option Value) (base : Heap) (C : TC) (CW : Addr) : Prop extends A2 P w K mg base C CW 12 where
  shifted : Cal P w K mg base CX0 "shifted" 4 ["term", "amount"] (spShifted C)
theorem ok_tadd {f : Addr} {fd : FuncData} (F : Fun K "__add__" "Term.__add__" s_Term_add f fd) (B : Blt mg) (G : V3 P w K mg base C CW) : FnOk P w K mg base CX0 5 f fd ["self", "other"] (spShifted C) := by
  refine F.ok sc_Term_add (fun vs H Q E h => ?_) (fun cdv A outer s H vs Q E hr h => ?_)
  · obtain ⟨a, t, n, rfl, _⟩ := h
    rfl
  · obtain ⟨a, t, n, rfl, hT, hF, q⟩ := h
    refine ⟨_, (pss_cons (ps_if (pt_not (pt_val (pe_cal G.is_integer (hr.mono (by decide)) pass0 (pa_cons (pv 1) pa_nil))))
      (pss_one ps_never)
      pss_nil)
    (pss_one (ps_ret (pe_cal G.shifted (hr.mono (by decide)) pass0 (pa_cons (pv 0) (pa_cons (pv 1) pa_nil)))))), ?_⟩
    exact ⟨_, rfl, _, rfl, .inl ⟨n, rfl, _, rfl, iteF ⟨_, rfl, _, rfl, a, t, n, rfl, hT, hF, q⟩⟩⟩
abbrev s_l_same : Stmt := topS 80
theorem sc_l_same : FnScope ["told", "due"] ["told", "due"] (defScope s_l_same) := ⟨rfl, rfl, rfl, by decide +kernel, rfl, by decide +kernel, by decide +kernel⟩
def spSame : Sp := fun vs H Q _ => ∃ o o' : Option Int, vs = [oV o, oV o'] ∧ Q (.bl (decide (o = o'))) H
theorem ok_same {f : Addr} {fd : FuncData} (F : Fun K "_law_same" "_law_same" s_l_same f fd) (B : Blt mg) : FnOk P w K mg base CX0 1 f fd ["told", "due"] spSame := by
  refine F.ok sc_l_same (fun vs H Q E h => ?_) (fun cdv A outer s H vs Q E hr h => ?_)
  · obtain ⟨o, o', rfl, _⟩ := h
    rfl
  · obtain ⟨o, o', rfl, q⟩ := h
    refine ⟨_, (pss_cons (ps_if (pt_cmpR op_isN (pv 1) pe_non (nomark _))
      (pss_one (ps_ret (pe_cmpR op_isN (pv 0) pe_non (nomark _))))
      pss_nil)
    (pss_one (ps_ret (pe_and (pe_callB call_isi (by rfl) B.isinstance (by decide +kernel) (pa_cons (pv 0) (pa_cons (pe_bltn (v := .ty "int") (by rfl) B.int (by decide +kernel) rfl) pa_nil))) (pe_and (pe_not (pe_callB call_isi (by rfl) B.isinstance (by decide +kernel) (pa_cons (pv 0) (pa_cons (pe_bltn (v := .ty "bool") (by rfl) B.bool (by decide +kernel) rfl) pa_nil)))) (pe_one (pe_cmpR op_eq (pv 0) (pv 1) (nomark _)))))))), ?_⟩
    refine ⟨_, rfl, rfl, _, rfl, ?_⟩
    cases o' with
    | none =>
      refine ite2 (fun _ => ?_) (fun c => absurd rfl c)
      refine ⟨_, rfl, rfl, ?_⟩
      have e : decide (oV o = V.non) = decide (o = none) := by
        rw [oV_none]
        cases o <;> rfl
      rw [e]
      exact q
    | some i =>
      refine ite2 (fun c => absurd (of_decide_eq_true c) (fun z => nomatch z)) (fun _ => ?_)
      cases o with
      | none =>
        refine ⟨_, rfl, _, _, _, _, false, rfl, ClsV.ty _, .base .non, kit_ty (by decide +kernel), _, rfl, iteF ?_⟩
        rw [show decide ((none : Option Int) = some i) = false from decide_eq_false fun z => nomatch z] at q
        exact q
      | some j =>
        refine ⟨_, rfl, _, _, _, _, true, rfl, ClsV.ty _, .base (.int j), kit_ty (by decide +kernel), _, rfl, iteT ?_⟩
        refine ⟨_, rfl, _, _, _, _, false, rfl, ClsV.ty _, .base (.int j), kit_ty (by decide +kernel), _, rfl, _, rfl, iteT ?_⟩
        refine ⟨_, rfl, _, rfl, rfl, ?_⟩
        rw [show decide (oV (some j) = oV (some i)) = decide (some j = some i) by
          by_cases z : j = i
          · subst z; simp
          · rw [decide_eq_false (fun e : oV (some j) = oV (some i) => z (V.int.inj e)), decide_eq_false (fun e : some j = some i => z (Option.some.inj e))]]
        exact q
end
end Ash

set_option Elab.async false
set_option linter.all false
set_option maxRecDepth 100000
set_option maxHeartbeats 4000000
namespace Ash
open PySem PySem.Spec PyProof.Rows L2 SrtT
open C8 (pss_cut)
/-! ### amounts -/
inductive Am where
  | number (s : Str) (t : Tm)
  | count (s : Str) (t u : Tm)
  | total (s : Str) (t u : Tm)
  | gap (t u : Tm)
structure AC where
  number : Addr
  count : Addr
  total : Addr
  gap : Addr
def AC.of (A : AC) : Am → Addr
  | .number _ _ => A.number
  | .count _ _ _ => A.count
  | .total _ _ _ => A.total
  | .gap _ _ => A.gap
def AC.Is (A : AC) (a : Addr) : Prop := a = A.number ∨ a = A.count ∨ a = A.total ∨ a = A.gap
theorem AC.is_of (A : AC) (q : Am) : A.Is (A.of q) := by
  cases q
  · exact .inl rfl
  · exact .inr (.inl rfl)
  · exact .inr (.inr (.inl rfl))
  · exact .inr (.inr (.inr rfl))
def Am.spell : Am → List V
  | .number s t => .str "number" :: .str s :: t.spell
  | .count s t u => .str "count" :: .str s :: (t.spell ++ u.spell)
  | .total s t u => .str "total" :: .str s :: (t.spell ++ u.spell)
  | .gap t u => .str "gap" :: (t.spell ++ u.spell)
/-- the amount question q at a -/
def AmAt (A : AC) (C : TC) (H : Hp) (a : Addr) : Am → Prop
  | .number s t => ∃ dx b sp, H a = some (.ins A.number dx [("stream", .str s), ("term", .ref b), ("spelling", .ref sp)]) ∧ H sp = some (.tup (Am.spell (.number s t))) ∧ TmAt C H b t
  | .count s t u => ∃ dx b c sp, H a = some (.ins A.count dx [("stream", .str s), ("first", .ref b), ("last", .ref c), ("spelling", .ref sp)]) ∧ H sp = some (.tup (Am.spell (.count s t u))) ∧ TmAt C H b t ∧ TmAt C H c u
  | .total s t u => ∃ dx b c sp, H a = some (.ins A.total dx [("stream", .str s), ("first", .ref b), ("last", .ref c), ("spelling", .ref sp)]) ∧ H sp = some (.tup (Am.spell (.total s t u))) ∧ TmAt C H b t ∧ TmAt C H c u
  | .gap t u => ∃ dx b c sp, H a = some (.ins A.gap dx [("first", .ref b), ("last", .ref c), ("spelling", .ref sp)]) ∧ H sp = some (.tup (Am.spell (.gap t u))) ∧ TmAt C H b t ∧ TmAt C H c u
theorem AmAt.nl {A : AC} {C : TC} {H H' : Hp} (n : NL H H') {a : Addr} : ∀ {q : Am}, AmAt A C H a q → AmAt A C H' a q
  | .number _ _, ⟨dx, b, sp, h1, h2, h3⟩ => ⟨dx, b, sp, n _ _ h1 (fun _ z => nomatch z), n _ _ h2 (fun _ z => nomatch z), h3.nl n⟩
  | .count _ _ _, ⟨dx, b, c, sp, h1, h2, h3, h4⟩ => ⟨dx, b, c, sp, n _ _ h1 (fun _ z => nomatch z), n _ _ h2 (fun _ z => nomatch z), h3.nl n, h4.nl n⟩
  | .total _ _ _, ⟨dx, b, c, sp, h1, h2, h3, h4⟩ => ⟨dx, b, c, sp, n _ _ h1 (fun _ z => nomatch z), n _ _ h2 (fun _ z => nomatch z), h3.nl n, h4.nl n⟩
  | .gap _ _, ⟨dx, b, c, sp, h1, h2, h3, h4⟩ => ⟨dx, b, c, sp, n _ _ h1 (fun _ z => nomatch z), n _ _ h2 (fun _ z => nomatch z), h3.nl n, h4.nl n⟩
theorem AmAt.same {A : AC} {C : TC} {H H' : Hp} {a : Addr} {q : Am} (h : AmAt A C H a q) (s : Same H H') : AmAt A C H' a q := h.nl (nl_same s)
abbrev AATTRS : List Str := ["stream", "term", "first", "last", "spelling"]
/-- the facts of the classes of amounts -/
structure AF (K : PySem.W.Frag) (mg : Str → Option Value) (A : AC) (C : TC) : Prop where
  cl : ∀ a, A.Is a → Cls K a
  no : ∀ a, A.Is a → ∀ f ∈ AATTRS, NoAttr K a f
  ty : ∀ a, A.Is a → PySem.W.findIn K (.ref a) "__class__" = some (some (.builtin "object.__class__")) ∧ PySem.W.specialIn K (.builtin "object.__class__") "__get__" = some (some (.builtin "getset_descriptor.__get__")) ∧ PySem.W.takesIn K (.builtin "object.__class__") = some true ∧ PySem.W.mroIn K a (.type "object") = some true
  one : ∀ a b, A.Is a → A.Is b → PySem.W.kitOne K (.ref a) (.ref b) = some (decide (a = b))
  noT : ∀ a b, A.Is a → C.Is b → PySem.W.kitOne K (.ref a) (.ref b) = some false
  Number : mg "Number" = some (.ref A.number)
  Count : mg "Count" = some (.ref A.count)
  Total : mg "Total" = some (.ref A.total)
  Gap : mg "Gap" = some (.ref A.gap)
  nd : [A.number, A.count, A.total, A.gap].Nodup
theorem AmAt.ins {A : AC} {C : TC} {H : Hp} {a : Addr} : ∀ {q : Am}, AmAt A C H a q → ∃ dx fs, H a = some (.ins (A.of q) dx fs)
  | .number _ _, ⟨dx, b, sp, h1, _⟩ => ⟨dx, _, h1⟩
  | .count _ _ _, ⟨dx, b, c, sp, h1, _⟩ => ⟨dx, _, h1⟩
  | .total _ _ _, ⟨dx, b, c, sp, h1, _⟩ => ⟨dx, _, h1⟩
  | .gap _ _, ⟨dx, b, c, sp, h1, _⟩ => ⟨dx, _, h1⟩
theorem AF.tyx {K : PySem.W.Frag} {mg : Str → Option Value} {A : AC} {C : TC} (T : AF K mg A C) {H : Hp} {a : Addr} {q : Am} (h : AmAt A C H a q) : TyX K H (.ref a) (.ref (A.of q)) := by
  obtain ⟨dx, fs, i⟩ := h.ins
  obtain ⟨h1, h2, h3, h4⟩ := T.ty _ (A.is_of q)
  exact .base (.ins i (T.cl _ (A.is_of q)) h1 h2 h3 h4)
/-- an amount question is no term -/
theorem AF.noTm {K : PySem.W.Frag} {mg : Str → Option Value} {A : AC} {C : TC} (T : AF K mg A C) {H : Hp} {a : Addr} {q : Am} (h : AmAt A C H a q) : NotTm K C H (.ref a) := ⟨_, T.tyx h, fun b hb => T.noT _ _ (A.is_of q) hb⟩
/-! ### what an amount question answers -/
def lookA (r : Rs) (f : Int → Option T3) : Rs := match r.1 with
  | none => (none, r.2)
  | some m => match f m with
    | none => (none, r.2)
    | some t => (some t.2.2, r.2 ++ [t.2.1])
def betweenR (rs : List T3) (lo hi : Int) : List T3 := rs.filter fun t => decide (lo < t.1 ∧ t.1 ≤ hi)
def tellR (r s : Rs) (g : Int → Int → Rs) : Rs := match r.1 with
  | none => (none, r.2)
  | some m => match s.1 with
    | none => (none, r.2 ++ s.2)
    | some k => ((g m k).1, r.2 ++ s.2 ++ (g m k).2)
def evA (W : Tr) (now : Int) : Am → Rs
  | .number s t => lookA (ev W now t) (lastR (W s))
  | .count s t u => tellR (ev W now t) (ev W now u) fun m k => (some ((betweenR (W s) m k).length : Int), (betweenR (W s) m k).map (·.2.1))
  | .total s t u => tellR (ev W now t) (ev W now u) fun m k => (some ((betweenR (W s) m k).map (·.2.2)).sum, (betweenR (W s) m k).map (·.2.1))
  | .gap t u => tellR (ev W now t) (ev W now u) fun m k => (some (k - m), [])
def Am.NmS : Am → Prop
  | .number s t => IsNm s ∧ t.NmS
  | .count s t u => IsNm s ∧ t.NmS ∧ u.NmS
  | .total s t u => IsNm s ∧ t.NmS ∧ u.NmS
  | .gap t u => t.NmS ∧ u.NmS
def Am.Fit : Am → Prop
  | .number _ t => t.Fit
  | .count _ t u => t.Fit ∧ u.Fit
  | .total _ t u => t.Fit ∧ u.Fit
  | .gap t u => t.Fit ∧ u.Fit
def spInitN (A : AC) (C : TC) : Sp := fun vs H Q _ => ∃ (b dx a : Addr) (z : Str) (t : Tm), vs = [.ref b, .str z, .ref a] ∧ H b = some (.ins A.number dx []) ∧ IsNm z ∧ TmAt C H a t ∧ t.Fit ∧ ∀ H', AmAt A C H' b (.number z t) → Keep b H H' → Q .non H'
def spInitC (A : AC) (C : TC) (D : Addr) (mk : Str → Tm → Tm → Am) : Sp := fun vs H Q _ => ∃ (b dx a c : Addr) (z : Str) (t u : Tm), vs = [.ref b, .str z, .ref a, .ref c] ∧ H b = some (.ins D dx []) ∧ IsNm z ∧ TmAt C H a t ∧ TmAt C H c u ∧ t.Fit ∧ u.Fit ∧ ∀ H', AmAt A C H' b (mk z t u) → Keep b H H' → Q .non H'
def spInitG (A : AC) (C : TC) : Sp := fun vs H Q _ => ∃ (b dx a c : Addr) (t u : Tm), vs = [.ref b, .ref a, .ref c] ∧ H b = some (.ins A.gap dx []) ∧ TmAt C H a t ∧ TmAt C H c u ∧ t.Fit ∧ u.Fit ∧ ∀ H', AmAt A C H' b (.gap t u) → Keep b H H' → Q .non H'
def spIsAmount (A : AC) (C : TC) : Sp := fun vs H Q _ => ∃ a q, vs = [.ref a] ∧ AmAt A C H a q ∧ ∀ H', Same H H' → Q (.bl true) H'
section
variable {P : Program} {w : World} {K : PySem.W.Frag} {mg : Str → Option Value} {base : Heap} {C : TC} {CW : Addr} {A0 : AC}
theorem len3 {a b : V} {f g h : Str} {x y z : V} : putF h z (putF g y (putF f x [])) = [(f, x), (g, y), (h, z)] ∨ True := .inr trivial
abbrev s_Number_init : Stmt := inClass (topS 39) 0
theorem sc_Number_init : FnScope ["self", "stream", "term"] ["self", "stream", "term"] (defScope s_Number_init) := ⟨rfl, rfl, rfl, by decide +kernel, rfl, by decide +kernel, by decide +kernel⟩
theorem ok_number {f : Addr} {fd : FuncData} (F : Fun K "__init__" "Number.__init__" s_Number_init f fd) (B : Blt mg) (T : TF K mg C) (AT : AF K mg A0 C) (G : T2 P w K mg base C) : FnOk P w K mg base CX0 3 f fd ["self", "stream", "term"] (spInitN A0 C) := by
  refine F.ok sc_Number_init (fun vs H Q E h => ?_) (fun cdv A outer s H vs Q E hr h => ?_)
  · obtain ⟨b, dx, a, z, t, rfl, _⟩ := h
    rfl
  · obtain ⟨b, dx, a, z, t, rfl, hb, hz, hT, hF, q⟩ := h
    refine ⟨_, (pss_cons (ps_fld (pv 0) (pe_cal G.checked_stream (hr.mono (by decide)) pass0 (pa_cons (pv 1) pa_nil)) rfl)
    (pss_cons (ps_fld (pv 0) (pe_cal G.checked_term (hr.mono (by decide)) pass0 (pa_cons (pv 2) pa_nil)) rfl)
    (pss_one (ps_fld (pv 0) (pe_tup (pa_cons pe_str (pa_cons (pv 1) (StX.pa_star (pe_fld (pv 2) rfl) pa_nil)))) rfl)))), ?_⟩
    obtain ⟨D, hD⟩ : ∃ D, D = A0.number := ⟨_, rfl⟩
    have Is : A0.Is D := .inl hD
    rw [← hD] at hb
    refine ⟨_, rfl, z, rfl, hz, fun H1 s1 => ⟨_, rfl, b, D, dx, [], rfl, s1 _ _ hb, AT.cl _ Is, AT.no _ Is _ (by decide +kernel), (by show 0 < 1000; decide), ?_⟩⟩
    have K1 : Keep b H (upd H1 b (.ins D dx (putF "stream" (.str z) []))) := (Keep.refl.same s1).upd
    refine ⟨_, rfl, a, t, rfl, hT.off hb K1, fun H2 s2 => ⟨_, rfl, b, D, dx, _, rfl, s2 _ _ upd_same, AT.cl _ Is, AT.no _ Is _ (by decide +kernel), (by show 1 < 1000; decide), ?_⟩⟩
    have K2 : Keep b H (upd H2 b (.ins D dx (putF "term" (.ref a) (putF "stream" (.str z) [])))) := (K1.same s2).upd
    obtain ⟨dx1, fs1, sp1, In⟩ := (hT.off hb K2).in_
    have sl := Tm.spell_len t
    have hF2 : t.par ≤ 40 := hF.2.1
    refine ⟨_, rfl, _, rfl, _, _, dx1, fs1, _, rfl, In.at_, T.cl _ (C.is_of _), T.no _ (C.is_of _) _ (by decide +kernel), In.spelling, sp1, _, rfl, .inl (SqT.of In.spl), ?_, fun sp hsp => ⟨_, rfl, b, D, dx, _, rfl, sameAt (Same.refl _) hsp _ _ upd_same, AT.cl _ Is, AT.no _ Is _ (by decide +kernel), (by show 2 < 1000; decide), ?_⟩⟩
    · show (t.spell ++ []).length + 1 + 1 ≤ sizeLine
      rw [sizeLine_eq, List.append_nil]
      omega
    have sb : sp ≠ b := fun z => by rw [z, upd_same] at hsp; cases hsp
    have K3 := (K2.at hsp (u := .tup (.str "number" :: .str z :: (t.spell ++ [])))).upd (u := .ins D dx (putF "spelling" (.ref sp) (putF "term" (.ref a) (putF "stream" (.str z) []))))
    refine q _ ⟨dx, a, sp, ?_, ?_, hT.off hb K3⟩ K3
    · rw [upd_same, putF_no (fs := putF "term" (.ref a) (putF "stream" (.str z) [])) (by rw [pre2 (by decide +kernel)]; rfl), pre2 (by decide +kernel), hD]
      rfl
    · rw [upd_ne sb, upd_same]
      simp [Am.spell]
abbrev s_Count_init : Stmt := inClass (topS 40) 0
theorem sc_Count_init : FnScope ["self", "stream", "first", "last"] ["self", "stream", "first", "last"] (defScope s_Count_init) := ⟨rfl, rfl, rfl, by decide +kernel, rfl, by decide +kernel, by decide +kernel⟩
theorem ok_count {f : Addr} {fd : FuncData} (F : Fun K "__init__" "Count.__init__" s_Count_init f fd) (B : Blt mg) (T : TF K mg C) (AT : AF K mg A0 C) (G : T2 P w K mg base C) : FnOk P w K mg base CX0 3 f fd ["self", "stream", "first", "last"] (spInitC A0 C A0.count Am.count) := by
  refine F.ok sc_Count_init (fun vs H Q E h => ?_) (fun cdv A outer s H vs Q E hr h => ?_)
  · obtain ⟨b, dx, a, c, z, t, u, rfl, _⟩ := h
    rfl
  · obtain ⟨b, dx, a, c, z, t, u, rfl, hb, hz, hT, hU, hF, hG, q⟩ := h
    refine ⟨_, (pss_cons (ps_fld (pv 0) (pe_cal G.checked_stream (hr.mono (by decide)) pass0 (pa_cons (pv 1) pa_nil)) rfl)
    (pss_cons (ps_fld (pv 0) (pe_cal G.checked_term (hr.mono (by decide)) pass0 (pa_cons (pv 2) pa_nil)) rfl)
    (pss_cons (ps_fld (pv 0) (pe_cal G.checked_term (hr.mono (by decide)) pass0 (pa_cons (pv 3) pa_nil)) rfl)
    (pss_one (ps_fld (pv 0) (pe_tup (pa_cons pe_str (pa_cons (pv 1) (StX.pa_star (pe_fld (pv 2) rfl) (StX.pa_star (pe_fld (pv 3) rfl) pa_nil))))) rfl))))), ?_⟩
    obtain ⟨D, hD⟩ : ∃ D, D = A0.count := ⟨_, rfl⟩
    have Is : A0.Is D := .inr (.inl hD)
    rw [← hD] at hb
    refine ⟨_, rfl, z, rfl, hz, fun Hz sz => ⟨_, rfl, b, D, dx, [], rfl, sz _ _ hb, AT.cl _ Is, AT.no _ Is _ (by decide +kernel), (by show 0 < 1000; decide), ?_⟩⟩
    have K0 : Keep b H (upd Hz b (.ins D dx (putF "stream" (.str z) []))) := (Keep.refl.same sz).upd
    have hb0 : (upd Hz b (.ins D dx (putF "stream" (.str z) []))) b = some (.ins D dx (putF "stream" (.str z) [])) := upd_same
    refine ⟨_, rfl, a, t, rfl, hT.off hb K0, fun H1 s1 => ⟨_, rfl, b, D, dx, _, rfl, s1 _ _ hb0, AT.cl _ Is, AT.no _ Is _ (by decide +kernel), (by show 1 < 1000; decide), ?_⟩⟩
    have K1 : Keep b H (upd H1 b (.ins D dx (putF "first" (.ref a) (putF "stream" (.str z) [])))) := (K0.same s1).upd
    refine ⟨_, rfl, c, u, rfl, hU.off hb K1, fun H2 s2 => ⟨_, rfl, b, D, dx, _, rfl, s2 _ _ upd_same, AT.cl _ Is, AT.no _ Is _ (by decide +kernel), (by show 2 < 1000; decide), ?_⟩⟩
    have K2 : Keep b H (upd H2 b (.ins D dx (putF "last" (.ref c) (putF "first" (.ref a) (putF "stream" (.str z) []))))) := (K1.same s2).upd
    obtain ⟨dx1, fs1, sp1, In⟩ := (hT.off hb K2).in_
    obtain ⟨dx2, fs2, sp2, In2⟩ := (hU.off hb K2).in_
    have sl := Tm.spell_len t
    have sl2 := Tm.spell_len u
    have hF2 : t.par ≤ 40 := hF.2.1
    have hG2 : u.par ≤ 40 := hG.2.1
    refine ⟨_, rfl, _, rfl, _, _, dx1, fs1, _, rfl, In.at_, T.cl _ (C.is_of _), T.no _ (C.is_of _) _ (by decide +kernel), In.spelling, sp1, _, rfl, .inl (SqT.of In.spl), _, rfl, _, _, dx2, fs2, _, rfl, In2.at_, T.cl _ (C.is_of _), T.no _ (C.is_of _) _ (by decide +kernel), In2.spelling, sp2, _, rfl, .inl (SqT.of In2.spl), ?_, fun sp hsp => ⟨_, rfl, b, D, dx, _, rfl, sameAt (Same.refl _) hsp _ _ upd_same, AT.cl _ Is, AT.no _ Is _ (by decide +kernel), (by show 3 < 1000; decide), ?_⟩⟩
    · show (t.spell ++ (u.spell ++ [])).length + 1 + 1 ≤ sizeLine
      rw [sizeLine_eq, List.length_append, List.append_nil]
      omega
    have sb : sp ≠ b := fun z => by rw [z, upd_same] at hsp; cases hsp
    have K3 := (K2.at hsp (u := .tup (.str "count" :: .str z :: (t.spell ++ (u.spell ++ []))))).upd (u := .ins D dx (putF "spelling" (.ref sp) (putF "last" (.ref c) (putF "first" (.ref a) (putF "stream" (.str z) [])))))
    refine q _ ⟨dx, a, c, sp, ?_, ?_, hT.off hb K3, hU.off hb K3⟩ K3
    · rw [upd_same, pre2 (by decide +kernel), putF_no (f := "last") (by rfl), putF_no (f := "spelling") (by rfl), hD]
      rfl
    · rw [upd_ne sb, upd_same]
      simp [Am.spell]
abbrev s_Total_init : Stmt := inClass (topS 41) 0
theorem sc_Total_init : FnScope ["self", "stream", "first", "last"] ["self", "stream", "first", "last"] (defScope s_Total_init) := ⟨rfl, rfl, rfl, by decide +kernel, rfl, by decide +kernel, by decide +kernel⟩
theorem ok_total {f : Addr} {fd : FuncData} (F : Fun K "__init__" "Total.__init__" s_Total_init f fd) (B : Blt mg) (T : TF K mg C) (AT : AF K mg A0 C) (G : T2 P w K mg base C) : FnOk P w K mg base CX0 3 f fd ["self", "stream", "first", "last"] (spInitC A0 C A0.total Am.total) := by
  refine F.ok sc_Total_init (fun vs H Q E h => ?_) (fun cdv A outer s H vs Q E hr h => ?_)
  · obtain ⟨b, dx, a, c, z, t, u, rfl, _⟩ := h
    rfl
  · obtain ⟨b, dx, a, c, z, t, u, rfl, hb, hz, hT, hU, hF, hG, q⟩ := h
    refine ⟨_, (pss_cons (ps_fld (pv 0) (pe_cal G.checked_stream (hr.mono (by decide)) pass0 (pa_cons (pv 1) pa_nil)) rfl)
    (pss_cons (ps_fld (pv 0) (pe_cal G.checked_term (hr.mono (by decide)) pass0 (pa_cons (pv 2) pa_nil)) rfl)
    (pss_cons (ps_fld (pv 0) (pe_cal G.checked_term (hr.mono (by decide)) pass0 (pa_cons (pv 3) pa_nil)) rfl)
    (pss_one (ps_fld (pv 0) (pe_tup (pa_cons pe_str (pa_cons (pv 1) (StX.pa_star (pe_fld (pv 2) rfl) (StX.pa_star (pe_fld (pv 3) rfl) pa_nil))))) rfl))))), ?_⟩
    obtain ⟨D, hD⟩ : ∃ D, D = A0.total := ⟨_, rfl⟩
    have Is : A0.Is D := .inr (.inr (.inl hD))
    rw [← hD] at hb
    refine ⟨_, rfl, z, rfl, hz, fun Hz sz => ⟨_, rfl, b, D, dx, [], rfl, sz _ _ hb, AT.cl _ Is, AT.no _ Is _ (by decide +kernel), (by show 0 < 1000; decide), ?_⟩⟩
    have K0 : Keep b H (upd Hz b (.ins D dx (putF "stream" (.str z) []))) := (Keep.refl.same sz).upd
    have hb0 : (upd Hz b (.ins D dx (putF "stream" (.str z) []))) b = some (.ins D dx (putF "stream" (.str z) [])) := upd_same
    refine ⟨_, rfl, a, t, rfl, hT.off hb K0, fun H1 s1 => ⟨_, rfl, b, D, dx, _, rfl, s1 _ _ hb0, AT.cl _ Is, AT.no _ Is _ (by decide +kernel), (by show 1 < 1000; decide), ?_⟩⟩
    have K1 : Keep b H (upd H1 b (.ins D dx (putF "first" (.ref a) (putF "stream" (.str z) [])))) := (K0.same s1).upd
    refine ⟨_, rfl, c, u, rfl, hU.off hb K1, fun H2 s2 => ⟨_, rfl, b, D, dx, _, rfl, s2 _ _ upd_same, AT.cl _ Is, AT.no _ Is _ (by decide +kernel), (by show 2 < 1000; decide), ?_⟩⟩
    have K2 : Keep b H (upd H2 b (.ins D dx (putF "last" (.ref c) (putF "first" (.ref a) (putF "stream" (.str z) []))))) := (K1.same s2).upd
    obtain ⟨dx1, fs1, sp1, In⟩ := (hT.off hb K2).in_
    obtain ⟨dx2, fs2, sp2, In2⟩ := (hU.off hb K2).in_
    have sl := Tm.spell_len t
    have sl2 := Tm.spell_len u
    have hF2 : t.par ≤ 40 := hF.2.1
    have hG2 : u.par ≤ 40 := hG.2.1
    refine ⟨_, rfl, _, rfl, _, _, dx1, fs1, _, rfl, In.at_, T.cl _ (C.is_of _), T.no _ (C.is_of _) _ (by decide +kernel), In.spelling, sp1, _, rfl, .inl (SqT.of In.spl), _, rfl, _, _, dx2, fs2, _, rfl, In2.at_, T.cl _ (C.is_of _), T.no _ (C.is_of _) _ (by decide +kernel), In2.spelling, sp2, _, rfl, .inl (SqT.of In2.spl), ?_, fun sp hsp => ⟨_, rfl, b, D, dx, _, rfl, sameAt (Same.refl _) hsp _ _ upd_same, AT.cl _ Is, AT.no _ Is _ (by decide +kernel), (by show 3 < 1000; decide), ?_⟩⟩
    · show (t.spell ++ (u.spell ++ [])).length + 1 + 1 ≤ sizeLine
      rw [sizeLine_eq, List.length_append, List.append_nil]
      omega
    have sb : sp ≠ b := fun z => by rw [z, upd_same] at hsp; cases hsp
    have K3 := (K2.at hsp (u := .tup (.str "total" :: .str z :: (t.spell ++ (u.spell ++ []))))).upd (u := .ins D dx (putF "spelling" (.ref sp) (putF "last" (.ref c) (putF "first" (.ref a) (putF "stream" (.str z) [])))))
    refine q _ ⟨dx, a, c, sp, ?_, ?_, hT.off hb K3, hU.off hb K3⟩ K3
    · rw [upd_same, pre2 (by decide +kernel), putF_no (f := "last") (by rfl), putF_no (f := "spelling") (by rfl), hD]
      rfl
    · rw [upd_ne sb, upd_same]
      simp [Am.spell]
abbrev s_Gap_init : Stmt := inClass (topS 42) 0
theorem sc_Gap_init : FnScope ["self", "first", "last"] ["self", "first", "last"] (defScope s_Gap_init) := ⟨rfl, rfl, rfl, by decide +kernel, rfl, by decide +kernel, by decide +kernel⟩
theorem ok_gap {f : Addr} {fd : FuncData} (F : Fun K "__init__" "Gap.__init__" s_Gap_init f fd) (B : Blt mg) (T : TF K mg C) (AT : AF K mg A0 C) (G : T2 P w K mg base C) : FnOk P w K mg base CX0 3 f fd ["self", "first", "last"] (spInitG A0 C) := by
  refine F.ok sc_Gap_init (fun vs H Q E h => ?_) (fun cdv A outer s H vs Q E hr h => ?_)
  · obtain ⟨b, dx, a, c, t, u, rfl, _⟩ := h
    rfl
  · obtain ⟨b, dx, a, c, t, u, rfl, hb, hT, hU, hF, hG, q⟩ := h
    refine ⟨_, (pss_cons (ps_fld (pv 0) (pe_cal G.checked_term (hr.mono (by decide)) pass0 (pa_cons (pv 1) pa_nil)) rfl)
    (pss_cons (ps_fld (pv 0) (pe_cal G.checked_term (hr.mono (by decide)) pass0 (pa_cons (pv 2) pa_nil)) rfl)
    (pss_one (ps_fld (pv 0) (pe_tup (pa_cons pe_str (StX.pa_star (pe_fld (pv 1) rfl) (StX.pa_star (pe_fld (pv 2) rfl) pa_nil)))) rfl)))), ?_⟩
    obtain ⟨D, hD⟩ : ∃ D, D = A0.gap := ⟨_, rfl⟩
    have Is : A0.Is D := .inr (.inr (.inr hD))
    rw [← hD] at hb
    have s0 : Same H H := Same.refl H
    have K0 : Keep b H H := Keep.refl
    have hb0 : H b = some (.ins D dx ([])) := hb
    refine ⟨_, rfl, a, t, rfl, hT.off hb K0, fun H1 s1 => ⟨_, rfl, b, D, dx, _, rfl, s1 _ _ hb0, AT.cl _ Is, AT.no _ Is _ (by decide +kernel), (by show 0 < 1000; decide), ?_⟩⟩
    have K1 : Keep b H (upd H1 b (.ins D dx (putF "first" (.ref a) ([])))) := (K0.same s1).upd
    refine ⟨_, rfl, c, u, rfl, hU.off hb K1, fun H2 s2 => ⟨_, rfl, b, D, dx, _, rfl, s2 _ _ upd_same, AT.cl _ Is, AT.no _ Is _ (by decide +kernel), (by show 1 < 1000; decide), ?_⟩⟩
    have K2 : Keep b H (upd H2 b (.ins D dx (putF "last" (.ref c) (putF "first" (.ref a) ([]))))) := (K1.same s2).upd
    obtain ⟨dx1, fs1, sp1, In⟩ := (hT.off hb K2).in_
    obtain ⟨dx2, fs2, sp2, In2⟩ := (hU.off hb K2).in_
    have sl := Tm.spell_len t
    have sl2 := Tm.spell_len u
    have hF2 : t.par ≤ 40 := hF.2.1
    have hG2 : u.par ≤ 40 := hG.2.1
    refine ⟨_, rfl, _, _, dx1, fs1, _, rfl, In.at_, T.cl _ (C.is_of _), T.no _ (C.is_of _) _ (by decide +kernel), In.spelling, sp1, _, rfl, .inl (SqT.of In.spl), _, rfl, _, _, dx2, fs2, _, rfl, In2.at_, T.cl _ (C.is_of _), T.no _ (C.is_of _) _ (by decide +kernel), In2.spelling, sp2, _, rfl, .inl (SqT.of In2.spl), ?_, fun sp hsp => ⟨_, rfl, b, D, dx, _, rfl, sameAt (Same.refl _) hsp _ _ upd_same, AT.cl _ Is, AT.no _ Is _ (by decide +kernel), (by show 2 < 1000; decide), ?_⟩⟩
    · show (t.spell ++ (u.spell ++ [])).length + 1 ≤ sizeLine
      rw [sizeLine_eq, List.length_append, List.append_nil]
      omega
    have sb : sp ≠ b := fun z => by rw [z, upd_same] at hsp; cases hsp
    have K3 := (K2.at hsp (u := .tup (.str "gap" :: (t.spell ++ (u.spell ++ []))))).upd (u := .ins D dx (putF "spelling" (.ref sp) (putF "last" (.ref c) (putF "first" (.ref a) ([])))))
    refine q _ ⟨dx, a, c, sp, ?_, ?_, hT.off hb K3, hU.off hb K3⟩ K3
    · rw [upd_same, pre2 (by decide +kernel), putF_no (by rfl), hD]
      rfl
    · rw [upd_ne sb, upd_same]
      simp [Am.spell]
abbrev s_is_amount : Stmt := topS 43
theorem sc_is_amount : FnScope ["thing"] ["thing"] (defScope s_is_amount) := ⟨rfl, rfl, rfl, by decide +kernel, rfl, by decide +kernel, by decide +kernel⟩
theorem ok_isam {f : Addr} {fd : FuncData} (F : Fun K "is_amount" "is_amount" s_is_amount f fd) (B : Blt mg) (AT : AF K mg A0 C) : FnOk P w K mg base CX0 1 f fd ["thing"] (spIsAmount A0 C) := by
  have c_Number := AT.Number
  have c_Count := AT.Count
  have c_Total := AT.Total
  have c_Gap := AT.Gap
  refine F.ok sc_is_amount (fun vs H Q E h => ?_) (fun cdv A outer s H vs Q E hr h => ?_)
  · obtain ⟨a, q, rfl, _⟩ := h
    rfl
  · obtain ⟨a, am, rfl, h, q⟩ := h
    refine ⟨_, (pss_one (ps_ret (pe_callB call_isiT (by rfl) B.isinstance (by decide +kernel) (pa_cons (pv 0) (pa_cons (pe_tup (pa_cons (pe_glob (v := .ref A0.number) (by rfl) c_Number rfl) (pa_cons (pe_glob (v := .ref A0.count) (by rfl) c_Count rfl) (pa_cons (pe_glob (v := .ref A0.total) (by rfl) c_Total rfl) (pa_cons (pe_glob (v := .ref A0.gap) (by rfl) c_Gap rfl) pa_nil))))) pa_nil))))), ?_⟩
    refine ⟨_, rfl, (by show 4 ≤ sizeLine; decide), fun p hp => ?_⟩
    have s1 : ∀ {o}, Same H (upd H p o) := fun {o} => sameAt (Same.refl H) hp
    have k : PySem.W.kitAny K (.ref (A0.of am)) ([A0.number, A0.count, A0.total, A0.gap].map Value.ref) = some true := by
      have any : ∀ bs : List Addr, (∀ b ∈ bs, A0.Is b) → A0.of am ∈ bs → PySem.W.kitAny K (.ref (A0.of am)) (bs.map Value.ref) = some true := fun bs => by
        induction bs with
        | nil => exact fun _ h => nomatch h
        | cons b r ih =>
          intro hb hm
          refine kitAny_cons (AT.one _ b (A0.is_of am) (hb b List.mem_cons_self)) (fun e => ?_) (fun _ => rfl)
          exact ih (fun c hc => hb c (List.mem_cons_of_mem _ hc)) ((List.mem_cons.mp hm).resolve_left (of_decide_eq_false e))
      refine any _ (fun b hb => ?_) ?_
      · simp only [List.mem_cons, List.not_mem_nil, or_false] at hb
        exact hb
      · have := A0.is_of am
        simp only [List.mem_cons, List.not_mem_nil, or_false]
        exact this
    exact ⟨_, p, _, _, _, true, rfl, upd_same, .cons (.own _) (.cons (.own _) (.cons (.own _) (.cons (.own _) .nil))), AT.tyx (h.same s1), k, q _ s1⟩
end
end Ash

set_option Elab.async false
set_option linter.all false
set_option maxRecDepth 100000
set_option maxHeartbeats 4000000
namespace Ash
open PySem PySem.Spec PyProof.Rows L2 SrtT
open C8 (pss_cut)
/-- the number of a row, seen from a term's answer -/
def spLookedA (A : AC) (C : TC) (CW : Addr) (d : Nat) : Sp := fun vs H Q _ => ∃ (a b : Addr) (t : Tm) (s : Str) (W : Tr) (now : Int), vs = [.ref a, .ref b, .int now, .int 2] ∧ AmAt A C H a (.number s t) ∧ WAt CW H b W ∧ IsNm s ∧ t.NmS ∧ t.Fit ∧ t.dep ≤ (d : Int) ∧ Ans H Q (evA W now (.number s t))
def Am.isNumber : Am → Bool
  | .number _ _ => true
  | _ => false
def spTold (A : AC) (C : TC) (CW : Addr) (d : Nat) : Sp := fun vs H Q _ => ∃ (a b : Addr) (am : Am) (W : Tr) (now : Int), vs = [.ref a, .ref b, .int now] ∧ AmAt A C H a am ∧ am.isNumber = false ∧ WAt CW H b W ∧ am.NmS ∧ am.Fit ∧ Ans H Q (evA W now am)
section
variable {P : Program} {w : World} {K : PySem.W.Frag} {mg : Str → Option Value} {base : Heap} {C : TC} {CW : Addr} {A0 : AC}
theorem ok_lookedA {f : Addr} {fd : FuncData} {d : Nat} (F : Fun K "looked" "looked" s_looked f fd) (B : Blt mg) (T : TF K mg C) (AT : AF K mg A0 C) (G : A2 P w K mg base C CW d) : FnOk P w K mg base CX0 (2 * d + 5) f fd ["question", "world", "now", "place"] (spLookedA A0 C CW d) := by
  obtain ⟨t_cl, t_no, t_ty, t_one, c_Now, c_Last, c_Next, c_Shift, c_Either, c_Later, c_Earlier⟩ := id T
  refine F.ok sc_looked (fun vs H Q E h => ?_) (fun cdv A outer s H vs Q E hr h => ?_)
  · obtain ⟨a, b, t, z, W, now, rfl, _⟩ := h
    rfl
  · obtain ⟨a, b, t, z, W, now, rfl, hT, hW, hz, hN, hF, hd, q⟩ := h
    refine ⟨_, (pss_cons (ps_asg (pe_cal G.followed (hr.mono (by omega)) pass0 (pa_cons (pe_fld (pv 0) rfl) (pa_cons (pv 1) (pa_cons (pv 2) pa_nil)))) (pg_tup (by rfl) (pgs_cons (pg_name (i := 4) sc_looked.nd rfl (Or.inl rfl)) (pgs_cons (pg_name (i := 5) sc_looked.nd rfl (Or.inl rfl)) pgs_nil))))
    (pss_cons (ps_if (pt_cmpR op_isN (pv 4) pe_non (nomark _))
      (pss_one (ps_ret (pe_tup (pa_cons pe_non (pa_cons (pv 5) pa_nil)))))
      pss_nil)
    (pss_cons (ps_if (pt_val (pe_callB call_isi (by rfl) B.isinstance (by decide +kernel) (pa_cons (pv 0) (pa_cons (pe_glob (v := .ref C.next) (by rfl) c_Next rfl) pa_nil))))
      (pss_one (ps_set (i := 6) sc_looked.nd rfl (Or.inl rfl) (pe_cal G.next_row (hr.mono (by omega)) pass0 (pa_cons (pv 1) (pa_cons (pe_fld (pv 0) rfl) (pa_cons (pv 4) pa_nil))))))
      (pss_one (ps_set (i := 6) sc_looked.nd rfl (Or.inl rfl) (pe_cal G.last_row (hr.mono (by omega)) pass0 (pa_cons (pv 1) (pa_cons (pe_fld (pv 0) rfl) (pa_cons (pv 4) pa_nil)))))))
    (pss_cons (ps_if (pt_cmpR op_isN (pv 6) pe_non (nomark _))
      (pss_one (ps_ret (pe_tup (pa_cons pe_non (pa_cons (pv 5) pa_nil)))))
      pss_nil)
    (pss_one (ps_ret (pe_tup (pa_cons (pe_ix ix_tup (pv 6) (pv 3) (fun _ _ => rfl)) (pa_cons (pe_lst (StX.pa_star (pv 5) (pa_cons (pe_ix ix_tup (pv 6) pe_int (fun _ _ => rfl)) pa_nil))) pa_nil))))))))), ?_⟩
    obtain ⟨dx, c, sp, h1, h2, h3⟩ := id hT
    have Is : A0.Is A0.number := .inl rfl
    refine ⟨_, rfl, a, _, dx, _, _, rfl, h1, AT.cl _ Is, AT.no _ Is _ (by decide +kernel), rfl, _, rfl, _, rfl, c, b, t, W, now, rfl, h3, hW, hN, hF, hd, fun q1 l H1 s1 hq1 hl => ?_⟩
    have ln := ev_len (W := W) (now := now) t
    have l12 := hF.2.2
    have q : Ans H Q (lookA (ev W now t) (lastR (W z))) := q
    generalize ev W now t = r at q hq1 hl ln
    obtain ⟨r1, r2⟩ := r
    have ln : (r2.length : Int) ≤ t.lok := ln
    have k := AT.noT A0.number C.next Is (C.is_of (.next z .now))
    refine ⟨q1, _, rfl, SqT.of hq1, rfl, _, _, rfl, _, _, rfl, rfl, ?_⟩
    refine ⟨_, rfl, rfl, _, rfl, ?_⟩
    cases r1 with
    | none =>
      refine ite2 (fun _ => ?_) (fun c => absurd rfl c)
      exact ⟨_, rfl, (by show 2 ≤ sizeLine; decide), fun t2 ht2 => q t2 l _ (s1.trans (sameAt (Same.refl H1) ht2)) upd_same (sameAt (Same.refl H1) ht2 _ _ hl)⟩
    | some m =>
      refine ite2 (fun c => absurd (of_decide_eq_true c) (fun z => nomatch z)) (fun _ => ?_)
      refine ⟨_, rfl, _, _, _, _, _, rfl, .own _, AT.tyx (hT.same s1), k, _, rfl, iteF ?_⟩
      refine ⟨_, rfl, _, rfl, a, _, dx, _, _, rfl, s1 _ _ h1, AT.cl _ Is, AT.no _ Is _ (by decide +kernel), rfl, _, rfl, b, W, z, m, rfl, hW.same s1, hz, fun v H2 s2 hv => ?_⟩
      have hl2 := s2 _ _ hl
      have s12 := s1.trans s2
      refine ⟨_, rfl, rfl, _, rfl, ?_⟩
      cases hrow : lastR (W z) m with
      | none =>
        rw [hrow] at hv
        have hv : v = .non := hv
        subst hv
        have q : Ans H Q (none, r2) := by
          have q : Ans H Q (lookA (some m, r2) (lastR (W z))) := q
          rw [show lookA (some m, r2) (lastR (W z)) = (none, r2) by show (match lastR (W z) m with | none => _ | some t => _) = _; rw [hrow]] at q
          exact q
        refine ite2 (fun _ => ?_) (fun c => absurd rfl c)
        exact ⟨_, rfl, (by show 2 ≤ sizeLine; decide), fun t2 ht2 => q t2 l _ (s12.trans (sameAt (Same.refl H2) ht2)) upd_same (sameAt (Same.refl H2) ht2 _ _ hl2)⟩
      | some t3 =>
        rw [hrow] at hv
        obtain ⟨e, rfl, he⟩ := hv
        have q : Ans H Q (some t3.2.2, r2 ++ [t3.2.1]) := by
          have q : Ans H Q (lookA (some m, r2) (lastR (W z))) := q
          rw [show lookA (some m, r2) (lastR (W z)) = (some t3.2.2, r2 ++ [t3.2.1]) by show (match lastR (W z) m with | none => _ | some t => _) = _; rw [hrow]] at q
          exact q
        refine ite2 (fun c => absurd (of_decide_eq_true c) (fun z => nomatch z)) (fun _ => ?_)
        refine ⟨_, rfl, _, rfl, _, _, _, _, rfl, rfl, SqT.of he, rfl, _, rfl, l, _, rfl, .inr (SqL.of hl2), _, rfl, _, _, _, _, rfl, rfl, SqT.of he, rfl, ?_, fun l2 hl3 => ⟨(by show 2 ≤ sizeLine; decide), fun t2 ht2 => ?_⟩⟩
        · show (r2.map V.int ++ [_]).length ≤ sizeLine
          rw [List.length_append, List.length_map, sizeLine_eq]
          show r2.length + 1 ≤ _
          omega
        · have s3 := s12.trans (sameAt (Same.refl H2) hl3 (o := .lst (r2.map V.int ++ [.int t3.2.1])))
          have hl4 : upd H2 l2 (.lst (r2.map V.int ++ [.int t3.2.1])) l2 = some (.lst ((r2 ++ [t3.2.1]).map V.int)) := by
            rw [upd_same, List.map_append]
            rfl
          exact q t2 l2 _ (s3.trans (sameAt (Same.refl _) ht2)) upd_same (sameAt (Same.refl _) ht2 _ _ hl4)
/-- what is told of two moments -/
def amG (W : Tr) : Am → Int → Int → Rs
  | .number _ _ => fun _ _ => (none, [])
  | .count s _ _ => fun m k => (some ((betweenR (W s) m k).length : Int), (betweenR (W s) m k).map (·.2.1))
  | .total s _ _ => fun m k => (some ((betweenR (W s) m k).map (·.2.2)).sum, (betweenR (W s) m k).map (·.2.1))
  | .gap _ _ => fun m k => (some (k - m), [])
theorem AmAt.two {H : Hp} {a : Addr} {am : Am} (h : AmAt A0 C H a am) (hn : am.isNumber = false) (hN : am.NmS) (hF : am.Fit) : ∃ dx fs c1 c2 t u, H a = some (.ins (A0.of am) dx fs) ∧ fs.lookup ("first" : Str) = some (.ref c1) ∧ fs.lookup ("last" : Str) = some (.ref c2) ∧ TmAt C H c1 t ∧ TmAt C H c2 u ∧ (t.NmS ∧ u.NmS) ∧ (t.Fit ∧ u.Fit) ∧
    (∀ z, (∃ t u, am = .count z t u ∨ am = .total z t u) → fs.lookup ("stream" : Str) = some (.str z) ∧ IsNm z) ∧ ∀ W now, evA W now am = tellR (ev W now t) (ev W now u) (amG W am) := by
  cases am with
  | number _ _ => cases hn
  | count s t u =>
    obtain ⟨dx, b, c, sp, h1, h2, h3, h4⟩ := h
    refine ⟨dx, _, b, c, t, u, h1, rfl, rfl, h3, h4, hN.2, hF, fun z hz => ?_, fun _ _ => rfl⟩
    obtain ⟨_, _, e | e⟩ := hz <;> cases e
    exact ⟨rfl, hN.1⟩
  | total s t u =>
    obtain ⟨dx, b, c, sp, h1, h2, h3, h4⟩ := h
    refine ⟨dx, _, b, c, t, u, h1, rfl, rfl, h3, h4, hN.2, hF, fun z hz => ?_, fun _ _ => rfl⟩
    obtain ⟨_, _, e | e⟩ := hz <;> cases e
    exact ⟨rfl, hN.1⟩
  | gap t u =>
    obtain ⟨dx, b, c, sp, h1, h2, h3, h4⟩ := h
    refine ⟨dx, _, b, c, t, u, h1, rfl, rfl, h3, h4, hN, hF, fun z hz => ?_, fun _ _ => rfl⟩
    obtain ⟨_, _, e | e⟩ := hz <;> cases e
abbrev s_told_between : Stmt := topS 64
theorem sc_told_between : FnScope ["question", "world", "now", "first", "seen", "last", "more", "rows", "counted", "row"] ["question", "world", "now"] (defScope s_told_between) := ⟨rfl, rfl, rfl, by decide +kernel, rfl, by decide +kernel, by decide +kernel⟩
theorem ok_told {f : Addr} {fd : FuncData} (F : Fun K "told_between" "told_between" s_told_between f fd) (B : Blt mg) (T : TF K mg C) (AT : AF K mg A0 C) (TW : Cw K mg CW) (G : A2 P w K mg base C CW 12) : FnOk P w K mg base CX0 29 f fd ["question", "world", "now"] (spTold A0 C CW 12) := by
  have c_Number := AT.Number
  have c_Count := AT.Count
  have c_Total := AT.Total
  have c_Gap := AT.Gap
  refine F.ok sc_told_between (fun vs H Q E h => ?_) (fun cdv A outer s H vs Q E hr h => ?_)
  · obtain ⟨a, b, am, W, now, rfl, _⟩ := h
    rfl
  · obtain ⟨a, b, am, W, now, rfl, hA, hn, hW, hN, hF, q⟩ := h
    refine ⟨_, (pss_cons (ps_asg (pe_cal G.followed (hr.mono (by decide)) pass0 (pa_cons (pe_fld (pv 0) rfl) (pa_cons (pv 1) (pa_cons (pv 2) pa_nil)))) (pg_tup (by rfl) (pgs_cons (pg_name (i := 3) sc_told_between.nd rfl (Or.inr rfl)) (pgs_cons (pg_name (i := 4) sc_told_between.nd rfl (Or.inl rfl)) pgs_nil))))
    (pss_cons (ps_if (pt_cmpR op_isN (pv 3) pe_non (nomark _))
      (pss_one (ps_ret (pe_tup (pa_cons pe_non (pa_cons (pv 4) pa_nil)))))
      pss_nil)
    (pss_cons (ps_asg (pe_cal G.followed (hr.mono (by decide)) pass0 (pa_cons (pe_fld (pv 0) rfl) (pa_cons (pv 1) (pa_cons (pv 2) pa_nil)))) (pg_tup (by rfl) (pgs_cons (pg_name (i := 5) sc_told_between.nd rfl (Or.inr rfl)) (pgs_cons (pg_name (i := 6) sc_told_between.nd rfl (Or.inl rfl)) pgs_nil))))
    (pss_cons (ps_set (i := 4) sc_told_between.nd rfl (Or.inl rfl) (pe_lst (StX.pa_star (pv 4) (StX.pa_star (pv 6) pa_nil))))
    (pss_cons (ps_if (pt_cmpR op_isN (pv 5) pe_non (nomark _))
      (pss_one (ps_ret (pe_tup (pa_cons pe_non (pa_cons (pv 4) pa_nil)))))
      pss_nil)
    (pss_cons (ps_if (pt_val (pe_callB call_isi (by rfl) B.isinstance (by decide +kernel) (pa_cons (pv 0) (pa_cons (pe_glob (v := .ref A0.gap) (by rfl) c_Gap rfl) pa_nil))))
      (pss_one (ps_ret (pe_tup (pa_cons (pe_op op_sub (pv 5) (pv 3)) (pa_cons (pv 4) pa_nil)))))
      pss_nil)
    (pss_cons (ps_setLc (i := 7) (own := [("row", 9)]) (g := gName 9) (by rfl) sc_told_between.nd rfl rfl (sw_true rfl rfl rfl (by decide +kernel)) (pi_list (pe_met TW.cl G.rows (hr.mono (by decide)) pass0 (pv 1) (pa_cons (pe_fld (pv 0) rfl) pa_nil))) (blkOk_by (own := [("row", 9)]) (N := ["question", "world", "now", "first", "seen", "last", "more", "rows", "counted", "row"]) (sc := defScope s_told_between) (by decide +kernel)) (fun _ _ _ _ _ => (pg_name (i := 9) sc_told_between.nd rfl (Or.inl rfl))) (fun _ _ _ _ _ => pts_one (pt_chain op_lt op_le (pv 3) (pe_ix (show IxR _ (rIxT K) from ix_tup) (pv 9) pe_int (fun _ _ => rfl)) (pv 5))) (fun _ _ _ _ _ => (pv 9)))
    (pss_cons (ps_setLc (i := 8) (own := [("row", 9)]) (g := gName 9) (tt := tYes) (by rfl) sc_told_between.nd rfl rfl (sw_true rfl rfl rfl (by decide +kernel)) (pi_list (pv 7)) (blkOk_by (own := [("row", 9)]) (N := ["question", "world", "now", "first", "seen", "last", "more", "rows", "counted", "row"]) (sc := defScope s_told_between) (by decide +kernel)) (fun _ _ _ _ _ => (pg_name (i := 9) sc_told_between.nd rfl (Or.inl rfl))) (fun _ _ _ _ _ => pts_nil) (fun _ _ _ _ _ => (pe_ix (show IxR _ (rIxT K) from ix_tup) (pv 9) pe_int (fun _ _ => rfl))))
    (pss_cons (ps_set (i := 4) sc_told_between.nd rfl (Or.inl rfl) (pe_lst (StX.pa_star (pv 4) (StX.pa_star (pv 8) pa_nil))))
    (pss_cons (ps_if (pt_val (pe_callB call_isi (by rfl) B.isinstance (by decide +kernel) (pa_cons (pv 0) (pa_cons (pe_glob (v := .ref A0.count) (by rfl) c_Count rfl) pa_nil))))
      (pss_one (ps_ret (pe_tup (pa_cons (pe_callB call_len_seq (by rfl) B.len (by decide +kernel) (pa_cons (pv 7) pa_nil)) (pa_cons (pv 4) pa_nil)))))
      pss_nil)
    (pss_one (ps_ret (pe_tup (pa_cons (pe_callB (cr_sum rfl) (by rfl) B.sum (by decide +kernel) (pa_cons (pe_lc (own := [("row", 9)]) (g := gName 9) (tt := tYes) (by rfl) sc_told_between.nd (pi_list (pv 7)) (blkOk_by (own := [("row", 9)]) (N := ["question", "world", "now", "first", "seen", "last", "more", "rows", "counted", "row"]) (sc := defScope s_told_between) (by decide +kernel)) (fun _ _ _ _ _ => (pg_name (i := 9) sc_told_between.nd rfl (Or.inl rfl))) (fun _ _ _ _ _ => pts_nil) (fun _ _ _ _ _ => (pe_ix (show IxR _ (rIxT K) from ix_tup) (pv 9) pe_int (fun _ _ => rfl)))) pa_nil)) (pa_cons (pv 4) pa_nil))))))))))))))), ?_⟩
    obtain ⟨dx, fs, c1, c2, t, u, h1, i1, i2, hT, hU, ⟨hN1, hN2⟩, ⟨hF1, hF2⟩, hst, hev⟩ := hA.two hn hN hF
    have Is := A0.is_of am
    refine ⟨_, rfl, a, _, dx, _, _, rfl, h1, AT.cl _ Is, AT.no _ Is _ (by decide +kernel), i1, _, rfl, _, rfl, c1, b, t, W, now, rfl, hT, hW, hN1, hF1, hF1.1, fun q1 l H1 s1 hq1 hl => ?_⟩
    have ln := ev_len (W := W) (now := now) t
    have ln2 := ev_len (W := W) (now := now) u
    have l12 := hF1.2.2
    have l13 := hF2.2.2
    rw [hev] at q
    generalize ev W now t = r at q hq1 hl ln
    obtain ⟨r1, r2⟩ := r
    have ln : (r2.length : Int) ≤ t.lok := ln
    refine ⟨q1, _, rfl, SqT.of hq1, rfl, _, _, rfl, _, _, rfl, rfl, ?_⟩
    refine ⟨_, rfl, rfl, _, rfl, ?_⟩
    cases r1 with
    | none =>
      refine ite2 (fun _ => ?_) (fun c => absurd rfl c)
      exact ⟨_, rfl, (by show 2 ≤ sizeLine; decide), fun t2 ht2 => q t2 l _ (s1.trans (sameAt (Same.refl H1) ht2)) upd_same (sameAt (Same.refl H1) ht2 _ _ hl)⟩
    | some m =>
      refine ite2 (fun c => absurd (of_decide_eq_true c) (fun z => nomatch z)) (fun _ => ?_)
      refine ⟨_, rfl, a, _, dx, _, _, rfl, s1 _ _ h1, AT.cl _ Is, AT.no _ Is _ (by decide +kernel), i2, _, rfl, _, rfl, c2, b, u, W, now, rfl, hU.same s1, hW.same s1, hN2, hF2, hF2.1, fun q2 l2 H2 s2 hq2 hl2 => ?_⟩
      generalize ev W now u = r' at q hq2 hl2 ln2
      obtain ⟨x1, x2⟩ := r'
      have ln2 : (x2.length : Int) ≤ u.lok := ln2
      have s12 := s1.trans s2
      refine ⟨q2, _, rfl, SqT.of hq2, rfl, _, _, rfl, _, _, rfl, rfl, ?_⟩
      refine ⟨_, rfl, l, _, rfl, .inr (SqL.of (s2 _ _ hl)), _, rfl, l2, _, rfl, .inr (SqL.of hl2), ?_, fun l3 hl3 => ?_⟩
      · show (r2.map V.int ++ (x2.map V.int ++ [])).length ≤ sizeLine
        rw [List.length_append, List.length_append, List.length_map, List.length_map, sizeLine_eq]
        show r2.length + (x2.length + 0) ≤ _
        omega
      have s3 := s12.trans (sameAt (Same.refl H2) hl3 (o := .lst (r2.map V.int ++ (x2.map V.int ++ []))))
      have hl4 : upd H2 l3 (.lst (r2.map V.int ++ (x2.map V.int ++ []))) l3 = some (.lst ((r2 ++ x2).map V.int)) := by
        rw [upd_same, List.map_append, List.append_nil]
      refine ⟨_, rfl, rfl, _, rfl, ?_⟩
      cases x1 with
      | none =>
        refine ite2 (fun _ => ?_) (fun c => absurd rfl c)
        exact ⟨_, rfl, (by show 2 ≤ sizeLine; decide), fun t2 ht2 => q t2 l3 _ (s3.trans (sameAt (Same.refl _) ht2)) upd_same (sameAt (Same.refl _) ht2 _ _ hl4)⟩
      | some m2 =>
        refine ite2 (fun c => absurd (of_decide_eq_true c) (fun z => nomatch z)) (fun _ => ?_)
        have k := AT.one (A0.of am) A0.gap Is (.inr (.inr (.inr rfl)))
        refine ⟨_, rfl, _, _, _, _, _, rfl, .own _, AT.tyx (hA.same s3), k, _, rfl, ?_⟩
        have nd := AT.nd
        simp only [List.nodup_cons, List.mem_cons, List.not_mem_nil, or_false, not_or] at nd
        cases am with
        | number _ _ => cases hn
        | gap t' u' =>
          rw [show decide (A0.of (.gap t' u') = A0.gap) = true from decide_eq_true rfl]
          have q : Ans H Q (some (m2 - m), r2 ++ x2 ++ []) := q
          rw [List.append_nil] at q
          exact iteT ⟨_, rfl, _, rfl, _, _, rfl, rfl, _, rfl, (by show 2 ≤ sizeLine; decide), fun t2 ht2 => q t2 l3 _ (s3.trans (sameAt (Same.refl _) ht2)) upd_same (sameAt (Same.refl _) ht2 _ _ hl4)⟩
        | count z t' u' =>
          rw [show decide (A0.of (.count z t' u') = A0.gap) = false from decide_eq_false nd.2.1.2]
          refine iteF ?_
          obtain ⟨hs1, hz⟩ := hst z ⟨t', u', .inl rfl⟩
          have hW3 := hW.same s3
          obtain ⟨dxw, dw, tw, kw, iw, w1, w2, w3, w4⟩ := id hW3
          have l4 := (w4 z).1
          refine ⟨_, rfl, b, dxw, _, rfl, w1, rfl, _, rfl, a, _, dx, _, _, rfl, s3 _ _ h1, AT.cl _ Is, AT.no _ Is _ (by decide +kernel), hs1, b, W, z, rfl, hW3, hz, fun p ys H4 s4 hp hys hTr => ?_⟩
          refine ⟨p, rfl, ⟨_, SqL.of hys⟩, fun D hD => lc_it (walk_list (xs := ys)) (fun i H5 => (∃ zs, H5 D = some (.lst zs) ∧ TrAt H5 zs (betweenR ((W z).take i) m m2)) ∧ Same H4 H5) ⟨⟨[], upd_same, rfl, fun i v t a b => by simp at a⟩, sameAt (Same.refl H4) hD⟩ (fun i H5 _ hv => SqL.of (hv.2 _ _ hys)) ?_ ?_⟩
          · rintro i x H5 H6 hi ⟨⟨zs, hD5, hT5⟩, s5⟩ ⟨rfl, hx⟩
            have hi2 : i < (W z).length := by rw [← hTr.1]; exact hi
            obtain ⟨t3, ht⟩ : ∃ t3, (W z)[i]? = some t3 := ⟨_, List.getElem?_eq_getElem hi2⟩
            obtain ⟨e, rfl, he⟩ := hTr.2 i x t3 hx ht
            have he1 := s5 _ _ he
            have tk : ∀ {u} t xs, H6 t = some (.tup xs) → upd H6 D (.lst u) t = some (.tup xs) := fun {u} t xs q => by rw [upd_ne (ne_of q hD5 (by intro z; cases z))]; exact q
            have lz : zs.length ≤ 400 := by
              rw [hT5.1]
              refine Nat.le_trans (List.length_filter_le _ _) ?_
              rw [List.length_take]
              omega
            have st : betweenR ((W z).take (i + 1)) m m2 = betweenR ((W z).take i) m m2 ++ (if m < t3.1 ∧ t3.1 ≤ m2 then [t3] else []) := by
              unfold betweenR
              rw [list_take ht, List.filter_append, List.filter_cons]
              by_cases c : m < t3.1 ∧ t3.1 ≤ m2
              · rw [if_pos (decide_eq_true c), if_pos c]; rfl
              · rw [if_neg (fun z => c (of_decide_eq_true z)), if_neg c]; rfl
            refine ⟨rfl, _, rfl, _, rfl, _, _, _, _, rfl, rfl, SqT.of he1, rfl, _, _, rfl, rfl, _, rfl, ?_⟩
            rw [st]
            refine ite2 (fun ca => ?_) (fun ca => ?_)
            · have ca : m < t3.1 := of_decide_eq_true ca
              refine ⟨_, rfl, _, _, rfl, rfl, _, rfl, ?_⟩
              refine ite2 (fun cb => ?_) (fun cb => ?_)
              · rw [if_pos ⟨ca, of_decide_eq_true cb⟩]
                exact ⟨_, rfl, zs, hD5, small1000 (by omega), ⟨_, upd_same, (hT5.tk tk).snoc (tk _ _ he1)⟩, sameAt s5 hD⟩
              · rw [if_neg (fun z => cb (decide_eq_true z.2)), List.append_nil]
                exact ⟨⟨zs, hD5, hT5⟩, s5⟩
            · rw [if_neg (fun z => ca (decide_eq_true z.1)), List.append_nil]
              exact ⟨_, rfl, iteF ⟨⟨zs, hD5, hT5⟩, s5⟩⟩
          · rintro H5 ⟨⟨zs, hD5, hT5⟩, s5⟩
            rw [hTr.1, List.take_length] at hT5
            have s35 := (s3.trans s4).trans s5
            have lb : (betweenR (W z) m m2).length ≤ 400 := Nat.le_trans (List.length_filter_le _ _) l4
            refine ⟨_, rfl, D, rfl, ⟨_, SqL.of hD5⟩, fun D2 hD2 => lc_it (walk_list (xs := zs)) (fun i H6 => H6 D2 = some (.lst ((((betweenR (W z) m m2).take i).map (fun x : T3 => x.2.1)).map V.int)) ∧ Same H5 H6) ⟨upd_same, sameAt (Same.refl H5) hD2⟩ (fun i H6 _ hv => SqL.of (hv.2 _ _ hD5)) ?_ ?_⟩
            · rintro i x H6 H7 hi ⟨hD6, s6⟩ ⟨rfl, hx⟩
              have hi2 : i < (betweenR (W z) m m2).length := by rw [← hT5.1]; exact hi
              obtain ⟨t3, ht⟩ : ∃ t3, (betweenR (W z) m m2)[i]? = some t3 := ⟨_, List.getElem?_eq_getElem hi2⟩
              obtain ⟨e, rfl, he⟩ := hT5.2 i x t3 hx ht
              have he1 := s6 _ _ he
              refine ⟨rfl, _, rfl, _, _, _, _, rfl, rfl, SqT.of he1, rfl, _, hD6, ?_, ?_, sameAt s6 hD2⟩
              · rw [List.length_map, List.length_map, List.length_take]
                exact small1000 (by omega)
              · rw [upd_same, list_take ht, List.map_append, List.map_append]
                rfl
            · rintro H6 ⟨hD6, s6⟩
              rw [hT5.1, List.take_length] at hD6
              have s36 := s35.trans s6
              have hl6 := ((s4.trans s5).trans s6) _ _ hl4
              refine ⟨_, rfl, l3, _, rfl, .inr (SqL.of hl6), _, rfl, D2, _, rfl, .inr (SqL.of hD6), ?_, fun l5 hl5 => ?_⟩
              · show ((r2 ++ x2).map V.int ++ (((betweenR (W z) m m2).map (fun x : T3 => x.2.1)).map V.int ++ [])).length ≤ sizeLine
                rw [List.length_append, List.length_append, List.length_map, List.length_append, List.length_map, List.length_map, sizeLine_eq]
                show r2.length + x2.length + ((betweenR (W z) m m2).length + 0) ≤ _
                omega
              have s7 := s36.trans (sameAt (Same.refl H6) hl5 (o := .lst ((r2 ++ x2).map V.int ++ (((betweenR (W z) m m2).map (fun x : T3 => x.2.1)).map V.int ++ []))))
              have hl7 : upd H6 l5 (.lst ((r2 ++ x2).map V.int ++ (((betweenR (W z) m m2).map (fun x : T3 => x.2.1)).map V.int ++ []))) l5 = some (.lst ((r2 ++ x2 ++ (betweenR (W z) m m2).map (fun x : T3 => x.2.1)).map V.int)) := by
                rw [upd_same, List.map_append (l₁ := r2 ++ x2), List.append_nil]
              have hD7 := sameAt (Same.refl H6) hl5 (o := .lst ((r2 ++ x2).map V.int ++ (((betweenR (W z) m m2).map (fun x : T3 => x.2.1)).map V.int ++ []))) _ _ (s6 _ _ hD5)
              generalize upd H6 l5 (.lst ((r2 ++ x2).map V.int ++ (((betweenR (W z) m m2).map (fun x : T3 => x.2.1)).map V.int ++ []))) = H7 at s7 hl7 hD7 ⊢
              have k2 := AT.one (A0.of (.count z t' u')) A0.count Is (.inr (.inl rfl))
              refine ⟨_, rfl, _, _, _, _, _, rfl, .own _, AT.tyx (hA.same s7), k2, _, rfl, ?_⟩
              rw [show decide (A0.of (.count z t' u') = A0.count) = true from decide_eq_true rfl]
              have q : Ans H Q (some ((betweenR (W z) m m2).length : Int), r2 ++ x2 ++ (betweenR (W z) m m2).map (fun x : T3 => x.2.1)) := q
              rw [← hT5.1] at q
              exact iteT ⟨_, rfl, _, _, rfl, .inl (SqL.of hD7), _, rfl, (by show 2 ≤ sizeLine; decide), fun t2 ht2 => q t2 l5 _ (s7.trans (sameAt (Same.refl _) ht2)) upd_same (sameAt (Same.refl _) ht2 _ _ hl7)⟩
        | total z t' u' =>
          rw [show decide (A0.of (.total z t' u') = A0.gap) = false from decide_eq_false nd.2.2.1]
          refine iteF ?_
          obtain ⟨hs1, hz⟩ := hst z ⟨t', u', .inr rfl⟩
          have hW3 := hW.same s3
          obtain ⟨dxw, dw, tw, kw, iw, w1, w2, w3, w4⟩ := id hW3
          have l4 := (w4 z).1
          refine ⟨_, rfl, b, dxw, _, rfl, w1, rfl, _, rfl, a, _, dx, _, _, rfl, s3 _ _ h1, AT.cl _ Is, AT.no _ Is _ (by decide +kernel), hs1, b, W, z, rfl, hW3, hz, fun p ys H4 s4 hp hys hTr => ?_⟩
          refine ⟨p, rfl, ⟨_, SqL.of hys⟩, fun D hD => lc_it (walk_list (xs := ys)) (fun i H5 => (∃ zs, H5 D = some (.lst zs) ∧ TrAt H5 zs (betweenR ((W z).take i) m m2)) ∧ Same H4 H5) ⟨⟨[], upd_same, rfl, fun i v t a b => by simp at a⟩, sameAt (Same.refl H4) hD⟩ (fun i H5 _ hv => SqL.of (hv.2 _ _ hys)) ?_ ?_⟩
          · rintro i x H5 H6 hi ⟨⟨zs, hD5, hT5⟩, s5⟩ ⟨rfl, hx⟩
            have hi2 : i < (W z).length := by rw [← hTr.1]; exact hi
            obtain ⟨t3, ht⟩ : ∃ t3, (W z)[i]? = some t3 := ⟨_, List.getElem?_eq_getElem hi2⟩
            obtain ⟨e, rfl, he⟩ := hTr.2 i x t3 hx ht
            have he1 := s5 _ _ he
            have tk : ∀ {u} t xs, H6 t = some (.tup xs) → upd H6 D (.lst u) t = some (.tup xs) := fun {u} t xs q => by rw [upd_ne (ne_of q hD5 (by intro z; cases z))]; exact q
            have lz : zs.length ≤ 400 := by
              rw [hT5.1]
              refine Nat.le_trans (List.length_filter_le _ _) ?_
              rw [List.length_take]
              omega
            have st : betweenR ((W z).take (i + 1)) m m2 = betweenR ((W z).take i) m m2 ++ (if m < t3.1 ∧ t3.1 ≤ m2 then [t3] else []) := by
              unfold betweenR
              rw [list_take ht, List.filter_append, List.filter_cons]
              by_cases c : m < t3.1 ∧ t3.1 ≤ m2
              · rw [if_pos (decide_eq_true c), if_pos c]; rfl
              · rw [if_neg (fun z => c (of_decide_eq_true z)), if_neg c]; rfl
            refine ⟨rfl, _, rfl, _, rfl, _, _, _, _, rfl, rfl, SqT.of he1, rfl, _, _, rfl, rfl, _, rfl, ?_⟩
            rw [st]
            refine ite2 (fun ca => ?_) (fun ca => ?_)
            · have ca : m < t3.1 := of_decide_eq_true ca
              refine ⟨_, rfl, _, _, rfl, rfl, _, rfl, ?_⟩
              refine ite2 (fun cb => ?_) (fun cb => ?_)
              · rw [if_pos ⟨ca, of_decide_eq_true cb⟩]
                exact ⟨_, rfl, zs, hD5, small1000 (by omega), ⟨_, upd_same, (hT5.tk tk).snoc (tk _ _ he1)⟩, sameAt s5 hD⟩
              · rw [if_neg (fun z => cb (decide_eq_true z.2)), List.append_nil]
                exact ⟨⟨zs, hD5, hT5⟩, s5⟩
            · rw [if_neg (fun z => ca (decide_eq_true z.1)), List.append_nil]
              exact ⟨_, rfl, iteF ⟨⟨zs, hD5, hT5⟩, s5⟩⟩
          · rintro H5 ⟨⟨zs, hD5, hT5⟩, s5⟩
            rw [hTr.1, List.take_length] at hT5
            have s35 := (s3.trans s4).trans s5
            have lb : (betweenR (W z) m m2).length ≤ 400 := Nat.le_trans (List.length_filter_le _ _) l4
            refine ⟨_, rfl, D, rfl, ⟨_, SqL.of hD5⟩, fun D2 hD2 => lc_it (walk_list (xs := zs)) (fun i H6 => H6 D2 = some (.lst ((((betweenR (W z) m m2).take i).map (fun x : T3 => x.2.1)).map V.int)) ∧ Same H5 H6) ⟨upd_same, sameAt (Same.refl H5) hD2⟩ (fun i H6 _ hv => SqL.of (hv.2 _ _ hD5)) ?_ ?_⟩
            · rintro i x H6 H7 hi ⟨hD6, s6⟩ ⟨rfl, hx⟩
              have hi2 : i < (betweenR (W z) m m2).length := by rw [← hT5.1]; exact hi
              obtain ⟨t3, ht⟩ : ∃ t3, (betweenR (W z) m m2)[i]? = some t3 := ⟨_, List.getElem?_eq_getElem hi2⟩
              obtain ⟨e, rfl, he⟩ := hT5.2 i x t3 hx ht
              have he1 := s6 _ _ he
              refine ⟨rfl, _, rfl, _, _, _, _, rfl, rfl, SqT.of he1, rfl, _, hD6, ?_, ?_, sameAt s6 hD2⟩
              · rw [List.length_map, List.length_map, List.length_take]
                exact small1000 (by omega)
              · rw [upd_same, list_take ht, List.map_append, List.map_append]
                rfl
            · rintro H6 ⟨hD6, s6⟩
              rw [hT5.1, List.take_length] at hD6
              have s36 := s35.trans s6
              have hl6 := ((s4.trans s5).trans s6) _ _ hl4
              refine ⟨_, rfl, l3, _, rfl, .inr (SqL.of hl6), _, rfl, D2, _, rfl, .inr (SqL.of hD6), ?_, fun l5 hl5 => ?_⟩
              · show ((r2 ++ x2).map V.int ++ (((betweenR (W z) m m2).map (fun x : T3 => x.2.1)).map V.int ++ [])).length ≤ sizeLine
                rw [List.length_append, List.length_append, List.length_map, List.length_append, List.length_map, List.length_map, sizeLine_eq]
                show r2.length + x2.length + ((betweenR (W z) m m2).length + 0) ≤ _
                omega
              have s7 := s36.trans (sameAt (Same.refl H6) hl5 (o := .lst ((r2 ++ x2).map V.int ++ (((betweenR (W z) m m2).map (fun x : T3 => x.2.1)).map V.int ++ []))))
              have hl7 : upd H6 l5 (.lst ((r2 ++ x2).map V.int ++ (((betweenR (W z) m m2).map (fun x : T3 => x.2.1)).map V.int ++ []))) l5 = some (.lst ((r2 ++ x2 ++ (betweenR (W z) m m2).map (fun x : T3 => x.2.1)).map V.int)) := by
                rw [upd_same, List.map_append (l₁ := r2 ++ x2), List.append_nil]
              have hD7 := sameAt (Same.refl H6) hl5 (o := .lst ((r2 ++ x2).map V.int ++ (((betweenR (W z) m m2).map (fun x : T3 => x.2.1)).map V.int ++ []))) _ _ (s6 _ _ hD5)
              have hTr7 := (hT5.tk fun t xs q => s6 _ _ q).tk fun t xs q => sameAt (Same.refl H6) hl5 (o := .lst ((r2 ++ x2).map V.int ++ (((betweenR (W z) m m2).map (fun x : T3 => x.2.1)).map V.int ++ []))) _ _ q
              generalize upd H6 l5 (.lst ((r2 ++ x2).map V.int ++ (((betweenR (W z) m m2).map (fun x : T3 => x.2.1)).map V.int ++ []))) = H7 at s7 hl7 hD7 hTr7 ⊢
              have k2 := AT.one (A0.of (.total z t' u')) A0.count Is (.inr (.inl rfl))
              refine ⟨_, rfl, _, _, _, _, _, rfl, .own _, AT.tyx (hA.same s7), k2, _, rfl, ?_⟩
              rw [show decide (A0.of (.total z t' u') = A0.count) = false from decide_eq_false fun e => nd.2.1.1 e.symm]
              refine iteF ?_
              have q : Ans H Q (some ((betweenR (W z) m m2).map (fun x : T3 => x.2.2)).sum, r2 ++ x2 ++ (betweenR (W z) m m2).map (fun x : T3 => x.2.1)) := q
              refine ⟨_, rfl, D, rfl, ⟨_, SqL.of hD7⟩, fun D3 hD3 => lc_it (walk_list (xs := zs)) (fun i H8 => H8 D3 = some (.lst ((((betweenR (W z) m m2).take i).map (fun x : T3 => x.2.2)).map V.int)) ∧ Same H7 H8) ⟨upd_same, sameAt (Same.refl H7) hD3⟩ (fun i H8 _ hv => SqL.of (hv.2 _ _ hD7)) ?_ ?_⟩
              · rintro i x H8 H9 hi ⟨hD8, s8⟩ ⟨rfl, hx⟩
                have hi2 : i < (betweenR (W z) m m2).length := by rw [← hT5.1]; exact hi
                obtain ⟨t3, ht⟩ : ∃ t3, (betweenR (W z) m m2)[i]? = some t3 := ⟨_, List.getElem?_eq_getElem hi2⟩
                obtain ⟨e, rfl, he⟩ := hTr7.2 i x t3 hx ht
                have he1 := s8 _ _ he
                refine ⟨rfl, _, rfl, _, _, _, _, rfl, rfl, SqT.of he1, rfl, _, hD8, ?_, ?_, sameAt s8 hD3⟩
                · rw [List.length_map, List.length_map, List.length_take]
                  exact small1000 (by omega)
                · rw [upd_same, list_take ht, List.map_append, List.map_append]
                  rfl
              · rintro H8 ⟨hD8, s8⟩
                rw [hT5.1, List.take_length] at hD8
                exact ⟨D3, _, rfl, SqL.of hD8, _, rfl, (by show 2 ≤ sizeLine; decide), fun t2 ht2 => q t2 l5 _ ((s7.trans s8).trans (sameAt (Same.refl _) ht2)) upd_same (sameAt (Same.refl _) ht2 _ _ (s8 _ _ hl7))⟩
end
end Ash

set_option Elab.async false
set_option linter.all false
set_option maxRecDepth 100000
set_option maxHeartbeats 4000000
namespace Ash
open PySem PySem.Spec PyProof.Rows L2 SrtT
open C8 (pss_cut)
/-! ### questions: terms and amounts -/
inductive Qn where
  | tm (t : Tm)
  | am (q : Am)
def QAt (A : AC) (C : TC) (H : Hp) (a : Addr) : Qn → Prop
  | .tm t => TmAt C H a t
  | .am q => AmAt A C H a q
def evQ (W : Tr) (now : Int) : Qn → Rs
  | .tm t => ev W now t
  | .am q => evA W now q
def Qn.NmS : Qn → Prop
  | .tm t => t.NmS
  | .am q => q.NmS
def Qn.Fit : Qn → Prop
  | .tm t => t.Fit
  | .am q => q.Fit
theorem QAt.nl {A : AC} {C : TC} {H H' : Hp} (n : NL H H') {a : Addr} : ∀ {q : Qn}, QAt A C H a q → QAt A C H' a q
  | .tm _, h => TmAt.nl n h
  | .am _, h => AmAt.nl n h
theorem QAt.same {A : AC} {C : TC} {H H' : Hp} {a : Addr} {q : Qn} (h : QAt A C H a q) (s : Same H H') : QAt A C H' a q := h.nl (nl_same s)
def spIsQ (A : AC) (C : TC) : Sp := fun vs H Q _ => ∃ a t, vs = [.ref a] ∧ QAt A C H a t ∧ ∀ H', Same H H' → Q (.bl true) H'
def spCheck (A : AC) (C : TC) (CW : Addr) : Sp := fun vs H Q _ => ∃ (a b : Addr) (t : Qn) (W : Tr) (now : Int), vs = [.ref a, .ref b, .int now] ∧ QAt A C H a t ∧ WAt CW H b W ∧ ∀ H', Same H H' → Q .non H'
def spAnswered (A : AC) (C : TC) (CW : Addr) : Sp := fun vs H Q _ => ∃ (a b : Addr) (t : Qn) (W : Tr) (now : Int), vs = [.ref a, .ref b, .int now] ∧ QAt A C H a t ∧ WAt CW H b W ∧ t.NmS ∧ t.Fit ∧ Ans H Q (evQ W now t)
def spValue (A : AC) (C : TC) (CW : Addr) : Sp := fun vs H Q _ => ∃ (a b : Addr) (t : Qn) (W : Tr) (now : Int), vs = [.ref a, .ref b, .int now] ∧ QAt A C H a t ∧ WAt CW H b W ∧ t.NmS ∧ t.Fit ∧ ∀ H', Same H H' → Q (oV (evQ W now t).1) H'
section
variable {P : Program} {w : World} {K : PySem.W.Frag} {mg : Str → Option Value} {base : Heap} {C : TC} {CW : Addr} {A0 : AC}
structure U0 (P : Program) (w : World) (K : PySem.W.Frag) (mg : Str → Option Value) (base : Heap) (A0 : AC) (C : TC) (CW : Addr) : Prop extends A2 P w K mg base C CW 12 where
  is_amount : Cal P w K mg base CX0 "is_amount" 1 ["thing"] (spIsAmount A0 C)
  looked : Cal P w K mg base CX0 "looked" 29 ["question", "world", "now", "place"] (spLookedA A0 C CW 12)
  told_between : Cal P w K mg base CX0 "told_between" 29 ["question", "world", "now"] (spTold A0 C CW 12)
abbrev s_is_question : Stmt := topS 45
theorem sc_is_question : FnScope ["thing"] ["thing"] (defScope s_is_question) := ⟨rfl, rfl, rfl, by decide +kernel, rfl, by decide +kernel, by decide +kernel⟩
theorem ok_isq {f : Addr} {fd : FuncData} (F : Fun K "is_question" "is_question" s_is_question f fd) (B : Blt mg) (AT : AF K mg A0 C) (G : U0 P w K mg base A0 C CW) : FnOk P w K mg base CX0 2 f fd ["thing"] (spIsQ A0 C) := by
  refine F.ok sc_is_question (fun vs H Q E h => ?_) (fun cdv A outer s H vs Q E hr h => ?_)
  · obtain ⟨a, t, rfl, _⟩ := h
    rfl
  · obtain ⟨a, t, rfl, hT, q⟩ := h
    refine ⟨_, (pss_one (ps_ret (pe_or (pe_cal G.is_term (hr.mono (by decide)) pass0 (pa_cons (pv 0) pa_nil)) (pe_one (pe_cal G.is_amount (hr.mono (by decide)) pass0 (pa_cons (pv 0) pa_nil)))))), ?_⟩
    cases t with
    | tm t => exact ⟨_, rfl, _, rfl, .inl ⟨a, t, rfl, hT, fun H1 s1 => ⟨_, rfl, iteT (q H1 s1)⟩⟩⟩
    | am t => exact ⟨_, rfl, _, rfl, .inr ⟨AT.noTm hT, fun H1 s1 => ⟨_, rfl, iteF ⟨_, rfl, a, t, rfl, hT.same s1, fun H2 s2 => q H2 (s1.trans s2)⟩⟩⟩⟩
structure U1 (P : Program) (w : World) (K : PySem.W.Frag) (mg : Str → Option Value) (base : Heap) (A0 : AC) (C : TC) (CW : Addr) : Prop extends U0 P w K mg base A0 C CW where
  is_question : Cal P w K mg base CX0 "is_question" 2 ["thing"] (spIsQ A0 C)
abbrev s_check : Stmt := topS 57
theorem sc_check : FnScope ["question", "world", "now"] ["question", "world", "now"] (defScope s_check) := ⟨rfl, rfl, rfl, by decide +kernel, rfl, by decide +kernel, by decide +kernel⟩
theorem ok_check {f : Addr} {fd : FuncData} (F : Fun K "check" "check" s_check f fd) (B : Blt mg) (T0 : Cw K mg CW) (I0 : BkI K CW) (G : U1 P w K mg base A0 C CW) : FnOk P w K mg base CX0 3 f fd ["question", "world", "now"] (spCheck A0 C CW) := by
  have c_World := T0.c
  refine F.ok sc_check (fun vs H Q E h => ?_) (fun cdv A outer s H vs Q E hr h => ?_)
  · obtain ⟨a, b, t, W, now, rfl, _⟩ := h
    rfl
  · obtain ⟨a, b, t, W, now, rfl, hT, hW, q⟩ := h
    refine ⟨_, (pss_cons (ps_if (pt_not (pt_val (pe_cal G.is_question (hr.mono (by decide)) pass0 (pa_cons (pv 0) pa_nil))))
      (pss_one ps_never)
      pss_nil)
    (pss_cons (ps_if (pt_not (pt_val (pe_callB call_isi (by rfl) B.isinstance (by decide +kernel) (pa_cons (pv 1) (pa_cons (pe_glob (v := .ref CW) (by rfl) c_World rfl) pa_nil)))))
      (pss_one ps_never)
      pss_nil)
    (pss_one (ps_if (pt_not (pt_val (pe_cal G.is_integer (hr.mono (by decide)) pass0 (pa_cons (pv 2) pa_nil))))
      (pss_one ps_never)
      pss_nil)))), ?_⟩
    refine ⟨_, rfl, a, t, rfl, hT, fun H1 s1 => ⟨_, rfl, iteF ?_⟩⟩
    obtain ⟨dx, d, tt, kvs, ids, h1, _⟩ := hW.same s1
    refine ⟨_, rfl, _, _, _, _, true, rfl, .own _, .base (.ins h1 T0.cl I0.ha I0.hn I0.ht I0.hm), by unfold PySem.W.kitOne; simp, _, rfl, iteF ?_⟩
    exact ⟨_, rfl, _, rfl, .inl ⟨now, rfl, _, rfl, iteF (q H1 s1)⟩⟩
abbrev s_answered : Stmt := topS 58
theorem sc_answered : FnScope ["question", "world", "now"] ["question", "world", "now"] (defScope s_answered) := ⟨rfl, rfl, rfl, by decide +kernel, rfl, by decide +kernel, by decide +kernel⟩
theorem ok_answered {f : Addr} {fd : FuncData} (F : Fun K "answered" "answered" s_answered f fd) (B : Blt mg) (Cs : Cst mg) (AT : AF K mg A0 C) (G : U1 P w K mg base A0 C CW) : FnOk P w K mg base CX0 30 f fd ["question", "world", "now"] (spAnswered A0 C CW) := by
  obtain ⟨tk, g_AMOUNT⟩ := Cs.k_AMOUNT
  have c_Number := AT.Number
  refine F.ok sc_answered (fun vs H Q E h => ?_) (fun cdv A outer s H vs Q E hr h => ?_)
  · obtain ⟨a, b, t, W, now, rfl, _⟩ := h
    rfl
  · obtain ⟨a, b, t, W, now, rfl, hT, hW, hN, hF, q⟩ := h
    refine ⟨_, (pss_cons (ps_if (pt_val (pe_cal G.is_term (hr.mono (by decide)) pass0 (pa_cons (pv 0) pa_nil)))
      (pss_one (ps_ret (pe_cal G.followed (hr.mono (by decide)) pass0 (pa_cons (pv 0) (pa_cons (pv 1) (pa_cons (pv 2) pa_nil))))))
      pss_nil)
    (pss_cons (ps_if (pt_val (pe_callB call_isi (by rfl) B.isinstance (by decide +kernel) (pa_cons (pv 0) (pa_cons (pe_glob (v := .ref A0.number) (by rfl) c_Number rfl) pa_nil))))
      (pss_one (ps_ret (pe_cal G.looked (hr.mono (by decide)) pass0 (pa_cons (pv 0) (pa_cons (pv 1) (pa_cons (pv 2) (pa_cons (pe_glob (v := .int 2) (by rfl) g_AMOUNT ⟨_, rfl⟩) pa_nil)))))))
      pss_nil)
    (pss_one (ps_ret (pe_cal G.told_between (hr.mono (by decide)) pass0 (pa_cons (pv 0) (pa_cons (pv 1) (pa_cons (pv 2) pa_nil)))))))), ?_⟩
    cases t with
    | tm t =>
      have hF : t.Fit := hF
      exact ⟨_, rfl, _, rfl, .inl ⟨a, t, rfl, hT, fun H1 s1 => ⟨_, rfl, iteT ⟨_, rfl, _, rfl, _, rfl, a, b, t, W, now, rfl, TmAt.same hT s1, hW.same s1, hN, hF, hF.1, q.same s1⟩⟩⟩⟩
    | am t =>
      have hF : t.Fit := hF
      have hT : AmAt A0 C H a t := hT
      have hN : t.NmS := hN
      refine ⟨_, rfl, _, rfl, .inr ⟨AT.noTm hT, fun H1 s1 => ⟨_, rfl, iteF ?_⟩⟩⟩
      have k := AT.one (A0.of t) A0.number (A0.is_of t) (.inl rfl)
      have nd := AT.nd
      simp only [List.nodup_cons, List.mem_cons, List.not_mem_nil, or_false, not_or] at nd
      refine ⟨_, rfl, _, _, _, _, _, rfl, .own _, AT.tyx (hT.same s1), k, _, rfl, ?_⟩
      have q : Ans H Q (evA W now t) := q
      cases t with
      | number z t =>
        rw [show decide (A0.of (.number z t) = A0.number) = true from decide_eq_true rfl]
        have hF : t.Fit := hF
        exact iteT ⟨_, rfl, _, rfl, _, rfl, a, b, t, z, W, now, rfl, hT.same s1, hW.same s1, hN.1, hN.2, hF, hF.1, q.same s1⟩
      | count z t u =>
        rw [show decide (A0.of (.count z t u) = A0.number) = false from decide_eq_false fun e => nd.1.1 e.symm]
        exact iteF ⟨_, rfl, _, rfl, _, rfl, a, b, _, W, now, rfl, hT.same s1, rfl, hW.same s1, hN, hF, q.same s1⟩
      | total z t u =>
        rw [show decide (A0.of (.total z t u) = A0.number) = false from decide_eq_false fun e => nd.1.2.1 e.symm]
        exact iteF ⟨_, rfl, _, rfl, _, rfl, a, b, _, W, now, rfl, hT.same s1, rfl, hW.same s1, hN, hF, q.same s1⟩
      | gap t u =>
        rw [show decide (A0.of (.gap t u) = A0.number) = false from decide_eq_false fun e => nd.1.2.2 e.symm]
        exact iteF ⟨_, rfl, _, rfl, _, rfl, a, b, _, W, now, rfl, hT.same s1, rfl, hW.same s1, hN, hF, q.same s1⟩
structure U2 (P : Program) (w : World) (K : PySem.W.Frag) (mg : Str → Option Value) (base : Heap) (A0 : AC) (C : TC) (CW : Addr) : Prop extends U1 P w K mg base A0 C CW where
  check : Cal P w K mg base CX0 "check" 3 ["question", "world", "now"] (spCheck A0 C CW)
  answered : Cal P w K mg base CX0 "answered" 30 ["question", "world", "now"] (spAnswered A0 C CW)
abbrev s_value : Stmt := topS 55
theorem sc_value : FnScope ["question", "world", "now", "answer", "_"] ["question", "world", "now"] (defScope s_value) := ⟨rfl, rfl, rfl, by decide +kernel, rfl, by decide +kernel, by decide +kernel⟩
theorem ok_value {f : Addr} {fd : FuncData} (F : Fun K "value" "value" s_value f fd) (B : Blt mg) (G : U2 P w K mg base A0 C CW) : FnOk P w K mg base CX0 31 f fd ["question", "world", "now"] (spValue A0 C CW) := by
  refine F.ok sc_value (fun vs H Q E h => ?_) (fun cdv A outer s H vs Q E hr h => ?_)
  · obtain ⟨a, b, t, W, now, rfl, _⟩ := h
    rfl
  · obtain ⟨a, b, t, W, now, rfl, hT, hW, hN, hF, q⟩ := h
    refine ⟨_, (pss_cons (ps_expr (pe_cal G.check (hr.mono (by decide)) pass0 (pa_cons (pv 0) (pa_cons (pv 1) (pa_cons (pv 2) pa_nil)))))
    (pss_cons (ps_asg (pe_cal G.answered (hr.mono (by decide)) pass0 (pa_cons (pv 0) (pa_cons (pv 1) (pa_cons (pv 2) pa_nil)))) (pg_tup (by rfl) (pgs_cons (pg_name (i := 3) sc_value.nd rfl (Or.inl rfl)) (pgs_cons (pg_name (i := 4) sc_value.nd rfl (Or.inl rfl)) pgs_nil))))
    (pss_one (ps_ret (pv 3))))), ?_⟩
    refine ⟨_, rfl, _, rfl, _, rfl, a, b, t, W, now, rfl, hT, hW, fun H1 s1 => ?_⟩
    refine ⟨_, rfl, _, rfl, _, rfl, a, b, t, W, now, rfl, hT.same s1, hW.same s1, hN, hF, fun q1 l H2 s2 hq1 hl => ?_⟩
    exact ⟨q1, _, rfl, SqT.of hq1, rfl, _, _, rfl, _, _, rfl, rfl, _, rfl, q H2 (s1.trans s2)⟩
end
end Ash

set_option Elab.async false
set_option linter.all false
set_option maxRecDepth 100000
set_option maxHeartbeats 4000000
namespace Ash
open PySem PySem.Spec PyProof.Rows L2 SrtT
open C8 (pss_cut)
/-! ### pairs of terms, shifts back -/
def spPair (C : TC) (mk : Tm → Tm → Tm) : Sp := fun vs H Q _ => ∃ (a b : Addr) (t u : Tm), vs = [.ref a, .ref b] ∧ TmAt C H a t ∧ TmAt C H b u ∧ (mk t u).Fit ∧ ∀ a' H', TmAt C H' a' (mk t u) → Same H H' → Q (.ref a') H'
def spMinus (C : TC) : Sp := fun vs H Q _ => ∃ (a : Addr) (t : Tm) (n : Int), vs = [.ref a, .int n] ∧ TmAt C H a t ∧ (t.plus (-n)).Fit ∧ ∀ a' H', TmAt C H' a' (t.plus (-n)) → Same H H' → Q (.ref a') H'
section
variable {P : Program} {w : World} {K : PySem.W.Frag} {mg : Str → Option Value} {base : Heap} {C : TC} {CW : Addr}
structure V4 (P : Program) (w : World) (K : PySem.W.Frag) (mg : Str → Option Value) (base : Heap) (C : TC) (CW : Addr) : Prop extends V3 P w K mg base C CW where
  Either : Mak P w K mg base CX0 "Either" C.either 2 ["self", "first", "second"] (spInitP C C.either Tm.either)
  Later : Mak P w K mg base CX0 "Later" C.later 2 ["self", "first", "second"] (spInitP C C.later Tm.later)
  Earlier : Mak P w K mg base CX0 "Earlier" C.earlier 2 ["self", "first", "second"] (spInitP C C.earlier Tm.earlier)
abbrev s_Term_or : Stmt := inClass (topS 21) 3
theorem sc_Term_or : FnScope ["self", "other"] ["self", "other"] (defScope s_Term_or) := ⟨rfl, rfl, rfl, by decide +kernel, rfl, by decide +kernel, by decide +kernel⟩
theorem ok_tor {f : Addr} {fd : FuncData} (F : Fun K "__or__" "Term.__or__" s_Term_or f fd) (B : Blt mg) (G : V4 P w K mg base C CW) : FnOk P w K mg base CX0 4 f fd ["self", "other"] (spPair C Tm.either) := by
  refine F.ok sc_Term_or (fun vs H Q E h => ?_) (fun cdv A outer s H vs Q E hr h => ?_)
  · obtain ⟨a, b, t, u, rfl, _⟩ := h
    rfl
  · obtain ⟨a, b, t, u, rfl, hT, hU, hF, q⟩ := h
    refine ⟨_, (pss_cons (ps_if (pt_not (pt_val (pe_cal G.is_term (hr.mono (by decide)) pass0 (pa_cons (pv 1) pa_nil))))
      (pss_one ps_never)
      pss_nil)
    (pss_one (ps_ret (pe_mak G.Either (hr.mono (by decide)) pass0 (pa_cons (pv 0) (pa_cons (pv 1) pa_nil)))))), ?_⟩
    refine ⟨_, rfl, _, rfl, .inl ⟨b, u, rfl, hU, fun H1 s1 => ⟨_, rfl, iteF ?_⟩⟩⟩
    exact ⟨_, rfl, _, rfl, fun x dx hx hdx hne => ⟨x, dx, a, b, t, u, rfl, upd_same, (hT.same s1).same (sameAt (sameAt (Same.refl H1) hdx) hx), (hU.same s1).same (sameAt (sameAt (Same.refl H1) hdx) hx), hF, fun H' hT' hK => ⟨rfl, q x H' hT' (s1.trans (keep_make hK hx hdx))⟩⟩⟩
abbrev s_Term_later : Stmt := inClass (topS 21) 4
theorem sc_Term_later : FnScope ["self", "other"] ["self", "other"] (defScope s_Term_later) := ⟨rfl, rfl, rfl, by decide +kernel, rfl, by decide +kernel, by decide +kernel⟩
theorem ok_tlater {f : Addr} {fd : FuncData} (F : Fun K "later" "Term.later" s_Term_later f fd) (B : Blt mg) (G : V4 P w K mg base C CW) : FnOk P w K mg base CX0 4 f fd ["self", "other"] (spPair C Tm.later) := by
  refine F.ok sc_Term_later (fun vs H Q E h => ?_) (fun cdv A outer s H vs Q E hr h => ?_)
  · obtain ⟨a, b, t, u, rfl, _⟩ := h
    rfl
  · obtain ⟨a, b, t, u, rfl, hT, hU, hF, q⟩ := h
    refine ⟨_, (pss_cons (ps_if (pt_not (pt_val (pe_cal G.is_term (hr.mono (by decide)) pass0 (pa_cons (pv 1) pa_nil))))
      (pss_one ps_never)
      pss_nil)
    (pss_one (ps_ret (pe_mak G.Later (hr.mono (by decide)) pass0 (pa_cons (pv 0) (pa_cons (pv 1) pa_nil)))))), ?_⟩
    refine ⟨_, rfl, _, rfl, .inl ⟨b, u, rfl, hU, fun H1 s1 => ⟨_, rfl, iteF ?_⟩⟩⟩
    exact ⟨_, rfl, _, rfl, fun x dx hx hdx hne => ⟨x, dx, a, b, t, u, rfl, upd_same, (hT.same s1).same (sameAt (sameAt (Same.refl H1) hdx) hx), (hU.same s1).same (sameAt (sameAt (Same.refl H1) hdx) hx), hF, fun H' hT' hK => ⟨rfl, q x H' hT' (s1.trans (keep_make hK hx hdx))⟩⟩⟩
abbrev s_Term_earlier : Stmt := inClass (topS 21) 5
theorem sc_Term_earlier : FnScope ["self", "other"] ["self", "other"] (defScope s_Term_earlier) := ⟨rfl, rfl, rfl, by decide +kernel, rfl, by decide +kernel, by decide +kernel⟩
theorem ok_tearlier {f : Addr} {fd : FuncData} (F : Fun K "earlier" "Term.earlier" s_Term_earlier f fd) (B : Blt mg) (G : V4 P w K mg base C CW) : FnOk P w K mg base CX0 4 f fd ["self", "other"] (spPair C Tm.earlier) := by
  refine F.ok sc_Term_earlier (fun vs H Q E h => ?_) (fun cdv A outer s H vs Q E hr h => ?_)
  · obtain ⟨a, b, t, u, rfl, _⟩ := h
    rfl
  · obtain ⟨a, b, t, u, rfl, hT, hU, hF, q⟩ := h
    refine ⟨_, (pss_cons (ps_if (pt_not (pt_val (pe_cal G.is_term (hr.mono (by decide)) pass0 (pa_cons (pv 1) pa_nil))))
      (pss_one ps_never)
      pss_nil)
    (pss_one (ps_ret (pe_mak G.Earlier (hr.mono (by decide)) pass0 (pa_cons (pv 0) (pa_cons (pv 1) pa_nil)))))), ?_⟩
    refine ⟨_, rfl, _, rfl, .inl ⟨b, u, rfl, hU, fun H1 s1 => ⟨_, rfl, iteF ?_⟩⟩⟩
    exact ⟨_, rfl, _, rfl, fun x dx hx hdx hne => ⟨x, dx, a, b, t, u, rfl, upd_same, (hT.same s1).same (sameAt (sameAt (Same.refl H1) hdx) hx), (hU.same s1).same (sameAt (sameAt (Same.refl H1) hdx) hx), hF, fun H' hT' hK => ⟨rfl, q x H' hT' (s1.trans (keep_make hK hx hdx))⟩⟩⟩
abbrev s_Term_sub : Stmt := inClass (topS 21) 2
theorem sc_Term_sub : FnScope ["self", "other"] ["self", "other"] (defScope s_Term_sub) := ⟨rfl, rfl, rfl, by decide +kernel, rfl, by decide +kernel, by decide +kernel⟩
theorem ok_tsub {f : Addr} {fd : FuncData} (F : Fun K "__sub__" "Term.__sub__" s_Term_sub f fd) (B : Blt mg) (G : V3 P w K mg base C CW) : FnOk P w K mg base CX0 5 f fd ["self", "other"] (spMinus C) := by
  refine F.ok sc_Term_sub (fun vs H Q E h => ?_) (fun cdv A outer s H vs Q E hr h => ?_)
  · obtain ⟨a, t, n, rfl, _⟩ := h
    rfl
  · obtain ⟨a, t, n, rfl, hT, hF, q⟩ := h
    refine ⟨_, (pss_cons (ps_if (pt_not (pt_val (pe_cal G.is_integer (hr.mono (by decide)) pass0 (pa_cons (pv 1) pa_nil))))
      (pss_one ps_never)
      pss_nil)
    (pss_one (ps_ret (pe_cal G.shifted (hr.mono (by decide)) pass0 (pa_cons (pv 0) (pa_cons (pe_un un_neg (pv 1)) pa_nil)))))), ?_⟩
    exact ⟨_, rfl, _, rfl, .inl ⟨n, rfl, _, rfl, iteF ⟨_, rfl, _, rfl, _, rfl, a, t, -n, rfl, hT, hF, q⟩⟩⟩
end
end Ash

set_option Elab.async false
set_option linter.all false
set_option maxRecDepth 100000
set_option maxHeartbeats 4000000
namespace Ash
open PySem PySem.Spec PyProof.Rows L2 SrtT
open C8 (pss_cut)
theorem dp_ints {K : PySem.W.Frag} {H : Hp} : ∀ is : List Int, DpAll K H (is.map V.int) (is.map PyData.int)
  | [] => .nil
  | i :: r => .cons (.int i) (dp_ints r)
theorem ints_shaped (is : List Int) : SeqAt.shaped (.list (is.map PyData.int)) = true := by
  have q : (is.map PyData.int).all flatD = true := by
    rw [List.all_eq_true]
    intro d hd
    obtain ⟨_, _, rfl⟩ := List.mem_map.mp hd
    rfl
  obtain ⟨h1, h2⟩ := flat_lay q
  unfold SeqAt.shaped
  simp [PyData.canLay0, PyData.depth, h1]
  omega
/-- data are as themselves -/
theorem eqv_self {d : PyData} (h : SeqAt.shaped d = true) : PyData.eqv d d = true := SeqAt.eqv_refl d (SeqAt.canLay_of_shaped h)
theorem asc_same : ∀ {xs ys : List Int}, xs.Pairwise (· < ·) → ys.Pairwise (· < ·) → (∀ z, z ∈ xs ↔ z ∈ ys) → xs = ys
  | [], [], _, _, _ => rfl
  | [], y :: ys, _, _, h => nomatch (h y).mpr List.mem_cons_self
  | x :: xs, [], _, _, h => nomatch (h x).mp List.mem_cons_self
  | x :: xs, y :: ys, hx, hy, h => by
    obtain ⟨hx1, hx2⟩ := List.pairwise_cons.mp hx
    obtain ⟨hy1, hy2⟩ := List.pairwise_cons.mp hy
    have e : x = y := by
      rcases List.mem_cons.mp ((h x).mp List.mem_cons_self) with e | e
      · exact e
      · rcases List.mem_cons.mp ((h y).mpr List.mem_cons_self) with e2 | e2
        · exact e2.symm
        · have := hx1 y e2
          have := hy1 x e
          omega
    subst e
    refine congrArg (x :: ·) (asc_same hx2 hy2 fun z => ⟨fun hz => ?_, fun hz => ?_⟩)
    · rcases List.mem_cons.mp ((h z).mp (List.mem_cons_of_mem _ hz)) with e | e
      · have := hx1 z hz
        omega
      · exact e
    · rcases List.mem_cons.mp ((h z).mpr (List.mem_cons_of_mem _ hz)) with e | e
      · have := hy1 z hz
        omega
      · exact e
def td (t : T3) : PyData := .tuple [.int t.1, .int t.2.1, .int t.2.2]
theorem tds_flat : ∀ ts : List T3, PyData.canLayAll0 (ts.map td) = true ∧ PyData.depthAll (ts.map td) ≤ 2
  | [] => by simp [PyData.canLayAll0, PyData.depthAll]
  | x :: xs => by
    obtain ⟨b1, b2⟩ := tds_flat xs
    rw [List.map_cons]
    have a1 : (td x).canLay0 = true := by simp [td, PyData.canLay0, PyData.canLayAll0]
    have a2 : (td x).depth ≤ 2 := by simp [td, PyData.depth, PyData.depthAll]
    simp only [PyData.canLayAll0, PyData.depthAll, a1, b1, Bool.and_self, true_and]
    omega
theorem tds_shaped (ts : List T3) : SeqAt.shaped (.list (ts.map td)) = true := by
  obtain ⟨h1, h2⟩ := tds_flat ts
  unfold SeqAt.shaped
  simp [PyData.canLay0, PyData.depth, h1]
  omega
theorem TrAt.dp {K : PySem.W.Frag} {H : Hp} : ∀ {ys : List V} {ts : List T3}, TrAt H ys ts → DpAll K H ys (ts.map td)
  | [], [], _ => .nil
  | [], _ :: _, h => by have := h.1; simp at this
  | _ :: _, [], h => by have := h.1; simp at this
  | y :: ys, t :: ts, h => by
    obtain ⟨e, rfl, he⟩ := h.2 0 y t rfl rfl
    exact .cons (.tup (SqT.of he) (.cons (.int _) (.cons (.int _) (.cons (.int _) .nil)))) (TrAt.dp ⟨by have := h.1; simpa using this, fun i v u a b => h.2 (i + 1) v u a b⟩)
/-! ### shifts -/
theorem moveR_0 (r : Rs) : moveR r 0 = r := by
  obtain ⟨a, b⟩ := r
  cases a with
  | none => rfl
  | some m => show (some (m + 0), b) = _; rw [Int.add_zero]
theorem moveR_2 (r : Rs) (m n : Int) : moveR (moveR r m) n = moveR r (m + n) := by
  obtain ⟨a, b⟩ := r
  cases a with
  | none => rfl
  | some k => show (some (k + m + n), b) = (some (k + (m + n)), b); rw [Int.add_assoc]
theorem plus_ev {W : Tr} {now : Int} (t : Tm) (n : Int) : ev W now (t.plus n) = moveR (ev W now t) n := by
  unfold Tm.plus
  split
  · next h => rw [h, moveR_0]
  · split
    · next m u =>
      show ev W now (if m + n = 0 then u else .shift (m + n) u) = moveR (moveR (ev W now u) m) n
      rw [moveR_2]
      split
      · next h => rw [h, moveR_0]
      · rfl
    · rfl
theorem plus_nm {t : Tm} {n : Int} (h : t.NmS) : (t.plus n).NmS := by
  unfold Tm.plus
  split
  · exact h
  · split
    · next m u =>
      split
      · exact h
      · exact h
    · exact h
theorem plus_sz {t : Tm} {n : Int} : (t.plus n).dep ≤ t.dep + 1 ∧ (t.plus n).par ≤ t.par + 1 ∧ (t.plus n).lok ≤ t.lok := by
  unfold Tm.plus
  split
  · exact ⟨by omega, by omega, by omega⟩
  · split
    · next m u =>
      have e1 : (Tm.shift m u).dep = 1 + u.dep := rfl
      have e2 : (Tm.shift m u).par = 1 + u.par := rfl
      have e3 : (Tm.shift m u).lok = 0 + u.lok := rfl
      split
      · exact ⟨by omega, by omega, by omega⟩
      · have f1 : (Tm.shift (m + n) u).dep = 1 + u.dep := rfl
        have f2 : (Tm.shift (m + n) u).par = 1 + u.par := rfl
        have f3 : (Tm.shift (m + n) u).lok = 0 + u.lok := rfl
        exact ⟨by omega, by omega, by omega⟩
    · have f1 : ∀ u : Tm, (Tm.shift n u).dep = 1 + u.dep := fun _ => rfl
      have f2 : ∀ u : Tm, (Tm.shift n u).par = 1 + u.par := fun _ => rfl
      have f3 : ∀ u : Tm, (Tm.shift n u).lok = 0 + u.lok := fun _ => rfl
      exact ⟨by rw [f1]; omega, by rw [f2]; omega, by rw [f3]; omega⟩
/-! ### what the law keeps -/
/-- all but the pool and one list stands -/
structure Fz (H0 H : Hp) (p s sn : Addr) : Prop where
  now : PoolAt H p s
  keep : ∀ c o, H0 c = some o → c ≠ p → c ≠ sn → H c = some o
theorem Fz.pl {H0 H1 H2 : Hp} {p s sn : Addr} (z : Fz H0 H1 p s sn) (P : Pl H1 H2 p s) : Fz H0 H2 p s sn := ⟨P.now, fun c o h n1 n2 => P.keep (z.keep c o h n1 n2) n1⟩
theorem Fz.same {H0 H1 H2 : Hp} {p s sn : Addr} (z : Fz H0 H1 p s sn) (e : Same H1 H2) : Fz H0 H2 p s sn := ⟨z.now.same e, fun c o h n1 n2 => e _ _ (z.keep c o h n1 n2)⟩
theorem Fz.upd {H0 H1 : Hp} {p s sn : Addr} {o : HO} (z : Fz H0 H1 p s sn) (n1 : sn ≠ p) (n2 : sn ≠ s) : Fz H0 (upd H1 sn o) p s sn := ⟨z.now.off n1 n2, fun c o h m1 m2 => by rw [upd_ne m2]; exact z.keep c o h m1 m2⟩
theorem nl_pl {H H' : Hp} {p s : Addr} (P0 : PoolAt H p s) (P : Pl H H' p s) : NL H H' := fun c o h n => by
  obtain ⟨ns, i, c', k, m, hp, _⟩ := P0
  exact P.keep h fun e => by rw [e, hp] at h; exact n _ (Option.some.inj h).symm
theorem nl_upd {H : Hp} {q : Addr} {xs : List V} {o : HO} (h : H q = some (.lst xs)) : NL H (upd H q o) := fun c u hc n => by
  rw [upd_ne fun e => by rw [e, h] at hc; exact n _ (Option.some.inj hc).symm]
  exact hc
theorem Fz.nl {H0 H1 : Hp} {p s sn : Addr} {xs : List V} (z : Fz H0 H1 p s sn) (hp : PoolAt H0 p s) (hs : H0 sn = some (.lst xs)) : NL H0 H1 := fun c o h n => by
  obtain ⟨ns, i, c', k, m, hp, _⟩ := hp
  refine z.keep c o h (fun e => ?_) (fun e => ?_)
  · rw [e, hp] at h
    exact n _ (Option.some.inj h).symm
  · rw [e, hs] at h
    exact n _ (Option.some.inj h).symm
theorem RwAt.fz {H0 H1 : Hp} {p s sn d : Addr} {names : List Str} {A : Str → Addr} {T : Tr} {xs : List V} (R : RwAt H0 d names A T) (z : Fz H0 H1 p s sn) (hp : PoolAt H0 p s) (hs : H0 sn = some (.lst xs)) (n : ∀ y ∈ names, A y ≠ p ∧ A y ≠ sn) : RwAt H1 d names A T := by
  have nl := z.nl hp hs
  exact ⟨nl _ _ R.at_ (fun _ z => nomatch z), fun y hy => by
    obtain ⟨ys, h1, h2⟩ := R.row y hy
    exact ⟨ys, z.keep _ _ h1 (n y hy).1 (n y hy).2, h2.tk fun t us q => nl _ _ q (fun _ z => nomatch z)⟩, R.inj⟩
/-- the copies that the law has made -/
def KpAt (H : Hp) (us : List V) (names : List Str) (T : Tr) (N : Addr → Prop) : Prop := us.length = names.length ∧ ∀ (i : Nat) z, names[i]? = some z → ∃ e c ys, us[i]? = some (.ref e) ∧ H e = some (.tup [.str z, .ref c]) ∧ H c = some (.lst ys) ∧ TrAt H ys (T z) ∧ N c
theorem KpAt.to {H H' : Hp} {us : List V} {names : List Str} {T : Tr} {N N' : Addr → Prop} (k : KpAt H us names T N) (nl : NL H H') (hk : ∀ c ys, H c = some (.lst ys) → N c → H' c = some (.lst ys) ∧ N' c) : KpAt H' us names T N' := ⟨k.1, fun i z h => by
  obtain ⟨e, c, ys, h1, h2, h3, h4, h5⟩ := k.2 i z h
  obtain ⟨h6, h7⟩ := hk c ys h3 h5
  exact ⟨e, c, ys, h1, nl _ _ h2 (fun _ z => nomatch z), h6, h4.tk fun t us q => nl _ _ q (fun _ z => nomatch z), h7⟩⟩
theorem KpAt.snoc {H : Hp} {us : List V} {names : List Str} {T : Tr} {N : Addr → Prop} {e c : Addr} {z : Str} {ys : List V} (k : KpAt H us names T N) (he : H e = some (.tup [.str z, .ref c])) (hc : H c = some (.lst ys)) (hT : TrAt H ys (T z)) (n : N c) : KpAt H (us ++ [.ref e]) (names ++ [z]) T N := by
  refine ⟨by rw [List.length_append, List.length_append, k.1]; rfl, fun i y h => ?_⟩
  by_cases hi : i < names.length
  · rw [List.getElem?_append_left hi] at h
    obtain ⟨e', c', ys', h1, h2⟩ := k.2 i y h
    exact ⟨e', c', ys', by rw [List.getElem?_append_left (by rw [k.1]; exact hi)]; exact h1, h2⟩
  · have hi' : i = names.length := by
      have := (List.getElem?_eq_some_iff.mp h).1
      rw [List.length_append] at this
      have : i < names.length + 1 := this
      omega
    subst hi'
    rw [List.getElem?_append_right (Nat.le_refl _), Nat.sub_self] at h
    cases h
    exact ⟨e, c, ys, by rw [List.getElem?_append_right (by rw [k.1]; exact Nat.le_refl _), k.1, Nat.sub_self]; rfl, he, hc, hT, n⟩
theorem look_none {r : Rs} {f : Int → Option T3} (h : r.1.bind f = none) : lookR r f = (none, r.2) := by
  obtain ⟨a, b⟩ := r
  cases a with
  | none => rfl
  | some m =>
    have h : f m = none := h
    show (match f m with | none => (none, b) | some t => _) = _
    rw [h]
theorem look_some {r : Rs} {f : Int → Option T3} {t : T3} (h : r.1.bind f = some t) : lookR r f = (some t.1, r.2 ++ [t.2.1]) := by
  obtain ⟨a, b⟩ := r
  cases a with
  | none => cases h
  | some m =>
    have h : f m = some t := h
    show (match f m with | none => (none, b) | some t => _) = _
    rw [h]
theorem oV_fst {r : Rs} {d : Option Int} (h : r.1 = d) : oV r.1 = oV d := by rw [h]
end Ash

set_option Elab.async false
set_option linter.all false
set_option maxRecDepth 100000
set_option maxHeartbeats 4000000
namespace Ash
open PySem PySem.Spec PyProof.Rows L2 SrtT
open C8 (pss_cut)
/-! ### terms as the law draws them: tuples in tuples -/
def MdAt (H : Hp) : Addr → Tm → Prop
  | e, .now => H e = some (.tup [.str "now"])
  | e, .last s t => ∃ b, H e = some (.tup [.str "last", .str s, .ref b]) ∧ MdAt H b t
  | e, .next s t => ∃ b, H e = some (.tup [.str "next", .str s, .ref b]) ∧ MdAt H b t
  | e, .shift n t => ∃ b, H e = some (.tup [.str "shift", .int n, .ref b]) ∧ MdAt H b t
  | e, .either t u => ∃ b c, H e = some (.tup [.str "either", .ref b, .ref c]) ∧ MdAt H b t ∧ MdAt H c u
  | e, .later t u => ∃ b c, H e = some (.tup [.str "later", .ref b, .ref c]) ∧ MdAt H b t ∧ MdAt H c u
  | e, .earlier t u => ∃ b c, H e = some (.tup [.str "earlier", .ref b, .ref c]) ∧ MdAt H b t ∧ MdAt H c u
theorem MdAt.tk {H H' : Hp} (n : ∀ t xs, H t = some (.tup xs) → H' t = some (.tup xs)) : ∀ {t : Tm} {a : Addr}, MdAt H a t → MdAt H' a t
  | .now, a, h => n _ _ h
  | .last s t, a, ⟨b, h1, h2⟩ => ⟨b, n _ _ h1, MdAt.tk n h2⟩
  | .next s t, a, ⟨b, h1, h2⟩ => ⟨b, n _ _ h1, MdAt.tk n h2⟩
  | .shift s t, a, ⟨b, h1, h2⟩ => ⟨b, n _ _ h1, MdAt.tk n h2⟩
  | .either s t, a, ⟨b, c, h1, h2, h3⟩ => ⟨b, c, n _ _ h1, MdAt.tk n h2, MdAt.tk n h3⟩
  | .later s t, a, ⟨b, c, h1, h2, h3⟩ => ⟨b, c, n _ _ h1, MdAt.tk n h2, MdAt.tk n h3⟩
  | .earlier s t, a, ⟨b, c, h1, h2, h3⟩ => ⟨b, c, n _ _ h1, MdAt.tk n h2, MdAt.tk n h3⟩
theorem pl_tk {H H' : Hp} {p s : Addr} (P0 : PoolAt H p s) (P : Pl H H' p s) : ∀ t xs, H t = some (.tup xs) → H' t = some (.tup xs) := fun t xs h => nl_pl P0 P _ _ h (fun _ z => nomatch z)
/-- the term that is built -/
def bt : Tm → Tm
  | .now => .now
  | .last s t => .last s (bt t)
  | .next s t => .next s (bt t)
  | .shift n t => (bt t).plus n
  | .either a b => .either (bt a) (bt b)
  | .later a b => .later (bt a) (bt b)
  | .earlier a b => .earlier (bt a) (bt b)
theorem mx_mono {a b c d : Int} (h1 : a ≤ c) (h2 : b ≤ d) : Tm.mx a b ≤ Tm.mx c d := by
  unfold Tm.mx
  split <;> split <;> omega
theorem bt_sz : ∀ t : Tm, (bt t).dep ≤ t.dep ∧ (bt t).par ≤ t.par ∧ (bt t).lok ≤ t.lok
  | .now => ⟨Int.le_refl _, Int.le_refl _, Int.le_refl _⟩
  | .last s t => by
    obtain ⟨h1, h2, h3⟩ := bt_sz t
    exact ⟨by show 1 + (bt t).dep ≤ 1 + t.dep; omega, by show 1 + (bt t).par ≤ 1 + t.par; omega, by show 1 + (bt t).lok ≤ 1 + t.lok; omega⟩
  | .next s t => by
    obtain ⟨h1, h2, h3⟩ := bt_sz t
    exact ⟨by show 1 + (bt t).dep ≤ 1 + t.dep; omega, by show 1 + (bt t).par ≤ 1 + t.par; omega, by show 1 + (bt t).lok ≤ 1 + t.lok; omega⟩
  | .shift n t => by
    obtain ⟨h1, h2, h3⟩ := bt_sz t
    obtain ⟨q1, q2, q3⟩ := plus_sz (t := bt t) (n := n)
    exact ⟨by show ((bt t).plus n).dep ≤ 1 + t.dep; omega, by show ((bt t).plus n).par ≤ 1 + t.par; omega, by show ((bt t).plus n).lok ≤ 0 + t.lok; omega⟩
  | .either a b => by
    obtain ⟨h1, h2, h3⟩ := bt_sz a
    obtain ⟨g1, g2, g3⟩ := bt_sz b
    have := mx_mono h1 g1
    exact ⟨by show 1 + Tm.mx (bt a).dep (bt b).dep ≤ 1 + Tm.mx a.dep b.dep; omega, by show 1 + ((bt a).par + (bt b).par) ≤ 1 + (a.par + b.par); omega, by show 0 + ((bt a).lok + (bt b).lok) ≤ 0 + (a.lok + b.lok); omega⟩
  | .later a b => by
    obtain ⟨h1, h2, h3⟩ := bt_sz a
    obtain ⟨g1, g2, g3⟩ := bt_sz b
    have := mx_mono h1 g1
    exact ⟨by show 1 + Tm.mx (bt a).dep (bt b).dep ≤ 1 + Tm.mx a.dep b.dep; omega, by show 1 + ((bt a).par + (bt b).par) ≤ 1 + (a.par + b.par); omega, by show 0 + ((bt a).lok + (bt b).lok) ≤ 0 + (a.lok + b.lok); omega⟩
  | .earlier a b => by
    obtain ⟨h1, h2, h3⟩ := bt_sz a
    obtain ⟨g1, g2, g3⟩ := bt_sz b
    have := mx_mono h1 g1
    exact ⟨by show 1 + Tm.mx (bt a).dep (bt b).dep ≤ 1 + Tm.mx a.dep b.dep; omega, by show 1 + ((bt a).par + (bt b).par) ≤ 1 + (a.par + b.par); omega, by show 0 + ((bt a).lok + (bt b).lok) ≤ 0 + (a.lok + b.lok); omega⟩
theorem bt_nm : ∀ {t : Tm}, t.NmS → (bt t).NmS
  | .now, _ => trivial
  | .last s t, h => ⟨h.1, bt_nm h.2⟩
  | .next s t, h => ⟨h.1, bt_nm h.2⟩
  | .shift n t, h => plus_nm (bt_nm (t := t) h)
  | .either a b, h => ⟨bt_nm h.1, bt_nm h.2⟩
  | .later a b, h => ⟨bt_nm h.1, bt_nm h.2⟩
  | .earlier a b, h => ⟨bt_nm h.1, bt_nm h.2⟩
/-- the streams of a term are among these -/
def Tm.InS (ns : List Str) : Tm → Prop
  | .now => True
  | .last s t => s ∈ ns ∧ Tm.InS ns t
  | .next s t => s ∈ ns ∧ Tm.InS ns t
  | .shift _ t => Tm.InS ns t
  | .either a b => Tm.InS ns a ∧ Tm.InS ns b
  | .later a b => Tm.InS ns a ∧ Tm.InS ns b
  | .earlier a b => Tm.InS ns a ∧ Tm.InS ns b
/-- how large a term of so many levels may be -/
def pB : Nat → Int
  | 0 => 1
  | d + 1 => 1 + 2 * pB d
def lB : Nat → Int
  | 0 => 0
  | 1 => 1
  | d + 2 => 2 * lB (d + 1)
theorem lB_pos : ∀ d, 1 ≤ lB (d + 1)
  | 0 => Int.le_refl 1
  | d + 1 => by have := lB_pos d; show 1 ≤ 2 * lB (d + 1); omega
theorem lB_nn : ∀ d, 0 ≤ lB d
  | 0 => Int.le_refl 0
  | d + 1 => by have := lB_pos d; omega
theorem lB_up : ∀ d, 1 + lB d ≤ lB (d + 1) ∧ 2 * lB d ≤ lB (d + 1)
  | 0 => ⟨by decide, by decide⟩
  | d + 1 => by have := lB_pos d; exact ⟨by show 1 + lB (d + 1) ≤ 2 * lB (d + 1); omega, by show 2 * lB (d + 1) ≤ 2 * lB (d + 1); omega⟩
theorem pB_pos : ∀ d, 1 ≤ pB d
  | 0 => Int.le_refl 1
  | d + 1 => by have := pB_pos d; show 1 ≤ 1 + 2 * pB d; omega
structure Lev (t : Tm) (d : Nat) : Prop where
  dep : t.dep ≤ (d : Int) + 1
  par : t.par ≤ pB d
  lok : t.lok ≤ lB d
  nm : t.NmS
def spLTerm (d : Nat) : Sp := fun vs H Q _ => ∃ (p s l : Addr) (names : List Str), vs = [.ref p, .ref l, .int (d : Int)] ∧ PoolAt H p s ∧ l ≠ p ∧ H l = some (.lst (names.map V.str)) ∧ 1 ≤ names.length ∧ names.length ≤ 25 ∧ (∀ z ∈ names, IsNm z) ∧
  ∀ e t H', MdAt H' e t → Lev t d → t.InS names → Pl H H' p s → Q (.ref e) H'
def spBuilt (C : TC) (d : Nat) : Sp := fun vs H Q _ => ∃ (e : Addr) (t : Tm), vs = [.ref e] ∧ MdAt H e t ∧ t.NmS ∧ t.Fit ∧ t.dep ≤ (d : Int) ∧ ∀ a H', TmAt C H' a (bt t) → Same H H' → Q (.ref a) H'
section
variable {P : Program} {w : World} {K : PySem.W.Frag} {mg : Str → Option Value} {base : Heap} {C : TC} {CW : Addr}
abbrev s_l_term : Stmt := topS 76
theorem sc_l_term : FnScope ["pool", "streams", "depth", "kind", "inner"] ["pool", "streams", "depth"] (defScope s_l_term) := ⟨rfl, rfl, rfl, by decide +kernel, rfl, by decide +kernel, by decide +kernel⟩
theorem ok_lterm0 {f : Addr} {fd : FuncData} (F : Fun K "_law_term" "_law_term" s_l_term f fd) (B : Blt mg) (G : G2w P w K mg base) : FnOk P w K mg base CX0 (0 + 3) f fd ["pool", "streams", "depth"] (spLTerm 0) := by
  refine F.ok sc_l_term (fun vs H Q E h => ?_) (fun cdv A outer s H vs Q E hr h => ?_)
  · obtain ⟨p, s, l, names, rfl, _⟩ := h
    rfl
  · obtain ⟨p, s0, l, names, rfl, hP, hlp, hl, n1, n25, hnm, q⟩ := h
    refine ⟨_, (pss_cons (ps_set (i := 3) sc_l_term.nd rfl (Or.inl rfl) (pe_cal G.law_draw (hr.mono (by decide)) pass0 (pa_cons (pv 0) (pa_cons pe_int pa_nil))))
    (pss_cons (ps_if (PW.pt (pw_or (pt_cmpR op_eq (pv 2) pe_int (nomark _)) (pw_or1 (pt_cmpR op_eq (pv 3) pe_int (nomark _)))))
      (pss_one (ps_ret (pe_tup (pa_cons pe_str pa_nil))))
      pss_nil)
    (pss_cons ps_never
    (pss_cons (ps_if (pt_cmpR op_lt (pv 3) pe_int (nomark _))
      (pss_one (ps_ret (pe_tup (pa_cons pe_str (pa_cons (pe_ix ix_list (pv 1) (pe_cal G.law_draw (hr.mono (by decide)) pass0 (pa_cons (pv 0) (pa_cons (pe_callB call_len (by rfl) B.len (by decide +kernel) (pa_cons (pv 1) pa_nil)) pa_nil))) (fun _ _ => rfl)) (pa_cons (pv 4) pa_nil))))))
      pss_nil)
    (pss_cons (ps_if (pt_cmpR op_eq (pv 3) pe_int (nomark _))
      (pss_one (ps_ret (pe_tup (pa_cons pe_str (pa_cons (pe_ix ix_list (pv 1) (pe_cal G.law_draw (hr.mono (by decide)) pass0 (pa_cons (pv 0) (pa_cons (pe_callB call_len (by rfl) B.len (by decide +kernel) (pa_cons (pv 1) pa_nil)) pa_nil))) (fun _ _ => rfl)) (pa_cons (pv 4) pa_nil))))))
      pss_nil)
    (pss_cons (ps_if (pt_cmpR op_eq (pv 3) pe_int (nomark _))
      (pss_one (ps_ret (pe_tup (pa_cons pe_str (pa_cons (pe_cal G.law_moment (hr.mono (by decide)) pass0 (pa_cons (pv 0) pa_nil)) (pa_cons (pv 4) pa_nil))))))
      pss_nil)
    (pss_one ps_never))))))), ?_⟩
    refine ⟨_, rfl, p, s0, 8, rfl, hP, (by decide), (by decide), fun kind H1 k0 k8 P1 => ?_⟩
    refine ⟨_, rfl, rfl, _, rfl, ?_⟩
    refine ite2 (fun _ => ?_) (fun c => absurd rfl c)
    exact ⟨(by show 1 ≤ sizeLine; decide), fun e he => q e .now _ upd_same ⟨by decide, by decide, by decide, trivial⟩ trivial (P1.new he)⟩
structure G3t (P : Program) (w : World) (K : PySem.W.Frag) (mg : Str → Option Value) (base : Heap) (d : Nat) : Prop extends G2w P w K mg base where
  law_term : Cal P w K mg base CX0 "_law_term" (d + 3) ["pool", "streams", "depth"] (spLTerm d)
theorem ok_lterm {f : Addr} {fd : FuncData} {d : Nat} (F : Fun K "_law_term" "_law_term" s_l_term f fd) (B : Blt mg) (G : G3t P w K mg base d) : FnOk P w K mg base CX0 (d + 1 + 3) f fd ["pool", "streams", "depth"] (spLTerm (d + 1)) := by
  refine F.ok sc_l_term (fun vs H Q E h => ?_) (fun cdv A outer s H vs Q E hr h => ?_)
  · obtain ⟨p, s, l, names, rfl, _⟩ := h
    rfl
  · obtain ⟨p, s0, l, names, rfl, hP, hlp, hl, n1, n25, hnm, q⟩ := h
    refine ⟨_, (pss_cons (ps_set (i := 3) sc_l_term.nd rfl (Or.inl rfl) (pe_cal G.law_draw (hr.mono (by omega)) pass0 (pa_cons (pv 0) (pa_cons pe_int pa_nil))))
    (pss_cons (ps_if (PW.pt (pw_or (pt_cmpR op_eq (pv 2) pe_int (nomark _)) (pw_or1 (pt_cmpR op_eq (pv 3) pe_int (nomark _)))))
      (pss_one (ps_ret (pe_tup (pa_cons pe_str pa_nil))))
      pss_nil)
    (pss_cons (ps_set (i := 4) sc_l_term.nd rfl (Or.inl rfl) (pe_cal G.law_term (hr.mono (by omega)) pass0 (pa_cons (pv 0) (pa_cons (pv 1) (pa_cons (pe_op op_sub (pv 2) pe_int) pa_nil)))))
    (pss_cons (ps_if (pt_cmpR op_lt (pv 3) pe_int (nomark _))
      (pss_one (ps_ret (pe_tup (pa_cons pe_str (pa_cons (pe_ix ix_list (pv 1) (pe_cal G.law_draw (hr.mono (by omega)) pass0 (pa_cons (pv 0) (pa_cons (pe_callB call_len (by rfl) B.len (by decide +kernel) (pa_cons (pv 1) pa_nil)) pa_nil))) (fun _ _ => rfl)) (pa_cons (pv 4) pa_nil))))))
      pss_nil)
    (pss_cons (ps_if (pt_cmpR op_eq (pv 3) pe_int (nomark _))
      (pss_one (ps_ret (pe_tup (pa_cons pe_str (pa_cons (pe_ix ix_list (pv 1) (pe_cal G.law_draw (hr.mono (by omega)) pass0 (pa_cons (pv 0) (pa_cons (pe_callB call_len (by rfl) B.len (by decide +kernel) (pa_cons (pv 1) pa_nil)) pa_nil))) (fun _ _ => rfl)) (pa_cons (pv 4) pa_nil))))))
      pss_nil)
    (pss_cons (ps_if (pt_cmpR op_eq (pv 3) pe_int (nomark _))
      (pss_one (ps_ret (pe_tup (pa_cons pe_str (pa_cons (pe_cal G.law_moment (hr.mono (by omega)) pass0 (pa_cons (pv 0) pa_nil)) (pa_cons (pv 4) pa_nil))))))
      pss_nil)
    (pss_one (ps_ret (pe_tup (pa_cons (pe_ix ix_list (pe_lst (pa_cons pe_str (pa_cons pe_str (pa_cons pe_str pa_nil)))) (pe_op op_sub (pv 3) pe_int) (fun _ _ => rfl)) (pa_cons (pv 4) (pa_cons (pe_cal G.law_term (hr.mono (by omega)) pass0 (pa_cons (pv 0) (pa_cons (pv 1) (pa_cons (pe_op op_sub (pv 2) pe_int) pa_nil)))) pa_nil)))))))))))), ?_⟩
    refine ⟨_, rfl, p, s0, 8, rfl, hP, (by decide), (by decide), fun kind H1 k0 k8 P1 => ?_⟩
    refine ⟨_, rfl, rfl, _, rfl, ?_⟩
    refine ite2 (fun c => ?_) (fun _ => ?_)
    · have := V.int.inj (of_decide_eq_true c)
      omega
    refine ⟨_, rfl, rfl, _, rfl, ?_⟩
    have := pB_pos d
    have lnn := lB_nn (d + 1)
    refine ite2 (fun _ => ?_) (fun ck => ?_)
    · exact ⟨(by show 1 ≤ sizeLine; decide), fun e he => q e .now _ upd_same ⟨by show (1 : Int) ≤ _; omega, by show (1 : Int) ≤ 1 + 2 * pB d; omega, lnn, trivial⟩ trivial (P1.new he)⟩
    have hl1 := P1.keep hl hlp
    have ed : (((d + 1 : Nat) : Int) - 1) = (d : Int) := by omega
    refine ⟨_, rfl, _, rfl, _, rfl, _, _, rfl, rfl, p, s0, l, names, (by show [V.ref p, V.ref l, V.int (((d + 1 : Nat) : Int) - 1)] = _; rw [ed]), P1.now, hlp, hl1, n1, n25, hnm, fun e1 t1 H2 hM1 L1 I1 P2 => ?_⟩
    have P12 := P1.trans P2
    have hl2 := P2.keep hl1 hlp
    obtain ⟨u1, u2⟩ := lB_up d
    have y1 := L1.dep
    have y2 := L1.par
    have y3 := L1.lok
    refine ⟨_, rfl, _, _, rfl, rfl, _, rfl, ?_⟩
    refine ite2 (fun _ => ?_) (fun c3 => ?_)
    · refine ⟨_, rfl, _, rfl, _, rfl, _, _, rfl, .inl ⟨_, SqL.of hl2, rfl⟩, p, s0, _, rfl, P2.now, (by rw [List.length_map]; omega), Int.lt_of_le_of_lt (show ((names.map V.str).length : Int) ≤ 25 by rw [List.length_map]; omega) (by decide), fun g H3 g0 g1 P3 => ?_⟩
      rw [List.length_map] at g1
      obtain ⟨j, rfl⟩ : ∃ j : Nat, g = (j : Int) := ⟨g.toNat, by omega⟩
      have hj : j < names.length := by omega
      have hz : names[j] ∈ names := List.getElem_mem hj
      generalize hzz : names[j] = z at hz
      refine ⟨_, _, _, .str z, rfl, rfl, SqL.of (P3.keep hl2 hlp), atI_nat (by rw [List.getElem?_map, List.getElem?_eq_getElem hj, hzz]; rfl), _, rfl, (by show 3 ≤ sizeLine; decide), fun e he => ?_⟩
      have k3 := hM1.tk (pl_tk P2.now P3)
      exact q e (.last z t1) _ ⟨e1, upd_same, k3.tk fun t xs h => sameAt (Same.refl H3) he _ _ h⟩ ⟨by show 1 + t1.dep ≤ _; omega, by show 1 + t1.par ≤ 1 + 2 * pB d; omega, by show 1 + t1.lok ≤ _; omega, hnm z hz, L1.nm⟩ ⟨hz, I1⟩ ((P12.trans P3).new he)
    refine ⟨_, rfl, rfl, _, rfl, ?_⟩
    refine ite2 (fun _ => ?_) (fun c4 => ?_)
    · refine ⟨_, rfl, _, rfl, _, rfl, _, _, rfl, .inl ⟨_, SqL.of hl2, rfl⟩, p, s0, _, rfl, P2.now, (by rw [List.length_map]; omega), Int.lt_of_le_of_lt (show ((names.map V.str).length : Int) ≤ 25 by rw [List.length_map]; omega) (by decide), fun g H3 g0 g1 P3 => ?_⟩
      rw [List.length_map] at g1
      obtain ⟨j, rfl⟩ : ∃ j : Nat, g = (j : Int) := ⟨g.toNat, by omega⟩
      have hj : j < names.length := by omega
      have hz : names[j] ∈ names := List.getElem_mem hj
      generalize hzz : names[j] = z at hz
      refine ⟨_, _, _, .str z, rfl, rfl, SqL.of (P3.keep hl2 hlp), atI_nat (by rw [List.getElem?_map, List.getElem?_eq_getElem hj, hzz]; rfl), _, rfl, (by show 3 ≤ sizeLine; decide), fun e he => ?_⟩
      have k3 := hM1.tk (pl_tk P2.now P3)
      exact q e (.next z t1) _ ⟨e1, upd_same, k3.tk fun t xs h => sameAt (Same.refl H3) he _ _ h⟩ ⟨by show 1 + t1.dep ≤ _; omega, by show 1 + t1.par ≤ 1 + 2 * pB d; omega, by show 1 + t1.lok ≤ _; omega, hnm z hz, L1.nm⟩ ⟨hz, I1⟩ ((P12.trans P3).new he)
    refine ⟨_, rfl, rfl, _, rfl, ?_⟩
    refine ite2 (fun _ => ?_) (fun c5 => ?_)
    · refine ⟨_, rfl, p, s0, rfl, P2.now, fun m H3 _ P3 => ⟨_, rfl, (by show 3 ≤ sizeLine; decide), fun e he => ?_⟩⟩
      have k3 := hM1.tk (pl_tk P2.now P3)
      exact q e (.shift m t1) _ ⟨e1, upd_same, k3.tk fun t xs h => sameAt (Same.refl H3) he _ _ h⟩ ⟨by show 1 + t1.dep ≤ _; omega, by show 1 + t1.par ≤ 1 + 2 * pB d; omega, by show 0 + t1.lok ≤ _; omega, L1.nm⟩ I1 ((P12.trans P3).new he)
    have c3 : ¬ kind < 3 := fun z => c3 (decide_eq_true z)
    have c4 : ¬ kind = 3 := fun z => c4 (decide_eq_true (by rw [z]))
    have c5 : ¬ kind = 4 := fun z => c5 (decide_eq_true (by rw [z]))
    obtain ⟨w9, mk, hat, hmk⟩ : ∃ (w9 : Str) (mk : Tm → Tm → Tm), atI ([.str "either", .str "later", .str "earlier"] : List V) (kind - 5) = some (.str w9) ∧ ((w9 = "either" ∧ mk = Tm.either) ∨ (w9 = "later" ∧ mk = Tm.later) ∨ (w9 = "earlier" ∧ mk = Tm.earlier)) := by
      have : kind = 5 ∨ kind = 6 ∨ kind = 7 := by omega
      rcases this with rfl | rfl | rfl
      · exact ⟨"either", Tm.either, rfl, .inl ⟨rfl, rfl⟩⟩
      · exact ⟨"later", Tm.later, rfl, .inr (.inl ⟨rfl, rfl⟩)⟩
      · exact ⟨"earlier", Tm.earlier, rfl, .inr (.inr ⟨rfl, rfl⟩)⟩
    refine ⟨(by show 3 ≤ sizeLine; decide), fun ll hll => ?_⟩
    have P2l : Pl H (upd H2 ll (.lst [.str "either", .str "later", .str "earlier"])) p s0 := P12.new hll
    have tkl : ∀ t xs, H2 t = some (.tup xs) → upd H2 ll (.lst [.str "either", .str "later", .str "earlier"]) t = some (.tup xs) := fun t xs h => sameAt (Same.refl H2) hll _ _ h
    refine ⟨_, rfl, _, _, rfl, rfl, _, _, _, _, rfl, rfl, SqL.of upd_same, hat, _, rfl, _, rfl, _, rfl, _, rfl, _, _, rfl, rfl, p, s0, l, names, (by show [V.ref p, V.ref l, V.int (((d + 1 : Nat) : Int) - 1)] = _; rw [ed]), P2l.now, hlp, sameAt (Same.refl H2) hll _ _ hl2, n1, n25, hnm, fun e2 t2 H3 hM2 L2' I2 P3 => ⟨(by show 3 ≤ sizeLine; decide), fun e he => ?_⟩⟩
    have z1 := L2'.dep
    have z2 := L2'.par
    have z3 := L2'.lok
    have mxl : Tm.mx t1.dep t2.dep ≤ (d : Int) + 1 := by unfold Tm.mx; split <;> assumption
    have k1 := ((hM1.tk tkl).tk (pl_tk P2l.now P3)).tk fun t xs h => sameAt (Same.refl H3) he (o := .tup [.str w9, .ref e1, .ref e2]) _ _ h
    have k2 := hM2.tk fun t xs h => sameAt (Same.refl H3) he (o := .tup [.str w9, .ref e1, .ref e2]) _ _ h
    have PF : Pl H (upd H3 e (.tup [.str w9, .ref e1, .ref e2])) p s0 := (P2l.trans P3).new he
    rcases hmk with ⟨rfl, rfl⟩ | ⟨rfl, rfl⟩ | ⟨rfl, rfl⟩
    · exact q e (.either t1 t2) _ ⟨e1, e2, upd_same, k1, k2⟩ ⟨by show 1 + Tm.mx t1.dep t2.dep ≤ _; omega, by show 1 + (t1.par + t2.par) ≤ 1 + 2 * pB d; omega, by show 0 + (t1.lok + t2.lok) ≤ _; omega, L1.nm, L2'.nm⟩ ⟨I1, I2⟩ PF
    · exact q e (.later t1 t2) _ ⟨e1, e2, upd_same, k1, k2⟩ ⟨by show 1 + Tm.mx t1.dep t2.dep ≤ _; omega, by show 1 + (t1.par + t2.par) ≤ 1 + 2 * pB d; omega, by show 0 + (t1.lok + t2.lok) ≤ _; omega, L1.nm, L2'.nm⟩ ⟨I1, I2⟩ PF
    · exact q e (.earlier t1 t2) _ ⟨e1, e2, upd_same, k1, k2⟩ ⟨by show 1 + Tm.mx t1.dep t2.dep ≤ _; omega, by show 1 + (t1.par + t2.par) ≤ 1 + 2 * pB d; omega, by show 0 + (t1.lok + t2.lok) ≤ _; omega, L1.nm, L2'.nm⟩ ⟨I1, I2⟩ PF
end
end Ash

set_option Elab.async false
set_option linter.all false
set_option maxRecDepth 100000
set_option maxHeartbeats 4000000
namespace Ash
open PySem PySem.Spec PyProof.Rows L2 SrtT
open C8 (pss_cut)
theorem pe_mak0 {X : Cx} {CX : CXT} {k : Nat} {ps : List Str} {sp : Sp} {E : XK} {x : Str} {p pos : Pos} {C : Addr} (G : Mak X.prog X.w X.K X.mg X.base CX x C k ps sp) (hr : Room (k + 1) X.A) (hx : Passes CX X E) (hg : Gl X x := by rfl)
    (hdb : (x == ("__debug__" : Str)) = false := by decide) : PE X (.Call (.Name x p) [] [] pos) (tMake C sp [] E tNil) := by
  obtain ⟨f, fd, M, hm, hb, F⟩ := G.ex
  exact pe_make0 M F hr hg hm hb .nil hx hdb
section
variable {P : Program} {w : World} {K : PySem.W.Frag} {mg : Str → Option Value} {base : Heap} {C : TC} {CW : Addr}
/-- what the law's building calls -/
structure B0 (P : Program) (w : World) (K : PySem.W.Frag) (mg : Str → Option Value) (base : Heap) (C : TC) : Prop where
  Now : Mak P w K mg base CX0 "Now" C.now 2 ["self"] (spInit0 C)
  Last : Mak P w K mg base CX0 "Last" C.last 3 ["self", "stream", "term"] (spInitL C C.last Tm.last)
  Next : Mak P w K mg base CX0 "Next" C.next 3 ["self", "stream", "term"] (spInitL C C.next Tm.next)
/-- the operators and methods of terms -/
structure Ops (P : Program) (w : World) (K : PySem.W.Frag) (mg : Str → Option Value) (base : Heap) (C : TC) : Prop where
  add : ∃ f fd, OpI K C.Is .Add f ∧ FnOk P w K mg base CX0 5 f fd ["self", "other"] (spShifted C) ∧ Binds K fd ["self", "other"] []
  or_ : ∃ f fd, OpF K C.Is .BitOr f ∧ FnOk P w K mg base CX0 4 f fd ["self", "other"] (spPair C Tm.either) ∧ Binds K fd ["self", "other"] []
  later : ∃ f fd, MethF K C.Is "later" f ∧ FnOk P w K mg base CX0 4 f fd ["self", "other"] (spPair C Tm.later) ∧ Binds K fd ["self", "other"] []
  earlier : ∃ f fd, MethF K C.Is "earlier" f ∧ FnOk P w K mg base CX0 4 f fd ["self", "other"] (spPair C Tm.earlier) ∧ Binds K fd ["self", "other"] []
structure B1 (P : Program) (w : World) (K : PySem.W.Frag) (mg : Str → Option Value) (base : Heap) (C : TC) (d : Nat) : Prop extends B0 P w K mg base C where
  law_built : Cal P w K mg base CX0 "_law_built" (d + 6) ["model"] (spBuilt C d)
abbrev s_l_built : Stmt := topS 77
theorem sc_l_built : FnScope ["model", "first", "second"] ["model"] (defScope s_l_built) := ⟨rfl, rfl, rfl, by decide +kernel, rfl, by decide +kernel, by decide +kernel⟩
theorem ok_built0 {f : Addr} {fd : FuncData} (F : Fun K "_law_built" "_law_built" s_l_built f fd) : FnOk P w K mg base CX0 (0 + 6) f fd ["model"] (spBuilt C 0) := by
  refine F.ok sc_l_built (fun vs H Q E h => ?_) (fun cdv A outer s H vs Q E hr h => ?_)
  · obtain ⟨e, t, rfl, _⟩ := h
    rfl
  · obtain ⟨e, t, rfl, _, _, _, hd, _⟩ := h
    have := t.dep_pos
    have hd : t.dep ≤ 0 := hd
    omega
theorem TmAt.meth {H : Hp} {a : Addr} {t : Tm} (h : TmAt C H a t) : ∃ dx fs, H a = some (.ins (C.of t) dx fs) ∧ fs.lookup ("later" : Str) = none ∧ fs.lookup ("earlier" : Str) = none := by
  obtain ⟨dx, fs, sp, i⟩ := h.in_
  exact ⟨dx, fs, i.at_, i.no _ (by decide +kernel) (by decide +kernel), i.no _ (by decide +kernel) (by decide +kernel)⟩
theorem ok_built {f : Addr} {fd : FuncData} {d : Nat} (F : Fun K "_law_built" "_law_built" s_l_built f fd) (B : Blt mg) (G : B1 P w K mg base C d) (O : Ops P w K mg base C) : FnOk P w K mg base CX0 (d + 1 + 6) f fd ["model"] (spBuilt C (d + 1)) := by
  obtain ⟨fa, fda, OA, Fa, ba⟩ := O.add
  obtain ⟨fo, fdo, OO, Fo, bo⟩ := O.or_
  obtain ⟨fl, fdl, ML, Fl, bl⟩ := O.later
  obtain ⟨fe, fde, ME, Fe, be⟩ := O.earlier
  refine F.ok sc_l_built (fun vs H Q E h => ?_) (fun cdv A outer s H vs Q E hr h => ?_)
  · obtain ⟨e, t, rfl, _⟩ := h
    rfl
  · obtain ⟨e, t, rfl, hM, hN, hF, hd, q⟩ := h
    refine ⟨_, (pss_cons (ps_if (pt_cmpR op_eq (pe_ix ix_tup (pv 0) pe_int (fun _ _ => rfl)) pe_str (nomark _))
      (pss_one (ps_ret (pe_mak0 G.Now (hr.mono (by omega)) pass0)))
      pss_nil)
    (pss_cons (ps_if (pt_cmpR op_eq (pe_ix ix_tup (pv 0) pe_int (fun _ _ => rfl)) pe_str (nomark _))
      (pss_one (ps_ret (pe_op (op_int OA Fa ba pass0 (hr.mono (by omega))) (pe_cal G.law_built (hr.mono (by omega)) pass0 (pa_cons (pe_ix ix_tup (pv 0) pe_int (fun _ _ => rfl)) pa_nil)) (pe_ix ix_tup (pv 0) pe_int (fun _ _ => rfl)))))
      pss_nil)
    (pss_cons (ps_if (pt_cmpR op_eq (pe_ix ix_tup (pv 0) pe_int (fun _ _ => rfl)) pe_str (nomark _))
      (pss_one (ps_ret (pe_mak G.Last (hr.mono (by omega)) pass0 (pa_cons (pe_ix ix_tup (pv 0) pe_int (fun _ _ => rfl)) (pa_cons (pe_cal G.law_built (hr.mono (by omega)) pass0 (pa_cons (pe_ix ix_tup (pv 0) pe_int (fun _ _ => rfl)) pa_nil)) pa_nil)))))
      pss_nil)
    (pss_cons (ps_if (pt_cmpR op_eq (pe_ix ix_tup (pv 0) pe_int (fun _ _ => rfl)) pe_str (nomark _))
      (pss_one (ps_ret (pe_mak G.Next (hr.mono (by omega)) pass0 (pa_cons (pe_ix ix_tup (pv 0) pe_int (fun _ _ => rfl)) (pa_cons (pe_cal G.law_built (hr.mono (by omega)) pass0 (pa_cons (pe_ix ix_tup (pv 0) pe_int (fun _ _ => rfl)) pa_nil)) pa_nil)))))
      pss_nil)
    (pss_cons (ps_set (i := 1) sc_l_built.nd rfl (Or.inl rfl) (pe_cal G.law_built (hr.mono (by omega)) pass0 (pa_cons (pe_ix ix_tup (pv 0) pe_int (fun _ _ => rfl)) pa_nil)))
    (pss_cons (ps_set (i := 2) sc_l_built.nd rfl (Or.inl rfl) (pe_cal G.law_built (hr.mono (by omega)) pass0 (pa_cons (pe_ix ix_tup (pv 0) pe_int (fun _ _ => rfl)) pa_nil)))
    (pss_cons (ps_if (pt_cmpR op_eq (pe_ix ix_tup (pv 0) pe_int (fun _ _ => rfl)) pe_str (nomark _))
      (pss_one (ps_ret (pe_op (op_fam OO Fo bo pass0 (hr.mono (by omega))) (pv 1) (pv 2))))
      pss_nil)
    (pss_cons (ps_if (pt_cmpR op_eq (pe_ix ix_tup (pv 0) pe_int (fun _ _ => rfl)) pe_str (nomark _))
      (pss_one (ps_ret (pe_methF (pv 1) ML Fl (hr.mono (by omega)) bl pass0 (pa_cons (pv 2) pa_nil))))
      pss_nil)
    (pss_one (ps_ret (pe_methF (pv 1) ME Fe (hr.mono (by omega)) be pass0 (pa_cons (pv 2) pa_nil)))))))))))), ?_⟩
    cases t with
    | now =>
      have hM : H e = some (.tup [.str "now"]) := hM
      refine ⟨_, rfl, _, _, _, _, rfl, rfl, SqT.of hM, rfl, rfl, _, rfl, iteT ?_⟩
      exact fun x dx hx hdx hne => ⟨x, dx, rfl, upd_same, fun H' hT' hK => ⟨rfl, q x H' hT' (keep_make hK hx hdx)⟩⟩
    | shift n u =>
      obtain ⟨b, he, hu⟩ := hM
      have hd : 1 + u.dep ≤ ((d + 1 : Nat) : Int) := hd
      obtain ⟨z1, z2, z3⟩ := bt_sz u
      obtain ⟨q1, q2, q3⟩ := plus_sz (t := bt u) (n := n)
      obtain ⟨f1, f2, f3⟩ := hF
      have f1 : 1 + u.dep ≤ 12 := f1
      have f2 : 1 + u.par ≤ 40 := f2
      have f3 : 0 + u.lok ≤ 12 := f3
      refine ⟨_, rfl, _, _, _, _, rfl, rfl, SqT.of he, rfl, rfl, _, rfl, iteF ⟨_, rfl, _, _, _, _, rfl, rfl, SqT.of he, rfl, rfl, _, rfl, iteT ?_⟩⟩
      refine ⟨_, rfl, _, _, _, _, rfl, rfl, SqT.of he, rfl, b, u, rfl, hu, hN, ⟨by omega, by omega, by omega⟩, by omega, fun a1 H1 hT1 s1 => ?_⟩
      have he1 := s1 _ _ he
      obtain ⟨dx, fs, h1, _⟩ := hT1.meth
      exact ⟨_, rfl, _, _, _, _, rfl, rfl, SqT.of he1, rfl, a1, _, dx, fs, n, rfl, rfl, h1, C.is_of _, a1, bt u, n, rfl, hT1, ⟨by omega, by omega, by omega⟩, fun a2 H2 hT2 s2 => q a2 H2 hT2 (s1.trans s2)⟩
    | last z u =>
      obtain ⟨b, he, hu⟩ := hM
      have hd : 1 + u.dep ≤ ((d + 1 : Nat) : Int) := hd
      obtain ⟨z1, z2, z3⟩ := bt_sz u
      obtain ⟨f1, f2, f3⟩ := hF
      have f1 : 1 + u.dep ≤ 12 := f1
      have f2 : 1 + u.par ≤ 40 := f2
      have f3 : 1 + u.lok ≤ 12 := f3
      refine ⟨_, rfl, _, _, _, _, rfl, rfl, SqT.of he, rfl, rfl, _, rfl, iteF ⟨_, rfl, _, _, _, _, rfl, rfl, SqT.of he, rfl, rfl, _, rfl, iteF ⟨_, rfl, _, _, _, _, rfl, rfl, SqT.of he, rfl, rfl, _, rfl, iteT ?_⟩⟩⟩
      refine ⟨_, rfl, _, _, _, _, rfl, rfl, SqT.of he, rfl, _, rfl, _, _, _, _, rfl, rfl, SqT.of he, rfl, b, u, rfl, hu, hN.2, ⟨by omega, by omega, by omega⟩, by omega, fun a1 H1 hT1 s1 => ?_⟩
      exact fun x dx hx hdx hne => ⟨x, dx, a1, z, bt u, rfl, upd_same, hN.1, hT1.same (sameAt (sameAt (Same.refl H1) hdx) hx), ⟨by show 1 + (bt u).dep ≤ 12; omega, by show 1 + (bt u).par ≤ 40; omega, by show 1 + (bt u).lok ≤ 12; omega⟩, fun H' hT' hK => ⟨rfl, q x H' hT' (s1.trans (keep_make hK hx hdx))⟩⟩
    | next z u =>
      obtain ⟨b, he, hu⟩ := hM
      have hd : 1 + u.dep ≤ ((d + 1 : Nat) : Int) := hd
      obtain ⟨z1, z2, z3⟩ := bt_sz u
      obtain ⟨f1, f2, f3⟩ := hF
      have f1 : 1 + u.dep ≤ 12 := f1
      have f2 : 1 + u.par ≤ 40 := f2
      have f3 : 1 + u.lok ≤ 12 := f3
      refine ⟨_, rfl, _, _, _, _, rfl, rfl, SqT.of he, rfl, rfl, _, rfl, iteF ⟨_, rfl, _, _, _, _, rfl, rfl, SqT.of he, rfl, rfl, _, rfl, iteF ⟨_, rfl, _, _, _, _, rfl, rfl, SqT.of he, rfl, rfl, _, rfl, iteF ⟨_, rfl, _, _, _, _, rfl, rfl, SqT.of he, rfl, rfl, _, rfl, iteT ?_⟩⟩⟩⟩
      refine ⟨_, rfl, _, _, _, _, rfl, rfl, SqT.of he, rfl, _, rfl, _, _, _, _, rfl, rfl, SqT.of he, rfl, b, u, rfl, hu, hN.2, ⟨by omega, by omega, by omega⟩, by omega, fun a1 H1 hT1 s1 => ?_⟩
      exact fun x dx hx hdx hne => ⟨x, dx, a1, z, bt u, rfl, upd_same, hN.1, hT1.same (sameAt (sameAt (Same.refl H1) hdx) hx), ⟨by show 1 + (bt u).dep ≤ 12; omega, by show 1 + (bt u).par ≤ 40; omega, by show 1 + (bt u).lok ≤ 12; omega⟩, fun H' hT' hK => ⟨rfl, q x H' hT' (s1.trans (keep_make hK hx hdx))⟩⟩
    | either x y =>
      obtain ⟨b, c, he, hx, hy⟩ := hM
      have hd : 1 + Tm.mx x.dep y.dep ≤ ((d + 1 : Nat) : Int) := hd
      have m1 := Tm.mx_l x.dep y.dep
      have m2 := Tm.mx_r x.dep y.dep
      obtain ⟨z1, z2, z3⟩ := bt_sz x
      obtain ⟨y1, y2, y3⟩ := bt_sz y
      have mm := mx_mono z1 y1
      have hFF := hF
      obtain ⟨f1, f2, f3⟩ := hF
      have f1 : 1 + Tm.mx x.dep y.dep ≤ 12 := f1
      have f2 : 1 + (x.par + y.par) ≤ 40 := f2
      have f3 : 0 + (x.lok + y.lok) ≤ 12 := f3
      have p1 := x.par_pos
      have p2 := y.par_pos
      have p3 := x.lok_nn
      have p4 := y.lok_nn
      have fit : (Tm.either (bt x) (bt y)).Fit := ⟨by show 1 + Tm.mx (bt x).dep (bt y).dep ≤ 12; omega, by show 1 + ((bt x).par + (bt y).par) ≤ 40; omega, by show 0 + ((bt x).lok + (bt y).lok) ≤ 12; omega⟩
      refine ⟨_, rfl, _, _, _, _, rfl, rfl, SqT.of he, rfl, rfl, _, rfl, iteF ⟨_, rfl, _, _, _, _, rfl, rfl, SqT.of he, rfl, rfl, _, rfl, iteF ⟨_, rfl, _, _, _, _, rfl, rfl, SqT.of he, rfl, rfl, _, rfl, iteF ⟨_, rfl, _, _, _, _, rfl, rfl, SqT.of he, rfl, rfl, _, rfl, iteF ?_⟩⟩⟩⟩
      refine ⟨_, rfl, _, _, _, _, rfl, rfl, SqT.of he, rfl, b, x, rfl, hx, hN.1, ⟨by omega, by omega, by omega⟩, by omega, fun a1 H1 hT1 s1 => ?_⟩
      have he1 := s1 _ _ he
      refine ⟨_, rfl, _, _, _, _, rfl, rfl, SqT.of he1, rfl, c, y, rfl, hy.tk fun t xs h => s1 _ _ h, hN.2, ⟨by omega, by omega, by omega⟩, by omega, fun a2 H2 hT2 s2 => ?_⟩
      have hT1' := hT1.same s2
      have he2 := s2 _ _ he1
      obtain ⟨dx1, fs1, g1, g2, g3⟩ := hT1'.meth
      obtain ⟨dx2, fs2, g4, _⟩ := hT2.meth
      refine ⟨_, rfl, _, _, _, _, rfl, rfl, SqT.of he2, rfl, rfl, _, rfl, iteT ?_⟩
      exact ⟨_, rfl, _, rfl, a1, a2, _, _, dx1, dx2, fs1, fs2, rfl, rfl, g1, C.is_of _, g4, C.is_of _, a1, a2, bt x, bt y, rfl, hT1', hT2, fit, fun a3 H3 hT3 s3 => q a3 H3 hT3 ((s1.trans s2).trans s3)⟩
    | later x y =>
      obtain ⟨b, c, he, hx, hy⟩ := hM
      have hd : 1 + Tm.mx x.dep y.dep ≤ ((d + 1 : Nat) : Int) := hd
      have m1 := Tm.mx_l x.dep y.dep
      have m2 := Tm.mx_r x.dep y.dep
      obtain ⟨z1, z2, z3⟩ := bt_sz x
      obtain ⟨y1, y2, y3⟩ := bt_sz y
      have mm := mx_mono z1 y1
      have hFF := hF
      obtain ⟨f1, f2, f3⟩ := hF
      have f1 : 1 + Tm.mx x.dep y.dep ≤ 12 := f1
      have f2 : 1 + (x.par + y.par) ≤ 40 := f2
      have f3 : 0 + (x.lok + y.lok) ≤ 12 := f3
      have p1 := x.par_pos
      have p2 := y.par_pos
      have p3 := x.lok_nn
      have p4 := y.lok_nn
      have fit : (Tm.later (bt x) (bt y)).Fit := ⟨by show 1 + Tm.mx (bt x).dep (bt y).dep ≤ 12; omega, by show 1 + ((bt x).par + (bt y).par) ≤ 40; omega, by show 0 + ((bt x).lok + (bt y).lok) ≤ 12; omega⟩
      refine ⟨_, rfl, _, _, _, _, rfl, rfl, SqT.of he, rfl, rfl, _, rfl, iteF ⟨_, rfl, _, _, _, _, rfl, rfl, SqT.of he, rfl, rfl, _, rfl, iteF ⟨_, rfl, _, _, _, _, rfl, rfl, SqT.of he, rfl, rfl, _, rfl, iteF ⟨_, rfl, _, _, _, _, rfl, rfl, SqT.of he, rfl, rfl, _, rfl, iteF ?_⟩⟩⟩⟩
      refine ⟨_, rfl, _, _, _, _, rfl, rfl, SqT.of he, rfl, b, x, rfl, hx, hN.1, ⟨by omega, by omega, by omega⟩, by omega, fun a1 H1 hT1 s1 => ?_⟩
      have he1 := s1 _ _ he
      refine ⟨_, rfl, _, _, _, _, rfl, rfl, SqT.of he1, rfl, c, y, rfl, hy.tk fun t xs h => s1 _ _ h, hN.2, ⟨by omega, by omega, by omega⟩, by omega, fun a2 H2 hT2 s2 => ?_⟩
      have hT1' := hT1.same s2
      have he2 := s2 _ _ he1
      obtain ⟨dx1, fs1, g1, g2, g3⟩ := hT1'.meth
      obtain ⟨dx2, fs2, g4, _⟩ := hT2.meth
      refine ⟨_, rfl, _, _, _, _, rfl, rfl, SqT.of he2, rfl, rfl, _, rfl, iteF ⟨_, rfl, _, _, _, _, rfl, rfl, SqT.of he2, rfl, rfl, _, rfl, iteT ?_⟩⟩
      exact ⟨_, rfl, a1, _, dx1, fs1, rfl, g1, C.is_of _, g2, _, rfl, a1, a2, bt x, bt y, rfl, hT1', hT2, fit, fun a3 H3 hT3 s3 => q a3 H3 hT3 ((s1.trans s2).trans s3)⟩
    | earlier x y =>
      obtain ⟨b, c, he, hx, hy⟩ := hM
      have hd : 1 + Tm.mx x.dep y.dep ≤ ((d + 1 : Nat) : Int) := hd
      have m1 := Tm.mx_l x.dep y.dep
      have m2 := Tm.mx_r x.dep y.dep
      obtain ⟨z1, z2, z3⟩ := bt_sz x
      obtain ⟨y1, y2, y3⟩ := bt_sz y
      have mm := mx_mono z1 y1
      have hFF := hF
      obtain ⟨f1, f2, f3⟩ := hF
      have f1 : 1 + Tm.mx x.dep y.dep ≤ 12 := f1
      have f2 : 1 + (x.par + y.par) ≤ 40 := f2
      have f3 : 0 + (x.lok + y.lok) ≤ 12 := f3
      have p1 := x.par_pos
      have p2 := y.par_pos
      have p3 := x.lok_nn
      have p4 := y.lok_nn
      have fit : (Tm.earlier (bt x) (bt y)).Fit := ⟨by show 1 + Tm.mx (bt x).dep (bt y).dep ≤ 12; omega, by show 1 + ((bt x).par + (bt y).par) ≤ 40; omega, by show 0 + ((bt x).lok + (bt y).lok) ≤ 12; omega⟩
      refine ⟨_, rfl, _, _, _, _, rfl, rfl, SqT.of he, rfl, rfl, _, rfl, iteF ⟨_, rfl, _, _, _, _, rfl, rfl, SqT.of he, rfl, rfl, _, rfl, iteF ⟨_, rfl, _, _, _, _, rfl, rfl, SqT.of he, rfl, rfl, _, rfl, iteF ⟨_, rfl, _, _, _, _, rfl, rfl, SqT.of he, rfl, rfl, _, rfl, iteF ?_⟩⟩⟩⟩
      refine ⟨_, rfl, _, _, _, _, rfl, rfl, SqT.of he, rfl, b, x, rfl, hx, hN.1, ⟨by omega, by omega, by omega⟩, by omega, fun a1 H1 hT1 s1 => ?_⟩
      have he1 := s1 _ _ he
      refine ⟨_, rfl, _, _, _, _, rfl, rfl, SqT.of he1, rfl, c, y, rfl, hy.tk fun t xs h => s1 _ _ h, hN.2, ⟨by omega, by omega, by omega⟩, by omega, fun a2 H2 hT2 s2 => ?_⟩
      have hT1' := hT1.same s2
      have he2 := s2 _ _ he1
      obtain ⟨dx1, fs1, g1, g2, g3⟩ := hT1'.meth
      obtain ⟨dx2, fs2, g4, _⟩ := hT2.meth
      refine ⟨_, rfl, _, _, _, _, rfl, rfl, SqT.of he2, rfl, rfl, _, rfl, iteF ⟨_, rfl, _, _, _, _, rfl, rfl, SqT.of he2, rfl, rfl, _, rfl, iteF ?_⟩⟩
      exact ⟨_, rfl, a1, _, dx1, fs1, rfl, g1, C.is_of _, g3, _, rfl, a1, a2, bt x, bt y, rfl, hT1', hT2, fit, fun a3 H3 hT3 s3 => q a3 H3 hT3 ((s1.trans s2).trans s3)⟩
end
end Ash

set_option Elab.async false
set_option linter.all false
set_option maxRecDepth 100000
set_option maxHeartbeats 4000000
namespace Ash
open PySem PySem.Spec PyProof.Rows L2 SrtT
open C8 (pss_cut)
/-! ### questions as the laws draw them -/
def MqAt (H : Hp) (e : Addr) : Qn → Prop
  | .tm t => MdAt H e t
  | .am (.number s t) => ∃ b, H e = some (.tup [.str "number", .str s, .ref b]) ∧ MdAt H b t
  | .am (.count s t u) => ∃ b c, H e = some (.tup [.str "count", .str s, .ref b, .ref c]) ∧ MdAt H b t ∧ MdAt H c u
  | .am (.total s t u) => ∃ b c, H e = some (.tup [.str "total", .str s, .ref b, .ref c]) ∧ MdAt H b t ∧ MdAt H c u
  | .am (.gap t u) => ∃ b c, H e = some (.tup [.str "gap", .ref b, .ref c]) ∧ MdAt H b t ∧ MdAt H c u
theorem MqAt.tk {H H' : Hp} (n : ∀ t xs, H t = some (.tup xs) → H' t = some (.tup xs)) {a : Addr} : ∀ {q : Qn}, MqAt H a q → MqAt H' a q
  | .tm t, h => MdAt.tk n h
  | .am (.number s t), ⟨b, h1, h2⟩ => ⟨b, n _ _ h1, h2.tk n⟩
  | .am (.count s t u), ⟨b, c, h1, h2, h3⟩ => ⟨b, c, n _ _ h1, h2.tk n, h3.tk n⟩
  | .am (.total s t u), ⟨b, c, h1, h2, h3⟩ => ⟨b, c, n _ _ h1, h2.tk n, h3.tk n⟩
  | .am (.gap t u), ⟨b, c, h1, h2, h3⟩ => ⟨b, c, n _ _ h1, h2.tk n, h3.tk n⟩
/-- the question that is built -/
def bq : Qn → Qn
  | .tm t => .tm (bt t)
  | .am (.number s t) => .am (.number s (bt t))
  | .am (.count s t u) => .am (.count s (bt t) (bt u))
  | .am (.total s t u) => .am (.total s (bt t) (bt u))
  | .am (.gap t u) => .am (.gap (bt t) (bt u))
theorem bt_fit {t : Tm} (h : t.Fit) : (bt t).Fit := by
  obtain ⟨z1, z2, z3⟩ := bt_sz t
  obtain ⟨h1, h2, h3⟩ := h
  exact ⟨by omega, by omega, by omega⟩
theorem bq_nm : ∀ {q : Qn}, q.NmS → (bq q).NmS
  | .tm t, h => bt_nm (t := t) h
  | .am (.number s t), h => ⟨h.1, bt_nm h.2⟩
  | .am (.count s t u), h => ⟨h.1, bt_nm h.2.1, bt_nm h.2.2⟩
  | .am (.total s t u), h => ⟨h.1, bt_nm h.2.1, bt_nm h.2.2⟩
  | .am (.gap t u), h => ⟨bt_nm h.1, bt_nm h.2⟩
theorem bq_fit : ∀ {q : Qn}, q.Fit → (bq q).Fit
  | .tm t, h => bt_fit (t := t) h
  | .am (.number s t), h => bt_fit (t := t) h
  | .am (.count s t u), h => ⟨bt_fit h.1, bt_fit h.2⟩
  | .am (.total s t u), h => ⟨bt_fit h.1, bt_fit h.2⟩
  | .am (.gap t u), h => ⟨bt_fit h.1, bt_fit h.2⟩
/-- a question of so many levels -/
def LevQ : Qn → Nat → Prop
  | .tm t, d => Lev t (d + 1)
  | .am (.number s t), d => IsNm s ∧ Lev t d
  | .am (.count s t u), d => IsNm s ∧ Lev t d ∧ Lev u d
  | .am (.total s t u), d => IsNm s ∧ Lev t d ∧ Lev u d
  | .am (.gap t u), d => Lev t d ∧ Lev u d
theorem Lev.fit {t : Tm} {d : Nat} (h : Lev t d) (hd : d ≤ 4) : t.Fit := by
  have h1 := h.dep
  have h2 := h.par
  have h3 := h.lok
  have : pB d ≤ 31 ∧ lB d ≤ 8 := by
    have : d = 0 ∨ d = 1 ∨ d = 2 ∨ d = 3 ∨ d = 4 := by omega
    rcases this with rfl | rfl | rfl | rfl | rfl <;> decide
  exact ⟨by omega, by omega, by omega⟩
theorem LevQ.nm : ∀ {q : Qn} {d : Nat}, LevQ q d → q.NmS
  | .tm t, d, h => Lev.nm h
  | .am (.number s t), d, h => ⟨h.1, h.2.nm⟩
  | .am (.count s t u), d, h => ⟨h.1, h.2.1.nm, h.2.2.nm⟩
  | .am (.total s t u), d, h => ⟨h.1, h.2.1.nm, h.2.2.nm⟩
  | .am (.gap t u), d, h => ⟨h.1.nm, h.2.nm⟩
theorem LevQ.fit {d : Nat} (hd : d ≤ 3) : ∀ {q : Qn}, LevQ q d → q.Fit
  | .tm t, h => Lev.fit h (by omega)
  | .am (.number s t), h => Lev.fit h.2 (by omega)
  | .am (.count s t u), h => ⟨Lev.fit h.2.1 (by omega), Lev.fit h.2.2 (by omega)⟩
  | .am (.total s t u), h => ⟨Lev.fit h.2.1 (by omega), Lev.fit h.2.2 (by omega)⟩
  | .am (.gap t u), h => ⟨Lev.fit h.1 (by omega), Lev.fit h.2 (by omega)⟩
def Qn.InS (ns : List Str) : Qn → Prop
  | .tm t => t.InS ns
  | .am (.number s t) => s ∈ ns ∧ t.InS ns
  | .am (.count s t u) => s ∈ ns ∧ t.InS ns ∧ u.InS ns
  | .am (.total s t u) => s ∈ ns ∧ t.InS ns ∧ u.InS ns
  | .am (.gap t u) => t.InS ns ∧ u.InS ns
def spLQuest (d : Nat) : Sp := fun vs H Q _ => ∃ (p s l : Addr) (names : List Str), vs = [.ref p, .ref l, .int ((d + 1 : Nat) : Int)] ∧ PoolAt H p s ∧ l ≠ p ∧ H l = some (.lst (names.map V.str)) ∧ 1 ≤ names.length ∧ names.length ≤ 25 ∧ (∀ z ∈ names, IsNm z) ∧
  ∀ e q H', MqAt H' e q → LevQ q d → q.InS names → Pl H H' p s → Q (.ref e) H'
def spLAsked (A : AC) (C : TC) : Sp := fun vs H Q _ => ∃ (e : Addr) (q : Qn), vs = [.ref e] ∧ MqAt H e q ∧ q.NmS ∧ q.Fit ∧ ∀ a H', QAt A C H' a (bq q) → Same H H' → Q (.ref a) H'
section
variable {P : Program} {w : World} {K : PySem.W.Frag} {mg : Str → Option Value} {base : Heap} {C : TC} {CW : Addr} {A0 : AC}
structure Gq (P : Program) (w : World) (K : PySem.W.Frag) (mg : Str → Option Value) (base : Heap) (d : Nat) : Prop extends G2w P w K mg base where
  lt0 : Cal P w K mg base CX0 "_law_term" (d + 1 + 3) ["pool", "streams", "depth"] (spLTerm (d + 1))
  lt1 : Cal P w K mg base CX0 "_law_term" (d + 3) ["pool", "streams", "depth"] (spLTerm d)
abbrev s_l_question : Stmt := topS 78
theorem sc_l_question : FnScope ["pool", "streams", "depth", "kind", "first", "stream", "second"] ["pool", "streams", "depth"] (defScope s_l_question) := ⟨rfl, rfl, rfl, by decide +kernel, rfl, by decide +kernel, by decide +kernel⟩
theorem ok_lquest {f : Addr} {fd : FuncData} {d : Nat} (F : Fun K "_law_question" "_law_question" s_l_question f fd) (B : Blt mg) (G : Gq P w K mg base d) : FnOk P w K mg base CX0 (d + 5) f fd ["pool", "streams", "depth"] (spLQuest d) := by
  refine F.ok sc_l_question (fun vs H Q E h => ?_) (fun cdv A outer s H vs Q E hr h => ?_)
  · obtain ⟨p, s, l, names, rfl, _⟩ := h
    rfl
  · obtain ⟨p, s0, l, names, rfl, hP, hlp, hl, n1, n25, hnm, q⟩ := h
    refine ⟨_, (pss_cons (ps_set (i := 3) sc_l_question.nd rfl (Or.inl rfl) (pe_cal G.law_draw (hr.mono (by omega)) pass0 (pa_cons (pv 0) (pa_cons pe_int pa_nil))))
    (pss_cons (ps_if (pt_cmpR op_lt (pv 3) pe_int (nomark _))
      (pss_one (ps_ret (pe_cal G.lt0 (hr.mono (by omega)) pass0 (pa_cons (pv 0) (pa_cons (pv 1) (pa_cons (pv 2) pa_nil))))))
      pss_nil)
    (pss_cons (ps_set (i := 4) sc_l_question.nd rfl (Or.inl rfl) (pe_cal G.lt1 (hr.mono (by omega)) pass0 (pa_cons (pv 0) (pa_cons (pv 1) (pa_cons (pe_op op_sub (pv 2) pe_int) pa_nil)))))
    (pss_cons (ps_set (i := 5) sc_l_question.nd rfl (Or.inl rfl) (pe_ix ix_list (pv 1) (pe_cal G.law_draw (hr.mono (by omega)) pass0 (pa_cons (pv 0) (pa_cons (pe_callB call_len (by rfl) B.len (by decide +kernel) (pa_cons (pv 1) pa_nil)) pa_nil))) (fun _ _ => rfl)))
    (pss_cons (ps_if (pt_cmpR op_eq (pv 3) pe_int (nomark _))
      (pss_one (ps_ret (pe_tup (pa_cons pe_str (pa_cons (pv 5) (pa_cons (pv 4) pa_nil))))))
      pss_nil)
    (pss_cons (ps_set (i := 6) sc_l_question.nd rfl (Or.inl rfl) (pe_cal G.lt1 (hr.mono (by omega)) pass0 (pa_cons (pv 0) (pa_cons (pv 1) (pa_cons (pe_op op_sub (pv 2) pe_int) pa_nil)))))
    (pss_cons (ps_if (pt_cmpR op_eq (pv 3) pe_int (nomark _))
      (pss_one (ps_ret (pe_tup (pa_cons pe_str (pa_cons (pv 4) (pa_cons (pv 6) pa_nil))))))
      pss_nil)
    (pss_one (ps_ret (pe_tup (pa_cons (pe_ix ix_list (pe_lst (pa_cons pe_str (pa_cons pe_str pa_nil))) (pe_op op_sub (pv 3) pe_int) (fun _ _ => rfl)) (pa_cons (pv 5) (pa_cons (pv 4) (pa_cons (pv 6) pa_nil)))))))))))))), ?_⟩
    refine ⟨_, rfl, p, s0, 6, rfl, hP, (by decide), (by decide), fun kind H1 k0 k6 P1 => ?_⟩
    have hl1 := P1.keep hl hlp
    refine ⟨_, rfl, _, _, rfl, rfl, _, rfl, ?_⟩
    refine ite2 (fun _ => ?_) (fun c2 => ?_)
    · exact ⟨_, rfl, _, rfl, _, rfl, p, s0, l, names, rfl, P1.now, hlp, hl1, n1, n25, hnm, fun e t H2 hM L I PT => q e (.tm t) _ hM L I (P1.trans PT)⟩
    have ed : (((d + 1 : Nat) : Int) - 1) = (d : Int) := by omega
    refine ⟨_, rfl, _, rfl, _, rfl, _, _, rfl, rfl, p, s0, l, names, (by show [V.ref p, V.ref l, V.int (((d + 1 : Nat) : Int) - 1)] = _; rw [ed]), P1.now, hlp, hl1, n1, n25, hnm, fun e1 t1 H2 hM1 L1 I1 P2 => ?_⟩
    have P12 := P1.trans P2
    have hl2 := P2.keep hl1 hlp
    refine ⟨_, rfl, _, rfl, _, rfl, _, _, rfl, .inl ⟨_, SqL.of hl2, rfl⟩, p, s0, _, rfl, P2.now, (by rw [List.length_map]; omega), Int.lt_of_le_of_lt (show ((names.map V.str).length : Int) ≤ 25 by rw [List.length_map]; omega) (by decide), fun g H3 g0 g1 P3 => ?_⟩
    rw [List.length_map] at g1
    obtain ⟨j, rfl⟩ : ∃ j : Nat, g = (j : Int) := ⟨g.toNat, by omega⟩
    have hj : j < names.length := by omega
    have hz : names[j] ∈ names := List.getElem_mem hj
    generalize hzz : names[j] = z at hz
    have hl3 := P3.keep hl2 hlp
    refine ⟨_, _, _, .str z, rfl, rfl, SqL.of hl3, atI_nat (by rw [List.getElem?_map, List.getElem?_eq_getElem hj, hzz]; rfl), ?_⟩
    have P13 := P12.trans P3
    have hM3 := hM1.tk (pl_tk P2.now P3)
    refine ⟨_, rfl, rfl, _, rfl, ?_⟩
    refine ite2 (fun _ => ?_) (fun c3 => ?_)
    · exact ⟨_, rfl, _, rfl, (by show 3 ≤ sizeLine; decide), fun e he => q e (.am (.number z t1)) _ ⟨e1, upd_same, hM3.tk fun t xs h => sameAt (Same.refl H3) he _ _ h⟩ ⟨hnm z hz, L1⟩ ⟨hz, I1⟩ (P13.new he)⟩
    refine ⟨_, rfl, _, rfl, _, rfl, _, _, rfl, rfl, p, s0, l, names, (by show [V.ref p, V.ref l, V.int (((d + 1 : Nat) : Int) - 1)] = _; rw [ed]), P3.now, hlp, hl3, n1, n25, hnm, fun e2 t2 H4 hM2 L2' I2 P4 => ?_⟩
    have P14 := P13.trans P4
    have hM4 := hM3.tk (pl_tk P3.now P4)
    refine ⟨_, rfl, rfl, _, rfl, ?_⟩
    refine ite2 (fun _ => ?_) (fun c5 => ?_)
    · exact ⟨_, rfl, _, rfl, (by show 3 ≤ sizeLine; decide), fun e he => q e (.am (.gap t1 t2)) _ ⟨e1, e2, upd_same, hM4.tk fun t xs h => sameAt (Same.refl H4) he _ _ h, hM2.tk fun t xs h => sameAt (Same.refl H4) he _ _ h⟩ ⟨L1, L2'⟩ ⟨I1, I2⟩ (P14.new he)⟩
    have c2 : ¬ kind < 2 := fun z => c2 (decide_eq_true z)
    have c3 : ¬ kind = 2 := fun z => c3 (decide_eq_true (by rw [z]))
    have c5 : ¬ kind = 5 := fun z => c5 (decide_eq_true (by rw [z]))
    have k34 : kind = 3 ∨ kind = 4 := by omega
    refine ⟨(by show 2 ≤ sizeLine; decide), fun ll hll => ?_⟩
    have hMl : MdAt (upd H4 ll (.lst [.str "count", .str "total"])) e1 t1 := hM4.tk fun t xs h => sameAt (Same.refl H4) hll _ _ h
    have hMl2 : MdAt (upd H4 ll (.lst [.str "count", .str "total"])) e2 t2 := hM2.tk fun t xs h => sameAt (Same.refl H4) hll _ _ h
    have PL : Pl H (upd H4 ll (.lst [.str "count", .str "total"])) p s0 := P14.new hll
    rcases k34 with rfl | rfl
    · refine ⟨_, rfl, _, _, rfl, rfl, _, _, _, .str "count", rfl, rfl, SqL.of upd_same, rfl, _, rfl, _, rfl, _, rfl, (by show 4 ≤ sizeLine; decide), fun e he => ?_⟩
      exact q e (.am (.count z t1 t2)) _ ⟨e1, e2, upd_same, hMl.tk fun t xs h => sameAt (Same.refl _) he _ _ h, hMl2.tk fun t xs h => sameAt (Same.refl _) he _ _ h⟩ ⟨hnm z hz, L1, L2'⟩ ⟨hz, I1, I2⟩ (PL.new he)
    · refine ⟨_, rfl, _, _, rfl, rfl, _, _, _, .str "total", rfl, rfl, SqL.of upd_same, rfl, _, rfl, _, rfl, _, rfl, (by show 4 ≤ sizeLine; decide), fun e he => ?_⟩
      exact q e (.am (.total z t1 t2)) _ ⟨e1, e2, upd_same, hMl.tk fun t xs h => sameAt (Same.refl _) he _ _ h, hMl2.tk fun t xs h => sameAt (Same.refl _) he _ _ h⟩ ⟨hnm z hz, L1, L2'⟩ ⟨hz, I1, I2⟩ (PL.new he)
structure Ga (P : Program) (w : World) (K : PySem.W.Frag) (mg : Str → Option Value) (base : Heap) (A0 : AC) (C : TC) : Prop extends B1 P w K mg base C 12 where
  Number : Mak P w K mg base CX0 "Number" A0.number 3 ["self", "stream", "term"] (spInitN A0 C)
  Count : Mak P w K mg base CX0 "Count" A0.count 3 ["self", "stream", "first", "last"] (spInitC A0 C A0.count Am.count)
  Total : Mak P w K mg base CX0 "Total" A0.total 3 ["self", "stream", "first", "last"] (spInitC A0 C A0.total Am.total)
  Gap : Mak P w K mg base CX0 "Gap" A0.gap 3 ["self", "first", "last"] (spInitG A0 C)
abbrev s_l_asked : Stmt := topS 79
theorem sc_l_asked : FnScope ["model"] ["model"] (defScope s_l_asked) := ⟨rfl, rfl, rfl, by decide +kernel, rfl, by decide +kernel, by decide +kernel⟩
theorem ok_lasked {f : Addr} {fd : FuncData} (F : Fun K "_law_asked" "_law_asked" s_l_asked f fd) (B : Blt mg) (G : Ga P w K mg base A0 C) : FnOk P w K mg base CX0 20 f fd ["model"] (spLAsked A0 C) := by
  refine F.ok sc_l_asked (fun vs H Q E h => ?_) (fun cdv A outer s H vs Q E hr h => ?_)
  · obtain ⟨e, q, rfl, _⟩ := h
    rfl
  · obtain ⟨e, m, rfl, hM, hN, hF, q⟩ := h
    refine ⟨_, (pss_cons (ps_if (pt_cmpR op_eq (pe_ix ix_tup (pv 0) pe_int (fun _ _ => rfl)) pe_str (nomark _))
      (pss_one (ps_ret (pe_mak G.Number (hr.mono (by decide)) pass0 (pa_cons (pe_ix ix_tup (pv 0) pe_int (fun _ _ => rfl)) (pa_cons (pe_cal G.law_built (hr.mono (by decide)) pass0 (pa_cons (pe_ix ix_tup (pv 0) pe_int (fun _ _ => rfl)) pa_nil)) pa_nil)))))
      pss_nil)
    (pss_cons (ps_if (pt_cmpR op_eq (pe_ix ix_tup (pv 0) pe_int (fun _ _ => rfl)) pe_str (nomark _))
      (pss_one (ps_ret (pe_mak G.Count (hr.mono (by decide)) pass0 (pa_cons (pe_ix ix_tup (pv 0) pe_int (fun _ _ => rfl)) (pa_cons (pe_cal G.law_built (hr.mono (by decide)) pass0 (pa_cons (pe_ix ix_tup (pv 0) pe_int (fun _ _ => rfl)) pa_nil)) (pa_cons (pe_cal G.law_built (hr.mono (by decide)) pass0 (pa_cons (pe_ix ix_tup (pv 0) pe_int (fun _ _ => rfl)) pa_nil)) pa_nil))))))
      pss_nil)
    (pss_cons (ps_if (pt_cmpR op_eq (pe_ix ix_tup (pv 0) pe_int (fun _ _ => rfl)) pe_str (nomark _))
      (pss_one (ps_ret (pe_mak G.Total (hr.mono (by decide)) pass0 (pa_cons (pe_ix ix_tup (pv 0) pe_int (fun _ _ => rfl)) (pa_cons (pe_cal G.law_built (hr.mono (by decide)) pass0 (pa_cons (pe_ix ix_tup (pv 0) pe_int (fun _ _ => rfl)) pa_nil)) (pa_cons (pe_cal G.law_built (hr.mono (by decide)) pass0 (pa_cons (pe_ix ix_tup (pv 0) pe_int (fun _ _ => rfl)) pa_nil)) pa_nil))))))
      pss_nil)
    (pss_cons (ps_if (pt_cmpR op_eq (pe_ix ix_tup (pv 0) pe_int (fun _ _ => rfl)) pe_str (nomark _))
      (pss_one (ps_ret (pe_mak G.Gap (hr.mono (by decide)) pass0 (pa_cons (pe_cal G.law_built (hr.mono (by decide)) pass0 (pa_cons (pe_ix ix_tup (pv 0) pe_int (fun _ _ => rfl)) pa_nil)) (pa_cons (pe_cal G.law_built (hr.mono (by decide)) pass0 (pa_cons (pe_ix ix_tup (pv 0) pe_int (fun _ _ => rfl)) pa_nil)) pa_nil)))))
      pss_nil)
    (pss_one (ps_ret (pe_cal G.law_built (hr.mono (by decide)) pass0 (pa_cons (pv 0) pa_nil)))))))), ?_⟩
    cases m with
    | tm t =>
      have hF : t.Fit := hF
      have hM : MdAt H e t := hM
      have hN : t.NmS := hN
      obtain ⟨x, r, hx, n1, n2, n3, n4⟩ : ∃ x r, H e = some (.tup (.str x :: r)) ∧ x ≠ ("number" : Str) ∧ x ≠ ("count" : Str) ∧ x ≠ ("total" : Str) ∧ x ≠ ("gap" : Str) := by
        cases t with
        | now => exact ⟨_, _, hM, by decide, by decide, by decide, by decide⟩
        | shift n u => obtain ⟨b, h, _⟩ := hM; exact ⟨_, _, h, by decide, by decide, by decide, by decide⟩
        | last n u => obtain ⟨b, h, _⟩ := hM; exact ⟨_, _, h, by decide, by decide, by decide, by decide⟩
        | next n u => obtain ⟨b, h, _⟩ := hM; exact ⟨_, _, h, by decide, by decide, by decide, by decide⟩
        | either n u => obtain ⟨b, c, h, _⟩ := hM; exact ⟨_, _, h, by decide, by decide, by decide, by decide⟩
        | later n u => obtain ⟨b, c, h, _⟩ := hM; exact ⟨_, _, h, by decide, by decide, by decide, by decide⟩
        | earlier n u => obtain ⟨b, c, h, _⟩ := hM; exact ⟨_, _, h, by decide, by decide, by decide, by decide⟩
      have at0 : atI (V.str x :: r) 0 = some (V.str x) := atI_nat (xs := V.str x :: r) (j := 0) rfl
      refine ⟨_, rfl, _, _, _, _, rfl, rfl, SqT.of hx, at0, rfl, _, rfl, ite2 (fun c => absurd (V.str.inj (of_decide_eq_true c)) n1) fun _ => ?_⟩
      refine ⟨_, rfl, _, _, _, _, rfl, rfl, SqT.of hx, at0, rfl, _, rfl, ite2 (fun c => absurd (V.str.inj (of_decide_eq_true c)) n2) fun _ => ?_⟩
      refine ⟨_, rfl, _, _, _, _, rfl, rfl, SqT.of hx, at0, rfl, _, rfl, ite2 (fun c => absurd (V.str.inj (of_decide_eq_true c)) n3) fun _ => ?_⟩
      refine ⟨_, rfl, _, _, _, _, rfl, rfl, SqT.of hx, at0, rfl, _, rfl, ite2 (fun c => absurd (V.str.inj (of_decide_eq_true c)) n4) fun _ => ?_⟩
      exact ⟨_, rfl, e, t, rfl, hM, hN, hF, hF.1, fun a H' hT s => q a H' hT s⟩
    | am m =>
      cases m with
      | number z t =>
        obtain ⟨b, he, hT⟩ := hM
        have hF : t.Fit := hF
        refine ⟨_, rfl, _, _, _, _, rfl, rfl, SqT.of he, rfl, rfl, _, rfl, iteT ?_⟩
        refine ⟨_, rfl, _, _, _, _, rfl, rfl, SqT.of he, rfl, _, rfl, _, _, _, _, rfl, rfl, SqT.of he, rfl, b, t, rfl, hT, hN.2, hF, hF.1, fun a1 H1 hT1 s1 => ?_⟩
        exact fun x dx hx hdx hne => ⟨x, dx, a1, z, bt t, rfl, upd_same, hN.1, hT1.same (sameAt (sameAt (Same.refl H1) hdx) hx), bt_fit hF, fun H' hT' hK => ⟨rfl, q x H' hT' (s1.trans (keep_make hK hx hdx))⟩⟩
      | count z t u =>
        obtain ⟨b, c, he, hT, hU⟩ := hM
        refine ⟨_, rfl, _, _, _, _, rfl, rfl, SqT.of he, rfl, rfl, _, rfl, iteF ⟨_, rfl, _, _, _, _, rfl, rfl, SqT.of he, rfl, rfl, _, rfl, iteT ?_⟩⟩
        refine ⟨_, rfl, _, _, _, _, rfl, rfl, SqT.of he, rfl, _, rfl, _, _, _, _, rfl, rfl, SqT.of he, rfl, b, t, rfl, hT, hN.2.1, hF.1, hF.1.1, fun a1 H1 hT1 s1 => ?_⟩
        have he1 := s1 _ _ he
        refine ⟨_, rfl, _, _, _, _, rfl, rfl, SqT.of he1, rfl, c, u, rfl, hU.tk (fun t xs h => s1 _ _ h), hN.2.2, hF.2, hF.2.1, fun a2 H2 hT2 s2 => ?_⟩
        exact fun x dx hx hdx hne => ⟨x, dx, a1, a2, z, bt t, bt u, rfl, upd_same, hN.1, (hT1.same s2).same (sameAt (sameAt (Same.refl H2) hdx) hx), hT2.same (sameAt (sameAt (Same.refl H2) hdx) hx), bt_fit hF.1, bt_fit hF.2, fun H' hT' hK => ⟨rfl, q x H' hT' ((s1.trans s2).trans (keep_make hK hx hdx))⟩⟩
      | total z t u =>
        obtain ⟨b, c, he, hT, hU⟩ := hM
        refine ⟨_, rfl, _, _, _, _, rfl, rfl, SqT.of he, rfl, rfl, _, rfl, iteF ⟨_, rfl, _, _, _, _, rfl, rfl, SqT.of he, rfl, rfl, _, rfl, iteF ⟨_, rfl, _, _, _, _, rfl, rfl, SqT.of he, rfl, rfl, _, rfl, iteT ?_⟩⟩⟩
        refine ⟨_, rfl, _, _, _, _, rfl, rfl, SqT.of he, rfl, _, rfl, _, _, _, _, rfl, rfl, SqT.of he, rfl, b, t, rfl, hT, hN.2.1, hF.1, hF.1.1, fun a1 H1 hT1 s1 => ?_⟩
        have he1 := s1 _ _ he
        refine ⟨_, rfl, _, _, _, _, rfl, rfl, SqT.of he1, rfl, c, u, rfl, hU.tk (fun t xs h => s1 _ _ h), hN.2.2, hF.2, hF.2.1, fun a2 H2 hT2 s2 => ?_⟩
        exact fun x dx hx hdx hne => ⟨x, dx, a1, a2, z, bt t, bt u, rfl, upd_same, hN.1, (hT1.same s2).same (sameAt (sameAt (Same.refl H2) hdx) hx), hT2.same (sameAt (sameAt (Same.refl H2) hdx) hx), bt_fit hF.1, bt_fit hF.2, fun H' hT' hK => ⟨rfl, q x H' hT' ((s1.trans s2).trans (keep_make hK hx hdx))⟩⟩
      | gap t u =>
        obtain ⟨b, c, he, hT, hU⟩ := hM
        refine ⟨_, rfl, _, _, _, _, rfl, rfl, SqT.of he, rfl, rfl, _, rfl, iteF ⟨_, rfl, _, _, _, _, rfl, rfl, SqT.of he, rfl, rfl, _, rfl, iteF ⟨_, rfl, _, _, _, _, rfl, rfl, SqT.of he, rfl, rfl, _, rfl, iteF ⟨_, rfl, _, _, _, _, rfl, rfl, SqT.of he, rfl, rfl, _, rfl, iteT ?_⟩⟩⟩⟩
        refine ⟨_, rfl, _, _, _, _, rfl, rfl, SqT.of he, rfl, b, t, rfl, hT, hN.1, hF.1, hF.1.1, fun a1 H1 hT1 s1 => ?_⟩
        have he1 := s1 _ _ he
        refine ⟨_, rfl, _, _, _, _, rfl, rfl, SqT.of he1, rfl, c, u, rfl, hU.tk (fun t xs h => s1 _ _ h), hN.2, hF.2, hF.2.1, fun a2 H2 hT2 s2 => ?_⟩
        exact fun x dx hx hdx hne => ⟨x, dx, a1, a2, bt t, bt u, rfl, upd_same, (hT1.same s2).same (sameAt (sameAt (Same.refl H2) hdx) hx), hT2.same (sameAt (sameAt (Same.refl H2) hdx) hx), bt_fit hF.1, bt_fit hF.2, fun H' hT' hK => ⟨rfl, q x H' hT' ((s1.trans s2).trans (keep_make hK hx hdx))⟩⟩
end
end Ash

set_option Elab.async false
set_option linter.all false
set_option maxRecDepth 100000
set_option maxHeartbeats 4000000
namespace Ash
open PySem PySem.Spec PyProof.Rows L2 SrtT
/-! ### what a built term answers -/
theorem ev_bt (W : Tr) (now : Int) : ∀ t : Tm, ev W now (bt t) = ev W now t
  | .now => rfl
  | .last s t => by show lookR (ev W now (bt t)) _ = lookR (ev W now t) _; rw [ev_bt W now t]
  | .next s t => by show lookR (ev W now (bt t)) _ = lookR (ev W now t) _; rw [ev_bt W now t]
  | .shift n t => by show ev W now ((bt t).plus n) = moveR (ev W now t) n; rw [plus_ev, ev_bt W now t]
  | .either a b => by show eithR (ev W now (bt a)) (ev W now (bt b)) = eithR (ev W now a) (ev W now b); rw [ev_bt W now a, ev_bt W now b]
  | .later a b => by show bothR mxI (ev W now (bt a)) (ev W now (bt b)) = bothR mxI (ev W now a) (ev W now b); rw [ev_bt W now a, ev_bt W now b]
  | .earlier a b => by show bothR mnI (ev W now (bt a)) (ev W now (bt b)) = bothR mnI (ev W now a) (ev W now b); rw [ev_bt W now a, ev_bt W now b]
theorem ev_bq (W : Tr) (now : Int) : ∀ q : Qn, evQ W now (bq q) = evQ W now q
  | .tm t => ev_bt W now t
  | .am (.number s t) => by show lookA (ev W now (bt t)) _ = lookA (ev W now t) _; rw [ev_bt W now t]
  | .am (.count s t u) => by show tellR (ev W now (bt t)) (ev W now (bt u)) _ = tellR (ev W now t) (ev W now u) _; rw [ev_bt W now t, ev_bt W now u]
  | .am (.total s t u) => by show tellR (ev W now (bt t)) (ev W now (bt u)) _ = tellR (ev W now t) (ev W now u) _; rw [ev_bt W now t, ev_bt W now u]
  | .am (.gap t u) => by show tellR (ev W now (bt t)) (ev W now (bt u)) _ = tellR (ev W now t) (ev W now u) _; rw [ev_bt W now t, ev_bt W now u]
/-! ### the rows of a world are told by their set -/
theorem lex_uniq : ∀ {xs ys : List T3}, xs.Perm ys → (xs.Pairwise fun a b => lex3 a b = true) → (ys.Pairwise fun a b => lex3 a b = true) → xs = ys
  | [], ys, h, _, _ => h.nil_eq
  | x :: xs, [], h, _, _ => nomatch h.length_eq
  | x :: xs, y :: ys, h, hx, hy => by
    obtain ⟨hx1, hx2⟩ := List.pairwise_cons.mp hx
    obtain ⟨hy1, hy2⟩ := List.pairwise_cons.mp hy
    have e : x = y := by
      rcases List.mem_cons.mp (h.mem_iff.mp List.mem_cons_self) with e | e
      · exact e
      · rcases List.mem_cons.mp (h.mem_iff.mpr (List.mem_cons_self (a := y))) with e2 | e2
        · exact e2.symm
        · have a1 := lex3_iff.mp (hy1 x e)
          have a2 := lex3_iff.mp (hx1 y e2)
          omega
    subst e
    rw [lex_uniq h.cons_inv hx2 hy2]
theorem rows_same {names : List Str} {T T' W W' : Tr} (h : RowsW names T W) (h' : RowsW names T' W') (p : ∀ z ∈ names, (T' z).Perm (T z)) : W' = W := by
  funext z
  by_cases hz : z ∈ names
  · obtain ⟨a1, a2⟩ := h.1 z hz
    obtain ⟨b1, b2⟩ := h'.1 z hz
    exact lex_uniq ((b1.trans (p z hz)).trans a1.symm) b2 a2
  · rw [h.2 z hz, h'.2 z hz]
/-- the world without some rows -/
def keepW (k : Int → Bool) (W : Tr) : Tr := fun z => (W z).filter fun t => k t.2.1
theorem rows_keep {names : List Str} {T T' W W' : Tr} {k : Int → Bool} (h : RowsW names T W) (h' : RowsW names T' W') (p : ∀ z ∈ names, T' z = (T z).filter fun t => k t.2.1) : W' = keepW k W := by
  funext z
  unfold keepW
  by_cases hz : z ∈ names
  · obtain ⟨a1, a2⟩ := h.1 z hz
    obtain ⟨b1, b2⟩ := h'.1 z hz
    rw [p z hz] at b1
    exact lex_uniq (b1.trans (a1.filter _).symm) b2 (a2.filter _)
  · rw [h.2 z hz, h'.2 z hz]
    rfl
/-! ### rows that are not looked at may be left out -/
theorem last_filter {α : Type} {k : α → Bool} : ∀ {L : List α} {r : α}, L.getLast? = some r → k r = true → (L.filter k).getLast? = some r := by
  intro L r h hk
  obtain ⟨M, rfl⟩ : ∃ M, L = M ++ [r] := by
    have := List.getLast?_eq_some_iff.mp h
    exact this
  rw [List.filter_append, List.filter_cons, if_pos hk]
  simp
theorem head_filter {α : Type} {k : α → Bool} : ∀ {L : List α} {r : α}, L.head? = some r → k r = true → (L.filter k).head? = some r
  | [], r, h, _ => nomatch h
  | x :: L, r, h, hk => by
    cases h
    rw [List.filter_cons, if_pos hk]
    rfl
theorem lastR_keep {k : Int → Bool} {rs : List T3} {m : Int} (h : ∀ t, lastR rs m = some t → k t.2.1 = true) : lastR (rs.filter fun t => k t.2.1) m = lastR rs m := by
  unfold lastR at *
  rw [List.filter_filter, show (fun a : T3 => decide (a.1 ≤ m) && k a.2.1) = fun a => k a.2.1 && decide (a.1 ≤ m) from funext fun a => Bool.and_comm .., ← List.filter_filter]
  cases e : (rs.filter fun t => decide (t.1 ≤ m)).getLast? with
  | none =>
    have := List.getLast?_eq_none_iff.mp e
    rw [this]
    rfl
  | some t => exact last_filter e (h t e)
theorem nextR_keep {k : Int → Bool} {rs : List T3} {m : Int} (h : ∀ t, nextR rs m = some t → k t.2.1 = true) : nextR (rs.filter fun t => k t.2.1) m = nextR rs m := by
  unfold nextR at *
  rw [List.filter_filter, show (fun a : T3 => decide (m ≤ a.1) && k a.2.1) = fun a => k a.2.1 && decide (m ≤ a.1) from funext fun a => Bool.and_comm .., ← List.filter_filter]
  cases e : (rs.filter fun t => decide (m ≤ t.1)).head? with
  | none =>
    have := List.head?_eq_none_iff.mp e
    rw [this]
    rfl
  | some t => exact head_filter e (h t e)
theorem look_keep {k : Int → Bool} {r : Rs} {f g : Int → Option T3} (hk : ∀ i ∈ (lookR r f).2, k i = true) (h : ∀ m, (∀ t, f m = some t → k t.2.1 = true) → g m = f m) : lookR r g = lookR r f := by
  obtain ⟨a, b⟩ := r
  cases a with
  | none => rfl
  | some m =>
    have e : g m = f m := h m fun t ht => hk _ (by
      show t.2.1 ∈ (match f m with | none => (none, b) | some t => (some t.1, b ++ [t.2.1])).2
      rw [ht]
      exact List.mem_append_right _ List.mem_cons_self)
    show (match g m with | none => (none, b) | some t => (some t.1, b ++ [t.2.1])) = (match f m with | none => (none, b) | some t => (some t.1, b ++ [t.2.1]))
    rw [e]
theorem look_sub {r : Rs} {f : Int → Option T3} {i : Int} (h : i ∈ r.2) : i ∈ (lookR r f).2 := by
  unfold lookR
  split
  · exact h
  · split
    · exact h
    · exact List.mem_append_left _ h
theorem both_sub1 {f : Int → Int → Int} {r s : Rs} {i : Int} (h : i ∈ r.2) : i ∈ (bothR f r s).2 := by
  unfold bothR
  split
  · exact h
  · split
    · exact List.mem_append_left _ h
    · exact List.mem_append_left _ h
theorem both_sub2 {f : Int → Int → Int} {r s s' : Rs} (h : (∀ i ∈ s.2, i ∈ (bothR f r s).2) → s' = s) : bothR f r s' = bothR f r s := by
  obtain ⟨a, b⟩ := r
  cases a with
  | none => rfl
  | some m =>
    rw [h fun i hi => by
      show i ∈ (match s.1 with | none => (none, b ++ s.2) | some k => (some (f m k), b ++ s.2)).2
      cases s.1 <;> exact List.mem_append_right _ hi]
theorem eith_sub1 {r s : Rs} {i : Int} (h : i ∈ r.2) : i ∈ (eithR r s).2 := by
  unfold eithR
  split
  · exact h
  · exact List.mem_append_left _ h
theorem eith_sub2 {r s s' : Rs} (h : (∀ i ∈ s.2, i ∈ (eithR r s).2) → s' = s) : eithR r s' = eithR r s := by
  obtain ⟨a, b⟩ := r
  cases a with
  | some m => rfl
  | none =>
    rw [h fun i hi => List.mem_append_right _ hi]
theorem ev_keep {W : Tr} {now : Int} {k : Int → Bool} : ∀ t : Tm, (∀ i ∈ (ev W now t).2, k i = true) → ev (keepW k W) now t = ev W now t
  | .now, _ => rfl
  | .last s t, h => by
    have ih := ev_keep t fun i hi => h i (look_sub hi)
    show lookR (ev (keepW k W) now t) _ = lookR (ev W now t) _
    rw [ih]
    exact look_keep h fun m hm => lastR_keep hm
  | .next s t, h => by
    have ih := ev_keep t fun i hi => h i (look_sub hi)
    show lookR (ev (keepW k W) now t) _ = lookR (ev W now t) _
    rw [ih]
    exact look_keep h fun m hm => nextR_keep hm
  | .shift n t, h => by
    have e : (moveR (ev W now t) n).2 = (ev W now t).2 := by unfold moveR; split <;> rfl
    have ih := ev_keep t fun i hi => h i (by show i ∈ (moveR (ev W now t) n).2; rw [e]; exact hi)
    show moveR (ev (keepW k W) now t) n = _
    rw [ih]
    rfl
  | .either a b, h => by
    have ih := ev_keep a fun i hi => h i (eith_sub1 hi)
    show eithR (ev (keepW k W) now a) (ev (keepW k W) now b) = eithR (ev W now a) (ev W now b)
    rw [ih]
    exact eith_sub2 fun hs => ev_keep b fun i hi => h i (hs i hi)
  | .later a b, h => by
    have ih := ev_keep a fun i hi => h i (both_sub1 hi)
    show bothR mxI (ev (keepW k W) now a) (ev (keepW k W) now b) = bothR mxI (ev W now a) (ev W now b)
    rw [ih]
    exact both_sub2 fun hs => ev_keep b fun i hi => h i (hs i hi)
  | .earlier a b, h => by
    have ih := ev_keep a fun i hi => h i (both_sub1 hi)
    show bothR mnI (ev (keepW k W) now a) (ev (keepW k W) now b) = bothR mnI (ev W now a) (ev W now b)
    rw [ih]
    exact both_sub2 fun hs => ev_keep b fun i hi => h i (hs i hi)
theorem betw_keep {k : Int → Bool} {rs : List T3} {m n : Int} (h : ∀ t ∈ betweenR rs m n, k t.2.1 = true) : betweenR (rs.filter fun t => k t.2.1) m n = betweenR rs m n := by
  unfold betweenR at *
  rw [List.filter_filter, show (fun a : T3 => decide (m < a.1 ∧ a.1 ≤ n) && k a.2.1) = fun a => k a.2.1 && decide (m < a.1 ∧ a.1 ≤ n) from funext fun a => Bool.and_comm .., ← List.filter_filter]
  exact List.filter_eq_self.mpr h
theorem tell_sub1 {r s : Rs} {g : Int → Int → Rs} {i : Int} (h : i ∈ r.2) : i ∈ (tellR r s g).2 := by
  unfold tellR
  split
  · exact h
  · split
    · exact List.mem_append_left _ h
    · exact List.mem_append_left _ (List.mem_append_left _ h)
theorem tell_keep {k : Int → Bool} {r s s' : Rs} {g g' : Int → Int → Rs} (hk : ∀ i ∈ (tellR r s g).2, k i = true) (hs : (∀ i ∈ s.2, k i = true) → s' = s) (hg : ∀ m n, (∀ i ∈ (g m n).2, k i = true) → g' m n = g m n) : tellR r s' g' = tellR r s g := by
  obtain ⟨a, b⟩ := r
  cases a with
  | none => rfl
  | some m =>
    obtain ⟨c, d⟩ := s
    cases c with
    | none =>
      have e := hs fun i hi => hk i (List.mem_append_right _ hi)
      rw [e]
      rfl
    | some n =>
      have e := hs fun i hi => hk i (List.mem_append_left _ (List.mem_append_right _ hi))
      rw [e]
      have e2 := hg m n fun i hi => hk i (List.mem_append_right _ hi)
      show ((g' m n).1, b ++ d ++ (g' m n).2) = ((g m n).1, b ++ d ++ (g m n).2)
      rw [e2]
theorem evQ_keep {W : Tr} {now : Int} {k : Int → Bool} : ∀ q : Qn, (∀ i ∈ (evQ W now q).2, k i = true) → evQ (keepW k W) now q = evQ W now q
  | .tm t, h => ev_keep t h
  | .am (.number s t), h => by
    have sub : ∀ i ∈ (ev W now t).2, i ∈ (lookA (ev W now t) (lastR (W s))).2 := fun i hi => by
      unfold lookA
      split
      · exact hi
      · split
        · exact hi
        · exact List.mem_append_left _ hi
    have ih := ev_keep (k := k) t fun i hi => h i (sub i hi)
    show lookA (ev (keepW k W) now t) _ = lookA (ev W now t) _
    rw [ih]
    have h : ∀ i ∈ (lookA (ev W now t) (lastR (W s))).2, k i = true := h
    generalize ev W now t = r at h
    obtain ⟨a, b⟩ := r
    cases a with
    | none => rfl
    | some m =>
      have e : lastR (keepW k W s) m = lastR (W s) m := lastR_keep fun t ht => h _ (by
        show t.2.1 ∈ (match lastR (W s) m with | none => (none, b) | some t => (some t.2.2, b ++ [t.2.1])).2
        rw [ht]
        exact List.mem_append_right _ List.mem_cons_self)
      show (match lastR (keepW k W s) m with | none => (none, b) | some t => (some t.2.2, b ++ [t.2.1])) = (match lastR (W s) m with | none => (none, b) | some t => (some t.2.2, b ++ [t.2.1]))
      rw [e]
  | .am (.count s t u), h => by
    have ih := ev_keep (k := k) t fun i hi => h i (tell_sub1 hi)
    show tellR (ev (keepW k W) now t) (ev (keepW k W) now u) _ = tellR (ev W now t) (ev W now u) _
    rw [ih]
    refine tell_keep h (fun hs => ev_keep u hs) fun m n hm => ?_
    have e : betweenR (keepW k W s) m n = betweenR (W s) m n := betw_keep fun t ht => hm _ (List.mem_map_of_mem ht)
    rw [e]
  | .am (.total s t u), h => by
    have ih := ev_keep (k := k) t fun i hi => h i (tell_sub1 hi)
    show tellR (ev (keepW k W) now t) (ev (keepW k W) now u) _ = tellR (ev W now t) (ev W now u) _
    rw [ih]
    refine tell_keep h (fun hs => ev_keep u hs) fun m n hm => ?_
    have e : betweenR (keepW k W s) m n = betweenR (W s) m n := betw_keep fun t ht => hm _ (List.mem_map_of_mem ht)
    rw [e]
  | .am (.gap t u), h => by
    have ih := ev_keep (k := k) t fun i hi => h i (tell_sub1 hi)
    show tellR (ev (keepW k W) now t) (ev (keepW k W) now u) _ = tellR (ev W now t) (ev W now u) _
    rw [ih]
    exact tell_keep h (fun hs => ev_keep u hs) fun m n _ => rfl
end Ash

set_option Elab.async false
set_option linter.all false
set_option maxRecDepth 100000
set_option maxHeartbeats 4000000
namespace Ash
open PySem PySem.Spec PyProof.Rows L2 SrtT
open C8 (pss_cut)
theorem tell_len {W : Tr} {now : Int} {t u : Tm} {g : Int → Int → Rs} (h : t.Fit) (h2 : u.Fit) (hg : ∀ m n, (g m n).2.length ≤ 400) : (tellR (ev W now t) (ev W now u) g).2.length ≤ 500 := by
    have ln := ev_len (W := W) (now := now) t
    have ln2 := ev_len (W := W) (now := now) u
    have := h.2.2
    have := h2.2.2
    unfold tellR
    split
    · show (ev W now t).2.length ≤ _; omega
    · split
      · show ((ev W now t).2 ++ (ev W now u).2).length ≤ _
        rw [List.length_append]
        omega
      · next m _ _ n _ =>
        have := hg m n
        show ((ev W now t).2 ++ (ev W now u).2 ++ (g m n).2).length ≤ _
        rw [List.length_append, List.length_append]
        omega
theorem evQ_len {W : Tr} {now : Int} (hW : ∀ z, (W z).length ≤ 400) : ∀ {q : Qn}, q.Fit → (evQ W now q).2.length ≤ 500
  | .tm t, h => by
    have ln := ev_len (W := W) (now := now) t
    have h : t.Fit := h
    have := h.2.2
    show (ev W now t).2.length ≤ 500
    omega
  | .am (.number s t), h => by
    have ln := ev_len (W := W) (now := now) t
    have h : t.Fit := h
    have := h.2.2
    show (lookA (ev W now t) _).2.length ≤ 500
    unfold lookA
    split
    · show (ev W now t).2.length ≤ _; omega
    · split
      · show (ev W now t).2.length ≤ _; omega
      · show ((ev W now t).2 ++ [_]).length ≤ _
        rw [List.length_append]
        show (ev W now t).2.length + 1 ≤ _
        omega
  | .am (.count s t u), h => tell_len h.1 h.2 fun m n => by
    show ((betweenR (W s) m n).map _).length ≤ 400
    rw [List.length_map]
    exact Nat.le_trans (List.length_filter_le _ _) (hW s)
  | .am (.total s t u), h => tell_len h.1 h.2 fun m n => by
    show ((betweenR (W s) m n).map _).length ≤ 400
    rw [List.length_map]
    exact Nat.le_trans (List.length_filter_le _ _) (hW s)
  | .am (.gap t u), h => tell_len h.1 h.2 fun m n => by simp
/-- the rows that are looked at -/
def spSupport (A : AC) (C : TC) (CW : Addr) : Sp := fun vs H Q _ => ∃ (a b : Addr) (t : Qn) (W : Tr) (now : Int), vs = [.ref a, .ref b, .int now] ∧ QAt A C H a t ∧ WAt CW H b W ∧ t.NmS ∧ t.Fit ∧
  ∀ (p : Addr) (ys : List Int) H', Same H H' → H p = none → H' p = some (.lst (ys.map V.int)) → ys.Pairwise (· < ·) → ys.length ≤ 500 → (∀ z, z ∈ ys ↔ z ∈ (evQ W now t).2) → Q (.ref p) H'
section
variable {P : Program} {w : World} {K : PySem.W.Frag} {mg : Str → Option Value} {base : Heap} {C : TC} {CW : Addr} {A0 : AC}
abbrev s_support : Stmt := topS 56
theorem sc_support : FnScope ["question", "world", "now", "_", "seen"] ["question", "world", "now"] (defScope s_support) := ⟨rfl, rfl, rfl, by decide +kernel, rfl, by decide +kernel, by decide +kernel⟩
theorem ok_support {f : Addr} {fd : FuncData} (F : Fun K "support" "support" s_support f fd) (B : Blt mg) (G : U2 P w K mg base A0 C CW) : FnOk P w K mg base CX0 31 f fd ["question", "world", "now"] (spSupport A0 C CW) := by
  refine F.ok sc_support (fun vs H Q E h => ?_) (fun cdv A outer s H vs Q E hr h => ?_)
  · obtain ⟨a, b, t, W, now, rfl, _⟩ := h
    rfl
  · obtain ⟨a, b, t, W, now, rfl, hT, hW, hN, hF, q⟩ := h
    refine ⟨_, (pss_cons (ps_expr (pe_cal G.check (hr.mono (by decide)) pass0 (pa_cons (pv 0) (pa_cons (pv 1) (pa_cons (pv 2) pa_nil)))))
    (pss_cons (ps_asg (pe_cal G.answered (hr.mono (by decide)) pass0 (pa_cons (pv 0) (pa_cons (pv 1) (pa_cons (pv 2) pa_nil)))) (pg_tup (by rfl) (pgs_cons (pg_name (i := 3) sc_support.nd rfl (Or.inl rfl)) (pgs_cons (pg_name (i := 4) sc_support.nd rfl (Or.inl rfl)) pgs_nil))))
    (pss_one (ps_ret (pe_callB (cr_sortM rfl) (by rfl) B.sorted (by decide +kernel) (pa_cons (pe_callTy (cr_setL rfl) (by rfl) B.set (by decide +kernel) (pa_cons (pv 4) pa_nil)) pa_nil)))))), ?_⟩
    refine ⟨_, rfl, _, rfl, _, rfl, a, b, t, W, now, rfl, hT, hW, fun H1 s1 => ?_⟩
    refine ⟨_, rfl, _, rfl, _, rfl, a, b, t, W, now, rfl, hT.same s1, hW.same s1, hN, hF, fun q1 l H2 s2 hq1 hl => ?_⟩
    refine ⟨q1, _, rfl, SqT.of hq1, rfl, _, _, rfl, _, _, rfl, rfl, ?_⟩
    have ln := evQ_len (W := W) (now := now) (fun z => by obtain ⟨_, _, _, _, _, _, _, _, h4⟩ := id hW; exact (h4 z).1) hF
    have s12 := s1.trans s2
    generalize (evQ W now t).2 = xs at q hl ln
    have ek : (xs.map (Sum.inl : Int → Key)).map kV = xs.map V.int := by rw [List.map_map]; rfl
    refine ⟨_, rfl, l, xs.map Sum.inl, rfl, SqL.of (by rw [ek]; exact hl), by rw [List.length_map]; omega, fun p n hp hn => ?_⟩
    refine ⟨p, _, n, rfl, upd_same, .inr ⟨xs, fun k => kIn_iff, fun ys p2 hp2 ha hm hln => ?_⟩⟩
    have s3 := s12.trans (sameAt (Same.refl H2) hp (o := SetMO w p (kIn (xs.map Sum.inl)) n))
    exact q p2 ys _ (s3.trans (sameAt (Same.refl _) hp2)) (none_of s3 hp2) upd_same ha (by rw [List.length_map] at hn; omega) hm
end
end Ash

set_option Elab.async false
set_option linter.all false
set_option maxRecDepth 100000
set_option maxHeartbeats 4000000
namespace L2
open PySem PySem.Spec PyProof.Rows
variable {X : Cx} {C : Addr} {bmB : List Value} {B newId initId : String} {x : Str} {p pos : Pos}
/-- C(), C an own error without an __init__ of its own -/
theorem pmk_own0 (F : ExcBaseFacts B newId initId bmB) (q : PySem.W.excIn X.K C bmB newId = true) (gC : X.mg x = some (.ref C)) (kC : PySem.W.keepIn X.K (.ref C) = true) (r : Raises X (.ref C)) (hg : Gl X x) (hdb : (x == ("__debug__" : Str)) = false := by decide) :
    PMk X (.Call (.Name x p) [] [] pos) (fun _ H Q => Q (.ref C) none H) := by
  intro pins s σ H Q I h
  refine wpAny_Call_Name_kw (ld_glob I hg gC ?_ hdb)
  refine PySem.W.callWith_K0 I.kIn kC ?_
  obtain ⟨bm, N, nm, qn, bs, hdct, sn, sub, ab, col, dd, k0, k1, k2, k3, k5, mN, hC, hN, hni, T⟩ := exc_obj I.kIn q
  exact wpAny_call_exc_subT F T hC hN hni (fun h' e hm => mk_of I hm r h (I.hok.gone hm.new)) (Nat.zero_le _)
end L2

set_option Elab.async false
set_option linter.all false
set_option maxRecDepth 100000
set_option maxHeartbeats 4000000
namespace Ash
open PySem PySem.Spec PyProof.Rows L2
open C8 (pss_cut)
/-! ### sizes that may be refused -/
/-- what the top says of TooMany -/
structure TMy (K : PySem.W.Frag) (mg : Str → Option Value) (CT : Addr) : Prop where
  g : mg "TooMany" = some (.ref CT)
  ex : PySem.W.excIn K CT [.type "ValueError", .type "Exception", .type "BaseException", .type "object"] "ValueError.__new__" = true
  kp : PySem.W.keepIn K (.ref CT) = true
  sub : PySem.W.subIn K (.ref CT) (.type "BaseException") = some true
  ty : PySem.W.typeIn K (.ref CT) = some (.type "type")
  te : PySem.W.exmOne K (.ref CT) (.ref CT) = some true
def spSizesX (C : TC) (CT : Addr) : Sp := fun vs H Q E => ∃ (tp : Addr) (as : List Addr) (ts : List Tm) (l0 c0 : Int), vs = [.ref tp, .int l0, .int c0] ∧ H tp = some (.tup (as.map V.ref)) ∧ as.length = ts.length ∧ as.length ≤ 2 ∧ (∀ (i : Nat) a t, as[i]? = some a → ts[i]? = some t → TmAt C H a t) ∧
  ((szD ts ≤ 12 ∧ szP ts ≤ 40 ∧ l0 + szL ts ≤ 12 ∧ ∀ (q : Addr) H', Same H H' → H q = none → H' q = some (.tup [.int (szD ts), .int (szP ts), .int (l0 + szL ts), .int (c0 + szC ts)]) → Q (.ref q) H') ∨
   ((12 < szD ts ∨ 40 < szP ts ∨ 12 < l0 + szL ts) ∧ ∀ H', Same H H' → E (.ref CT) none H'))
def spInitX (C : TC) (D CT : Addr) (mk : Str → Tm → Tm) : Sp := fun vs H Q E => ∃ (b dx a : Addr) (z : Str) (t : Tm), vs = [.ref b, .str z, .ref a] ∧ H b = some (.ins D dx []) ∧ IsNm z ∧ TmAt C H a t ∧ t.Fit ∧
  (((mk z t).Fit ∧ ∀ H', TmAt C H' b (mk z t) → Keep b H H' → Q .non H') ∨ (¬ (mk z t).Fit ∧ ∀ H', Keep b H H' → E (.ref CT) none H'))
section
variable {P : Program} {w : World} {K : PySem.W.Frag} {mg : Str → Option Value} {base : Heap} {C : TC}
theorem ok_sizesX {CT : Addr} (M : TMy K mg CT) {f : Addr} {fd : FuncData} (F : Fun K "sizes" "sizes" s_sizes f fd) (B : Blt mg) (Cs : Cst mg) (T : TF K mg C) : FnOk P w K mg base (L2.CX P w) 1 f fd ["children", "looks", "choices"] (spSizesX C CT) := by
  obtain ⟨t1, g_MOST_DEPTH⟩ := Cs.k_MOST_DEPTH
  obtain ⟨t2, g_MOST_PARTS⟩ := Cs.k_MOST_PARTS
  obtain ⟨t3, g_MOST_LOOKS⟩ := Cs.k_MOST_LOOKS
  refine F.okX sc_sizes (fun vs H Q E h => ?_) (fun cdv A outer s H vs Q E hr h => ?_)
  · obtain ⟨tp, as, ts, l0, c0, rfl, _⟩ := h
    rfl
  · obtain ⟨tp, as, ts, l0, c0, rfl, ht, hl, h2, hT, q⟩ := h
    have hu9 : (A.deeper (envOfC "sizes" (defScope s_sizes) s.heap.objs.size f cdv)).units + 9 < cLine := by
      have := hr.units
      omega
    have comp : ∀ (nm : Str) (F : Tm → Int) (hF : ∀ {H2 a t dx fs sp}, TmIn C H2 a t dx fs sp → fs.lookup nm = some (.int (F t))) (hA : nm ∈ ATTRS) (H1 : Hp) (s1 : Same H H1) (D : Addr) (hD : H1 D = none) (x1 x2 x3 x4 x5 : Option V) (Qd : Hp → Prop), (∀ H2, Same H H2 → H2 D = some (.lst ((ts.map F).map V.int)) → Qd H2) →
        ∃ W : Nat → Nat → Hp → Prop, (∃ m, W 0 m (upd H1 D (.lst []))) ∧ ∀ i m H, W i m H →
          ((Itt K tp).stop i H ∧ Qd H) ∨ ((Itt K tp).go i H ∧ ∃ Nx : Hp → Prop, (∀ H', Nx H' → ∃ m', m' < m ∧ W (i + 1) m' H') ∧ ∀ x H', (Itt K tp).yld i H x H' → gName 5 x (wipe [some (.ref tp), x1, x2, x3, x4, x5] [5]) H' fun σ2 H2 => wipe σ2 [5] = wipe [some (.ref tp), x1, x2, x3, x4, x5] [5] ∧ tYes σ2 H2 fun b H3 =>
            if b = true then tFld K (tVar 5) nm σ2 H3 fun y H4 => ∃ acc, H4 D = some (.lst acc) ∧ acc.length < sizeLine ∧ Nx (upd H4 D (.lst (acc ++ [y]))) else Nx H3) := fun nm F hF hA H1 s1 D hD x1 x2 x3 x4 x5 Qd q2 => by
      refine lc_it (walk_tup (xs := as.map V.ref)) (fun i H3 => H3 D = some (.lst (((ts.take i).map F).map V.int)) ∧ Same H1 H3) ⟨upd_same, sameAt (Same.refl H1) hD⟩ (fun i H3 _ hv => SqT.of (hv.2 _ _ (s1 _ _ ht))) ?_ ?_
      · rintro i x H3 H4 hi ⟨hD3, s3⟩ ⟨rfl, hx⟩
        rw [List.length_map] at hi
        rw [List.getElem?_map, List.getElem?_eq_getElem hi, Option.map_some] at hx
        cases hx
        have hi2 : i < ts.length := by rw [← hl]; exact hi
        have ht2 := List.getElem?_eq_getElem hi2
        have hm := (hT i _ _ (List.getElem?_eq_getElem hi) ht2).same (s1.trans s3)
        obtain ⟨dx, fs, sp, In⟩ := hm.in_
        refine ⟨rfl, _, rfl, _, _, dx, fs, _, rfl, In.at_, T.cl _ (C.is_of _), T.no _ (C.is_of _) _ hA, hF In, _, hD3, ?_, ?_, sameAt s3 hD⟩
        · rw [List.length_map, List.length_map, List.length_take]
          exact small1000 (by omega)
        · rw [upd_same, list_take ht2, List.map_append, List.map_append]
          rfl
      · rintro H3 ⟨hD3, s3⟩
        rw [List.length_map, hl, List.take_length] at hD3
        exact q2 H3 (s1.trans s3) hD3
    refine ⟨_, (pss_cons (ps_set (i := 3) sc_sizes.nd rfl (Or.inl rfl) (pe_op op_add pe_int (pe_callBK (cr_maxD rfl hu9) (by rfl) B.max (by decide +kernel) (pa_cons (pe_lc (own := [("child", 5)]) (g := gName 5) (tt := tYes) (by rfl) sc_sizes.nd (pi_tup (pv 0)) (blkOk_by (own := [("child", 5)]) (N := ["children", "looks", "choices", "depth", "parts", "child"]) (sc := defScope s_sizes) (by decide +kernel)) (fun _ _ _ _ _ => (pg_name (i := 5) sc_sizes.nd rfl (Or.inl rfl))) (fun _ _ _ _ _ => pts_nil) (fun _ _ _ _ _ => (show PE _ _ (tFld K _ _) from pe_fld (pv 5) rfl))) pa_nil) (pk_cons pe_int pk_nil))))
    (pss_cons (ps_set (i := 4) sc_sizes.nd rfl (Or.inl rfl) (pe_op op_add pe_int (pe_callB (cr_sum rfl) (by rfl) B.sum (by decide +kernel) (pa_cons (pe_lc (own := [("child", 5)]) (g := gName 5) (tt := tYes) (by rfl) sc_sizes.nd (pi_tup (pv 0)) (blkOk_by (own := [("child", 5)]) (N := ["children", "looks", "choices", "depth", "parts", "child"]) (sc := defScope s_sizes) (by decide +kernel)) (fun _ _ _ _ _ => (pg_name (i := 5) sc_sizes.nd rfl (Or.inl rfl))) (fun _ _ _ _ _ => pts_nil) (fun _ _ _ _ _ => (show PE _ _ (tFld K _ _) from pe_fld (pv 5) rfl))) pa_nil))))
    (pss_cons (ps_set (i := 1) sc_sizes.nd rfl (Or.inl rfl) (pe_op op_add (pv 1) (pe_callB (cr_sum rfl) (by rfl) B.sum (by decide +kernel) (pa_cons (pe_lc (own := [("child", 5)]) (g := gName 5) (tt := tYes) (by rfl) sc_sizes.nd (pi_tup (pv 0)) (blkOk_by (own := [("child", 5)]) (N := ["children", "looks", "choices", "depth", "parts", "child"]) (sc := defScope s_sizes) (by decide +kernel)) (fun _ _ _ _ _ => (pg_name (i := 5) sc_sizes.nd rfl (Or.inl rfl))) (fun _ _ _ _ _ => pts_nil) (fun _ _ _ _ _ => (show PE _ _ (tFld K _ _) from pe_fld (pv 5) rfl))) pa_nil))))
    (pss_cons (ps_set (i := 2) sc_sizes.nd rfl (Or.inl rfl) (pe_op op_add (pv 2) (pe_callB (cr_sum rfl) (by rfl) B.sum (by decide +kernel) (pa_cons (pe_lc (own := [("child", 5)]) (g := gName 5) (tt := tYes) (by rfl) sc_sizes.nd (pi_tup (pv 0)) (blkOk_by (own := [("child", 5)]) (N := ["children", "looks", "choices", "depth", "parts", "child"]) (sc := defScope s_sizes) (by decide +kernel)) (fun _ _ _ _ _ => (pg_name (i := 5) sc_sizes.nd rfl (Or.inl rfl))) (fun _ _ _ _ _ => pts_nil) (fun _ _ _ _ _ => (show PE _ _ (tFld K _ _) from pe_fld (pv 5) rfl))) pa_nil))))
    (pss_cons (ps_if (PW.pt (pw_or (pt_cmpR op_gt (pv 3) (pe_glob (v := .int 12) (by rfl) g_MOST_DEPTH ⟨_, rfl⟩) (nomark _)) (pw_or (pt_cmpR op_gt (pv 4) (pe_glob (v := .int 40) (by rfl) g_MOST_PARTS ⟨_, rfl⟩) (nomark _)) (pw_or1 (pt_cmpR op_gt (pv 1) (pe_glob (v := .int 12) (by rfl) g_MOST_LOOKS ⟨_, rfl⟩) (nomark _))))))
      (pss_one (ps_raise rfl (takes_of rfl rfl rfl rfl) (pmk_own0 PySem.F.excBase_ValueError M.ex M.g M.kp (raises_own M.sub M.ty) (by rfl))))
      pss_nil)
    (pss_one (ps_ret (pe_tup (pa_cons (pv 3) (pa_cons (pv 4) (pa_cons (pv 1) (pa_cons (pv 2) pa_nil)))))))))))), ?_⟩
    refine ⟨_, rfl, tp, rfl, ⟨_, SqT.of ht⟩, fun D1 hD1 => comp "depth" Tm.dep (fun i => i.depth) (by decide +kernel) H (Same.refl H) D1 hD1 _ _ _ _ _ _ fun H1 s1 h1 => ?_⟩
    refine ⟨D1, ts.map Tm.dep, 0, rfl, rfl, SqL.of h1, _, _, rfl, rfl, ?_⟩
    refine ⟨_, rfl, tp, rfl, ⟨_, SqT.of (s1 _ _ ht)⟩, fun D2 hD2 => comp "parts" Tm.par (fun i => i.parts) (by decide +kernel) H1 s1 D2 hD2 _ _ _ _ _ _ fun H2 s2 h2' => ?_⟩
    refine ⟨D2, ts.map Tm.par, rfl, SqL.of h2', _, _, rfl, rfl, _, rfl, ?_⟩
    refine ⟨_, rfl, tp, rfl, ⟨_, SqT.of (s2 _ _ ht)⟩, fun D3 hD3 => comp "looks" Tm.lok (fun i => i.looks) (by decide +kernel) H2 s2 D3 hD3 _ _ _ _ _ _ fun H3 s3 h3 => ?_⟩
    refine ⟨D3, ts.map Tm.lok, rfl, SqL.of h3, _, _, rfl, rfl, _, rfl, ?_⟩
    refine ⟨_, rfl, tp, rfl, ⟨_, SqT.of (s3 _ _ ht)⟩, fun D4 hD4 => comp "choices" Tm.cho (fun i => i.choices) (by decide +kernel) H3 s3 D4 hD4 _ _ _ _ _ _ fun H4 s4 h4 => ?_⟩
    refine ⟨D4, ts.map Tm.cho, rfl, SqL.of h4, _, _, rfl, rfl, ?_⟩
    have e1 : 1 + mxD (ts.map Tm.dep) 0 = szD ts := rfl
    have e2 : 1 + (ts.map Tm.par).sum = szP ts := rfl
    have e3 : (ts.map Tm.lok).sum = szL ts := rfl
    rcases q with ⟨hd, hp, hk, q⟩ | ⟨hx, q⟩
    · have c1 : decide ((12 : Int) < 1 + mxD (ts.map Tm.dep) 0) = false := decide_eq_false (by omega)
      have c2 : decide ((40 : Int) < 1 + (ts.map Tm.par).sum) = false := decide_eq_false (by omega)
      have c3 : decide ((12 : Int) < l0 + (ts.map Tm.lok).sum) = false := decide_eq_false (by omega)
      refine ⟨_, rfl, _, _, rfl, rfl, _, rfl, ?_⟩
      rw [c1]
      refine iteF ⟨_, rfl, _, _, rfl, rfl, _, rfl, ?_⟩
      rw [c2]
      refine iteF ⟨_, rfl, _, _, rfl, rfl, _, rfl, ?_⟩
      rw [c3]
      refine iteF ⟨_, rfl, _, rfl, _, rfl, _, rfl, (by show 4 ≤ sizeLine; decide), fun t ht2 => ?_⟩
      exact q t _ (s4.trans (sameAt (Same.refl H4) ht2)) (none_of s4 ht2) upd_same
    · have gone : E (.ref CT) none H4 := q _ s4
      refine ⟨_, rfl, _, _, rfl, rfl, _, rfl, ?_⟩
      refine ite2 (fun _ => gone) (fun n1 => ?_)
      refine ⟨_, rfl, _, _, rfl, rfl, _, rfl, ?_⟩
      refine ite2 (fun _ => gone) (fun n2 => ?_)
      refine ⟨_, rfl, _, _, rfl, rfl, _, rfl, ?_⟩
      refine ite2 (fun _ => gone) (fun n3 => ?_)
      have n1 : ¬ (12 : Int) < szD ts := fun z => n1 (decide_eq_true z)
      have n2 : ¬ (40 : Int) < szP ts := fun z => n2 (decide_eq_true z)
      have n3 : ¬ (12 : Int) < l0 + szL ts := fun z => n3 (decide_eq_true z)
      omega
/-- the callees of Last.__init__ -/
structure T2X (P : Program) (w : World) (K : PySem.W.Frag) (mg : Str → Option Value) (base : Heap) (C : TC) (CT : Addr) : Prop extends T2 P w K mg base C where
  sizesX : Cal P w K mg base (L2.CX P w) "sizes" 1 ["children", "looks", "choices"] (spSizesX C CT)
theorem ok_lastX {CT : Addr} {f : Addr} {fd : FuncData} (F : Fun K "__init__" "Last.__init__" s_Last_init f fd) (B : Blt mg) (T : TF K mg C) (G : T2X P w K mg base C CT) : FnOk P w K mg base (L2.CX P w) 3 f fd ["self", "stream", "term"] (spInitX C C.last CT Tm.last) := by
  refine F.okX sc_Last_init (fun vs H Q E h => ?_) (fun cdv A outer s H vs Q E hr h => ?_)
  · obtain ⟨b, dx, a, z, t, rfl, _⟩ := h
    rfl
  · obtain ⟨b, dx, a, z, t, rfl, hb, hz, hT, hF0, q⟩ := h
    refine ⟨_, (pss_cons (ps_fld (pv 0) (pe_cal G.checked_stream (hr.mono (by decide)) pass0 (pa_cons (pv 1) pa_nil)) rfl)
    (pss_cons (ps_fld (pv 0) (pe_cal G.checked_term (hr.mono (by decide)) pass0 (pa_cons (pv 2) pa_nil)) rfl)
    (pss_cons (ps_fld (pv 0) (pe_tup (pa_cons pe_str (pa_cons (pv 1) (StX.pa_star (pe_fld (pv 2) rfl) pa_nil)))) rfl)
    (pss_one (ps_asg (pe_cal G.sizesX (hr.mono (by decide)) (passE (takes_of rfl rfl rfl rfl)) (pa_cons (pe_tup (pa_cons (pv 2) pa_nil)) (pa_cons pe_int (pa_cons pe_int pa_nil)))) (pg_tup (by rfl) (pgs_cons (pg_fld (pv 0)) (pgs_cons (pg_fld (pv 0)) (pgs_cons (pg_fld (pv 0)) (pgs_cons (pg_fld (pv 0)) pgs_nil)))))))))), ?_⟩
    obtain ⟨D, hD⟩ : ∃ D, D = C.last := ⟨_, rfl⟩
    have Is : C.Is D := by rw [hD]; exact C.is_of (.last z t)
    rw [← hD] at hb
    refine ⟨_, rfl, z, rfl, hz, fun H1 s1 => ⟨_, rfl, b, D, dx, [], rfl, s1 _ _ hb, T.cl _ Is, T.no _ Is _ (by decide +kernel), (by show 0 < 1000; decide), ?_⟩⟩
    have K1 : Keep b H (upd H1 b (.ins D dx (putF "stream" (.str z) []))) := (Keep.refl.same s1).upd
    refine ⟨_, rfl, a, t, rfl, hT.off hb K1, fun H2 s2 => ⟨_, rfl, b, D, dx, _, rfl, s2 _ _ upd_same, T.cl _ Is, T.no _ Is _ (by decide +kernel), (by show 1 < 1000; decide), ?_⟩⟩
    have K2 : Keep b H (upd H2 b (.ins D dx (putF "term" (.ref a) (putF "stream" (.str z) [])))) := (K1.same s2).upd
    obtain ⟨dx1, fs1, sp1, In⟩ := (hT.off hb K2).in_
    have sl := Tm.spell_len t
    have hF2 : t.par ≤ 40 := hF0.2.1
    refine ⟨_, rfl, _, rfl, _, _, dx1, fs1, _, rfl, In.at_, T.cl _ (C.is_of _), T.no _ (C.is_of _) _ (by decide +kernel), In.spelling, sp1, _, rfl, .inl (SqT.of In.spl), ?_, fun sp hsp => ⟨_, rfl, b, D, dx, _, rfl, sameAt (Same.refl _) hsp _ _ upd_same, T.cl _ Is, T.no _ Is _ (by decide +kernel), (by show 2 < 1000; decide), ?_⟩⟩
    · show (t.spell ++ []).length + 1 + 1 ≤ sizeLine
      rw [sizeLine_eq, List.append_nil]
      omega
    have sb : sp ≠ b := fun z => by rw [z, upd_same] at hsp; cases hsp
    have K3 := (K2.at hsp (u := .tup (.str "last" :: .str z :: (t.spell ++ [])))).upd (u := .ins D dx (putF "spelling" (.ref sp) (putF "term" (.ref a) (putF "stream" (.str z) []))))
    refine ⟨_, rfl, (by show 1 ≤ sizeLine; decide), fun tp htp => ?_⟩
    have K4 := K3.at htp (u := .tup ([a].map V.ref))
    refine ⟨tp, [a], [t], 1, 1, rfl, upd_same, rfl, (by show 1 ≤ 2; decide), (fun i a' t' h1 h2 => ?_), ?_⟩
    · 
      match i, h1, h2 with
      | 0, h1, h2 =>
        cases h1
        cases h2
        exact hT.off hb K4
      | i + 1, h1, h2 => simp at h1
    rcases q with ⟨hF, q⟩ | ⟨hF, q⟩
    rotate_left
    · refine .inr ⟨?_, fun H5 s5 => q H5 (K4.same s5)⟩
      rw [szD1, szP1, szL1]
      have hF : ¬ (1 + t.dep ≤ 12 ∧ 1 + t.par ≤ 40 ∧ 1 + t.lok ≤ 12) := hF
      omega
    refine .inl ⟨(by rw [szD1]; exact hF.1), (by rw [szP1]; exact hF.2.1), (by rw [szL1]; exact hF.2.2), fun q1 H5 s5 hq1 hq5 => ?_⟩
    have K5 := K4.same s5
    obtain ⟨fs0, hf⟩ : ∃ fs0, fs0 = putF "spelling" (.ref sp) (putF "term" (.ref a) (putF "stream" (.str z) [])) := ⟨_, rfl⟩
    have HB : H5 b = some (.ins D dx fs0) := by rw [hf]; exact s5 _ _ (sameAt (Same.refl _) htp _ _ upd_same)
    have hs5 : H5 sp = some (.tup (.str "last" :: .str z :: (t.spell ++ []))) := s5 _ _ (sameAt (Same.refl _) htp _ _ (by rw [upd_ne sb, upd_same]))
    have h0 : fs0.length ≤ 3 := by rw [hf]; exact pl (pl (pl (Nat.le_refl 0)))
    refine ⟨q1, _, rfl, SqT.of hq5, rfl, _, _, rfl, _, rfl, b, D, dx, fs0, rfl, HB, T.cl _ Is, T.no _ Is _ (by decide +kernel), Nat.lt_of_le_of_lt h0 (by decide), _, _, rfl, _, rfl, b, D, dx, _, rfl, upd_same, T.cl _ Is, T.no _ Is _ (by decide +kernel), Nat.lt_of_le_of_lt (pl h0) (by decide), _, _, rfl, _, rfl, b, D, dx, _, rfl, upd_same, T.cl _ Is, T.no _ Is _ (by decide +kernel), Nat.lt_of_le_of_lt (pl (pl h0)) (by decide), _, _, rfl, _, rfl, b, D, dx, _, rfl, upd_same, T.cl _ Is, T.no _ Is _ (by decide +kernel), Nat.lt_of_le_of_lt (pl (pl (pl h0))) (by decide), rfl, ?_⟩
    have K9 := (((K5.upd (u := .ins D dx (putF "depth" (.int (szD [t])) fs0))).upd (u := .ins D dx (putF "parts" (.int (szP [t])) (putF "depth" (.int (szD [t])) fs0)))).upd (u := .ins D dx (putF "looks" (.int (1 + szL [t])) (putF "parts" (.int (szP [t])) (putF "depth" (.int (szD [t])) fs0))))).upd (u := .ins D dx (putF "choices" (.int (1 + szC [t])) (putF "looks" (.int (1 + szL [t])) (putF "parts" (.int (szP [t])) (putF "depth" (.int (szD [t])) fs0)))))
    refine q _ ⟨dx, a, sp, ?_, ?_, hT.off hb K9⟩ K9
    · rw [upd_same, hf, pre2 (by decide +kernel), fend (by rfl) (by rfl) (by rfl) (by rfl) (by rfl), hD, szD1, szP1, szL1, szC1]
      rfl
    · rw [upd_ne sb, upd_ne sb, upd_ne sb, upd_ne sb, hs5]
      simp [Tm.spell]
theorem ok_nextX {CT : Addr} {f : Addr} {fd : FuncData} (F : Fun K "__init__" "Next.__init__" s_Next_init f fd) (B : Blt mg) (T : TF K mg C) (G : T2X P w K mg base C CT) : FnOk P w K mg base (L2.CX P w) 3 f fd ["self", "stream", "term"] (spInitX C C.next CT Tm.next) := by
  refine F.okX sc_Next_init (fun vs H Q E h => ?_) (fun cdv A outer s H vs Q E hr h => ?_)
  · obtain ⟨b, dx, a, z, t, rfl, _⟩ := h
    rfl
  · obtain ⟨b, dx, a, z, t, rfl, hb, hz, hT, hF0, q⟩ := h
    refine ⟨_, (pss_cons (ps_fld (pv 0) (pe_cal G.checked_stream (hr.mono (by decide)) pass0 (pa_cons (pv 1) pa_nil)) rfl)
    (pss_cons (ps_fld (pv 0) (pe_cal G.checked_term (hr.mono (by decide)) pass0 (pa_cons (pv 2) pa_nil)) rfl)
    (pss_cons (ps_fld (pv 0) (pe_tup (pa_cons pe_str (pa_cons (pv 1) (StX.pa_star (pe_fld (pv 2) rfl) pa_nil)))) rfl)
    (pss_one (ps_asg (pe_cal G.sizesX (hr.mono (by decide)) (passE (takes_of rfl rfl rfl rfl)) (pa_cons (pe_tup (pa_cons (pv 2) pa_nil)) (pa_cons pe_int (pa_cons pe_int pa_nil)))) (pg_tup (by rfl) (pgs_cons (pg_fld (pv 0)) (pgs_cons (pg_fld (pv 0)) (pgs_cons (pg_fld (pv 0)) (pgs_cons (pg_fld (pv 0)) pgs_nil)))))))))), ?_⟩
    obtain ⟨D, hD⟩ : ∃ D, D = C.next := ⟨_, rfl⟩
    have Is : C.Is D := by rw [hD]; exact C.is_of (.next z t)
    rw [← hD] at hb
    refine ⟨_, rfl, z, rfl, hz, fun H1 s1 => ⟨_, rfl, b, D, dx, [], rfl, s1 _ _ hb, T.cl _ Is, T.no _ Is _ (by decide +kernel), (by show 0 < 1000; decide), ?_⟩⟩
    have K1 : Keep b H (upd H1 b (.ins D dx (putF "stream" (.str z) []))) := (Keep.refl.same s1).upd
    refine ⟨_, rfl, a, t, rfl, hT.off hb K1, fun H2 s2 => ⟨_, rfl, b, D, dx, _, rfl, s2 _ _ upd_same, T.cl _ Is, T.no _ Is _ (by decide +kernel), (by show 1 < 1000; decide), ?_⟩⟩
    have K2 : Keep b H (upd H2 b (.ins D dx (putF "term" (.ref a) (putF "stream" (.str z) [])))) := (K1.same s2).upd
    obtain ⟨dx1, fs1, sp1, In⟩ := (hT.off hb K2).in_
    have sl := Tm.spell_len t
    have hF2 : t.par ≤ 40 := hF0.2.1
    refine ⟨_, rfl, _, rfl, _, _, dx1, fs1, _, rfl, In.at_, T.cl _ (C.is_of _), T.no _ (C.is_of _) _ (by decide +kernel), In.spelling, sp1, _, rfl, .inl (SqT.of In.spl), ?_, fun sp hsp => ⟨_, rfl, b, D, dx, _, rfl, sameAt (Same.refl _) hsp _ _ upd_same, T.cl _ Is, T.no _ Is _ (by decide +kernel), (by show 2 < 1000; decide), ?_⟩⟩
    · show (t.spell ++ []).length + 1 + 1 ≤ sizeLine
      rw [sizeLine_eq, List.append_nil]
      omega
    have sb : sp ≠ b := fun z => by rw [z, upd_same] at hsp; cases hsp
    have K3 := (K2.at hsp (u := .tup (.str "next" :: .str z :: (t.spell ++ [])))).upd (u := .ins D dx (putF "spelling" (.ref sp) (putF "term" (.ref a) (putF "stream" (.str z) []))))
    refine ⟨_, rfl, (by show 1 ≤ sizeLine; decide), fun tp htp => ?_⟩
    have K4 := K3.at htp (u := .tup ([a].map V.ref))
    refine ⟨tp, [a], [t], 1, 1, rfl, upd_same, rfl, (by show 1 ≤ 2; decide), (fun i a' t' h1 h2 => ?_), ?_⟩
    · 
      match i, h1, h2 with
      | 0, h1, h2 =>
        cases h1
        cases h2
        exact hT.off hb K4
      | i + 1, h1, h2 => simp at h1
    rcases q with ⟨hF, q⟩ | ⟨hF, q⟩
    rotate_left
    · refine .inr ⟨?_, fun H5 s5 => q H5 (K4.same s5)⟩
      rw [szD1, szP1, szL1]
      have hF : ¬ (1 + t.dep ≤ 12 ∧ 1 + t.par ≤ 40 ∧ 1 + t.lok ≤ 12) := hF
      omega
    refine .inl ⟨(by rw [szD1]; exact hF.1), (by rw [szP1]; exact hF.2.1), (by rw [szL1]; exact hF.2.2), fun q1 H5 s5 hq1 hq5 => ?_⟩
    have K5 := K4.same s5
    obtain ⟨fs0, hf⟩ : ∃ fs0, fs0 = putF "spelling" (.ref sp) (putF "term" (.ref a) (putF "stream" (.str z) [])) := ⟨_, rfl⟩
    have HB : H5 b = some (.ins D dx fs0) := by rw [hf]; exact s5 _ _ (sameAt (Same.refl _) htp _ _ upd_same)
    have hs5 : H5 sp = some (.tup (.str "next" :: .str z :: (t.spell ++ []))) := s5 _ _ (sameAt (Same.refl _) htp _ _ (by rw [upd_ne sb, upd_same]))
    have h0 : fs0.length ≤ 3 := by rw [hf]; exact pl (pl (pl (Nat.le_refl 0)))
    refine ⟨q1, _, rfl, SqT.of hq5, rfl, _, _, rfl, _, rfl, b, D, dx, fs0, rfl, HB, T.cl _ Is, T.no _ Is _ (by decide +kernel), Nat.lt_of_le_of_lt h0 (by decide), _, _, rfl, _, rfl, b, D, dx, _, rfl, upd_same, T.cl _ Is, T.no _ Is _ (by decide +kernel), Nat.lt_of_le_of_lt (pl h0) (by decide), _, _, rfl, _, rfl, b, D, dx, _, rfl, upd_same, T.cl _ Is, T.no _ Is _ (by decide +kernel), Nat.lt_of_le_of_lt (pl (pl h0)) (by decide), _, _, rfl, _, rfl, b, D, dx, _, rfl, upd_same, T.cl _ Is, T.no _ Is _ (by decide +kernel), Nat.lt_of_le_of_lt (pl (pl (pl h0))) (by decide), rfl, ?_⟩
    have K9 := (((K5.upd (u := .ins D dx (putF "depth" (.int (szD [t])) fs0))).upd (u := .ins D dx (putF "parts" (.int (szP [t])) (putF "depth" (.int (szD [t])) fs0)))).upd (u := .ins D dx (putF "looks" (.int (1 + szL [t])) (putF "parts" (.int (szP [t])) (putF "depth" (.int (szD [t])) fs0))))).upd (u := .ins D dx (putF "choices" (.int (1 + szC [t])) (putF "looks" (.int (1 + szL [t])) (putF "parts" (.int (szP [t])) (putF "depth" (.int (szD [t])) fs0)))))
    refine q _ ⟨dx, a, sp, ?_, ?_, hT.off hb K9⟩ K9
    · rw [upd_same, hf, pre2 (by decide +kernel), fend (by rfl) (by rfl) (by rfl) (by rfl) (by rfl), hD, szD1, szP1, szL1, szC1]
      rfl
    · rw [upd_ne sb, upd_ne sb, upd_ne sb, upd_ne sb, hs5]
      simp [Tm.spell]
end
end Ash

set_option Elab.async false
set_option linter.all false
set_option maxRecDepth 100000
set_option maxHeartbeats 4000000
namespace Ash
open PySem PySem.Spec PyProof.Rows L2 SrtT
open C8 (pss_cut)
/-! ### a term in the place of now -/
def Tm.sub (u : Tm) : Tm → Tm
  | .now => u
  | .last s t => .last s (Tm.sub u t)
  | .next s t => .next s (Tm.sub u t)
  | .shift n t => (Tm.sub u t).plus n
  | .either a b => .either (Tm.sub u a) (Tm.sub u b)
  | .later a b => .later (Tm.sub u a) (Tm.sub u b)
  | .earlier a b => .earlier (Tm.sub u a) (Tm.sub u b)
/-- all that is made on the way fits -/
def Tm.Sok (u : Tm) : Tm → Prop
  | .now => True
  | .last s t => Tm.Sok u t ∧ (Tm.last s (Tm.sub u t)).Fit
  | .next s t => Tm.Sok u t ∧ (Tm.next s (Tm.sub u t)).Fit
  | .shift n t => Tm.Sok u t ∧ ((Tm.sub u t).plus n).Fit
  | .either a b => Tm.Sok u a ∧ Tm.Sok u b ∧ (Tm.either (Tm.sub u a) (Tm.sub u b)).Fit
  | .later a b => Tm.Sok u a ∧ Tm.Sok u b ∧ (Tm.later (Tm.sub u a) (Tm.sub u b)).Fit
  | .earlier a b => Tm.Sok u a ∧ Tm.Sok u b ∧ (Tm.earlier (Tm.sub u a) (Tm.sub u b)).Fit
def Tm.Chain : Tm → Prop
  | .now => True
  | .last _ t => Tm.Chain t
  | .next _ t => Tm.Chain t
  | _ => False
theorem sok_fit {u : Tm} (hu : u.Fit) : ∀ {t : Tm}, Tm.Sok u t → (Tm.sub u t).Fit
  | .now, _ => hu
  | .last _ _, h => h.2
  | .next _ _, h => h.2
  | .shift _ _, h => h.2
  | .either _ _, h => h.2.2
  | .later _ _, h => h.2.2
  | .earlier _ _, h => h.2.2
def Tm.isLast : Tm → Bool
  | .last _ _ => true
  | _ => false
def Tm.isNext : Tm → Bool
  | .next _ _ => true
  | _ => false
def Tm.isEarl : Tm → Bool
  | .earlier _ _ => true
  | _ => false
theorem TD.last_ {C : TC} (D : TD C) (t : Tm) : decide (C.of t = C.last) = t.isLast := by
  have h := D.nd
  simp only [List.nodup_cons, List.mem_cons, List.not_mem_nil, or_false, not_or] at h
  obtain ⟨⟨a1, a2, a3, a4, a5, a6⟩, ⟨b1, b2, b3, b4, b5⟩, _⟩ := h
  cases t <;> simp [TC.of, Tm.isLast, a1, Ne.symm b1, Ne.symm b2, Ne.symm b3, Ne.symm b4, Ne.symm b5]
theorem TD.next_ {C : TC} (D : TD C) (t : Tm) : decide (C.of t = C.next) = t.isNext := by
  have h := D.nd
  simp only [List.nodup_cons, List.mem_cons, List.not_mem_nil, or_false, not_or] at h
  obtain ⟨⟨a1, a2, a3, a4, a5, a6⟩, ⟨b1, b2, b3, b4, b5⟩, ⟨c1, c2, c3, c4⟩, _⟩ := h
  cases t <;> simp [TC.of, Tm.isNext, a2, b1, Ne.symm c1, Ne.symm c2, Ne.symm c3, Ne.symm c4]
theorem TD.earl_ {C : TC} (D : TD C) (t : Tm) : decide (C.of t = C.earlier) = t.isEarl := by
  have h := D.nd
  simp only [List.nodup_cons, List.mem_cons, List.not_mem_nil, or_false, not_or] at h
  obtain ⟨⟨a1, a2, a3, a4, a5, a6⟩, ⟨b1, b2, b3, b4, b5⟩, ⟨c1, c2, c3, c4⟩, ⟨d1, d2, d3⟩, ⟨e1, e2⟩, f1, _⟩ := h
  cases t <;> simp [TC.of, Tm.isEarl, a6, b5, c4, d3, e2, f1]
def spTF (C : TC) (CT : Addr) (d : Nat) : Sp := fun vs H Q E => ∃ (a b : Addr) (t u : Tm), vs = [.ref a, .ref b] ∧ TmAt C H a t ∧ TmAt C H b u ∧ t.NmS ∧ u.Fit ∧ t.dep ≤ (d : Int) ∧
  ((Tm.Sok u t ∧ ∀ a' H', TmAt C H' a' (Tm.sub u t) → Same H H' → Q (.ref a') H') ∨ (¬ Tm.Sok u t ∧ t.Chain ∧ ∀ H', Same H H' → E (.ref CT) none H'))
section
variable {P : Program} {w : World} {K : PySem.W.Frag} {mg : Str → Option Value} {base : Heap} {C : TC} {CT : Addr}
structure S0 (P : Program) (w : World) (K : PySem.W.Frag) (mg : Str → Option Value) (base : Heap) (C : TC) (CT : Addr) : Prop where
  Last : Mak P w K mg base (L2.CX P w) "Last" C.last 3 ["self", "stream", "term"] (spInitX C C.last CT Tm.last)
  Next : Mak P w K mg base (L2.CX P w) "Next" C.next 3 ["self", "stream", "term"] (spInitX C C.next CT Tm.next)
structure S1 (P : Program) (w : World) (K : PySem.W.Frag) (mg : Str → Option Value) (base : Heap) (C : TC) (CT : Addr) (d : Nat) : Prop extends S0 P w K mg base C CT where
  term_from : Cal P w K mg base (L2.CX P w) "term_from" (d + 6) ["inside", "term"] (spTF C CT d)
abbrev s_term_from : Stmt := topS 69
theorem sc_term_from : FnScope ["inside", "term", "first", "second"] ["inside", "term"] (defScope s_term_from) := ⟨rfl, rfl, rfl, by decide +kernel, rfl, by decide +kernel, by decide +kernel⟩
theorem ok_tf0 {f : Addr} {fd : FuncData} (F : Fun K "term_from" "term_from" s_term_from f fd) : FnOk P w K mg base (L2.CX P w) (0 + 6) f fd ["inside", "term"] (spTF C CT 0) := by
  refine F.okX sc_term_from (fun vs H Q E h => ?_) (fun cdv A outer s H vs Q E hr h => ?_)
  · obtain ⟨a, b, t, u, rfl, _⟩ := h
    rfl
  · obtain ⟨a, b, t, u, rfl, _, _, _, _, hd, _⟩ := h
    have := t.dep_pos
    have hd : t.dep ≤ 0 := hd
    omega
theorem ok_tf {f : Addr} {fd : FuncData} {d : Nat} (F : Fun K "term_from" "term_from" s_term_from f fd) (B : Blt mg) (T : TF K mg C) (D : TD C) (G : S1 P w K mg base C CT d) (O : Ops P w K mg base C) : FnOk P w K mg base (L2.CX P w) (d + 1 + 6) f fd ["inside", "term"] (spTF C CT (d + 1)) := by
  obtain ⟨t_cl, t_no, t_ty, t_one, c_Now, c_Last, c_Next, c_Shift, c_Either, c_Later, c_Earlier⟩ := id T
  obtain ⟨fa, fda, OA, Fa, ba⟩ := O.add
  obtain ⟨fo, fdo, OO, Fo, bo⟩ := O.or_
  obtain ⟨fl, fdl, ML, Fl, bl⟩ := O.later
  obtain ⟨fe, fde, ME, Fe, be⟩ := O.earlier
  refine F.okX sc_term_from (fun vs H Q E h => ?_) (fun cdv A outer s H vs Q E hr h => ?_)
  · obtain ⟨a, b, t, u, rfl, _⟩ := h
    rfl
  · obtain ⟨a, b, t, u, rfl, hT, hU, hN, hFu, hd, q⟩ := h
    refine ⟨_, (pss_cons (ps_if (pt_val (pe_callB call_isi (by rfl) B.isinstance (by decide +kernel) (pa_cons (pv 0) (pa_cons (pe_glob (v := .ref C.now) (by rfl) c_Now rfl) pa_nil))))
      (pss_one (ps_ret (pv 1)))
      pss_nil)
    (pss_cons (ps_if (pt_val (pe_callB call_isi (by rfl) B.isinstance (by decide +kernel) (pa_cons (pv 0) (pa_cons (pe_glob (v := .ref C.last) (by rfl) c_Last rfl) pa_nil))))
      (pss_one (ps_ret (pe_mak G.Last (hr.mono (by omega)) (passE (takes_of rfl rfl rfl rfl)) (pa_cons (pe_fld (pv 0) rfl) (pa_cons (pe_cal G.term_from (hr.mono (by omega)) (passE (takes_of rfl rfl rfl rfl)) (pa_cons (pe_fld (pv 0) rfl) (pa_cons (pv 1) pa_nil))) pa_nil)))))
      pss_nil)
    (pss_cons (ps_if (pt_val (pe_callB call_isi (by rfl) B.isinstance (by decide +kernel) (pa_cons (pv 0) (pa_cons (pe_glob (v := .ref C.next) (by rfl) c_Next rfl) pa_nil))))
      (pss_one (ps_ret (pe_mak G.Next (hr.mono (by omega)) (passE (takes_of rfl rfl rfl rfl)) (pa_cons (pe_fld (pv 0) rfl) (pa_cons (pe_cal G.term_from (hr.mono (by omega)) (passE (takes_of rfl rfl rfl rfl)) (pa_cons (pe_fld (pv 0) rfl) (pa_cons (pv 1) pa_nil))) pa_nil)))))
      pss_nil)
    (pss_cons (ps_if (pt_val (pe_callB call_isi (by rfl) B.isinstance (by decide +kernel) (pa_cons (pv 0) (pa_cons (pe_glob (v := .ref C.shift) (by rfl) c_Shift rfl) pa_nil))))
      (pss_one (ps_ret (pe_op (op_int OA Fa ba pass0 (hr.mono (by omega))) (pe_cal G.term_from (hr.mono (by omega)) (passE (takes_of rfl rfl rfl rfl)) (pa_cons (pe_fld (pv 0) rfl) (pa_cons (pv 1) pa_nil))) (pe_fld (pv 0) rfl))))
      pss_nil)
    (pss_cons (ps_set (i := 2) sc_term_from.nd rfl (Or.inl rfl) (pe_cal G.term_from (hr.mono (by omega)) (passE (takes_of rfl rfl rfl rfl)) (pa_cons (pe_fld (pv 0) rfl) (pa_cons (pv 1) pa_nil))))
    (pss_cons (ps_set (i := 3) sc_term_from.nd rfl (Or.inl rfl) (pe_cal G.term_from (hr.mono (by omega)) (passE (takes_of rfl rfl rfl rfl)) (pa_cons (pe_fld (pv 0) rfl) (pa_cons (pv 1) pa_nil))))
    (pss_cons (ps_if (pt_val (pe_callB call_isi (by rfl) B.isinstance (by decide +kernel) (pa_cons (pv 0) (pa_cons (pe_glob (v := .ref C.either) (by rfl) c_Either rfl) pa_nil))))
      (pss_one (ps_ret (pe_op (op_fam OO Fo bo pass0 (hr.mono (by omega))) (pv 2) (pv 3))))
      pss_nil)
    (pss_cons (ps_if (pt_val (pe_callB call_isi (by rfl) B.isinstance (by decide +kernel) (pa_cons (pv 0) (pa_cons (pe_glob (v := .ref C.earlier) (by rfl) c_Earlier rfl) pa_nil))))
      (pss_one (ps_ret (pe_methF (pv 2) ME Fe (hr.mono (by omega)) be pass0 (pa_cons (pv 3) pa_nil))))
      pss_nil)
    (pss_one (ps_ret (pe_methF (pv 2) ML Fl (hr.mono (by omega)) bl pass0 (pa_cons (pv 3) pa_nil)))))))))))), ?_⟩
    have tx := T.tyx hT
    have k0 := T.one (C.of t) C.now (C.is_of t) (C.is_of .now)
    have k1 := T.one (C.of t) C.last (C.is_of t) (C.is_of (.last "" .now))
    have k2 := T.one (C.of t) C.next (C.is_of t) (C.is_of (.next "" .now))
    have k3 := T.one (C.of t) C.shift (C.is_of t) (C.is_of (.shift 0 .now))
    have k4 := T.one (C.of t) C.either (C.is_of t) (C.is_of (.either .now .now))
    have k5 := T.one (C.of t) C.earlier (C.is_of t) (C.is_of (.earlier .now .now))
    rw [D.now_ t] at k0
    rw [D.last_ t] at k1
    rw [D.next_ t] at k2
    rw [D.shift t] at k3
    rw [D.eith t] at k4
    rw [D.earl_ t] at k5
    refine ⟨_, rfl, _, _, _, _, _, rfl, .own _, tx, k0, _, rfl, ?_⟩
    cases t with
    | now =>
      rcases q with ⟨_, q⟩ | ⟨ns, _⟩
      · exact iteT ⟨_, rfl, q b H hU (Same.refl H)⟩
      · exact absurd trivial ns
    | last z t =>
      have hd : 1 + t.dep ≤ ((d + 1 : Nat) : Int) := hd
      obtain ⟨dx, b1, sp, h1, h2, h3⟩ := id hT
      have Is : C.Is C.last := C.is_of (.last z t)
      refine iteF ⟨_, rfl, _, _, _, _, _, rfl, .own _, tx, k1, _, rfl, iteT ?_⟩
      refine ⟨_, rfl, a, C.last, dx, _, _, rfl, h1, T.cl _ Is, T.no _ Is _ (by decide +kernel), rfl, _, rfl, a, C.last, dx, _, _, rfl, h1, T.cl _ Is, T.no _ Is _ (by decide +kernel), rfl, _, rfl, b1, b, t, u, rfl, h3, hU, hN.2, hFu, by omega, ?_⟩
      rcases q with ⟨so, q⟩ | ⟨ns, ch, q⟩
      · exact .inl ⟨so.1, fun a1 H1 hT1 s1 x dx2 hx hdx hne => ⟨x, dx2, a1, z, _, rfl, upd_same, hN.1, hT1.same (sameAt (sameAt (Same.refl H1) hdx) hx), sok_fit hFu so.1, .inl ⟨so.2, fun H' hT' hK => ⟨rfl, q x H' hT' (s1.trans (keep_make hK hx hdx))⟩⟩⟩⟩
      · rcases Classical.em (Tm.Sok u t) with so | so
        · exact .inl ⟨so, fun a1 H1 hT1 s1 x dx2 hx hdx hne => ⟨x, dx2, a1, z, _, rfl, upd_same, hN.1, hT1.same (sameAt (sameAt (Same.refl H1) hdx) hx), sok_fit hFu so, .inr ⟨fun f => ns ⟨so, f⟩, fun H' hK => q H' (s1.trans (keep_make hK hx hdx))⟩⟩⟩
        · exact .inr ⟨so, ch, q⟩
    | next z t =>
      have hd : 1 + t.dep ≤ ((d + 1 : Nat) : Int) := hd
      obtain ⟨dx, b1, sp, h1, h2, h3⟩ := id hT
      have Is : C.Is C.next := C.is_of (.next z t)
      refine iteF ⟨_, rfl, _, _, _, _, _, rfl, .own _, tx, k1, _, rfl, iteF ⟨_, rfl, _, _, _, _, _, rfl, .own _, tx, k2, _, rfl, iteT ?_⟩⟩
      refine ⟨_, rfl, a, C.next, dx, _, _, rfl, h1, T.cl _ Is, T.no _ Is _ (by decide +kernel), rfl, _, rfl, a, C.next, dx, _, _, rfl, h1, T.cl _ Is, T.no _ Is _ (by decide +kernel), rfl, _, rfl, b1, b, t, u, rfl, h3, hU, hN.2, hFu, by omega, ?_⟩
      rcases q with ⟨so, q⟩ | ⟨ns, ch, q⟩
      · exact .inl ⟨so.1, fun a1 H1 hT1 s1 x dx2 hx hdx hne => ⟨x, dx2, a1, z, _, rfl, upd_same, hN.1, hT1.same (sameAt (sameAt (Same.refl H1) hdx) hx), sok_fit hFu so.1, .inl ⟨so.2, fun H' hT' hK => ⟨rfl, q x H' hT' (s1.trans (keep_make hK hx hdx))⟩⟩⟩⟩
      · rcases Classical.em (Tm.Sok u t) with so | so
        · exact .inl ⟨so, fun a1 H1 hT1 s1 x dx2 hx hdx hne => ⟨x, dx2, a1, z, _, rfl, upd_same, hN.1, hT1.same (sameAt (sameAt (Same.refl H1) hdx) hx), sok_fit hFu so, .inr ⟨fun f => ns ⟨so, f⟩, fun H' hK => q H' (s1.trans (keep_make hK hx hdx))⟩⟩⟩
        · exact .inr ⟨so, ch, q⟩
    | shift n t =>
      have hd : 1 + t.dep ≤ ((d + 1 : Nat) : Int) := hd
      obtain ⟨dx, b1, sp, h1, h2, h3⟩ := id hT
      have Is : C.Is C.shift := C.is_of (.shift n t)
      rcases q with ⟨so, q⟩ | ⟨_, ch, _⟩
      rotate_left
      · exact absurd ch id
      refine iteF ⟨_, rfl, _, _, _, _, _, rfl, .own _, tx, k1, _, rfl, iteF ⟨_, rfl, _, _, _, _, _, rfl, .own _, tx, k2, _, rfl, iteF ⟨_, rfl, _, _, _, _, _, rfl, .own _, tx, k3, _, rfl, iteT ?_⟩⟩⟩
      refine ⟨_, rfl, a, C.shift, dx, _, _, rfl, h1, T.cl _ Is, T.no _ Is _ (by decide +kernel), rfl, _, rfl, b1, b, t, u, rfl, h3, hU, hN, hFu, by omega, .inl ⟨so.1, fun a1 H1 hT1 s1 => ?_⟩⟩
      obtain ⟨dx1, fs1, g1, _⟩ := hT1.meth
      exact ⟨_, rfl, a, C.shift, dx, _, _, rfl, s1 _ _ h1, T.cl _ Is, T.no _ Is _ (by decide +kernel), rfl, a1, _, dx1, fs1, n, rfl, rfl, g1, C.is_of _, a1, _, n, rfl, hT1, so.2, fun a2 H2 hT2 s2 => q a2 H2 hT2 (s1.trans s2)⟩
    | either x y =>
      have hd : 1 + Tm.mx x.dep y.dep ≤ ((d + 1 : Nat) : Int) := hd
      have m1 := Tm.mx_l x.dep y.dep
      have m2 := Tm.mx_r x.dep y.dep
      obtain ⟨dx, b1, b2, sp, h1, h2, h3, h4⟩ := id hT
      have Is : C.Is C.either := C.is_of (.either x y)
      rcases q with ⟨so, q⟩ | ⟨_, ch, _⟩
      rotate_left
      · exact absurd ch id
      refine iteF ⟨_, rfl, _, _, _, _, _, rfl, .own _, tx, k1, _, rfl, iteF ⟨_, rfl, _, _, _, _, _, rfl, .own _, tx, k2, _, rfl, iteF ⟨_, rfl, _, _, _, _, _, rfl, .own _, tx, k3, _, rfl, iteF ?_⟩⟩⟩
      refine ⟨_, rfl, a, C.either, dx, _, _, rfl, h1, T.cl _ Is, T.no _ Is _ (by decide +kernel), rfl, _, rfl, b1, b, x, u, rfl, h3, hU, hN.1, hFu, by omega, .inl ⟨so.1, fun a1 H1 hT1 s1 => ?_⟩⟩
      refine ⟨_, rfl, a, C.either, dx, _, _, rfl, s1 _ _ h1, T.cl _ Is, T.no _ Is _ (by decide +kernel), rfl, _, rfl, b2, b, y, u, rfl, h4.same s1, hU.same s1, hN.2, hFu, by omega, .inl ⟨so.2.1, fun a2 H2 hT2 s2 => ?_⟩⟩
      have hT1' := hT1.same s2
      obtain ⟨dx1, fs1, g1, g2, g3⟩ := hT1'.meth
      obtain ⟨dx2, fs2, g4, _⟩ := hT2.meth
      refine ⟨_, rfl, _, _, _, _, _, rfl, .own _, T.tyx (hT.same (s1.trans s2)), k4, _, rfl, iteT ?_⟩
      exact ⟨_, rfl, _, rfl, a1, a2, _, _, dx1, dx2, fs1, fs2, rfl, rfl, g1, C.is_of _, g4, C.is_of _, a1, a2, _, _, rfl, hT1', hT2, so.2.2, fun a3 H3 hT3 s3 => q a3 H3 hT3 ((s1.trans s2).trans s3)⟩
    | later x y =>
      have hd : 1 + Tm.mx x.dep y.dep ≤ ((d + 1 : Nat) : Int) := hd
      have m1 := Tm.mx_l x.dep y.dep
      have m2 := Tm.mx_r x.dep y.dep
      obtain ⟨dx, b1, b2, sp, h1, h2, h3, h4⟩ := id hT
      have Is : C.Is C.later := C.is_of (.later x y)
      rcases q with ⟨so, q⟩ | ⟨_, ch, _⟩
      rotate_left
      · exact absurd ch id
      refine iteF ⟨_, rfl, _, _, _, _, _, rfl, .own _, tx, k1, _, rfl, iteF ⟨_, rfl, _, _, _, _, _, rfl, .own _, tx, k2, _, rfl, iteF ⟨_, rfl, _, _, _, _, _, rfl, .own _, tx, k3, _, rfl, iteF ?_⟩⟩⟩
      refine ⟨_, rfl, a, C.later, dx, _, _, rfl, h1, T.cl _ Is, T.no _ Is _ (by decide +kernel), rfl, _, rfl, b1, b, x, u, rfl, h3, hU, hN.1, hFu, by omega, .inl ⟨so.1, fun a1 H1 hT1 s1 => ?_⟩⟩
      refine ⟨_, rfl, a, C.later, dx, _, _, rfl, s1 _ _ h1, T.cl _ Is, T.no _ Is _ (by decide +kernel), rfl, _, rfl, b2, b, y, u, rfl, h4.same s1, hU.same s1, hN.2, hFu, by omega, .inl ⟨so.2.1, fun a2 H2 hT2 s2 => ?_⟩⟩
      have hT1' := hT1.same s2
      obtain ⟨dx1, fs1, g1, g2, g3⟩ := hT1'.meth
      obtain ⟨dx2, fs2, g4, _⟩ := hT2.meth
      refine ⟨_, rfl, _, _, _, _, _, rfl, .own _, T.tyx (hT.same (s1.trans s2)), k4, _, rfl, iteF ⟨_, rfl, _, _, _, _, _, rfl, .own _, T.tyx (hT.same (s1.trans s2)), k5, _, rfl, iteF ?_⟩⟩
      exact ⟨_, rfl, a1, _, dx1, fs1, rfl, g1, C.is_of _, g2, _, rfl, a1, a2, _, _, rfl, hT1', hT2, so.2.2, fun a3 H3 hT3 s3 => q a3 H3 hT3 ((s1.trans s2).trans s3)⟩
    | earlier x y =>
      have hd : 1 + Tm.mx x.dep y.dep ≤ ((d + 1 : Nat) : Int) := hd
      have m1 := Tm.mx_l x.dep y.dep
      have m2 := Tm.mx_r x.dep y.dep
      obtain ⟨dx, b1, b2, sp, h1, h2, h3, h4⟩ := id hT
      have Is : C.Is C.earlier := C.is_of (.earlier x y)
      rcases q with ⟨so, q⟩ | ⟨_, ch, _⟩
      rotate_left
      · exact absurd ch id
      refine iteF ⟨_, rfl, _, _, _, _, _, rfl, .own _, tx, k1, _, rfl, iteF ⟨_, rfl, _, _, _, _, _, rfl, .own _, tx, k2, _, rfl, iteF ⟨_, rfl, _, _, _, _, _, rfl, .own _, tx, k3, _, rfl, iteF ?_⟩⟩⟩
      refine ⟨_, rfl, a, C.earlier, dx, _, _, rfl, h1, T.cl _ Is, T.no _ Is _ (by decide +kernel), rfl, _, rfl, b1, b, x, u, rfl, h3, hU, hN.1, hFu, by omega, .inl ⟨so.1, fun a1 H1 hT1 s1 => ?_⟩⟩
      refine ⟨_, rfl, a, C.earlier, dx, _, _, rfl, s1 _ _ h1, T.cl _ Is, T.no _ Is _ (by decide +kernel), rfl, _, rfl, b2, b, y, u, rfl, h4.same s1, hU.same s1, hN.2, hFu, by omega, .inl ⟨so.2.1, fun a2 H2 hT2 s2 => ?_⟩⟩
      have hT1' := hT1.same s2
      obtain ⟨dx1, fs1, g1, g2, g3⟩ := hT1'.meth
      obtain ⟨dx2, fs2, g4, _⟩ := hT2.meth
      refine ⟨_, rfl, _, _, _, _, _, rfl, .own _, T.tyx (hT.same (s1.trans s2)), k4, _, rfl, iteF ⟨_, rfl, _, _, _, _, _, rfl, .own _, T.tyx (hT.same (s1.trans s2)), k5, _, rfl, iteT ?_⟩⟩
      exact ⟨_, rfl, a1, _, dx1, fs1, rfl, g1, C.is_of _, g3, _, rfl, a1, a2, _, _, rfl, hT1', hT2, so.2.2, fun a3 H3 hT3 s3 => q a3 H3 hT3 ((s1.trans s2).trans s3)⟩
end
end Ash

set_option Elab.async false
set_option linter.all false
set_option maxRecDepth 100000
set_option maxHeartbeats 4000000
namespace Ash
open PySem PySem.Spec PyProof.Rows L2 SrtT
open C8 (pss_cut)
theorem passF {X : Cx} : Passes (L2.CX X.prog X.w) X (fun _ _ _ => False) := fun _ _ _ _ _ _ _ c => by
  obtain ⟨a, B, H', cls, d, _, _, _, _, _, _, _, hE⟩ := c
  exact hE.elim
def Qn.sub (u : Tm) : Qn → Qn
  | .tm t => .tm (Tm.sub u t)
  | .am (.number s t) => .am (.number s (Tm.sub u t))
  | .am (.count s t v) => .am (.count s (Tm.sub u t) (Tm.sub u v))
  | .am (.total s t v) => .am (.total s (Tm.sub u t) (Tm.sub u v))
  | .am (.gap t v) => .am (.gap (Tm.sub u t) (Tm.sub u v))
def Qn.Sok (u : Tm) : Qn → Prop
  | .tm t => Tm.Sok u t
  | .am (.number _ t) => Tm.Sok u t
  | .am (.count _ t v) => Tm.Sok u t ∧ Tm.Sok u v
  | .am (.total _ t v) => Tm.Sok u t ∧ Tm.Sok u v
  | .am (.gap t v) => Tm.Sok u t ∧ Tm.Sok u v
theorem qsok_fit {u : Tm} (hu : u.Fit) : ∀ {q : Qn}, Qn.Sok u q → (Qn.sub u q).Fit
  | .tm t, h => sok_fit (t := t) hu h
  | .am (.number s t), h => sok_fit (t := t) hu h
  | .am (.count s t v), h => ⟨sok_fit hu h.1, sok_fit hu h.2⟩
  | .am (.total s t v), h => ⟨sok_fit hu h.1, sok_fit hu h.2⟩
  | .am (.gap t v), h => ⟨sok_fit hu h.1, sok_fit hu h.2⟩
/-- no term is an amount question -/
structure NA (K : PySem.W.Frag) (A : AC) (C : TC) : Prop where
  noA : ∀ a b, C.Is a → A.Is b → PySem.W.kitOne K (.ref a) (.ref b) = some false
def spIsAm2 (A : AC) (C : TC) : Sp := fun vs H Q _ => ∃ a, vs = [.ref a] ∧ ((∃ q, AmAt A C H a q ∧ ∀ H', Same H H' → Q (.bl true) H') ∨ (∃ t, TmAt C H a t ∧ ∀ H', Same H H' → Q (.bl false) H'))
def spAF (A : AC) (C : TC) : Sp := fun vs H Q _ => ∃ (a b : Addr) (q : Am) (u : Tm), vs = [.ref a, .ref b] ∧ AmAt A C H a q ∧ TmAt C H b u ∧ q.NmS ∧ q.Fit ∧ u.Fit ∧ Qn.Sok u (.am q) ∧ ∀ a' H', QAt A C H' a' (Qn.sub u (.am q)) → Same H H' → Q (.ref a') H'
def spSF (A : AC) (C : TC) (CT : Addr) : Sp := fun vs H Q E => ∃ (a b : Addr) (q : Qn) (u : Tm), vs = [.ref a, .ref b] ∧ QAt A C H a q ∧ TmAt C H b u ∧ q.NmS ∧ q.Fit ∧ u.Fit ∧
  ((Qn.Sok u q ∧ ∀ a' H', QAt A C H' a' (Qn.sub u q) → Same H H' → Q (.ref a') H') ∨ (∃ t, q = .tm t ∧ ¬ Tm.Sok u t ∧ t.Chain ∧ ∀ H', Same H H' → E (.ref CT) none H'))
section
variable {P : Program} {w : World} {K : PySem.W.Frag} {mg : Str → Option Value} {base : Heap} {C : TC} {A0 : AC} {CT CW : Addr}
theorem ok_isam2 {f : Addr} {fd : FuncData} (F : Fun K "is_amount" "is_amount" s_is_amount f fd) (B : Blt mg) (T : TF K mg C) (AT : AF K mg A0 C) (N : NA K A0 C) : FnOk P w K mg base CX0 1 f fd ["thing"] (spIsAm2 A0 C) := by
  have c_Number := AT.Number
  have c_Count := AT.Count
  have c_Total := AT.Total
  have c_Gap := AT.Gap
  refine F.ok sc_is_amount (fun vs H Q E h => ?_) (fun cdv A outer s H vs Q E hr h => ?_)
  · obtain ⟨a, rfl, _⟩ := h
    rfl
  · obtain ⟨a, rfl, h⟩ := h
    refine ⟨_, (pss_one (ps_ret (pe_callB call_isiT (by rfl) B.isinstance (by decide +kernel) (pa_cons (pv 0) (pa_cons (pe_tup (pa_cons (pe_glob (v := .ref A0.number) (by rfl) c_Number rfl) (pa_cons (pe_glob (v := .ref A0.count) (by rfl) c_Count rfl) (pa_cons (pe_glob (v := .ref A0.total) (by rfl) c_Total rfl) (pa_cons (pe_glob (v := .ref A0.gap) (by rfl) c_Gap rfl) pa_nil))))) pa_nil))))), ?_⟩
    refine ⟨_, rfl, (by show 4 ≤ sizeLine; decide), fun p hp => ?_⟩
    have s1 : ∀ {o}, Same H (upd H p o) := fun {o} => sameAt (Same.refl H) hp
    have cs : ∀ b ∈ [A0.number, A0.count, A0.total, A0.gap], A0.Is b := fun b hb => by
      simp only [List.mem_cons, List.not_mem_nil, or_false] at hb
      exact hb
    rcases h with ⟨am, h, q⟩ | ⟨t, h, q⟩
    · have k : PySem.W.kitAny K (.ref (A0.of am)) ([A0.number, A0.count, A0.total, A0.gap].map Value.ref) = some true := by
        have any : ∀ bs : List Addr, (∀ b ∈ bs, A0.Is b) → A0.of am ∈ bs → PySem.W.kitAny K (.ref (A0.of am)) (bs.map Value.ref) = some true := fun bs => by
          induction bs with
          | nil => exact fun _ h => nomatch h
          | cons b r ih =>
            intro hb hm
            refine kitAny_cons (AT.one _ b (A0.is_of am) (hb b List.mem_cons_self)) (fun e => ?_) (fun _ => rfl)
            exact ih (fun c hc => hb c (List.mem_cons_of_mem _ hc)) ((List.mem_cons.mp hm).resolve_left (of_decide_eq_false e))
        refine any _ cs ?_
        have := A0.is_of am
        simp only [List.mem_cons, List.not_mem_nil, or_false]
        exact this
      exact ⟨_, p, _, _, _, true, rfl, upd_same, .cons (.own _) (.cons (.own _) (.cons (.own _) (.cons (.own _) .nil))), AT.tyx (h.same s1), k, q _ s1⟩
    · have k : PySem.W.kitAny K (.ref (C.of t)) ([A0.number, A0.count, A0.total, A0.gap].map Value.ref) = some false := by
        have : ∀ bs : List Addr, (∀ b ∈ bs, A0.Is b) → PySem.W.kitAny K (.ref (C.of t)) (bs.map Value.ref) = some false := fun bs => by
          induction bs with
          | nil => exact fun _ => rfl
          | cons b r ih => exact fun hb => kitAny_cons (N.noA _ b (C.is_of t) (hb b List.mem_cons_self)) (fun _ => ih fun b hb' => hb b (List.mem_cons_of_mem _ hb')) (fun z => nomatch z)
        exact this _ cs
      exact ⟨_, p, _, _, _, false, rfl, upd_same, .cons (.own _) (.cons (.own _) (.cons (.own _) (.cons (.own _) .nil))), T.tyx (h.same s1), k, q _ s1⟩
/-- what the seeing calls -/
structure S2 (P : Program) (w : World) (K : PySem.W.Frag) (mg : Str → Option Value) (base : Heap) (A0 : AC) (C : TC) (CT : Addr) : Prop where
  is_term : Cal P w K mg base CX0 "is_term" 1 ["thing"] (spIsTerm K C)
  is_question : Cal P w K mg base CX0 "is_question" 2 ["thing"] (spIsQ A0 C)
  is_amount : Cal P w K mg base CX0 "is_amount" 1 ["thing"] (spIsAm2 A0 C)
  term_from : Cal P w K mg base (L2.CX P w) "term_from" 18 ["inside", "term"] (spTF C CT 12)
  Number : Mak P w K mg base CX0 "Number" A0.number 3 ["self", "stream", "term"] (spInitN A0 C)
  Count : Mak P w K mg base CX0 "Count" A0.count 3 ["self", "stream", "first", "last"] (spInitC A0 C A0.count Am.count)
  Total : Mak P w K mg base CX0 "Total" A0.total 3 ["self", "stream", "first", "last"] (spInitC A0 C A0.total Am.total)
  Gap : Mak P w K mg base CX0 "Gap" A0.gap 3 ["self", "first", "last"] (spInitG A0 C)
abbrev s_amount_from : Stmt := topS 68
theorem sc_amount_from : FnScope ["question", "term", "first", "last"] ["question", "term"] (defScope s_amount_from) := ⟨rfl, rfl, rfl, by decide +kernel, rfl, by decide +kernel, by decide +kernel⟩
theorem ok_af {f : Addr} {fd : FuncData} (F : Fun K "amount_from" "amount_from" s_amount_from f fd) (B : Blt mg) (AT : AF K mg A0 C) (G : S2 P w K mg base A0 C CT) : FnOk P w K mg base CX0 19 f fd ["question", "term"] (spAF A0 C) := by
  have c_Number := AT.Number
  have c_Count := AT.Count
  have c_Total := AT.Total
  have c_Gap := AT.Gap
  refine F.ok sc_amount_from (fun vs H Q E h => ?_) (fun cdv A outer s H vs Q E hr h => ?_)
  · obtain ⟨a, b, q, u, rfl, _⟩ := h
    rfl
  · obtain ⟨a, b, am, u, rfl, hT, hU, hN, hF, hFu, so, q⟩ := h
    refine ⟨_, (pss_cons (ps_if (pt_val (pe_callB call_isi (by rfl) B.isinstance (by decide +kernel) (pa_cons (pv 0) (pa_cons (pe_glob (v := .ref A0.number) (by rfl) c_Number rfl) pa_nil))))
      (pss_one (ps_ret (pe_mak G.Number (hr.mono (by decide)) pass0 (pa_cons (pe_fld (pv 0) rfl) (pa_cons (pe_cal G.term_from (hr.mono (by decide)) passF (pa_cons (pe_fld (pv 0) rfl) (pa_cons (pv 1) pa_nil))) pa_nil)))))
      pss_nil)
    (pss_cons (ps_set (i := 2) sc_amount_from.nd rfl (Or.inl rfl) (pe_cal G.term_from (hr.mono (by decide)) passF (pa_cons (pe_fld (pv 0) rfl) (pa_cons (pv 1) pa_nil))))
    (pss_cons (ps_set (i := 3) sc_amount_from.nd rfl (Or.inl rfl) (pe_cal G.term_from (hr.mono (by decide)) passF (pa_cons (pe_fld (pv 0) rfl) (pa_cons (pv 1) pa_nil))))
    (pss_cons (ps_if (pt_val (pe_callB call_isi (by rfl) B.isinstance (by decide +kernel) (pa_cons (pv 0) (pa_cons (pe_glob (v := .ref A0.count) (by rfl) c_Count rfl) pa_nil))))
      (pss_one (ps_ret (pe_mak G.Count (hr.mono (by decide)) pass0 (pa_cons (pe_fld (pv 0) rfl) (pa_cons (pv 2) (pa_cons (pv 3) pa_nil))))))
      pss_nil)
    (pss_cons (ps_if (pt_val (pe_callB call_isi (by rfl) B.isinstance (by decide +kernel) (pa_cons (pv 0) (pa_cons (pe_glob (v := .ref A0.total) (by rfl) c_Total rfl) pa_nil))))
      (pss_one (ps_ret (pe_mak G.Total (hr.mono (by decide)) pass0 (pa_cons (pe_fld (pv 0) rfl) (pa_cons (pv 2) (pa_cons (pv 3) pa_nil))))))
      pss_nil)
    (pss_one (ps_ret (pe_mak G.Gap (hr.mono (by decide)) pass0 (pa_cons (pv 2) (pa_cons (pv 3) pa_nil)))))))))), ?_⟩
    have nd := AT.nd
    simp only [List.nodup_cons, List.mem_cons, List.not_mem_nil, or_false, not_or] at nd
    have k1 := AT.one (A0.of am) A0.number (A0.is_of am) (.inl rfl)
    have k2 := AT.one (A0.of am) A0.count (A0.is_of am) (.inr (.inl rfl))
    have k3 := AT.one (A0.of am) A0.total (A0.is_of am) (.inr (.inr (.inl rfl)))
    refine ⟨_, rfl, _, _, _, _, _, rfl, .own _, AT.tyx hT, k1, _, rfl, ?_⟩
    cases am with
    | number z t =>
      have hF : t.Fit := hF
      have so : Tm.Sok u t := so
      obtain ⟨dx, b1, sp, h1, h2, h3⟩ := id hT
      have Is : A0.Is A0.number := .inl rfl
      rw [show decide (A0.of (.number z t) = A0.number) = true from decide_eq_true rfl]
      refine iteT ⟨_, rfl, a, A0.number, dx, _, _, rfl, h1, AT.cl _ Is, AT.no _ Is _ (by decide +kernel), rfl, _, rfl, a, A0.number, dx, _, _, rfl, h1, AT.cl _ Is, AT.no _ Is _ (by decide +kernel), rfl, _, rfl, b1, b, t, u, rfl, h3, hU, hN.2, hFu, hF.1, .inl ⟨so, fun a1 H1 hT1 s1 => ?_⟩⟩
      exact fun x dx2 hx hdx hne => ⟨x, dx2, a1, z, _, rfl, upd_same, hN.1, hT1.same (sameAt (sameAt (Same.refl H1) hdx) hx), sok_fit hFu so, fun H' hT' hK => ⟨rfl, q x H' hT' (s1.trans (keep_make hK hx hdx))⟩⟩
    | count z t v =>
      obtain ⟨dx, b1, b2, sp, h1, h2, h3, h4⟩ := id hT
      have Is : A0.Is A0.count := .inr (.inl rfl)
      rw [show decide (A0.of (.count z t v) = A0.number) = false from decide_eq_false fun e => nd.1.1 e.symm]
      refine iteF ⟨_, rfl, a, A0.count, dx, _, _, rfl, h1, AT.cl _ Is, AT.no _ Is _ (by decide +kernel), rfl, _, rfl, b1, b, t, u, rfl, h3, hU, hN.2.1, hFu, hF.1.1, .inl ⟨so.1, fun a1 H1 hT1 s1 => ?_⟩⟩
      refine ⟨_, rfl, a, A0.count, dx, _, _, rfl, s1 _ _ h1, AT.cl _ Is, AT.no _ Is _ (by decide +kernel), rfl, _, rfl, b2, b, v, u, rfl, h4.same s1, hU.same s1, hN.2.2, hFu, hF.2.1, .inl ⟨so.2, fun a2 H2 hT2 s2 => ?_⟩⟩
      refine ⟨_, rfl, _, _, _, _, _, rfl, .own _, AT.tyx (hT.same (s1.trans s2)), k2, _, rfl, ?_⟩
      rw [show decide (A0.of (.count z t v) = A0.count) = true from decide_eq_true rfl]
      refine iteT ⟨_, rfl, a, A0.count, dx, _, _, rfl, s2 _ _ (s1 _ _ h1), AT.cl _ Is, AT.no _ Is _ (by decide +kernel), rfl, _, rfl, _, rfl, ?_⟩
      exact fun x dx2 hx hdx hne => ⟨x, dx2, a1, a2, z, _, _, rfl, upd_same, hN.1, (hT1.same s2).same (sameAt (sameAt (Same.refl H2) hdx) hx), hT2.same (sameAt (sameAt (Same.refl H2) hdx) hx), sok_fit hFu so.1, sok_fit hFu so.2, fun H' hT' hK => ⟨rfl, q x H' hT' ((s1.trans s2).trans (keep_make hK hx hdx))⟩⟩
    | total z t v =>
      obtain ⟨dx, b1, b2, sp, h1, h2, h3, h4⟩ := id hT
      have Is : A0.Is A0.total := .inr (.inr (.inl rfl))
      rw [show decide (A0.of (.total z t v) = A0.number) = false from decide_eq_false fun e => nd.1.2.1 e.symm]
      refine iteF ⟨_, rfl, a, A0.total, dx, _, _, rfl, h1, AT.cl _ Is, AT.no _ Is _ (by decide +kernel), rfl, _, rfl, b1, b, t, u, rfl, h3, hU, hN.2.1, hFu, hF.1.1, .inl ⟨so.1, fun a1 H1 hT1 s1 => ?_⟩⟩
      refine ⟨_, rfl, a, A0.total, dx, _, _, rfl, s1 _ _ h1, AT.cl _ Is, AT.no _ Is _ (by decide +kernel), rfl, _, rfl, b2, b, v, u, rfl, h4.same s1, hU.same s1, hN.2.2, hFu, hF.2.1, .inl ⟨so.2, fun a2 H2 hT2 s2 => ?_⟩⟩
      refine ⟨_, rfl, _, _, _, _, _, rfl, .own _, AT.tyx (hT.same (s1.trans s2)), k2, _, rfl, ?_⟩
      rw [show decide (A0.of (.total z t v) = A0.count) = false from decide_eq_false fun e => nd.2.1.1 e.symm]
      refine iteF ⟨_, rfl, _, _, _, _, _, rfl, .own _, AT.tyx (hT.same (s1.trans s2)), k3, _, rfl, ?_⟩
      rw [show decide (A0.of (.total z t v) = A0.total) = true from decide_eq_true rfl]
      refine iteT ⟨_, rfl, a, A0.total, dx, _, _, rfl, s2 _ _ (s1 _ _ h1), AT.cl _ Is, AT.no _ Is _ (by decide +kernel), rfl, _, rfl, _, rfl, ?_⟩
      exact fun x dx2 hx hdx hne => ⟨x, dx2, a1, a2, z, _, _, rfl, upd_same, hN.1, (hT1.same s2).same (sameAt (sameAt (Same.refl H2) hdx) hx), hT2.same (sameAt (sameAt (Same.refl H2) hdx) hx), sok_fit hFu so.1, sok_fit hFu so.2, fun H' hT' hK => ⟨rfl, q x H' hT' ((s1.trans s2).trans (keep_make hK hx hdx))⟩⟩
    | gap t v =>
      obtain ⟨dx, b1, b2, sp, h1, h2, h3, h4⟩ := id hT
      have Is : A0.Is A0.gap := .inr (.inr (.inr rfl))
      rw [show decide (A0.of (.gap t v) = A0.number) = false from decide_eq_false fun e => nd.1.2.2 e.symm]
      refine iteF ⟨_, rfl, a, A0.gap, dx, _, _, rfl, h1, AT.cl _ Is, AT.no _ Is _ (by decide +kernel), rfl, _, rfl, b1, b, t, u, rfl, h3, hU, hN.1, hFu, hF.1.1, .inl ⟨so.1, fun a1 H1 hT1 s1 => ?_⟩⟩
      refine ⟨_, rfl, a, A0.gap, dx, _, _, rfl, s1 _ _ h1, AT.cl _ Is, AT.no _ Is _ (by decide +kernel), rfl, _, rfl, b2, b, v, u, rfl, h4.same s1, hU.same s1, hN.2, hFu, hF.2.1, .inl ⟨so.2, fun a2 H2 hT2 s2 => ?_⟩⟩
      refine ⟨_, rfl, _, _, _, _, _, rfl, .own _, AT.tyx (hT.same (s1.trans s2)), k2, _, rfl, ?_⟩
      rw [show decide (A0.of (.gap t v) = A0.count) = false from decide_eq_false fun e => nd.2.1.2 e.symm]
      refine iteF ⟨_, rfl, _, _, _, _, _, rfl, .own _, AT.tyx (hT.same (s1.trans s2)), k3, _, rfl, ?_⟩
      rw [show decide (A0.of (.gap t v) = A0.total) = false from decide_eq_false fun e => nd.2.2.1 e.symm]
      refine iteF ⟨_, rfl, _, rfl, ?_⟩
      exact fun x dx2 hx hdx hne => ⟨x, dx2, a1, a2, _, _, rfl, upd_same, (hT1.same s2).same (sameAt (sameAt (Same.refl H2) hdx) hx), hT2.same (sameAt (sameAt (Same.refl H2) hdx) hx), sok_fit hFu so.1, sok_fit hFu so.2, fun H' hT' hK => ⟨rfl, q x H' hT' ((s1.trans s2).trans (keep_make hK hx hdx))⟩⟩
structure S3q (P : Program) (w : World) (K : PySem.W.Frag) (mg : Str → Option Value) (base : Heap) (A0 : AC) (C : TC) (CT : Addr) : Prop extends S2 P w K mg base A0 C CT where
  amount_from : Cal P w K mg base CX0 "amount_from" 19 ["question", "term"] (spAF A0 C)
abbrev s_seen_from : Stmt := topS 67
theorem sc_seen_from : FnScope ["question", "term"] ["question", "term"] (defScope s_seen_from) := ⟨rfl, rfl, rfl, by decide +kernel, rfl, by decide +kernel, by decide +kernel⟩
theorem ok_sf {f : Addr} {fd : FuncData} (F : Fun K "seen_from" "seen_from" s_seen_from f fd) (B : Blt mg) (G : S3q P w K mg base A0 C CT) : FnOk P w K mg base (L2.CX P w) 20 f fd ["question", "term"] (spSF A0 C CT) := by
  refine F.okX sc_seen_from (fun vs H Q E h => ?_) (fun cdv A outer s H vs Q E hr h => ?_)
  · obtain ⟨a, b, q, u, rfl, _⟩ := h
    rfl
  · obtain ⟨a, b, qn, u, rfl, hT, hU, hN, hF, hFu, q⟩ := h
    refine ⟨_, (pss_cons (ps_if (pt_not (pt_val (pe_cal G.is_question (hr.mono (by decide)) pass0 (pa_cons (pv 0) pa_nil))))
      (pss_one ps_never)
      pss_nil)
    (pss_cons (ps_if (pt_not (pt_val (pe_cal G.is_term (hr.mono (by decide)) pass0 (pa_cons (pv 1) pa_nil))))
      (pss_one ps_never)
      pss_nil)
    (pss_cons (ps_if (pt_not (pt_val (pe_cal G.is_amount (hr.mono (by decide)) pass0 (pa_cons (pv 0) pa_nil))))
      (pss_one (ps_ret (pe_cal G.term_from (hr.mono (by decide)) (passE (takes_of rfl rfl rfl rfl)) (pa_cons (pv 0) (pa_cons (pv 1) pa_nil)))))
      pss_nil)
    (pss_one (ps_ret (pe_cal G.amount_from (hr.mono (by decide)) pass0 (pa_cons (pv 0) (pa_cons (pv 1) pa_nil)))))))), ?_⟩
    refine ⟨_, rfl, a, qn, rfl, hT, fun H1 s1 => ⟨_, rfl, ?_⟩⟩
    refine iteF ⟨_, rfl, _, rfl, .inl ⟨b, u, rfl, hU.same s1, fun H2 s2 => ⟨_, rfl, iteF ?_⟩⟩⟩
    have s12 := s1.trans s2
    cases qn with
    | tm t =>
      have hT : TmAt C H a t := hT
      have hF : t.Fit := hF
      refine ⟨_, rfl, a, rfl, .inr ⟨t, hT.same s12, fun H3 s3 => ⟨_, rfl, ?_⟩⟩⟩
      have s13 := s12.trans s3
      refine iteT ⟨_, rfl, _, rfl, a, b, t, u, rfl, hT.same s13, hU.same s13, hN, hFu, hF.1, ?_⟩
      rcases q with ⟨so, q⟩ | ⟨t', e, so, ch, q⟩
      · exact .inl ⟨so, fun a1 H4 hT4 s4 => q a1 H4 hT4 (s13.trans s4)⟩
      · cases e
        exact .inr ⟨so, ch, fun H4 s4 => q H4 (s13.trans s4)⟩
    | am am =>
      have hT : AmAt A0 C H a am := hT
      rcases q with ⟨so, q⟩ | ⟨t', e, _⟩
      rotate_left
      · cases e
      refine ⟨_, rfl, a, rfl, .inl ⟨am, hT.same s12, fun H3 s3 => ⟨_, rfl, ?_⟩⟩⟩
      have s13 := s12.trans s3
      exact iteF ⟨_, rfl, _, rfl, a, b, am, u, rfl, hT.same s13, hU.same s13, hN, hF, hFu, so, fun a1 H4 hT4 s4 => q a1 H4 hT4 (s13.trans s4)⟩
end
end Ash

set_option Elab.async false
set_option linter.all false
set_option maxRecDepth 100000
set_option maxHeartbeats 4000000
namespace L2
open PySem PySem.Spec PyProof.Rows
open Sem (wp)
open Builtin
/-! ### != of instances of one class, whose __eq__ may be inherited -/
section
open PySem.W PySem.Calls
variable {prog : Program} {w : World} {A : Around} {E : Value → Shared → Prop} {s : Shared} {K : PySem.W.Frag} {x y C f : Addr} {ox oy : Obj} {od od' : Option Obj}
theorem ifBound_slot {M : Model} {name : Str} {id : String} {args : List Value} {Q : Option Value → Shared → Prop} (X : K.In s.heap) (I : InstAt s.heap x ox C od) (hs : findIn K (.ref C) name = some (some (.builtin id))) (hb : ∀ v, bindSpecial (.builtin id) v = pure (.builtin id, [v]))
    (h : wpAny M A (call (.builtin id) (.ref x :: args)) (fun v => Q (some v)) E s) : wpAny M A (callSpecialIfBound? (.ref x) name args) Q E s := by
  simp only [callSpecialIfBound?, bindSpecialIfBound?]
  refine wpAny_holding (wpAny_bind (wpAny_bind (wpAny_bind (I.type.here ((looks_findIn X hs).here ?_)))))
  refine wpAny_bind (wpAny_askSetting (wpAny_ite ?_))
  have fin : wpAny M A (call (.builtin id) ([.ref x] ++ args) >>= fun v => pure (some v)) Q E s := wpAny_bind (wpAny_mono h (fun v s' h' => wpAny_pure h') fun _ _ h' => h')
  rw [hb]
  split
  · exact wpAny_bind (wpAny_pure (wpAny_pure fin))
  · exact wpAny_tryCatch (wpAny_bind (wpAny_pure (wpAny_pure fin)))
theorem objNe_K {b : Value} {Q : Fin → Shared → Prop} (hu : A.units < cLine) (X : K.In s.heap) (I : InstAt s.heap x ox C od) (he : findIn K (.ref C) "__eq__" = some (some (.ref f))) (hf : isFn K (.ref f) = true)
    (hcall : wpAny (model prog w) A (call (.ref f) [.ref x, b]) (fun v s' => ∃ c, v = .bool c ∧ Q (.done (.ret (.bool (!c)))) s') E s) :
    wpAny (model prog w) A (Builtin.«object.__ne__» ⟨[.ref x, b], []⟩) Q E s := by
  unfold Builtin.«object.__ne__»
  repeat (first
    | with_reducible refine wpAny_cRoomFor hu ?_
    | (refine wpAny_bind (m := callSpecialIfBound? (.ref x) (Str.ofString "__eq__") [b])
        (ifBound_K X I he hf (wpAny_mono hcall (fun r s' hr => by
          obtain ⟨c, rfl, hq⟩ := hr
          repeat (first | exact hq | exact wpAny_pure hq | exact wpAny_truthy_bool hq | (refine wpAny_bind (m := truthy (.bool _)) (wpAny_truthy_bool ?_)) | wp_step)) fun _ _ e => e)))
    | wp_step)
theorem tryNe_K {b : Value} {Q : Option Value → Shared → Prop} (hu : A.units + 1 < cLine) (X : K.In s.heap) (I : InstAt s.heap x ox C od) (hn : findIn K (.ref C) "__ne__" = some (some (.builtin "object.__ne__"))) (he : findIn K (.ref C) "__eq__" = some (some (.ref f))) (hf : isFn K (.ref f) = true)
    (hob : subIn K (.ref C) (.type "object") = some true)
    (hcall : wpAny (model prog w) A.in1 (call (.ref f) [.ref x, b]) (fun v s' => ∃ c, v = .bool c ∧ Q (some (.bool (!c))) s') E s) :
    wpAny (model prog w) A (tryCompare (.ref x) "__ne__" b) Q E s := by
  simp only [tryCompare]
  have hi : Looks (model prog w) s.heap (isInstance (.ref x) (.type "object")) true := I.type.andThen (looks_subIn X hob)
  refine wpAny_bind (ifBound_slot X I hn PySem.F.cmp_object.ne.bind (wpAny_call (codeAny_call_builtin PySem.F.cmp_object.ne.plain F.cmpEntry_ne
    (check_slot F.cmpKind_ne F.cmpSplit_ne hi (F.cmpArgs_ne _ _)
      (objNe_K (A := A.in1) hu X I he hf (wpAny_mono hcall (fun v s' hv => ?_) fun _ _ e => e))))))
  obtain ⟨c, rfl, hq⟩ := hv
  first | exact ⟨c, rfl, wpAny_pure hq⟩ | exact ⟨c, rfl, wpAny_pure (wpAny_pure hq)⟩ | exact ⟨c, rfl, hq⟩
theorem compareNe_K {Q : Value → Shared → Prop} (hu : A.units + 1 < cLine) (X : K.In s.heap) (I : InstAt s.heap x ox C od) (J : InstAt s.heap y oy C od') (hn : findIn K (.ref C) "__ne__" = some (some (.builtin "object.__ne__"))) (he : findIn K (.ref C) "__eq__" = some (some (.ref f))) (hf : isFn K (.ref f) = true)
    (hob : subIn K (.ref C) (.type "object") = some true)
    (hcall : wpAny (model prog w) A.in1 (call (.ref f) [.ref x, .ref y]) (fun v s' => ∃ c, v = .bool c ∧ Q (.bool (!c)) s') E s) :
    wpAny (model prog w) A (compareOp .NotEq (.ref x) (.ref y)) Q E s := by
  unfold compareOp richCompare
  simp only [oneThing_ref]
  refine wpAny_holding (wpAny_bind (wpAny_cRoomFor (Nat.lt_of_succ_lt hu) ?_))
  rw [cmpInfo_NotEq]
  dsimp only
  refine wpAny_bind (I.type.here (wpAny_bind (J.type.here ?_)))
  rw [show (Value.ref C != Value.ref C) = false from by simp]
  simp only [Bool.false_eq_true, if_false]
  refine wpAny_bind (wpAny_pure ?_)
  simp only [Bool.false_eq_true, if_false]
  refine wpAny_bind (tryNe_K hu X I hn he hf hob (wpAny_mono hcall (fun v s' hv => ?_) fun _ _ e => e))
  obtain ⟨c, rfl, hq⟩ := hv
  first | exact ⟨c, rfl, wpAny_pure hq⟩ | exact ⟨c, rfl, wpAny_pure (wpAny_pure hq)⟩
end
/-- what the top says of != in a family of classes -/
structure NeF (K : PySem.W.Frag) (S : Addr → Prop) (f : Addr) : Prop where
  ne : ∀ C, S C → PySem.W.findIn K (.ref C) "__ne__" = some (some (.builtin "object.__ne__"))
  eq : ∀ C, S C → PySem.W.findIn K (.ref C) "__eq__" = some (some (.ref f))
  fn : PySem.W.isFn K (.ref f) = true
  ob : ∀ C, S C → PySem.W.subIn K (.ref C) (.type "object") = some true
section
variable {X : Cx} {n : Nat} {CX : CXT} {f : Addr} {fd : FuncData} {ps : List Str} {S : Addr → Prop} {sp : Sp} {E : XK}
/-- x != y of two instances of one class: not what the own __eq__ says -/
def rNeF (S : Addr → Prop) (sp : Sp) (E : XK) : R2 := fun x y H Q => ∃ a b C dx dy fs gs, x = .ref a ∧ y = .ref b ∧ H a = some (.ins C dx fs) ∧ H b = some (.ins C dy gs) ∧ S C ∧ sp [x, y] H (fun v H' => ∃ c, v = .bl c ∧ Q (.bl (!c)) H') E
theorem op_neF (Z : NeF X.K S f) (F : FnOk X.prog X.w X.K X.mg X.base CX n f fd ps sp) (hb : Binds X.K fd ps []) (hx : Passes CX X E) (hr : Room (n + 2) X.A) : OpR X (compareOp .NotEq) (rNeF S sp E) := by
  intro pins s σ H x y v u Q I rx ry hq
  obtain ⟨a, b, C, dx, dy, fs, gs, rfl, rfl, ha, hb', sC, hsp⟩ := hq
  cases rx
  cases ry
  obtain ⟨mA, J, _⟩ := ins_get I.hok ha
  obtain ⟨mB, J', _⟩ := ins_get I.hok hb'
  obtain ⟨od, J, _⟩ := J.look
  obtain ⟨od', J', _⟩ := J'.look
  refine compareNe_K hr.in1.units0 I.kIn J J' (Z.ne C sC) (Z.eq C sC) Z.fn (Z.ob C sC) ?_
  have e0 : Env0 X.prog X.w X.K X.mg X.base X.A.in1 X.stack s H := by
    have e := I.env0
    exact ⟨e.frames, e.mod, e.bs, e.bsz, e.funs, e.frf, e.hok, e.bare⟩
  have hl := F.len _ _ _ _ hsp
  have r2 : Vals [V.ref a, V.ref b] [Value.ref a, Value.ref b] := .cons rfl (.cons rfl .nil)
  refine wpAny_call (codeAny_mono (F.run X.A.in1 X.stack _ H ⟨[.ref a, .ref b], []⟩ [.ref a, .ref b] [.ref a, .ref b] _ E (hr.in1.mono (by omega)) e0 (by
    have := hb s [.ref a, .ref b] I.kIn (by simpa using hl)
    simpa using this) r2 hsp) fun r s' hq => ?_)
  cases r with
  | error e => exact hx pins σ H _ e s' I hq
  | ok fl =>
    cases fl with
    | ret w =>
      obtain ⟨z, H', I', rz, c, ez, ex⟩ := I.after hq
      subst ez
      cases rz
      exact ⟨c, rfl, .bl (!c), H', I', rfl, ex⟩
    | next => exact False.elim hq
    | brk => exact False.elim hq
    | cont => exact False.elim hq
end
end L2

set_option Elab.async false
set_option linter.all false
set_option maxRecDepth 100000
set_option maxHeartbeats 4000000
namespace Ash
open PySem PySem.Spec PyProof.Rows L2 SrtT
open C8 (pss_cut)
/-! ### == of terms and of amount questions with the same spelling -/
def Tm.spd : Tm → List PyData
  | .now => [.str "now"]
  | .last s t => .str "last" :: .str s :: spd t
  | .next s t => .str "next" :: .str s :: spd t
  | .shift n t => .str "shift" :: .int n :: spd t
  | .either a b => .str "either" :: (spd a ++ spd b)
  | .later a b => .str "later" :: (spd a ++ spd b)
  | .earlier a b => .str "earlier" :: (spd a ++ spd b)
theorem dp_app {K : PySem.W.Frag} {H : Hp} : ∀ {xs ys : List V} {ds es : List PyData}, DpAll K H xs ds → DpAll K H ys es → DpAll K H (xs ++ ys) (ds ++ es)
  | _, _, _, _, .nil, h => h
  | _, _, _, _, .cons a b, h => .cons a (dp_app b h)
theorem spd_dp {K : PySem.W.Frag} {H : Hp} : ∀ t : Tm, DpAll K H t.spell t.spd
  | .now => .cons (.str _) .nil
  | .last s t => .cons (.str _) (.cons (.str _) (spd_dp t))
  | .next s t => .cons (.str _) (.cons (.str _) (spd_dp t))
  | .shift n t => .cons (.str _) (.cons (.int _) (spd_dp t))
  | .either a b => .cons (.str _) (dp_app (spd_dp a) (spd_dp b))
  | .later a b => .cons (.str _) (dp_app (spd_dp a) (spd_dp b))
  | .earlier a b => .cons (.str _) (dp_app (spd_dp a) (spd_dp b))
theorem spd_flat : ∀ {t : Tm}, t.NmS → t.spd.all flatD = true
  | .now, _ => by simp [Tm.spd, flatD, (by decide +kernel : PyData.strOk "now" = true)]
  | .last s t, h => by simp only [Tm.spd, List.all_cons, flatD, (by decide +kernel : PyData.strOk "last" = true), nm_ok h.1, spd_flat h.2, Bool.and_self]
  | .next s t, h => by simp only [Tm.spd, List.all_cons, flatD, (by decide +kernel : PyData.strOk "next" = true), nm_ok h.1, spd_flat h.2, Bool.and_self]
  | .shift n t, h => by
    have h : t.NmS := h
    simp only [Tm.spd, List.all_cons, flatD, (by decide +kernel : PyData.strOk "shift" = true), spd_flat h, Bool.and_self]
  | .either a b, h => by simp only [Tm.spd, List.all_cons, List.all_append, flatD, (by decide +kernel : PyData.strOk "either" = true), spd_flat h.1, spd_flat h.2, Bool.and_self]
  | .later a b, h => by simp only [Tm.spd, List.all_cons, List.all_append, flatD, (by decide +kernel : PyData.strOk "later" = true), spd_flat h.1, spd_flat h.2, Bool.and_self]
  | .earlier a b, h => by simp only [Tm.spd, List.all_cons, List.all_append, flatD, (by decide +kernel : PyData.strOk "earlier" = true), spd_flat h.1, spd_flat h.2, Bool.and_self]
def Am.spd : Am → List PyData
  | .number s t => .str "number" :: .str s :: t.spd
  | .count s t u => .str "count" :: .str s :: (t.spd ++ u.spd)
  | .total s t u => .str "total" :: .str s :: (t.spd ++ u.spd)
  | .gap t u => .str "gap" :: (t.spd ++ u.spd)
theorem aspd_dp {K : PySem.W.Frag} {H : Hp} : ∀ q : Am, DpAll K H q.spell q.spd
  | .number s t => .cons (.str _) (.cons (.str _) (spd_dp t))
  | .count s t u => .cons (.str _) (.cons (.str _) (dp_app (spd_dp t) (spd_dp u)))
  | .total s t u => .cons (.str _) (.cons (.str _) (dp_app (spd_dp t) (spd_dp u)))
  | .gap t u => .cons (.str _) (dp_app (spd_dp t) (spd_dp u))
theorem aspd_flat : ∀ {q : Am}, q.NmS → q.spd.all flatD = true
  | .number s t, h => by simp only [Am.spd, List.all_cons, flatD, (by decide +kernel : PyData.strOk "number" = true), nm_ok h.1, spd_flat h.2, Bool.and_self]
  | .count s t u, h => by simp only [Am.spd, List.all_cons, List.all_append, flatD, (by decide +kernel : PyData.strOk "count" = true), nm_ok h.1, spd_flat h.2.1, spd_flat h.2.2, Bool.and_self]
  | .total s t u, h => by simp only [Am.spd, List.all_cons, List.all_append, flatD, (by decide +kernel : PyData.strOk "total" = true), nm_ok h.1, spd_flat h.2.1, spd_flat h.2.2, Bool.and_self]
  | .gap t u, h => by simp only [Am.spd, List.all_cons, List.all_append, flatD, (by decide +kernel : PyData.strOk "gap" = true), spd_flat h.1, spd_flat h.2, Bool.and_self]
theorem flat_shaped {ds : List PyData} (h : ds.all flatD = true) : SeqAt.shaped (.tuple ds) = true := by
  obtain ⟨h1, h2⟩ := flat_lay h
  unfold SeqAt.shaped
  simp [PyData.canLay0, PyData.depth, h1]
  omega
theorem AmAt.spl {A : AC} {C : TC} {H : Hp} {a : Addr} {q : Am} (h : AmAt A C H a q) : ∃ dx fs sp, H a = some (.ins (A.of q) dx fs) ∧ fs.lookup ("spelling" : Str) = some (.ref sp) ∧ H sp = some (.tup q.spell) := by
  cases q with
  | number s t =>
    obtain ⟨dx, b, sp, h1, h2, h3⟩ := h
    exact ⟨dx, _, sp, h1, rfl, h2⟩
  | count s t u =>
    obtain ⟨dx, b, c, sp, h1, h2, h3, h4⟩ := h
    exact ⟨dx, _, sp, h1, rfl, h2⟩
  | total s t u =>
    obtain ⟨dx, b, c, sp, h1, h2, h3, h4⟩ := h
    exact ⟨dx, _, sp, h1, rfl, h2⟩
  | gap t u =>
    obtain ⟨dx, b, c, sp, h1, h2, h3, h4⟩ := h
    exact ⟨dx, _, sp, h1, rfl, h2⟩
def spTEq (C : TC) : Sp := fun vs H Q _ => ∃ (a b : Addr) (t : Tm), vs = [.ref a, .ref b] ∧ TmAt C H a t ∧ TmAt C H b t ∧ t.NmS ∧ ∀ H', Same H H' → Q (.bl true) H'
def spAEq (A : AC) (C : TC) : Sp := fun vs H Q _ => ∃ (a b : Addr) (q : Am), vs = [.ref a, .ref b] ∧ AmAt A C H a q ∧ AmAt A C H b q ∧ q.NmS ∧ ∀ H', Same H H' → Q (.bl true) H'
section
variable {P : Program} {w : World} {K : PySem.W.Frag} {mg : Str → Option Value} {base : Heap} {C : TC} {A0 : AC} {CT CW : Addr}
abbrev s_Term_eq : Stmt := inClass (topS 21) 0
theorem sc_Term_eq : FnScope ["self", "other"] ["self", "other"] (defScope s_Term_eq) := ⟨rfl, rfl, rfl, by decide +kernel, rfl, by decide +kernel, by decide +kernel⟩
theorem ok_teq {f : Addr} {fd : FuncData} (F : Fun K "__eq__" "Term.__eq__" s_Term_eq f fd) (B : Blt mg) (T : TF K mg C) (G : S2 P w K mg base A0 C CT) : FnOk P w K mg base CX0 2 f fd ["self", "other"] (spTEq C) := by
  refine F.ok sc_Term_eq (fun vs H Q E h => ?_) (fun cdv A outer s H vs Q E hr h => ?_)
  · obtain ⟨a, b, t, rfl, _⟩ := h
    rfl
  · obtain ⟨a, b, t, rfl, hT, hU, hN, q⟩ := h
    refine ⟨_, (pss_one (ps_ret (pe_and (pe_cal G.is_term (hr.mono (by decide)) pass0 (pa_cons (pv 1) pa_nil)) (pe_one (pe_cmpR (op_eqD hr.units) (pe_fld (pv 0) rfl) (pe_fld (pv 1) rfl) (nomark _)))))), ?_⟩
    refine ⟨_, rfl, _, rfl, .inl ⟨b, t, rfl, hU, fun H1 s1 => ?_⟩⟩
    obtain ⟨dx, fs, sp, i⟩ := (hT.same s1).in_
    obtain ⟨dx2, fs2, sp2, i2⟩ := (hU.same s1).in_
    refine ⟨_, rfl, iteT ⟨_, rfl, a, _, dx, fs, _, rfl, i.at_, T.cl _ (C.is_of _), T.no _ (C.is_of _) _ (by decide +kernel), i.spelling, _, rfl, b, _, dx2, fs2, _, rfl, i2.at_, T.cl _ (C.is_of _), T.no _ (C.is_of _) _ (by decide +kernel), i2.spelling, ?_⟩⟩
    refine ⟨_, _, .tup (SqT.of i.spl) (spd_dp t), .tup (SqT.of i2.spl) (spd_dp t), flat_shaped (spd_flat hN), flat_shaped (spd_flat hN), ?_⟩
    rw [eqv_self (flat_shaped (spd_flat hN))]
    exact q H1 s1
abbrev s_Amount_eq : Stmt := inClass (topS 38) 0
theorem sc_Amount_eq : FnScope ["self", "other"] ["self", "other"] (defScope s_Amount_eq) := ⟨rfl, rfl, rfl, by decide +kernel, rfl, by decide +kernel, by decide +kernel⟩
theorem ok_aeq {f : Addr} {fd : FuncData} (F : Fun K "__eq__" "Amount.__eq__" s_Amount_eq f fd) (B : Blt mg) (AT : AF K mg A0 C) (G : S2 P w K mg base A0 C CT) : FnOk P w K mg base CX0 2 f fd ["self", "other"] (spAEq A0 C) := by
  refine F.ok sc_Amount_eq (fun vs H Q E h => ?_) (fun cdv A outer s H vs Q E hr h => ?_)
  · obtain ⟨a, b, t, rfl, _⟩ := h
    rfl
  · obtain ⟨a, b, t, rfl, hT, hU, hN, q⟩ := h
    refine ⟨_, (pss_one (ps_ret (pe_and (pe_cal G.is_amount (hr.mono (by decide)) pass0 (pa_cons (pv 1) pa_nil)) (pe_one (pe_cmpR (op_eqD hr.units) (pe_fld (pv 0) rfl) (pe_fld (pv 1) rfl) (nomark _)))))), ?_⟩
    refine ⟨_, rfl, b, rfl, .inl ⟨t, hU, fun H1 s1 => ?_⟩⟩
    obtain ⟨dx, fs, sp, i1, i2, i3⟩ := (hT.same s1).spl
    obtain ⟨dx2, fs2, sp2, j1, j2, j3⟩ := (hU.same s1).spl
    refine ⟨_, rfl, iteT ⟨_, rfl, a, _, dx, fs, _, rfl, i1, AT.cl _ (A0.is_of _), AT.no _ (A0.is_of _) _ (by decide +kernel), i2, _, rfl, b, _, dx2, fs2, _, rfl, j1, AT.cl _ (A0.is_of _), AT.no _ (A0.is_of _) _ (by decide +kernel), j2, ?_⟩⟩
    refine ⟨_, _, .tup (SqT.of i3) (aspd_dp t), .tup (SqT.of j3) (aspd_dp t), flat_shaped (aspd_flat hN), flat_shaped (aspd_flat hN), ?_⟩
    rw [eqv_self (flat_shaped (aspd_flat hN))]
    exact q H1 s1
end
end Ash

set_option Elab.async false
set_option linter.all false
set_option maxRecDepth 100000
set_option maxHeartbeats 4000000
namespace Ash
open PySem PySem.Spec PyProof.Rows L2 SrtT
/-! ### how large a term in the place of now makes another -/
def Tm.lv : Tm → Int
  | .now => 1
  | .last _ t => Tm.lv t
  | .next _ t => Tm.lv t
  | .shift _ t => Tm.lv t
  | .either a b => Tm.lv a + Tm.lv b
  | .later a b => Tm.lv a + Tm.lv b
  | .earlier a b => Tm.lv a + Tm.lv b
theorem lv_pos : ∀ t : Tm, 1 ≤ t.lv
  | .now => Int.le_refl 1
  | .last _ t => lv_pos t
  | .next _ t => lv_pos t
  | .shift _ t => lv_pos t
  | .either a b => by have := lv_pos a; have := lv_pos b; show 1 ≤ a.lv + b.lv; omega
  | .later a b => by have := lv_pos a; have := lv_pos b; show 1 ≤ a.lv + b.lv; omega
  | .earlier a b => by have := lv_pos a; have := lv_pos b; show 1 ≤ a.lv + b.lv; omega
theorem plus_lv (t : Tm) (n : Int) : (t.plus n).lv = t.lv := by
  unfold Tm.plus
  split
  · rfl
  · split
    · split <;> rfl
    · rfl
/-- shifts are put together -/
def Tm.Nf : Tm → Prop
  | .now => True
  | .last _ t => Tm.Nf t
  | .next _ t => Tm.Nf t
  | .shift n t => n ≠ 0 ∧ t.isShift = false ∧ Tm.Nf t
  | .either a b => Tm.Nf a ∧ Tm.Nf b
  | .later a b => Tm.Nf a ∧ Tm.Nf b
  | .earlier a b => Tm.Nf a ∧ Tm.Nf b
theorem plus_shift (m n : Int) (t : Tm) : (Tm.shift m t).plus n = if n = 0 then .shift m t else if m + n = 0 then t else .shift (m + n) t := rfl
theorem plus_nf {t : Tm} {n : Int} (h : t.Nf) : (t.plus n).Nf := by
  by_cases n0 : n = 0
  · unfold Tm.plus
    rw [if_pos n0]
    exact h
  · cases hs : t.isShift with
    | false =>
      rw [plus_no hs n0]
      exact ⟨n0, hs, h⟩
    | true =>
      cases t with
      | shift m u =>
        rw [plus_shift, if_neg n0]
        split
        · exact h.2.2
        · next z => exact ⟨z, h.2.1, h.2.2⟩
      | _ => exact absurd hs (by simp [Tm.isShift])
theorem plus_0 (t : Tm) : t.plus 0 = t := rfl
theorem plus_plus {t : Tm} (h : t.Nf) (m n : Int) : (t.plus m).plus n = t.plus (m + n) := by
  by_cases m0 : m = 0
  · subst m0
    rw [plus_0, Int.zero_add]
  by_cases n0 : n = 0
  · subst n0
    rw [plus_0, Int.add_zero]
  cases hs : t.isShift with
  | false =>
    rw [plus_no hs m0, plus_shift, if_neg n0]
    split
    · next z => rw [z]; rfl
    · next z => rw [plus_no hs z]
  | true =>
    cases t with
    | shift k u =>
      obtain ⟨h1, h2, h3⟩ := h
      rw [plus_shift, if_neg m0, plus_shift]
      by_cases a : k + m = 0
      · rw [if_pos a, plus_no h2 n0]
        by_cases b : m + n = 0
        · rw [if_pos b, show n = k by omega]
        · rw [if_neg b, if_neg (show ¬ k + (m + n) = 0 by omega), show k + (m + n) = n by omega]
      · rw [if_neg a, plus_shift, if_neg n0]
        by_cases b : m + n = 0
        · rw [if_pos b, if_neg (show ¬ k + m + n = 0 by omega), show k + m + n = k by omega]
        · rw [if_neg b, show k + m + n = k + (m + n) by omega]
    | _ => exact absurd hs (by simp [Tm.isShift])
theorem sub_nf {u : Tm} (hu : u.Nf) : ∀ {t : Tm}, t.Nf → (Tm.sub u t).Nf
  | .now, _ => hu
  | .last _ t, h => sub_nf (t := t) hu h
  | .next _ t, h => sub_nf (t := t) hu h
  | .shift n t, h => plus_nf (sub_nf (t := t) hu h.2.2)
  | .either a b, h => ⟨sub_nf hu h.1, sub_nf hu h.2⟩
  | .later a b, h => ⟨sub_nf hu h.1, sub_nf hu h.2⟩
  | .earlier a b, h => ⟨sub_nf hu h.1, sub_nf hu h.2⟩
theorem sub_plus {u t : Tm} (hu : u.Nf) (ht : t.Nf) (n : Int) : Tm.sub u (t.plus n) = (Tm.sub u t).plus n := by
  by_cases n0 : n = 0
  · subst n0
    rfl
  cases hs : t.isShift with
  | false =>
    rw [plus_no hs n0]
    rfl
  | true =>
    cases t with
    | shift m x =>
      have e : Tm.sub u (.shift m x) = (Tm.sub u x).plus m := rfl
      rw [e, plus_plus (sub_nf hu ht.2.2), plus_shift, if_neg n0]
      split
      · next z => rw [z]; rfl
      · rfl
    | _ => exact absurd hs (by simp [Tm.isShift])
theorem sub_now : ∀ {t : Tm}, t.Nf → Tm.sub .now t = t
  | .now, _ => rfl
  | .last s t, h => by show Tm.last s (Tm.sub .now t) = _; rw [sub_now (t := t) h]
  | .next s t, h => by show Tm.next s (Tm.sub .now t) = _; rw [sub_now (t := t) h]
  | .shift n t, h => by show (Tm.sub .now t).plus n = _; rw [sub_now (t := t) h.2.2, plus_no h.2.1 h.1]
  | .either a b, h => by show Tm.either (Tm.sub .now a) (Tm.sub .now b) = _; rw [sub_now (t := a) h.1, sub_now (t := b) h.2]
  | .later a b, h => by show Tm.later (Tm.sub .now a) (Tm.sub .now b) = _; rw [sub_now (t := a) h.1, sub_now (t := b) h.2]
  | .earlier a b, h => by show Tm.earlier (Tm.sub .now a) (Tm.sub .now b) = _; rw [sub_now (t := a) h.1, sub_now (t := b) h.2]
theorem sub_sub {u v : Tm} (hu : u.Nf) (hv : v.Nf) : ∀ {t : Tm}, t.Nf → Tm.sub v (Tm.sub u t) = Tm.sub (Tm.sub v u) t
  | .now, _ => rfl
  | .last s t, h => by show Tm.last s (Tm.sub v (Tm.sub u t)) = Tm.last s _; rw [sub_sub hu hv (t := t) h]
  | .next s t, h => by show Tm.next s (Tm.sub v (Tm.sub u t)) = Tm.next s _; rw [sub_sub hu hv (t := t) h]
  | .shift n t, h => by show Tm.sub v ((Tm.sub u t).plus n) = (Tm.sub (Tm.sub v u) t).plus n; rw [sub_plus hv (sub_nf hu h.2.2), sub_sub hu hv (t := t) h.2.2]
  | .either a b, h => by show Tm.either (Tm.sub v (Tm.sub u a)) (Tm.sub v (Tm.sub u b)) = Tm.either _ _; rw [sub_sub hu hv (t := a) h.1, sub_sub hu hv (t := b) h.2]
  | .later a b, h => by show Tm.later (Tm.sub v (Tm.sub u a)) (Tm.sub v (Tm.sub u b)) = Tm.later _ _; rw [sub_sub hu hv (t := a) h.1, sub_sub hu hv (t := b) h.2]
  | .earlier a b, h => by show Tm.earlier (Tm.sub v (Tm.sub u a)) (Tm.sub v (Tm.sub u b)) = Tm.earlier _ _; rw [sub_sub hu hv (t := a) h.1, sub_sub hu hv (t := b) h.2]
theorem bt_nf : ∀ t : Tm, (bt t).Nf
  | .now => trivial
  | .last _ t => bt_nf t
  | .next _ t => bt_nf t
  | .shift n t => plus_nf (bt_nf t)
  | .either a b => ⟨bt_nf a, bt_nf b⟩
  | .later a b => ⟨bt_nf a, bt_nf b⟩
  | .earlier a b => ⟨bt_nf a, bt_nf b⟩
theorem sub_nm {u : Tm} (hu : u.NmS) : ∀ {t : Tm}, t.NmS → (Tm.sub u t).NmS
  | .now, _ => hu
  | .last _ t, h => ⟨h.1, sub_nm hu h.2⟩
  | .next _ t, h => ⟨h.1, sub_nm hu h.2⟩
  | .shift n t, h => plus_nm (sub_nm (t := t) hu h)
  | .either a b, h => ⟨sub_nm hu h.1, sub_nm hu h.2⟩
  | .later a b, h => ⟨sub_nm hu h.1, sub_nm hu h.2⟩
  | .earlier a b, h => ⟨sub_nm hu h.1, sub_nm hu h.2⟩
theorem sub_sz (u : Tm) : ∀ t : Tm, (Tm.sub u t).dep ≤ t.dep + u.dep - 1 ∧ (Tm.sub u t).par ≤ t.par + t.lv * (u.par - 1) ∧ (Tm.sub u t).lok ≤ t.lok + t.lv * u.lok ∧ (Tm.sub u t).lv = t.lv * u.lv
  | .now => ⟨by show u.dep ≤ 1 + u.dep - 1; omega, by show u.par ≤ 1 + 1 * (u.par - 1); omega, by show u.lok ≤ 0 + 1 * u.lok; omega, by show u.lv = 1 * u.lv; omega⟩
  | .last s t => by
    obtain ⟨h1, h2, h3, h4⟩ := sub_sz u t
    exact ⟨by show 1 + (Tm.sub u t).dep ≤ 1 + t.dep + u.dep - 1; omega, by show 1 + (Tm.sub u t).par ≤ 1 + t.par + t.lv * (u.par - 1); omega, by show 1 + (Tm.sub u t).lok ≤ 1 + t.lok + t.lv * u.lok; omega, h4⟩
  | .next s t => by
    obtain ⟨h1, h2, h3, h4⟩ := sub_sz u t
    exact ⟨by show 1 + (Tm.sub u t).dep ≤ 1 + t.dep + u.dep - 1; omega, by show 1 + (Tm.sub u t).par ≤ 1 + t.par + t.lv * (u.par - 1); omega, by show 1 + (Tm.sub u t).lok ≤ 1 + t.lok + t.lv * u.lok; omega, h4⟩
  | .shift n t => by
    obtain ⟨h1, h2, h3, h4⟩ := sub_sz u t
    obtain ⟨q1, q2, q3⟩ := plus_sz (t := Tm.sub u t) (n := n)
    exact ⟨by show ((Tm.sub u t).plus n).dep ≤ 1 + t.dep + u.dep - 1; omega, by show ((Tm.sub u t).plus n).par ≤ 1 + t.par + t.lv * (u.par - 1); omega, by show ((Tm.sub u t).plus n).lok ≤ 0 + t.lok + t.lv * u.lok; omega, by show ((Tm.sub u t).plus n).lv = _; rw [plus_lv]; exact h4⟩
  | .either a b => by
    obtain ⟨h1, h2, h3, h4⟩ := sub_sz u a
    obtain ⟨g1, g2, g3, g4⟩ := sub_sz u b
    have m := mx_mono h1 g1
    have m1 := Tm.mx_l a.dep b.dep
    have m2 := Tm.mx_r a.dep b.dep
    have m3 : Tm.mx (a.dep + u.dep - 1) (b.dep + u.dep - 1) ≤ Tm.mx a.dep b.dep + u.dep - 1 := by
      unfold Tm.mx at m1 m2 ⊢
      split <;> split at m1 <;> omega
    have e1 := Int.add_mul a.lv b.lv (u.par - 1)
    have e2 := Int.add_mul a.lv b.lv u.lok
    have e3 := Int.add_mul a.lv b.lv u.lv
    refine ⟨?_, ?_, ?_, ?_⟩
    · show 1 + Tm.mx (Tm.sub u a).dep (Tm.sub u b).dep ≤ 1 + Tm.mx a.dep b.dep + u.dep - 1
      omega
    · show 1 + ((Tm.sub u a).par + (Tm.sub u b).par) ≤ 1 + (a.par + b.par) + (a.lv + b.lv) * (u.par - 1)
      omega
    · show 0 + ((Tm.sub u a).lok + (Tm.sub u b).lok) ≤ 0 + (a.lok + b.lok) + (a.lv + b.lv) * u.lok
      omega
    · show (Tm.sub u a).lv + (Tm.sub u b).lv = (a.lv + b.lv) * u.lv
      omega
  | .later a b => by
    obtain ⟨h1, h2, h3, h4⟩ := sub_sz u a
    obtain ⟨g1, g2, g3, g4⟩ := sub_sz u b
    have m := mx_mono h1 g1
    have m1 := Tm.mx_l a.dep b.dep
    have m2 := Tm.mx_r a.dep b.dep
    have m3 : Tm.mx (a.dep + u.dep - 1) (b.dep + u.dep - 1) ≤ Tm.mx a.dep b.dep + u.dep - 1 := by
      unfold Tm.mx at m1 m2 ⊢
      split <;> split at m1 <;> omega
    have e1 := Int.add_mul a.lv b.lv (u.par - 1)
    have e2 := Int.add_mul a.lv b.lv u.lok
    have e3 := Int.add_mul a.lv b.lv u.lv
    refine ⟨?_, ?_, ?_, ?_⟩
    · show 1 + Tm.mx (Tm.sub u a).dep (Tm.sub u b).dep ≤ 1 + Tm.mx a.dep b.dep + u.dep - 1
      omega
    · show 1 + ((Tm.sub u a).par + (Tm.sub u b).par) ≤ 1 + (a.par + b.par) + (a.lv + b.lv) * (u.par - 1)
      omega
    · show 0 + ((Tm.sub u a).lok + (Tm.sub u b).lok) ≤ 0 + (a.lok + b.lok) + (a.lv + b.lv) * u.lok
      omega
    · show (Tm.sub u a).lv + (Tm.sub u b).lv = (a.lv + b.lv) * u.lv
      omega
  | .earlier a b => by
    obtain ⟨h1, h2, h3, h4⟩ := sub_sz u a
    obtain ⟨g1, g2, g3, g4⟩ := sub_sz u b
    have m := mx_mono h1 g1
    have m1 := Tm.mx_l a.dep b.dep
    have m2 := Tm.mx_r a.dep b.dep
    have m3 : Tm.mx (a.dep + u.dep - 1) (b.dep + u.dep - 1) ≤ Tm.mx a.dep b.dep + u.dep - 1 := by
      unfold Tm.mx at m1 m2 ⊢
      split <;> split at m1 <;> omega
    have e1 := Int.add_mul a.lv b.lv (u.par - 1)
    have e2 := Int.add_mul a.lv b.lv u.lok
    have e3 := Int.add_mul a.lv b.lv u.lv
    refine ⟨?_, ?_, ?_, ?_⟩
    · show 1 + Tm.mx (Tm.sub u a).dep (Tm.sub u b).dep ≤ 1 + Tm.mx a.dep b.dep + u.dep - 1
      omega
    · show 1 + ((Tm.sub u a).par + (Tm.sub u b).par) ≤ 1 + (a.par + b.par) + (a.lv + b.lv) * (u.par - 1)
      omega
    · show 0 + ((Tm.sub u a).lok + (Tm.sub u b).lok) ≤ 0 + (a.lok + b.lok) + (a.lv + b.lv) * u.lok
      omega
    · show (Tm.sub u a).lv + (Tm.sub u b).lv = (a.lv + b.lv) * u.lv
      omega
/-- small enough to be made -/
structure Tm.Low (u t : Tm) : Prop where
  dep : t.dep + u.dep ≤ 13
  par : t.par + t.lv * (u.par - 1) ≤ 40
  lok : t.lok + t.lv * u.lok ≤ 12
theorem low_fit {u t : Tm} (h : Tm.Low u t) : (Tm.sub u t).Fit := by
  obtain ⟨h1, h2, h3, _⟩ := sub_sz u t
  obtain ⟨g1, g2, g3⟩ := h
  exact ⟨by omega, by omega, by omega⟩
theorem low_pair {u a b : Tm} {d l : Int} (h1 : 1 + Tm.mx a.dep b.dep + u.dep ≤ 13) (h2 : 1 + (a.par + b.par) + (a.lv + b.lv) * (u.par - 1) ≤ 40) (h3 : 0 + (a.lok + b.lok) + (a.lv + b.lv) * u.lok ≤ 12) : Tm.Low u a ∧ Tm.Low u b := by
  have m1 := Tm.mx_l a.dep b.dep
  have m2 := Tm.mx_r a.dep b.dep
  have e1 := Int.add_mul a.lv b.lv (u.par - 1)
  have e2 := Int.add_mul a.lv b.lv u.lok
  have := u.par_pos
  have := u.lok_nn
  have := lv_pos a
  have := lv_pos b
  have := a.par_pos
  have := b.par_pos
  have := a.lok_nn
  have := b.lok_nn
  have z1 : 0 ≤ a.lv * (u.par - 1) := Int.mul_nonneg (by omega) (by omega)
  have z2 : 0 ≤ b.lv * (u.par - 1) := Int.mul_nonneg (by omega) (by omega)
  have z3 : 0 ≤ a.lv * u.lok := Int.mul_nonneg (by omega) (by omega)
  have z4 : 0 ≤ b.lv * u.lok := Int.mul_nonneg (by omega) (by omega)
  exact ⟨⟨by omega, by omega, by omega⟩, ⟨by omega, by omega, by omega⟩⟩
theorem sok_of {u : Tm} : ∀ {t : Tm}, Tm.Low u t → Tm.Sok u t
  | .now, _ => trivial
  | .last s t, h => by
    have h1 : 1 + t.dep + u.dep ≤ 13 := h.dep
    have h2 : 1 + t.par + t.lv * (u.par - 1) ≤ 40 := h.par
    have h3 : 1 + t.lok + t.lv * u.lok ≤ 12 := h.lok
    exact ⟨sok_of ⟨by omega, by omega, by omega⟩, low_fit (t := .last s t) h⟩
  | .next s t, h => by
    have h1 : 1 + t.dep + u.dep ≤ 13 := h.dep
    have h2 : 1 + t.par + t.lv * (u.par - 1) ≤ 40 := h.par
    have h3 : 1 + t.lok + t.lv * u.lok ≤ 12 := h.lok
    exact ⟨sok_of ⟨by omega, by omega, by omega⟩, low_fit (t := .next s t) h⟩
  | .shift n t, h => by
    have h1 : 1 + t.dep + u.dep ≤ 13 := h.dep
    have h2 : 1 + t.par + t.lv * (u.par - 1) ≤ 40 := h.par
    have h3 : 0 + t.lok + t.lv * u.lok ≤ 12 := h.lok
    exact ⟨sok_of ⟨by omega, by omega, by omega⟩, low_fit (t := .shift n t) h⟩
  | .either a b, h => by
    obtain ⟨l1, l2⟩ := low_pair (d := 0) (l := 0) (u := u) (a := a) (b := b) h.dep h.par h.lok
    exact ⟨sok_of l1, sok_of l2, low_fit (t := .either a b) h⟩
  | .later a b, h => by
    obtain ⟨l1, l2⟩ := low_pair (d := 0) (l := 0) (u := u) (a := a) (b := b) h.dep h.par h.lok
    exact ⟨sok_of l1, sok_of l2, low_fit (t := .later a b) h⟩
  | .earlier a b, h => by
    obtain ⟨l1, l2⟩ := low_pair (d := 0) (l := 0) (u := u) (a := a) (b := b) h.dep h.par h.lok
    exact ⟨sok_of l1, sok_of l2, low_fit (t := .earlier a b) h⟩
def tw : Nat → Int
  | 0 => 1
  | n + 1 => 2 * tw n
theorem tw_pos : ∀ n, 1 ≤ tw n
  | 0 => Int.le_refl 1
  | n + 1 => by have := tw_pos n; show 1 ≤ 2 * tw n; omega
theorem sz2 : ∀ (t : Tm) (d : Nat), t.dep ≤ (d : Int) + 1 → t.lok + t.lv ≤ tw d ∧ t.par + 1 ≤ 2 * tw d
  | .now, d, _ => by have := tw_pos d; exact ⟨by show 0 + 1 ≤ tw d; omega, by show 1 + 1 ≤ 2 * tw d; omega⟩
  | .last s t, 0, h => by have := t.dep_pos; have h : 1 + t.dep ≤ ((0 : Nat) : Int) + 1 := h; omega
  | .next s t, 0, h => by have := t.dep_pos; have h : 1 + t.dep ≤ ((0 : Nat) : Int) + 1 := h; omega
  | .shift s t, 0, h => by have := t.dep_pos; have h : 1 + t.dep ≤ ((0 : Nat) : Int) + 1 := h; omega
  | .either a b, 0, h => by have := a.dep_pos; have := Tm.mx_l a.dep b.dep; have h : 1 + Tm.mx a.dep b.dep ≤ ((0 : Nat) : Int) + 1 := h; omega
  | .later a b, 0, h => by have := a.dep_pos; have := Tm.mx_l a.dep b.dep; have h : 1 + Tm.mx a.dep b.dep ≤ ((0 : Nat) : Int) + 1 := h; omega
  | .earlier a b, 0, h => by have := a.dep_pos; have := Tm.mx_l a.dep b.dep; have h : 1 + Tm.mx a.dep b.dep ≤ ((0 : Nat) : Int) + 1 := h; omega
  | .last s t, d + 1, h => by
    have h : 1 + t.dep ≤ ((d + 1 : Nat) : Int) + 1 := h
    obtain ⟨h1, h2⟩ := sz2 t d (by omega)
    have := tw_pos d
    exact ⟨by show 1 + t.lok + t.lv ≤ 2 * tw d; omega, by show 1 + t.par + 1 ≤ 2 * (2 * tw d); omega⟩
  | .next s t, d + 1, h => by
    have h : 1 + t.dep ≤ ((d + 1 : Nat) : Int) + 1 := h
    obtain ⟨h1, h2⟩ := sz2 t d (by omega)
    have := tw_pos d
    exact ⟨by show 1 + t.lok + t.lv ≤ 2 * tw d; omega, by show 1 + t.par + 1 ≤ 2 * (2 * tw d); omega⟩
  | .shift s t, d + 1, h => by
    have h : 1 + t.dep ≤ ((d + 1 : Nat) : Int) + 1 := h
    obtain ⟨h1, h2⟩ := sz2 t d (by omega)
    have := tw_pos d
    exact ⟨by show 0 + t.lok + t.lv ≤ 2 * tw d; omega, by show 1 + t.par + 1 ≤ 2 * (2 * tw d); omega⟩
  | .either a b, d + 1, h => by
    have h : 1 + Tm.mx a.dep b.dep ≤ ((d + 1 : Nat) : Int) + 1 := h
    have := Tm.mx_l a.dep b.dep
    have := Tm.mx_r a.dep b.dep
    obtain ⟨h1, h2⟩ := sz2 a d (by omega)
    obtain ⟨h3, h4⟩ := sz2 b d (by omega)
    exact ⟨by show 0 + (a.lok + b.lok) + (a.lv + b.lv) ≤ 2 * tw d; omega, by show 1 + (a.par + b.par) + 1 ≤ 2 * (2 * tw d); omega⟩
  | .later a b, d + 1, h => by
    have h : 1 + Tm.mx a.dep b.dep ≤ ((d + 1 : Nat) : Int) + 1 := h
    have := Tm.mx_l a.dep b.dep
    have := Tm.mx_r a.dep b.dep
    obtain ⟨h1, h2⟩ := sz2 a d (by omega)
    obtain ⟨h3, h4⟩ := sz2 b d (by omega)
    exact ⟨by show 0 + (a.lok + b.lok) + (a.lv + b.lv) ≤ 2 * tw d; omega, by show 1 + (a.par + b.par) + 1 ≤ 2 * (2 * tw d); omega⟩
  | .earlier a b, d + 1, h => by
    have h : 1 + Tm.mx a.dep b.dep ≤ ((d + 1 : Nat) : Int) + 1 := h
    have := Tm.mx_l a.dep b.dep
    have := Tm.mx_r a.dep b.dep
    obtain ⟨h1, h2⟩ := sz2 a d (by omega)
    obtain ⟨h3, h4⟩ := sz2 b d (by omega)
    exact ⟨by show 0 + (a.lok + b.lok) + (a.lv + b.lv) ≤ 2 * tw d; omega, by show 1 + (a.par + b.par) + 1 ≤ 2 * (2 * tw d); omega⟩
/-! ### what it answers -/
def RelS (s : List Int) (r' r : Rs) : Prop := r'.1 = r.1 ∧ (∀ i ∈ r.2, i ∈ r'.2) ∧ ∀ i ∈ r'.2, i ∈ r.2 ∨ i ∈ s
theorem RelS.app {s l l' m m' : List Int} (h1 : ∀ i ∈ l, i ∈ l') (h2 : ∀ i ∈ l', i ∈ l ∨ i ∈ s) (g1 : ∀ i ∈ m, i ∈ m') (g2 : ∀ i ∈ m', i ∈ m ∨ i ∈ s) : (∀ i ∈ l ++ m, i ∈ l' ++ m') ∧ ∀ i ∈ l' ++ m', i ∈ l ++ m ∨ i ∈ s := by
  refine ⟨fun i h => ?_, fun i h => ?_⟩
  · rcases List.mem_append.mp h with h | h
    · exact List.mem_append_left _ (h1 i h)
    · exact List.mem_append_right _ (g1 i h)
  · rcases List.mem_append.mp h with h | h
    · exact (h2 i h).imp (List.mem_append_left _) id
    · exact (g2 i h).imp (List.mem_append_right _) id
theorem rel_look {s : List Int} {r' r : Rs} {f : Int → Option T3} (h : RelS s r' r) : RelS s (lookR r' f) (lookR r f) := by
  obtain ⟨a', b'⟩ := r'
  obtain ⟨a, b⟩ := r
  obtain ⟨h1, h2, h3⟩ := h
  have h1 : a' = a := h1
  subst h1
  cases a' with
  | none => exact ⟨rfl, h2, h3⟩
  | some m =>
    cases e : f m with
    | none =>
      rw [look_none (show (some m : Option Int).bind f = none from e), look_none (show (some m : Option Int).bind f = none from e)]
      exact ⟨rfl, h2, h3⟩
    | some t =>
      rw [look_some (show (some m : Option Int).bind f = some t from e), look_some (show (some m : Option Int).bind f = some t from e)]
      obtain ⟨q1, q2⟩ := RelS.app (s := s) h2 h3 (m := [t.2.1]) (m' := [t.2.1]) (fun _ h => h) (fun _ h => .inl h)
      exact ⟨rfl, q1, q2⟩
theorem rel_move {s : List Int} {r' r : Rs} {n : Int} (h : RelS s r' r) : RelS s (moveR r' n) (moveR r n) := by
  obtain ⟨a', b'⟩ := r'
  obtain ⟨a, b⟩ := r
  obtain ⟨h1, h2, h3⟩ := h
  have h1 : a' = a := h1
  subst h1
  cases a' with
  | none => exact ⟨rfl, h2, h3⟩
  | some m => exact ⟨rfl, h2, h3⟩
theorem rel_eith {s : List Int} {r' r q' q : Rs} (h : RelS s r' r) (g : RelS s q' q) : RelS s (eithR r' q') (eithR r q) := by
  obtain ⟨a', b'⟩ := r'
  obtain ⟨a, b⟩ := r
  obtain ⟨h1, h2, h3⟩ := h
  obtain ⟨g1, g2, g3⟩ := g
  have h1 : a' = a := h1
  subst h1
  cases a' with
  | none =>
    obtain ⟨q1, q2⟩ := RelS.app h2 h3 g2 g3
    exact ⟨g1, q1, q2⟩
  | some m => exact ⟨rfl, h2, h3⟩
theorem rel_both {s : List Int} {f : Int → Int → Int} {r' r q' q : Rs} (h : RelS s r' r) (g : RelS s q' q) : RelS s (bothR f r' q') (bothR f r q) := by
  obtain ⟨a', b'⟩ := r'
  obtain ⟨a, b⟩ := r
  obtain ⟨c', d'⟩ := q'
  obtain ⟨c, d⟩ := q
  obtain ⟨h1, h2, h3⟩ := h
  obtain ⟨g1, g2, g3⟩ := g
  have h1 : a' = a := h1
  have g1 : c' = c := g1
  subst h1
  subst g1
  obtain ⟨q1, q2⟩ := RelS.app h2 h3 g2 g3
  cases a' with
  | none => exact ⟨rfl, h2, h3⟩
  | some m =>
    cases c' with
    | none => exact ⟨rfl, q1, q2⟩
    | some k => exact ⟨rfl, q1, q2⟩
theorem rel_lookA {s : List Int} {r' r : Rs} {f : Int → Option T3} (h : RelS s r' r) : RelS s (lookA r' f) (lookA r f) := by
  obtain ⟨a', b'⟩ := r'
  obtain ⟨a, b⟩ := r
  obtain ⟨h1, h2, h3⟩ := h
  have h1 : a' = a := h1
  subst h1
  cases a' with
  | none => exact ⟨rfl, h2, h3⟩
  | some m =>
    unfold lookA
    dsimp only
    cases e : f m with
    | none => exact ⟨rfl, h2, h3⟩
    | some t =>
      obtain ⟨q1, q2⟩ := RelS.app (s := s) h2 h3 (m := [t.2.1]) (m' := [t.2.1]) (fun _ h => h) (fun _ h => .inl h)
      exact ⟨rfl, q1, q2⟩
theorem rel_tell {s : List Int} {g0 : Int → Int → Rs} {r' r q' q : Rs} (h : RelS s r' r) (g : RelS s q' q) : RelS s (tellR r' q' g0) (tellR r q g0) := by
  obtain ⟨a', b'⟩ := r'
  obtain ⟨a, b⟩ := r
  obtain ⟨c', d'⟩ := q'
  obtain ⟨c, d⟩ := q
  obtain ⟨h1, h2, h3⟩ := h
  obtain ⟨g1, g2, g3⟩ := g
  have h1 : a' = a := h1
  have g1 : c' = c := g1
  subst h1
  subst g1
  obtain ⟨q1, q2⟩ := RelS.app h2 h3 g2 g3
  cases a' with
  | none => exact ⟨rfl, h2, h3⟩
  | some m =>
    cases c' with
    | none => exact ⟨rfl, q1, q2⟩
    | some k =>
      obtain ⟨p1, p2⟩ := RelS.app (s := s) q1 q2 (m := (g0 m k).2) (m' := (g0 m k).2) (fun _ h => h) (fun _ h => .inl h)
      exact ⟨rfl, p1, p2⟩
theorem ev_sub {W : Tr} {now m : Int} {s : List Int} {u : Tm} (hu : ev W now u = (some m, s)) : ∀ t : Tm, RelS s (ev W now (Tm.sub u t)) (ev W m t)
  | .now => by
    show RelS s (ev W now u) (some m, [])
    rw [hu]
    exact ⟨rfl, (fun _ h => absurd h List.not_mem_nil), fun _ h => .inr h⟩
  | .last z t => rel_look (ev_sub hu t)
  | .next z t => rel_look (ev_sub hu t)
  | .shift n t => by
    show RelS s (ev W now ((Tm.sub u t).plus n)) (moveR (ev W m t) n)
    rw [plus_ev]
    exact rel_move (ev_sub hu t)
  | .either a b => rel_eith (ev_sub hu a) (ev_sub hu b)
  | .later a b => rel_both (ev_sub hu a) (ev_sub hu b)
  | .earlier a b => rel_both (ev_sub hu a) (ev_sub hu b)
theorem evQ_sub {W : Tr} {now m : Int} {s : List Int} {u : Tm} (hu : ev W now u = (some m, s)) : ∀ q : Qn, RelS s (evQ W now (Qn.sub u q)) (evQ W m q)
  | .tm t => ev_sub hu t
  | .am (.number z t) => rel_lookA (ev_sub hu t)
  | .am (.count z t v) => rel_tell (ev_sub hu t) (ev_sub hu v)
  | .am (.total z t v) => rel_tell (ev_sub hu t) (ev_sub hu v)
  | .am (.gap t v) => rel_tell (ev_sub hu t) (ev_sub hu v)
end Ash

set_option Elab.async false
set_option linter.all false
set_option maxRecDepth 100000
set_option maxHeartbeats 4000000
namespace L2
open PySem PySem.Spec PyProof.Rows
/-! ### several except clauses, each with a name or without -/
abbrev Clause := Value × Option Nat × (Addr → Value → Option Addr → TS)
/-- behind a suite its name is gone -/
def endAs (i : Nat) (D : Ends) : Ends := { nx := fun σ H => D.nx (σ.set i none) H, rt := D.rt, bk := fun σ H => D.bk (σ.set i none) H, ct := fun σ H => D.ct (σ.set i none) H }
def clGo (D : Ends) : Option Nat → (Addr → Value → Option Addr → TS) → WX
  | none, ts => fun cls d σ H => ∀ q, H q = none → ts q cls d D σ H
  | some i, ts => fun cls d σ H => ∀ q, H q = none → ts q cls d (endAs i D) (σ.set i (some (.ref q))) H
def wCls (K : PySem.W.Frag) (W0 : WX) (D : Ends) : List Clause → WX
  | [] => W0
  | (c, o, ts) :: r => fun cls d σ H => ∃ b, PySem.W.exmOne K cls c = some b ∧ (b = true → clGo D o ts cls d σ H) ∧ (b = false → wCls K W0 D r cls d σ H)
/-- the name of a clause -/
def ClName (X : Cx) : Option Str → Option Nat → Prop
  | none, none => True
  | some n, some i => X.N[i]? = some n ∧ X.env.kindOf n = some .local
  | _, _ => False
inductive ClsOk (X : Cx) : List ExceptHandler → List Clause → Prop
  | nil : ClsOk X [] []
  | cons {x : Str} {n : Option Str} {o : Option Nat} {c : Value} {ts : Addr → Value → Option Addr → TS} {b0 : Stmt} {su : List Stmt} {p1 p2 : Pos} {hs : List ExceptHandler} {l : List Clause} (hc : Names X x c) (hn : ClName X n o)
      (hsu : ∀ (q : Addr) (oe : Obj) (cls : Value) (d : Option Addr) (pn : List (Addr × Obj)), Zc cls d oe → (∃ vs, oe.data = .fields vs) → PSs (X.suite q ((q, oe) :: pn)) (b0 :: su) (ts q cls d)) (r : ClsOk X hs l) :
      ClsOk X (.ExceptHandler (some (.Name x p1)) n (b0 :: su) p2 :: hs) ((c, o, ts) :: l)
section
variable {X : Cx} {body : List Stmt} {h0 : ExceptHandler} {hs : List ExceptHandler} {l : List Clause} {pos : Pos} {tb : WX → TS} {W0 : WX}
theorem ps_try_cls (st : X.stack = X.env :: X.outer) (fr : X.env.frame = some X.env.locals) (nd : X.N.Nodup) (tk : Takes X W0)
    (hb : ∀ (W : WX) (pn : List (Addr × Obj)) (xe : Value → Shared → Prop), Takes (X.tr pn xe) W → PassesOwn (model X.prog X.w) X.A X.env xe → PSs (X.tr pn xe) body (tb W))
    (hh : ClsOk X (h0 :: hs) l) : PS X (.Try body (h0 :: hs) [] [] pos) (fun D σ H => tb (wCls X.K W0 D l) D σ H) := by
  refine ⟨fun pins s σ H D I h => ?_⟩
  have ok := I.ok
  have fA : X.A.frames = some (X.env :: X.outer) := by rw [ok.frames, st]
  refine wpAny_Try_except (wpAny_mono ((hb (wCls X.K W0 D l) (X.pn ++ pins) (fun e s1 => wpAny (model X.prog X.w) X.A (noteFrame e X.env) (fun _ s2 => wpAny (model X.prog X.w) X.A (setFlight e none) (fun _ s3 => wpAny (model X.prog X.w) X.A (handleBy e X.env (h0 :: hs)) (SP X pins D) X.xe s3) X.xe s2) X.xe s1)
    (fun u s' xx => ?_) PassesOwn.looking).run [] s σ H D (I.toTry _) h) (fun f s1 k => ?_) (fun _ _ he => he))
  · obtain ⟨q, M, t0, pins', τ, G, cls, d, rfl, J', nb, up, sky, nq, os, ag, w⟩ := xx
    have J : Inv X pins τ G t0 := J'.ofTry ok
    have sk : Sky M (X.env :: X.outer) q (Zc cls d) X.env.locals s'.heap := st ▸ sky
    refine (show wpAny (model X.prog X.w) X.A (noteFrame (.ref q) X.env) _ _ _ from Sky.land Zc.steady fA fr sk fun g3 f3 u3 => ?_)
    have J3 : Inv X pins τ G { s' with heap := g3 } := J.landed nb f3.1 (up.trans u3) os ag
    obtain ⟨oe3, vs3, he3, hz3, hd3⟩ := f3.there
    have off : ∀ {g : Heap} {o : Obj} {vs : Array Value}, g.FunFrames M (X.env :: X.outer) → g.get? q = some o → o.data = .fields vs → q ∉ frs (X.env :: X.outer) := fun {g o vs} ff e dd hm => by
      obtain ⟨_, o2, e2, hnf⟩ := ff.mem hm
      rw [e] at e2
      cases e2
      exact hnf _ dd
    have nfr := off f3.2.2.1 he3 hd3
    have nL : q ≠ X.env.locals := fun z => nfr (List.mem_filterMap.mpr ⟨X.env, List.mem_cons_self, fr.trans (congrArg some z.symm)⟩)
    have nF : q ∉ X.fs := fun hm => by
      obtain ⟨e, he, z⟩ := List.mem_filterMap.mp hm
      exact nfr (List.mem_filterMap.mpr ⟨e, List.mem_cons_of_mem _ he, z⟩)
    have S3 := J3.suite he3 hd3 nq nL nF
    have go : ∀ {ks : List ExceptHandler} {ls : List Clause}, ClsOk X ks ls → wCls X.K W0 D ls cls d τ G → wpAny (model X.prog X.w) X.A (handleBy (.ref q) X.env ks) (SP X pins D) X.xe { s' with heap := g3 } := by
      intro ks ls hk
      induction hk with
      | nil =>
        intro w
        refine wpAny_handleBy_nil ?_
        obtain ⟨_, _, _, oe, vs, T, oT, ts', he, hz, hd, h1, hr⟩ := id f3
        unfold PySem.passOn
        refine wpAny_bind (wpAny_field he hd h1 ?_)
        rw [if_neg (show ¬ ((Value.ref T == Value.none) = true) from Bool.false_ne_true)]
        have fin : wpAny (model X.prog X.w) X.A (setFlight (.ref q) X.env.frame) (fun _ s4 => wpAny (model X.prog X.w) X.A (throw (.ref q) : Sem Flow) (SP X pins D) X.xe s4) X.xe { s' with heap := g3 } := by
          rw [fr]
          exact HandSPX.setFlight_upZ f3 fun g4 k4 u4 => wpAny_throw (tk _ _ ⟨q, M, t0, pins, τ, G, cls, d, rfl, J, nb, (up.trans u3).trans u4, .inr (.inr (by rw [st]; exact k4)), nq, os, ag, w⟩)
        first
          | exact wpAny_bind (wpAny_pure (wpAny_bind fin))
          | exact wpAny_bind fin
      | @cons x n o c ts b0 su p1 p2 ks2 l2 hc hn hsu r ih =>
        intro w
        obtain ⟨b, b1, yes, no⟩ := w
        refine wpAny_handleBy_cons (codeAny_handlers_test ?_) (by intro z; cases z)
        have LM := PySem.W.exm_one (M := model X.prog X.w) (J3.kIn) (show PySem.W.Looks (model X.prog X.w) g3 (typeOf (.ref q)) cls from fun A Q E s k z => wpAny_typeOf_ref (k _ _ he3) (by rw [hz3.1]; exact z)) b1
        have test : ∀ {Q E : Value → Shared → Prop}, Q c { s' with heap := g3 } → wpAny (model X.prog X.w) (X.A.mark (some (.ref q))) (eval (.Name x p1) X.env) Q E { s' with heap := g3 } := fun {Q E} z => by
          obtain ⟨e1, e2, e3 | ⟨e3, e4, e5⟩⟩ := hc
          · exact ld_glob (X := X.suite q ((q, oe3) :: (X.pn ++ pins))) S3 e1 e3 z e2
          · exact ld_blt (X := X.suite q ((q, oe3) :: (X.pn ++ pins))) S3 e1 e3 e4 z e5 e2
        refine test (LM.here ?_)
        cases b with
        | false => exact (show wpAny _ X.A (handleBy (.ref q) X.env ks2) _ _ _ from ih (no rfl))
        | true =>
          have yes := yes rfl
          match n, o, hn with
          | none, none, _ =>
            refine codeAny_handlers_suite (HandSPX.lands_againZ f3 fun g4 f4 u4 => ?_)
            have J4 : Inv X pins τ G { s' with heap := g4 } := J.landed nb f4.1 ((up.trans u3).trans u4) os ag
            obtain ⟨oe4, vs4, he4, hz4, hd4⟩ := f4.there
            refine wpAny_mono ((hsu q oe4 cls d (X.pn ++ pins) hz4 ⟨_, hd4⟩).run [] _ _ G _ (J4.suite he4 hd4 nq nL nF) (yes q nq)) (fun f s6 k => ?_) (fun _ _ z => False.elim z)
            cases f with
            | ret u =>
              obtain ⟨v6, σ6, H6, S6, r6, q6⟩ := k
              exact ⟨_, _, _, S6.unsuite ok, r6, q6⟩
            | _ =>
              obtain ⟨σ6, H6, S6, q6⟩ := k
              exact ⟨_, _, S6.unsuite ok, q6⟩
          | some n, some i, ⟨hi, hln⟩ =>
            refine codeAny_handlers_suite_as (HandSPX.lands_againZ f3 fun g4 f4 u4 => ?_)
            have J4 : Inv X pins τ G { s' with heap := g4 } := J.landed nb f4.1 ((up.trans u3).trans u4) os ag
            obtain ⟨oe4, vs4, he4, hz4, hd4⟩ := f4.there
            have S4 := J4.suite he4 hd4 nq nL nF
            refine store_ok (X := X.suite q ((q, oe4) :: (X.pn ++ pins))) (v := .ref q) S4 nd hi (.inl hln) rfl (fun s5 S5 => ?_) (.inr hln)
            refine wpAny_mono ((hsu q oe4 cls d (X.pn ++ pins) hz4 ⟨_, hd4⟩).run [] s5 _ G _ S5 (yes q nq)) (fun f s6 k => ?_) (fun _ _ z => False.elim z)
            have out : ∀ {σ6 : St} {H6 : Hp} {Q : Shared → Prop}, Inv (X.suite q ((q, oe4) :: (X.pn ++ pins))) [] σ6 H6 s6 → (∀ s7, Inv X pins (σ6.set i none) H6 s7 → Q s7) → wpAny (model X.prog X.w) X.A (do bindName X.env n .none; unbindBehindTheSuite X.env n p2) (fun _ s7 => Q s7) X.xe s6 :=
              fun {σ6 H6 Q} S6 hq => gone_ok (S6.unsuite ok) nd hi hln hq
            cases f with
            | ret u =>
              obtain ⟨v6, σ6, H6, S6, r6, q6⟩ := k
              exact out S6 fun s7 J7 => ⟨_, _, _, J7, r6, q6⟩
            | _ =>
              obtain ⟨σ6, H6, S6, q6⟩ := k
              exact out S6 fun s7 J7 => ⟨_, _, J7, q6⟩
    exact go hh w
  · cases f with
    | next =>
      obtain ⟨τ, G, J', z⟩ := k
      exact wpAny_execs_nil ⟨τ, G, J'.ofTry ok, z⟩
    | ret u =>
      obtain ⟨v, τ, G, J', r, z⟩ := k
      exact ⟨v, τ, G, J'.ofTry ok, r, z⟩
    | _ =>
      obtain ⟨τ, G, J', z⟩ := k
      exact ⟨τ, G, J'.ofTry ok, z⟩
end
end L2

set_option Elab.async false
set_option linter.all false
set_option maxRecDepth 100000
set_option maxHeartbeats 4000000
set_option pp.maxSteps 3000
namespace Ash
open PySem PySem.Spec PyProof.Rows L2 SrtT
open C8 (pss_cut)
def WEn (n : Nat) (W : WX) : XK := fun cls d H => ∀ σ : L2.St, σ.length = n → W cls d σ H
theorem passN {X : Cx} {W : WX} {n : Nat} (hn : X.N.length = n) (tk : Takes X W) : Passes (L2.CX X.prog X.w) X (WEn n W) := fun _ σ _ _ e s' I c => tk e s' (XE.of_call I (fun cls d H' h => h σ (I.len.trans hn)) c)
/-- a chain of so many looks -/
structure ChN (t : Tm) (m : Int) : Prop where
  ch : t.Chain
  nm : t.NmS
  dep : t.dep = 1 + m
  par : t.par = 1 + m
  lok : t.lok = m
theorem chain_sub {u : Tm} : ∀ {t : Tm}, t.Chain → (Tm.sub u t).dep = t.dep + u.dep - 1 ∧ t.lv = 1
  | .now, _ => ⟨by show u.dep = 1 + u.dep - 1; omega, rfl⟩
  | .last s t, h => by
    obtain ⟨h1, h2⟩ := chain_sub (u := u) (t := t) h
    exact ⟨by show 1 + (Tm.sub u t).dep = 1 + t.dep + u.dep - 1; omega, h2⟩
  | .next s t, h => by
    obtain ⟨h1, h2⟩ := chain_sub (u := u) (t := t) h
    exact ⟨by show 1 + (Tm.sub u t).dep = 1 + t.dep + u.dep - 1; omega, h2⟩
  | .shift _ _, h => h.elim
  | .either _ _, h => h.elim
  | .later _ _, h => h.elim
  | .earlier _ _, h => h.elim
def spLDeep15 (C : TC) : Sp := fun vs H Q _ => ∃ (p s l : Addr) (names : List Str) (many : Int), vs = [.ref p, .ref l, .int many] ∧ PoolAt H p s ∧ l ≠ p ∧ H l = some (.lst (names.map V.str)) ∧ 1 ≤ names.length ∧ names.length ≤ 25 ∧ (∀ z ∈ names, IsNm z) ∧ 0 ≤ many ∧ many ≤ 11 ∧
  ∀ a t H', TmAt C H' a t → ChN t many → Pl H H' p s → Q (.ref a) H'
def spLSize (C : TC) : Sp := fun vs H Q _ => ∃ (a b : Addr) (t u : Tm) (m n : Int), vs = [.ref a, .ref b] ∧ TmAt C H a t ∧ TmAt C H b u ∧ ChN t m ∧ ChN u n ∧ 0 ≤ m ∧ m ≤ 11 ∧ 0 ≤ n ∧ n ≤ 11 ∧ ∀ H', Q (.int (if 1 + m + n ≤ 12 then 1 + m + n else 13)) H'
section
variable {P : Program} {w : World} {K : PySem.W.Frag} {mg : Str → Option Value} {base : Heap} {C : TC} {CT CW : Addr} {A0 : AC}
structure GD15 (P : Program) (w : World) (K : PySem.W.Frag) (mg : Str → Option Value) (base : Heap) (C : TC) : Prop extends B0 P w K mg base C where
  law_draw : CDraw P w K mg base
abbrev s_l_deep : Stmt := topS 81
theorem sc_l_deep : FnScope ["pool", "streams", "many", "term", "k", "stream"] ["pool", "streams", "many"] (defScope s_l_deep) := ⟨rfl, rfl, rfl, by decide +kernel, rfl, by decide +kernel, by decide +kernel⟩
theorem ok_ldeep {f : Addr} {fd : FuncData} (F : Fun K "_law_deep" "_law_deep" s_l_deep f fd) (B : Blt mg) (G : GD15 P w K mg base C) : FnOk P w K mg base CX0 7 f fd ["pool", "streams", "many"] (spLDeep15 C) := by
  refine F.ok sc_l_deep (fun vs H Q E h => ?_) (fun cdv A outer s H vs Q E hr h => ?_)
  · obtain ⟨p, s, l, names, many, rfl, _⟩ := h
    rfl
  · obtain ⟨p, s0, l, names, many, rfl, hP, hlp, hl, n1, n25, hnm, m0, m9, q⟩ := h
    refine ⟨_, (pss_cons (ps_set (i := 3) sc_l_deep.nd rfl (Or.inl rfl) (pe_mak0 G.Now (hr.mono (by decide)) pass0))
    (pss_cons (ps_for PassesOwn.never rfl (pi_range1 (by rfl) B.range (pa_cons (pv 2) pa_nil)) (pg_name (i := 4) sc_l_deep.nd rfl (Or.inl rfl))
      (pss_cons (ps_set (i := 5) sc_l_deep.nd rfl (Or.inl rfl) (pe_ix ix_list (pv 1) (pe_cal G.law_draw (hr.mono (by decide)) pass0 (pa_cons (pv 0) (pa_cons (pe_callB call_len (by rfl) B.len (by decide +kernel) (pa_cons (pv 1) pa_nil)) pa_nil))) (fun _ _ => rfl)))
      (pss_one (ps_if (pt_cmpR op_eq (pe_cal G.law_draw (hr.mono (by decide)) pass0 (pa_cons (pv 0) (pa_cons pe_int pa_nil))) pe_int (nomark _))
        (pss_one (ps_set (i := 3) sc_l_deep.nd rfl (Or.inl rfl) (pe_mak G.Last (hr.mono (by decide)) pass0 (pa_cons (pv 5) (pa_cons (pv 3) pa_nil)))))
        (pss_one (ps_set (i := 3) sc_l_deep.nd rfl (Or.inl rfl) (pe_mak G.Next (hr.mono (by decide)) pass0 (pa_cons (pv 5) (pa_cons (pv 3) pa_nil)))))))))
    (pss_one (ps_ret (pv 3))))), ?_⟩
    refine fun a0 dx0 ha0 hdx0 hne0 => ⟨a0, dx0, rfl, upd_same, fun H1 hT0 hK0 => ⟨rfl, ?_⟩⟩
    have s1 : Same H H1 := keep_make hK0 ha0 hdx0
    have P1 : Pl H H1 p s0 := (Pl.refl hP).same s1
    refine ⟨_, rfl, _, rfl, (by omega), (by omega), for_range (n := many.toNat) (fun k σ H2 => (∃ x4 x5 a t, σ = [some (.ref p), some (.ref l), some (.int many), some (.ref a), x4, x5] ∧ TmAt C H2 a t ∧ ChN t (k : Int)) ∧ Pl H H2 p s0) ?_ ?_ ?_⟩
    · exact ⟨⟨_, _, a0, .now, rfl, hT0, ⟨trivial, trivial, rfl, rfl, rfl⟩⟩, P1⟩
    · rintro k σ H2 hk ⟨⟨x4, x5, a, t, rfl, hT, hC⟩, P2⟩
      have hl2 := P2.keep hl hlp
      refine ⟨_, rfl, _, rfl, _, rfl, _, _, rfl, .inl ⟨_, SqL.of hl2, rfl⟩, p, s0, _, rfl, P2.now, (by rw [List.length_map]; omega), Int.lt_of_le_of_lt (show ((names.map V.str).length : Int) ≤ 25 by rw [List.length_map]; omega) (by decide), fun g H3 g0 g1 P3 => ?_⟩
      rw [List.length_map] at g1
      obtain ⟨j, rfl⟩ : ∃ j : Nat, g = (j : Int) := ⟨g.toNat, by omega⟩
      have hj : j < names.length := by omega
      have hz : names[j] ∈ names := List.getElem_mem hj
      generalize hzz : names[j] = z at hz
      have hT3 := hT.nl (nl_pl P2.now P3)
      have P23 := P2.trans P3
      refine ⟨_, _, _, .str z, rfl, rfl, SqL.of (P3.keep hl2 hlp), atI_nat (by rw [List.getElem?_map, List.getElem?_eq_getElem hj, hzz]; rfl), ?_⟩
      refine ⟨_, rfl, p, s0, 2, rfl, P3.now, (by decide), (by decide), fun x H4 x0 x2 P4 => ⟨rfl, _, rfl, ?_⟩⟩
      have hT4 := hT3.nl (nl_pl P3.now P4)
      have P24 := P23.trans P4
      have z1 := hC.dep
      have z2 := hC.par
      have z3 := hC.lok
      have fit : ∀ mk : Str → Tm → Tm, (mk = Tm.last ∨ mk = Tm.next) → (mk z t).Fit ∧ ChN (mk z t) ((k + 1 : Nat) : Int) := fun mk hmk => by
        rcases hmk with rfl | rfl
        · exact ⟨⟨by show 1 + t.dep ≤ 12; omega, by show 1 + t.par ≤ 40; omega, by show 1 + t.lok ≤ 12; omega⟩, ⟨hC.ch, ⟨hnm z hz, hC.nm⟩, by show 1 + t.dep = _; omega, by show 1 + t.par = _; omega, by show 1 + t.lok = _; omega⟩⟩
        · exact ⟨⟨by show 1 + t.dep ≤ 12; omega, by show 1 + t.par ≤ 40; omega, by show 1 + t.lok ≤ 12; omega⟩, ⟨hC.ch, ⟨hnm z hz, hC.nm⟩, by show 1 + t.dep = _; omega, by show 1 + t.par = _; omega, by show 1 + t.lok = _; omega⟩⟩
      refine ite2 (fun _ => ?_) (fun _ => ?_)
      · obtain ⟨f1, f2⟩ := fit Tm.last (.inl rfl)
        refine ⟨_, rfl, _, rfl, fun x dx hx hdx hne => ⟨x, dx, a, z, t, rfl, upd_same, hnm z hz, hT4.same (sameAt (sameAt (Same.refl H4) hdx) hx), f1, fun H' hT' hK => ⟨rfl, ?_⟩⟩⟩
        exact ⟨⟨_, _, x, _, rfl, hT', f2⟩, P24.same (keep_make hK hx hdx)⟩
      · obtain ⟨f1, f2⟩ := fit Tm.next (.inr rfl)
        refine ⟨_, rfl, _, rfl, fun x dx hx hdx hne => ⟨x, dx, a, z, t, rfl, upd_same, hnm z hz, hT4.same (sameAt (sameAt (Same.refl H4) hdx) hx), f1, fun H' hT' hK => ⟨rfl, ?_⟩⟩⟩
        exact ⟨⟨_, _, x, _, rfl, hT', f2⟩, P24.same (keep_make hK hx hdx)⟩
    · rintro σ H2 ⟨⟨x4, x5, a, t, rfl, hT, hC⟩, P2⟩
      exact ⟨_, rfl, q a t H2 hT (by rw [show many = ((many.toNat : Nat) : Int) by omega]; exact hC) P2⟩
structure GS15 (P : Program) (w : World) (K : PySem.W.Frag) (mg : Str → Option Value) (base : Heap) (A0 : AC) (C : TC) (CT : Addr) : Prop where
  seen_from : Cal P w K mg base (L2.CX P w) "seen_from" 20 ["question", "term"] (spSF A0 C CT)
abbrev s_l_size : Stmt := topS 82
theorem sc_l_size : FnScope ["one", "other", "told"] ["one", "other"] (defScope s_l_size) := ⟨rfl, rfl, rfl, by decide +kernel, rfl, by decide +kernel, by decide +kernel⟩
theorem ok_lsize {f : Addr} {fd : FuncData} (F : Fun K "_law_size" "_law_size" s_l_size f fd) (B : Blt mg) (T : TF K mg C) (M : TMy K mg CT) (G : GS15 P w K mg base A0 C CT) : FnOk P w K mg base CX0 21 f fd ["one", "other"] (spLSize C) := by
  have c_TooMany := M.g
  refine F.ok sc_l_size (fun vs H Q E h => ?_) (fun cdv A outer s H vs Q E hr h => ?_)
  · obtain ⟨a, b, t, u, m, n, rfl, _⟩ := h
    rfl
  · obtain ⟨a, b, t, u, m, n, rfl, hT, hU, hC, hD, m0, m11, n0, n11, q⟩ := h
    refine ⟨_, (pss_cons (ps_try_cls (tb := fun W => tAsg (tFld K (tCall (spSF A0 C CT) [] (WEn 3 W) (tCons (tVar 0) (tCons (tVar 1) tNil))) "depth") (gName 2)) (l := [(.ref CT, none, fun a cls d => tAsg (tC (.int 13)) (gName 2))]) (W0 := fun _ _ _ _ => False) rfl rfl sc_l_size.nd takes0 (fun W pn xe tk _ =>
      (pss_one (ps_set (i := 2) sc_l_size.nd rfl (Or.inl rfl) (pe_fld (pe_cal G.seen_from (hr.mono (by decide)) (passN (n := 3) rfl tk) (pa_cons (pv 0) (pa_cons (pv 1) pa_nil))) rfl))))
      (.cons ⟨rfl, by decide, .inl c_TooMany⟩ trivial (fun a oe cls d pn hz hf => (pss_one (ps_set (i := 2) sc_l_size.nd rfl (Or.inl rfl) pe_int))) .nil))
    (pss_one (ps_ret (pv 2)))), ?_⟩
    have d1 := hC.dep
    have d2 := hC.par
    have d3 := hC.lok
    have e1 := hD.dep
    have e2 := hD.par
    have e3 := hD.lok
    have fT : t.Fit := ⟨by omega, by omega, by omega⟩
    have fU : u.Fit := ⟨by omega, by omega, by omega⟩
    obtain ⟨c1, c2⟩ := chain_sub (u := u) hC.ch
    by_cases c : 1 + m + n ≤ 12
    · rw [if_pos c] at q
      have so : Tm.Sok u t := sok_of ⟨by omega, by rw [c2]; omega, by rw [c2]; omega⟩
      refine ⟨_, rfl, _, rfl, a, b, .tm t, u, rfl, hT, hU, hC.nm, fT, fU, .inl ⟨so, fun a1 H1 hT1 s1 => ?_⟩⟩
      have hT1 : TmAt C H1 a1 (Tm.sub u t) := hT1
      obtain ⟨dx, fs, sp, i⟩ := hT1.in_
      refine ⟨a1, _, dx, fs, _, rfl, i.at_, T.cl _ (C.is_of _), T.no _ (C.is_of _) _ (by decide +kernel), i.depth, ?_⟩
      have q := q H1
      rw [show 1 + m + n = (Tm.sub u t).dep by omega] at q
      exact ⟨_, rfl, q⟩
    · rw [if_neg c] at q
      have so : ¬ Tm.Sok u t := fun z => by
        have := (sok_fit fU z).1
        omega
      refine ⟨_, rfl, _, rfl, a, b, .tm t, u, rfl, hT, hU, hC.nm, fT, fU, .inr ⟨t, rfl, so, hC.ch, fun H1 s1 σ hσ => ?_⟩⟩
      refine ⟨true, M.te, fun _ x hx => ?_, fun q => Bool.noConfusion q⟩
      match σ, hσ with
      | [_, _, _], _ => exact ⟨_, rfl, q H1⟩
end
end Ash

set_option Elab.async false
set_option linter.all false
set_option maxRecDepth 100000
set_option maxHeartbeats 4000000
namespace Ash
open PySem PySem.Spec PyProof.Rows L2 SrtT
/-! ### the law's terms are small enough -/
structure Sz (t : Tm) (d : Nat) : Prop where
  dep : t.dep ≤ (d : Int) + 1
  par : t.par + 1 ≤ 2 * tw d
  lok : t.lok ≤ lB d
  lvs : t.lok + t.lv ≤ tw d
  nm : t.NmS
  nf : t.Nf
theorem sz_bt {t : Tm} {d : Nat} (h : Lev t d) : Sz (bt t) d := by
  obtain ⟨z1, z2, z3⟩ := bt_sz t
  have h1 := h.dep
  have h2 := h.lok
  obtain ⟨q1, q2⟩ := sz2 (bt t) d (by omega)
  exact ⟨by omega, q2, by omega, q1, bt_nm h.nm, bt_nf t⟩
theorem Sz.fit {t : Tm} {d : Nat} (h : Sz t d) (hd : d ≤ 2) : t.Fit := by
  obtain ⟨h1, h2, h3, _⟩ := h
  have : d = 0 ∨ d = 1 ∨ d = 2 := by omega
  have l0 : lB 0 = 0 := rfl
  have l1 : lB 1 = 1 := rfl
  have l2 : lB 2 = 2 := rfl
  have t0 : tw 0 = 1 := rfl
  have t1 : tw 1 = 2 := rfl
  have t2 : tw 2 = 4 := rfl
  rcases this with rfl | rfl | rfl <;> exact ⟨by omega, by omega, by omega⟩
/-- numbers of a term of two levels -/
theorem Sz.n2 {t : Tm} (h : Sz t 2) : t.dep ≤ 3 ∧ t.par ≤ 7 ∧ t.lok ≤ 2 ∧ t.lok + t.lv ≤ 4 := by
  obtain ⟨h1, h2, h3, h4, _⟩ := h
  have l2 : lB 2 = 2 := rfl
  have t2 : tw 2 = 4 := rfl
  exact ⟨by omega, by omega, by omega, by omega⟩
theorem Sz.n1 {t : Tm} (h : Sz t 1) : t.dep ≤ 2 ∧ t.par ≤ 3 ∧ t.lok ≤ 1 ∧ t.lok + t.lv ≤ 2 := by
  obtain ⟨h1, h2, h3, h4, _⟩ := h
  have l2 : lB 1 = 1 := rfl
  have t2 : tw 1 = 2 := rfl
  exact ⟨by omega, by omega, by omega, by omega⟩
theorem Sz.n0 {t : Tm} (h : Sz t 0) : t.dep ≤ 1 ∧ t.par ≤ 1 ∧ t.lok ≤ 0 ∧ t.lok + t.lv ≤ 1 := by
  obtain ⟨h1, h2, h3, h4, _⟩ := h
  have l2 : lB 0 = 0 := rfl
  have t2 : tw 0 = 1 := rfl
  exact ⟨by omega, by omega, by omega, by omega⟩
theorem Sz.up {t : Tm} (h : t.dep ≤ 3 ∧ t.par ≤ 7 ∧ t.lok ≤ 2 ∧ t.lok + t.lv ≤ 4) : True := trivial
/-- so many leaves -/
theorem low_lv {t u : Tm} {n : Int} (h1 : t.dep + u.dep ≤ 13) (hl : t.lv ≤ 8) (hp : ∀ k : Int, 1 ≤ k → k ≤ 8 → k = t.lv → t.par + k * (u.par - 1) ≤ 40 ∧ t.lok + k * u.lok ≤ 12) : Tm.Low u t := by
  have := lv_pos t
  obtain ⟨a, b⟩ := hp t.lv (by omega) hl rfl
  exact ⟨h1, a, b⟩
theorem mul_le {k K a : Int} (h : k ≤ K) (ha : 0 ≤ a) : k * a ≤ K * a := Int.mul_le_mul_of_nonneg_right h ha
/-- small ones in the place of now of small ones -/
theorem low_of {t u : Tm} (ht : t.dep ≤ 6) (tp : t.par ≤ 8) (tl : t.lok + t.lv ≤ 4) (hu : u.dep ≤ 6) (up : u.par ≤ 7) (ul : u.lok ≤ 2) : Tm.Low u t := by
  have p := u.par_pos
  have l := u.lok_nn
  have q := t.lok_nn
  have v := lv_pos t
  have e : t.lv = 1 ∨ t.lv = 2 ∨ t.lv = 3 ∨ t.lv = 4 := by omega
  rcases e with e | e | e | e <;> exact ⟨by omega, by rw [e]; omega, by rw [e]; omega⟩
theorem low_22 {t u : Tm} (ht : Sz t 2) (hu : Sz u 2) : Tm.Low u t := by
  obtain ⟨a1, a2, a3, a4⟩ := ht.n2
  obtain ⟨b1, b2, b3, b4⟩ := hu.n2
  exact low_of (by omega) (by omega) (by omega) (by omega) (by omega) (by omega)
theorem low_12 {t u : Tm} (ht : Sz t 1) (hu : Sz u 2) : Tm.Low u t := by
  obtain ⟨a1, a2, a3, a4⟩ := ht.n1
  obtain ⟨b1, b2, b3, b4⟩ := hu.n2
  exact low_of (by omega) (by omega) (by omega) (by omega) (by omega) (by omega)
theorem low_02 {t u : Tm} (ht : Sz t 0) (hu : Sz u 2) : Tm.Low u t := by
  obtain ⟨a1, a2, a3, a4⟩ := ht.n0
  obtain ⟨b1, b2, b3, b4⟩ := hu.n2
  exact low_of (by omega) (by omega) (by omega) (by omega) (by omega) (by omega)
theorem low_now {t : Tm} (h : t.Fit) : Tm.Low .now t := by
  obtain ⟨h1, h2, h3⟩ := h
  exact ⟨by show t.dep + 1 ≤ 13; omega, by show t.par + t.lv * (1 - 1) ≤ 40; rw [Int.sub_self, Int.mul_zero]; omega, by show t.lok + t.lv * 0 ≤ 12; rw [Int.mul_zero]; omega⟩
theorem low_in_now {u : Tm} (h : Sz u 2) : Tm.Low u .now := by
  obtain ⟨b1, b2, b3, b4⟩ := h.n2
  exact ⟨by show 1 + u.dep ≤ 13; omega, by show 1 + 1 * (u.par - 1) ≤ 40; omega, by show 0 + 1 * u.lok ≤ 12; omega⟩
theorem low_plus {t u : Tm} {n : Int} (ht : Sz t 2) (hu : Sz u 2) : Tm.Low u (t.plus n) := by
  obtain ⟨a1, a2, a3, a4⟩ := ht.n2
  obtain ⟨b1, b2, b3, b4⟩ := hu.n2
  obtain ⟨q1, q2, q3⟩ := plus_sz (t := t) (n := n)
  have e := plus_lv t n
  exact low_of (by omega) (by omega) (by omega) (by omega) (by omega) (by omega)
theorem low_now3 {u : Tm} {n : Int} (hu : Sz u 2) : Tm.Low u (Tm.plus .now n) := by
  obtain ⟨b1, b2, b3, b4⟩ := hu.n2
  obtain ⟨q1, q2, q3⟩ := plus_sz (t := .now) (n := n)
  have e := plus_lv .now n
  have e1 : (Tm.now).dep = 1 := rfl
  have e2 : (Tm.now).par = 1 := rfl
  have e3 : (Tm.now).lok = 0 := rfl
  have e4 : (Tm.now).lv = 1 := rfl
  exact low_of (by omega) (by omega) (by omega) (by omega) (by omega) (by omega)
theorem plus_fit {t : Tm} {n : Int} (ht : t.dep ≤ 11) (tp : t.par ≤ 39) (tl : t.lok ≤ 12) : (t.plus n).Fit := by
  obtain ⟨q1, q2, q3⟩ := plus_sz (t := t) (n := n)
  exact ⟨by omega, by omega, by omega⟩
/-- sizes of one small one in another -/
theorem sub_n {t u : Tm} {P L : Int} (tl : t.lv ≤ 4) (up : u.par ≤ P) (ul : u.lok ≤ L) : (Tm.sub u t).dep ≤ t.dep + u.dep - 1 ∧ (Tm.sub u t).par ≤ t.par + 4 * (P - 1) ∧ (Tm.sub u t).lok ≤ t.lok + t.lv * L := by
  obtain ⟨h1, h2, h3, h4⟩ := sub_sz u t
  have p := u.par_pos
  have l := u.lok_nn
  have v := lv_pos t
  have e1 : t.lv * (u.par - 1) ≤ 4 * (u.par - 1) := mul_le tl (by omega)
  have e2 : t.lv * u.lok ≤ t.lv * L := Int.mul_le_mul_of_nonneg_left ul (by omega)
  exact ⟨h1, by omega, by omega⟩
theorem plus_fit22 {t u : Tm} {n : Int} (ht : Sz t 2) (hu : Sz u 2) : ((Tm.sub u t).plus n).Fit := by
  obtain ⟨a1, a2, a3, a4⟩ := ht.n2
  obtain ⟨b1, b2, b3, b4⟩ := hu.n2
  have q := t.lok_nn
  have v := lv_pos t
  obtain ⟨h1, h2, h3⟩ := sub_n (t := t) (u := u) (P := 7) (L := 2) (by omega) b2 b3
  exact plus_fit (by omega) (by omega) (by omega)
theorem low_either {t u : Tm} (ht : Sz t 2) (hu : Sz u 2) : Tm.Low u (.either t .now) := by
  obtain ⟨a1, a2, a3, a4⟩ := ht.n2
  obtain ⟨b1, b2, b3, b4⟩ := hu.n2
  have p := u.par_pos
  have l := u.lok_nn
  have q := t.lok_nn
  have v := lv_pos t
  have d := t.dep_pos
  have e : t.lv = 1 ∨ t.lv = 2 ∨ t.lv = 3 ∨ t.lv = 4 := by omega
  have m : Tm.mx t.dep (Tm.now).dep ≤ 3 := by
    show Tm.mx t.dep 1 ≤ 3
    unfold Tm.mx
    split <;> omega
  refine ⟨?_, ?_, ?_⟩
  · show 1 + Tm.mx t.dep (Tm.now).dep + u.dep ≤ 13
    omega
  · show 1 + (t.par + 1) + (t.lv + 1) * (u.par - 1) ≤ 40
    rcases e with e | e | e | e <;> rw [e] <;> omega
  · show 0 + (t.lok + 0) + (t.lv + 1) * u.lok ≤ 12
    rcases e with e | e | e | e <;> rw [e] <;> omega
def lk (s : Str) : Tm := .last s .now
theorem low_lk {s : Str} {t : Tm} (ht : Sz t 2) : Tm.Low (lk s) t := by
  obtain ⟨a1, a2, a3, a4⟩ := ht.n2
  exact low_of (by omega) (by omega) (by omega) (by show (2 : Int) ≤ 6; decide) (by show (2 : Int) ≤ 7; decide) (by show (1 : Int) ≤ 2; decide)
/-- a look in a term in a smaller term -/
theorem low_lk2 {s : Str} {t u : Tm} (ht : t.dep ≤ 2 ∧ t.par ≤ 3 ∧ t.lok ≤ 1 ∧ t.lok + t.lv ≤ 2) (hu : Sz u 2) : Tm.Low (lk s) (Tm.sub u t) := by
  obtain ⟨a1, a2, a3, a4⟩ := ht
  obtain ⟨b1, b2, b3, b4⟩ := hu.n2
  obtain ⟨h1, h2, h3, h4⟩ := sub_sz u t
  have p := u.par_pos
  have l := u.lok_nn
  have q := t.lok_nn
  have v := lv_pos t
  have v2 := lv_pos u
  have e : t.lv = 1 ∨ t.lv = 2 := by omega
  refine ⟨?_, ?_, ?_⟩
  · show (Tm.sub u t).dep + 2 ≤ 13
    omega
  · show (Tm.sub u t).par + (Tm.sub u t).lv * (2 - 1) ≤ 40
    rw [show ((2 : Int) - 1) = 1 from rfl, Int.mul_one]
    rcases e with e | e <;> rw [e] at h2 h4 <;> omega
  · show (Tm.sub u t).lok + (Tm.sub u t).lv * 1 ≤ 12
    rw [Int.mul_one]
    rcases e with e | e <;> rw [e] at h3 h4 <;> omega
theorem low_lk3 {s : Str} {t u : Tm} (ht : t.dep ≤ 2 ∧ t.par ≤ 3 ∧ t.lok ≤ 1 ∧ t.lok + t.lv ≤ 2) (hu : Sz u 2) : Tm.Low (Tm.sub (lk s) u) t := by
  obtain ⟨a1, a2, a3, a4⟩ := ht
  obtain ⟨b1, b2, b3, b4⟩ := hu.n2
  obtain ⟨h1, h2, h3, h4⟩ := sub_sz (lk s) u
  have h1 : (Tm.sub (lk s) u).dep ≤ u.dep + 2 - 1 := h1
  have h2 : (Tm.sub (lk s) u).par ≤ u.par + u.lv * (2 - 1) := h2
  have h3 : (Tm.sub (lk s) u).lok ≤ u.lok + u.lv * 1 := h3
  rw [show ((2 : Int) - 1) = 1 from rfl, Int.mul_one] at h2
  rw [Int.mul_one] at h3
  have p := (Tm.sub (lk s) u).par_pos
  have l := (Tm.sub (lk s) u).lok_nn
  have l2 := u.lok_nn
  have q := t.lok_nn
  have v := lv_pos t
  have e : t.lv = 1 ∨ t.lv = 2 := by omega
  rcases e with e | e <;> exact ⟨by omega, by rw [e]; omega, by rw [e]; omega⟩
/-! ### questions -/
def SzQ (d : Nat) : Qn → Prop
  | .tm t => Sz t (d + 1)
  | .am (.number s t) => IsNm s ∧ Sz t d
  | .am (.count s t v) => IsNm s ∧ Sz t d ∧ Sz v d
  | .am (.total s t v) => IsNm s ∧ Sz t d ∧ Sz v d
  | .am (.gap t v) => Sz t d ∧ Sz v d
theorem szq_bq {d : Nat} : ∀ {q : Qn}, LevQ q d → SzQ d (bq q)
  | .tm t, h => sz_bt (t := t) h
  | .am (.number s t), h => ⟨h.1, sz_bt h.2⟩
  | .am (.count s t v), h => ⟨h.1, sz_bt h.2.1, sz_bt h.2.2⟩
  | .am (.total s t v), h => ⟨h.1, sz_bt h.2.1, sz_bt h.2.2⟩
  | .am (.gap t v), h => ⟨sz_bt h.1, sz_bt h.2⟩
theorem SzQ.nm {d : Nat} : ∀ {q : Qn}, SzQ d q → q.NmS
  | .tm t, h => Sz.nm h
  | .am (.number s t), h => ⟨h.1, h.2.nm⟩
  | .am (.count s t v), h => ⟨h.1, h.2.1.nm, h.2.2.nm⟩
  | .am (.total s t v), h => ⟨h.1, h.2.1.nm, h.2.2.nm⟩
  | .am (.gap t v), h => ⟨h.1.nm, h.2.nm⟩
theorem SzQ.fit {d : Nat} (hd : d ≤ 1) : ∀ {q : Qn}, SzQ d q → q.Fit
  | .tm t, h => Sz.fit h (by omega)
  | .am (.number s t), h => Sz.fit h.2 (by omega)
  | .am (.count s t v), h => ⟨Sz.fit h.2.1 (by omega), Sz.fit h.2.2 (by omega)⟩
  | .am (.total s t v), h => ⟨Sz.fit h.2.1 (by omega), Sz.fit h.2.2 (by omega)⟩
  | .am (.gap t v), h => ⟨Sz.fit h.1 (by omega), Sz.fit h.2 (by omega)⟩
/-- of all terms of a question -/
def Qn.All (p : Tm → Prop) : Qn → Prop
  | .tm t => p t
  | .am (.number _ t) => p t
  | .am (.count _ t v) => p t ∧ p v
  | .am (.total _ t v) => p t ∧ p v
  | .am (.gap t v) => p t ∧ p v
theorem szq_all {d : Nat} {p : Tm → Prop} (h1 : ∀ t, Sz t (d + 1) → p t) (h2 : ∀ t, Sz t d → p t) : ∀ {q : Qn}, SzQ d q → q.All p
  | .tm t, h => h1 t h
  | .am (.number s t), h => h2 t h.2
  | .am (.count s t v), h => ⟨h2 t h.2.1, h2 v h.2.2⟩
  | .am (.total s t v), h => ⟨h2 t h.2.1, h2 v h.2.2⟩
  | .am (.gap t v), h => ⟨h2 t h.1, h2 v h.2⟩
theorem qsok_of {u : Tm} : ∀ {q : Qn}, q.All (Tm.Low u) → Qn.Sok u q
  | .tm t, h => sok_of (t := t) h
  | .am (.number s t), h => sok_of (t := t) h
  | .am (.count s t v), h => ⟨sok_of h.1, sok_of h.2⟩
  | .am (.total s t v), h => ⟨sok_of h.1, sok_of h.2⟩
  | .am (.gap t v), h => ⟨sok_of h.1, sok_of h.2⟩
theorem qsub_all {u : Tm} {p : Tm → Prop} : ∀ {q : Qn}, q.All (fun t => p (Tm.sub u t)) → (Qn.sub u q).All p
  | .tm t, h => h
  | .am (.number s t), h => h
  | .am (.count s t v), h => h
  | .am (.total s t v), h => h
  | .am (.gap t v), h => h
theorem qsub_nm {u : Tm} (hu : u.NmS) : ∀ {q : Qn}, q.NmS → (Qn.sub u q).NmS
  | .tm t, h => sub_nm (t := t) hu h
  | .am (.number s t), h => ⟨h.1, sub_nm hu h.2⟩
  | .am (.count s t v), h => ⟨h.1, sub_nm hu h.2.1, sub_nm hu h.2.2⟩
  | .am (.total s t v), h => ⟨h.1, sub_nm hu h.2.1, sub_nm hu h.2.2⟩
  | .am (.gap t v), h => ⟨sub_nm hu h.1, sub_nm hu h.2⟩
theorem qsub_now : ∀ {q : Qn}, q.All Tm.Nf → Qn.sub .now q = q
  | .tm t, h => by show Qn.tm (Tm.sub .now t) = _; rw [sub_now (t := t) h]
  | .am (.number s t), h => by show Qn.am (.number s (Tm.sub .now t)) = _; rw [sub_now (t := t) h]
  | .am (.count s t v), h => by show Qn.am (.count s (Tm.sub .now t) (Tm.sub .now v)) = _; rw [sub_now (t := t) h.1, sub_now (t := v) h.2]
  | .am (.total s t v), h => by show Qn.am (.total s (Tm.sub .now t) (Tm.sub .now v)) = _; rw [sub_now (t := t) h.1, sub_now (t := v) h.2]
  | .am (.gap t v), h => by show Qn.am (.gap (Tm.sub .now t) (Tm.sub .now v)) = _; rw [sub_now (t := t) h.1, sub_now (t := v) h.2]
theorem qsub_sub {u v : Tm} (hu : u.Nf) (hv : v.Nf) : ∀ {q : Qn}, q.All Tm.Nf → Qn.sub v (Qn.sub u q) = Qn.sub (Tm.sub v u) q
  | .tm t, h => by show Qn.tm (Tm.sub v (Tm.sub u t)) = Qn.tm _; rw [sub_sub hu hv (t := t) h]
  | .am (.number s t), h => by show Qn.am (.number s (Tm.sub v (Tm.sub u t))) = Qn.am (.number s _); rw [sub_sub hu hv (t := t) h]
  | .am (.count s t x), h => by show Qn.am (.count s (Tm.sub v (Tm.sub u t)) (Tm.sub v (Tm.sub u x))) = Qn.am (.count s _ _); rw [sub_sub hu hv (t := t) h.1, sub_sub hu hv (t := x) h.2]
  | .am (.total s t x), h => by show Qn.am (.total s (Tm.sub v (Tm.sub u t)) (Tm.sub v (Tm.sub u x))) = Qn.am (.total s _ _); rw [sub_sub hu hv (t := t) h.1, sub_sub hu hv (t := x) h.2]
  | .am (.gap t x), h => by show Qn.am (.gap (Tm.sub v (Tm.sub u t)) (Tm.sub v (Tm.sub u x))) = Qn.am (.gap _ _); rw [sub_sub hu hv (t := t) h.1, sub_sub hu hv (t := x) h.2]
end Ash

set_option Elab.async false
set_option linter.all false
set_option maxRecDepth 100000
set_option maxHeartbeats 4000000
set_option pp.maxSteps 3000
namespace Ash
open PySem PySem.Spec PyProof.Rows L2 SrtT
open C8 (pss_cut)
theorem opR_or {X : Cx} {o : Value → Value → Sem Value} {r1 r2 : R2} (h1 : OpR X o r1) (h2 : OpR X o r2) : OpR X o (fun x y H Q => r1 x y H Q ∨ r2 x y H Q) := fun pins s σ H x y v u Q I rx ry h => h.elim (h1 pins s σ H x y v u Q I rx ry) (h2 pins s σ H x y v u Q I rx ry)
theorem QAt.ins_tm {A : AC} {C : TC} {H : Hp} {a : Addr} {t : Tm} (h : TmAt C H a t) : ∃ dx fs, H a = some (.ins (C.of t) dx fs) := by
  obtain ⟨dx, fs, sp, i⟩ := h.in_
  exact ⟨dx, fs, i.at_⟩
def spLaw (K : PySem.W.Frag) : Sp := fun vs H Q _ => ∃ (a : Addr) (ns : List Int), vs = [.ref a] ∧ SqL K H a (ns.map V.int) ∧ ns.length ≤ 63 ∧ ∀ H', Q (.bl true) H'
section
variable {P : Program} {w : World} {K : PySem.W.Frag} {mg : Str → Option Value} {base : Heap} {C : TC} {CT CW : Addr} {A0 : AC}
/-- x != y of two terms that are the same -/
theorem ne_tm {H : Hp} {a b : Addr} {t : Tm} {Q : VK} {E : XK} (h1 : TmAt C H a t) (h2 : TmAt C H b t) (n : t.NmS) (q : ∀ H', Same H H' → Q (.bl false) H') : rNeF C.Is (spTEq C) E (.ref a) (.ref b) H Q := by
  obtain ⟨dx, fs, i1⟩ := QAt.ins_tm (A := ⟨0, 0, 0, 0⟩) h1
  obtain ⟨dy, gs, i2⟩ := QAt.ins_tm (A := ⟨0, 0, 0, 0⟩) h2
  exact ⟨a, b, C.of t, dx, dy, fs, gs, rfl, rfl, i1, i2, C.is_of t, a, b, t, rfl, h1, h2, n, fun H' s => ⟨true, rfl, q H' s⟩⟩
theorem ne_am {H : Hp} {a b : Addr} {t : Am} {Q : VK} {E : XK} (h1 : AmAt A0 C H a t) (h2 : AmAt A0 C H b t) (n : t.NmS) (q : ∀ H', Same H H' → Q (.bl false) H') : rNeF A0.Is (spAEq A0 C) E (.ref a) (.ref b) H Q := by
  obtain ⟨dx, fs, i1⟩ := h1.ins
  obtain ⟨dy, gs, i2⟩ := h2.ins
  exact ⟨a, b, A0.of t, dx, dy, fs, gs, rfl, rfl, i1, i2, A0.is_of t, a, b, t, rfl, h1, h2, n, fun H' s => ⟨true, rfl, q H' s⟩⟩
theorem ne_q {H : Hp} {a b : Addr} {t : Qn} {Q : VK} {E E' : XK} (h1 : QAt A0 C H a t) (h2 : QAt A0 C H b t) (n : t.NmS) (q : ∀ H', Same H H' → Q (.bl false) H') : rNeF C.Is (spTEq C) E (.ref a) (.ref b) H Q ∨ rNeF A0.Is (spAEq A0 C) E' (.ref a) (.ref b) H Q := by
  cases t with
  | tm t => exact .inl (ne_tm h1 h2 n q)
  | am t => exact .inr (ne_am h1 h2 n q)
theorem lterm_all (B : Blt mg) (G : G2w P w K mg base) (d1 : D1 K mg "_law_term" s_l_term) : ∀ d, G3t P w K mg base d
  | 0 => { G with law_term := cal_of d1 (fun _ _ _ _ _ _ us hl => match us, hl with | [_, _, _], _ => rfl) fun f fd F => ok_lterm0 F B G }
  | d + 1 => { G with law_term := cal_of d1 (fun _ _ _ _ _ _ us hl => match us, hl with | [_, _, _], _ => rfl) fun f fd F => ok_lterm F B (lterm_all B G d1 d) }
theorem built_all (B : Blt mg) (G : B0 P w K mg base C) (O : Ops P w K mg base C) (d1 : D1 K mg "_law_built" s_l_built) : ∀ d, B1 P w K mg base C d
  | 0 => { G with law_built := cal_of d1 (fun _ _ _ _ _ _ us hl => match us, hl with | [_], _ => rfl) fun f fd F => ok_built0 F }
  | d + 1 => { G with law_built := cal_of d1 (fun _ _ _ _ _ _ us hl => match us, hl with | [_], _ => rfl) fun f fd F => ok_built F B (built_all B G O d1 d) O }
theorem tf_all (B : Blt mg) (T : TF K mg C) (D : TD C) (G : S0 P w K mg base C CT) (O : Ops P w K mg base C) (d1 : D1 K mg "term_from" s_term_from) : ∀ d, S1 P w K mg base C CT d
  | 0 => { G with term_from := cal_of d1 (fun _ _ _ _ _ _ us hl => match us, hl with | [_, _], _ => rfl) fun f fd F => ok_tf0 F }
  | d + 1 => { G with term_from := cal_of d1 (fun _ _ _ _ _ _ us hl => match us, hl with | [_, _], _ => rfl) fun f fd F => ok_tf F B T D (tf_all B T D G O d1 d) O }
structure L15 (P : Program) (w : World) (K : PySem.W.Frag) (mg : Str → Option Value) (base : Heap) (A0 : AC) (C : TC) (CT CW : Addr) : Prop where
  law_pool : Cal P w K mg base CX0 "_law_pool" 1 ["script"] (spPool K)
  law_draw : CDraw P w K mg base
  law_names : Cal P w K mg base CX0 "_law_names" 2 ["pool", "many"] spNames
  law_moment : Cal P w K mg base CX0 "_law_moment" 2 ["pool"] spMoment
  law_rows : Cal P w K mg base CX0 "_law_rows" 3 ["pool", "streams", "many"] spLWRows
  law_question : Cal P w K mg base CX0 "_law_question" (1 + 5) ["pool", "streams", "depth"] (spLQuest 1)
  law_question0 : Cal P w K mg base CX0 "_law_question" (0 + 5) ["pool", "streams", "depth"] (spLQuest 0)
  law_term : Cal P w K mg base CX0 "_law_term" (2 + 3) ["pool", "streams", "depth"] (spLTerm 2)
  law_asked : Cal P w K mg base CX0 "_law_asked" 20 ["model"] (spLAsked A0 C)
  law_built : Cal P w K mg base CX0 "_law_built" (12 + 6) ["model"] (spBuilt C 12)
  law_same : Cal P w K mg base CX0 "_law_same" 1 ["told", "due"] spSame
  value : Cal P w K mg base CX0 "value" 31 ["question", "world", "now"] (spValue A0 C CW)
  support : Cal P w K mg base CX0 "support" 31 ["question", "world", "now"] (spSupport A0 C CW)
  seen_from : Cal P w K mg base (L2.CX P w) "seen_from" 20 ["question", "term"] (spSF A0 C CT)
  law_deep : Cal P w K mg base CX0 "_law_deep" 7 ["pool", "streams", "many"] (spLDeep15 C)
  law_size : Cal P w K mg base CX0 "_law_size" 21 ["one", "other"] (spLSize C)
  World : Mak P w K mg base CX0 "World" CW 5 ["self", "rows"] (spWorldInit CW)
  Now : Mak P w K mg base CX0 "Now" C.now 2 ["self"] (spInit0 C)
  Last : Mak P w K mg base CX0 "Last" C.last 3 ["self", "stream", "term"] (spInitL C C.last Tm.last)
  Count : Mak P w K mg base CX0 "Count" A0.count 3 ["self", "stream", "first", "last"] (spInitC A0 C A0.count Am.count)
  Gap : Mak P w K mg base CX0 "Gap" A0.gap 3 ["self", "first", "last"] (spInitG A0 C)
/-- the operators that the law itself uses -/
structure Op15 (P : Program) (w : World) (K : PySem.W.Frag) (mg : Str → Option Value) (base : Heap) (A0 : AC) (C : TC) : Prop extends Ops P w K mg base C where
  sub : ∃ f fd, OpI K C.Is .Sub f ∧ FnOk P w K mg base CX0 5 f fd ["self", "other"] (spMinus C) ∧ Binds K fd ["self", "other"] []
  teq : ∃ f fd, NeF K C.Is f ∧ FnOk P w K mg base CX0 2 f fd ["self", "other"] (spTEq C) ∧ Binds K fd ["self", "other"] []
  aeq : ∃ f fd, NeF K A0.Is f ∧ FnOk P w K mg base CX0 2 f fd ["self", "other"] (spAEq A0 C) ∧ Binds K fd ["self", "other"] []
theorem inI {z : Int} {l : List Int} : inV (.int z) (l.map V.int) = decide (z ∈ l) := by
  unfold inV
  rw [List.any_map]
  rw [Bool.eq_iff_iff, List.any_eq_true, decide_eq_true_iff]
  refine ⟨fun ⟨y, hy, e⟩ => ?_, fun h => ⟨z, h, ?_⟩⟩
  · have e : y = z := by simpa [eqV] using e
    subst e
    exact hy
  · simp [eqV]
theorem now_fit : (Tm.now).Fit := ⟨by show (1 : Int) ≤ 12; decide, by show (1 : Int) ≤ 40; decide, by show (0 : Int) ≤ 12; decide⟩
theorem lk_fit {s : Str} : (lk s).Fit := ⟨by show (2 : Int) ≤ 12; decide, by show (2 : Int) ≤ 40; decide, by show (1 : Int) ≤ 12; decide⟩
theorem plus_fit2 {t : Tm} {n : Int} (h : Sz t 2) : (t.plus n).Fit := by
  obtain ⟨a1, a2, a3, a4⟩ := h.n2
  exact plus_fit (by omega) (by omega) (by omega)
theorem now3_fit {n : Int} : (Tm.plus .now n).Fit := plus_fit (by show (1 : Int) ≤ 11; decide) (by show (1 : Int) ≤ 39; decide) (by show (0 : Int) ≤ 12; decide)
theorem either_fit {t : Tm} (h : Sz t 2) : (Tm.either t .now).Fit := by
  obtain ⟨a1, a2, a3, a4⟩ := h.n2
  have d := t.dep_pos
  refine ⟨?_, ?_, ?_⟩
  · show 1 + Tm.mx t.dep 1 ≤ 12
    unfold Tm.mx
    split <;> omega
  · show 1 + (t.par + 1) ≤ 40
    omega
  · show 0 + (t.lok + 0) ≤ 12
    omega
theorem all_in {as bs : List Int} (h : ∀ z ∈ as, z ∈ bs) : (as.map fun z => decide (z ∈ bs)).all id = true := by
  rw [List.all_map]
  exact List.all_eq_true.mpr fun z hz => decide_eq_true (h z hz)
abbrev s_law : Stmt := topS 83
theorem sc_law : FnScope ["script", "pool", "streams", "world", "now", "question", "one", "other", "moved_v", "moment", "seen", "leant", "stream", "pair", "small", "look", "many", "due", "number"] ["script"] (defScope s_law) := ⟨rfl, rfl, rfl, by decide +kernel, rfl, by decide +kernel, by decide +kernel⟩
theorem ok_law {f : Addr} {fd : FuncData} (F : Fun K "law" "law" s_law f fd) (B : Blt mg) (O : Op15 P w K mg base A0 C) (G : L15 P w K mg base A0 C CT CW) : FnOk P w K mg base CX0 40 f fd ["script"] (spLaw K) := by
  obtain ⟨fa, fda, OA, Fa, ba⟩ := O.add
  obtain ⟨fs, fds, OS, Fs, bs⟩ := O.sub
  obtain ⟨fo, fdo, OO, Fo, bo⟩ := O.or_
  obtain ⟨ft, fdt, NT, Ft, bt_⟩ := O.teq
  obtain ⟨fq, fdq, NQ, Fq, bq_⟩ := O.aeq
  refine F.ok sc_law (fun vs H Q E h => ?_) (fun cdv A outer s H vs Q E hr h => ?_)
  · obtain ⟨a, ns, rfl, _⟩ := h
    rfl
  · obtain ⟨a, ns, rfl, hS, hlen, q⟩ := h
    refine ⟨_, (pss_cons (ps_set (i := 1) sc_law.nd rfl (Or.inl rfl) (pe_cal G.law_pool (hr.mono (by decide)) pass0 (pa_cons (pv 0) pa_nil)))
    (pss_cons (ps_set (i := 2) sc_law.nd rfl (Or.inl rfl) (pe_cal G.law_names (hr.mono (by decide)) pass0 (pa_cons (pv 1) (pa_cons (pe_op op_add pe_int (pe_cal G.law_draw (hr.mono (by decide)) pass0 (pa_cons (pv 1) (pa_cons pe_int pa_nil)))) pa_nil))))
    (pss_cons (ps_set (i := 3) sc_law.nd rfl (Or.inl rfl) (pe_mak G.World (hr.mono (by decide)) pass0 (pa_cons (pe_cal G.law_rows (hr.mono (by decide)) pass0 (pa_cons (pv 1) (pa_cons (pv 2) (pa_cons (pe_cal G.law_draw (hr.mono (by decide)) pass0 (pa_cons (pv 1) (pa_cons pe_int pa_nil))) pa_nil)))) pa_nil)))
    (pss_cons (ps_set (i := 4) sc_law.nd rfl (Or.inl rfl) (pe_cal G.law_moment (hr.mono (by decide)) pass0 (pa_cons (pv 1) pa_nil)))
    (pss_cons (ps_set (i := 5) sc_law.nd rfl (Or.inl rfl) (pe_cal G.law_asked (hr.mono (by decide)) pass0 (pa_cons (pe_cal G.law_question (hr.mono (by decide)) pass0 (pa_cons (pv 1) (pa_cons (pv 2) (pa_cons pe_int pa_nil)))) pa_nil)))
    (pss_cons (ps_set (i := 6) sc_law.nd rfl (Or.inl rfl) (pe_cal G.law_built (hr.mono (by decide)) pass0 (pa_cons (pe_cal G.law_term (hr.mono (by decide)) pass0 (pa_cons (pv 1) (pa_cons (pv 2) (pa_cons pe_int pa_nil)))) pa_nil)))
    (pss_cons (ps_set (i := 7) sc_law.nd rfl (Or.inl rfl) (pe_cal G.law_built (hr.mono (by decide)) pass0 (pa_cons (pe_cal G.law_term (hr.mono (by decide)) pass0 (pa_cons (pv 1) (pa_cons (pv 2) (pa_cons pe_int pa_nil)))) pa_nil)))
    (pss_cons (ps_set (i := 8) sc_law.nd rfl (Or.inl rfl) (pe_cal G.seen_from (hr.mono (by decide)) passF (pa_cons (pv 5) (pa_cons (pv 6) pa_nil))))
    (pss_cons (ps_set (i := 9) sc_law.nd rfl (Or.inl rfl) (pe_cal G.value (hr.mono (by decide)) pass0 (pa_cons (pv 6) (pa_cons (pv 3) (pa_cons (pv 4) pa_nil)))))
    (pss_cut (ps_if (pt_cmpR op_notN (pv 9) pe_non (nomark _))
      (pss_cons (ps_if (pt_not (pt_val (pe_cal G.law_same (hr.mono (by decide)) pass0 (pa_cons (pe_cal G.value (hr.mono (by decide)) pass0 (pa_cons (pv 8) (pa_cons (pv 3) (pa_cons (pv 4) pa_nil)))) (pa_cons (pe_cal G.value (hr.mono (by decide)) pass0 (pa_cons (pv 5) (pa_cons (pv 3) (pa_cons (pv 9) pa_nil)))) pa_nil)))))
        (pss_one (ps_ret pe_bl))
        pss_nil)
      (pss_cons (ps_set (i := 10) sc_law.nd rfl (Or.inr rfl) (pe_op op_cat (pe_cal G.support (hr.mono (by decide)) pass0 (pa_cons (pv 5) (pa_cons (pv 3) (pa_cons (pv 9) pa_nil)))) (pe_cal G.support (hr.mono (by decide)) pass0 (pa_cons (pv 6) (pa_cons (pv 3) (pa_cons (pv 4) pa_nil))))))
      (pss_cons (ps_set (i := 11) sc_law.nd rfl (Or.inr rfl) (pe_cal G.support (hr.mono (by decide)) pass0 (pa_cons (pv 8) (pa_cons (pv 3) (pa_cons (pv 4) pa_nil)))))
      (pss_cons (ps_if (pt_not (pt_val (pe_callB (cr_all rfl) (by rfl) B.all (by decide +kernel) (pa_cons (pe_lc (own := [("number", 18)]) (g := gName 18) (tt := tYes) (by rfl) sc_law.nd (pi_list (pv 11)) (blkOk_by (own := [("number", 18)]) (N := ["script", "pool", "streams", "world", "now", "question", "one", "other", "moved_v", "moment", "seen", "leant", "stream", "pair", "small", "look", "many", "due", "number"]) (sc := defScope s_law) (by decide +kernel)) (fun _ _ _ _ _ => (pg_name (i := 18) sc_law.nd rfl (Or.inl rfl))) (fun _ _ _ _ _ => pts_nil) (fun _ _ _ _ _ => (pe_cmpR (show OpR _ _ (rIn K false) from op_in_seq) (pv 18) (pv 10) rfl))) pa_nil))))
        (pss_one (ps_ret pe_bl))
        pss_nil)
      (pss_one (ps_if (pt_not (pt_val (pe_callB (cr_all rfl) (by rfl) B.all (by decide +kernel) (pa_cons (pe_lc (own := [("number", 18)]) (g := gName 18) (tt := tYes) (by rfl) sc_law.nd (pi_list (pe_cal G.support (hr.mono (by decide)) pass0 (pa_cons (pv 5) (pa_cons (pv 3) (pa_cons (pv 9) pa_nil))))) (blkOk_by (own := [("number", 18)]) (N := ["script", "pool", "streams", "world", "now", "question", "one", "other", "moved_v", "moment", "seen", "leant", "stream", "pair", "small", "look", "many", "due", "number"]) (sc := defScope s_law) (by decide +kernel)) (fun _ _ _ _ _ => (pg_name (i := 18) sc_law.nd rfl (Or.inl rfl))) (fun _ _ _ _ _ => pts_nil) (fun _ _ _ _ _ => (pe_cmpR (show OpR _ _ (rIn K false) from op_in_seq) (pv 18) (pv 11) rfl))) pa_nil))))
        (pss_one (ps_ret pe_bl))
        pss_nil))))))
      pss_nil)
    (pss_cut (ps_if (PW.pt (pw_or (pt_cmpR (opR_or (op_neF NT Ft bt_ pass0 (hr.mono (by decide))) (op_neF NQ Fq bq_ pass0 (hr.mono (by decide)))) (pe_cal G.seen_from (hr.mono (by decide)) passF (pa_cons (pv 5) (pa_cons (pe_mak0 G.Now (hr.mono (by decide)) pass0) pa_nil))) (pv 5) (nomark _)) (pw_or1 (pt_cmpR (op_neF NT Ft bt_ pass0 (hr.mono (by decide))) (pe_cal G.seen_from (hr.mono (by decide)) passF (pa_cons (pe_mak0 G.Now (hr.mono (by decide)) pass0) (pa_cons (pv 6) pa_nil))) (pv 6) (nomark _)))))
      (pss_one (ps_ret pe_bl))
      pss_nil)
    (pss_cut (ps_if (PW.pt (pw_or (pt_cmpR (op_neF NT Ft bt_ pass0 (hr.mono (by decide))) (pe_cal G.seen_from (hr.mono (by decide)) passF (pa_cons (pe_op (op_int OA Fa ba pass0 (hr.mono (by decide))) (pe_mak0 G.Now (hr.mono (by decide)) pass0) pe_int) (pa_cons (pv 6) pa_nil))) (pe_op (op_int OA Fa ba pass0 (hr.mono (by decide))) (pv 6) pe_int) (nomark _)) (pw_or1 (pt_cmpR (op_neF NT Ft bt_ pass0 (hr.mono (by decide))) (pe_cal G.seen_from (hr.mono (by decide)) passF (pa_cons (pe_op (op_int OS Fs bs pass0 (hr.mono (by decide))) (pv 6) pe_int) (pa_cons (pv 7) pa_nil))) (pe_op (op_int OS Fs bs pass0 (hr.mono (by decide))) (pe_cal G.seen_from (hr.mono (by decide)) passF (pa_cons (pv 6) (pa_cons (pv 7) pa_nil))) pe_int) (nomark _)))))
      (pss_one (ps_ret pe_bl))
      pss_nil)
    (pss_cons (ps_set (i := 12) sc_law.nd rfl (Or.inl rfl) (pe_ix ix_list (pv 2) (pe_cal G.law_draw (hr.mono (by decide)) pass0 (pa_cons (pv 1) (pa_cons (pe_callB call_len (by rfl) B.len (by decide +kernel) (pa_cons (pv 2) pa_nil)) pa_nil))) (fun _ _ => rfl)))
    (pss_cons (ps_set (i := 13) sc_law.nd rfl (Or.inl rfl) (pe_lst (pa_cons (pe_cal G.seen_from (hr.mono (by decide)) passF (pa_cons (pv 6) (pa_cons (pv 7) pa_nil))) (pa_cons (pe_cal G.seen_from (hr.mono (by decide)) passF (pa_cons (pv 7) (pa_cons (pv 6) pa_nil))) pa_nil))))
    (pss_cut (ps_if (pt_cmpR (op_neF NQ Fq bq_ pass0 (hr.mono (by decide))) (pe_cal G.seen_from (hr.mono (by decide)) passF (pa_cons (pe_mak G.Count (hr.mono (by decide)) pass0 (pa_cons (pv 12) (pa_cons (pv 6) (pa_cons (pe_mak0 G.Now (hr.mono (by decide)) pass0) pa_nil)))) (pa_cons (pv 7) pa_nil))) (pe_mak G.Count (hr.mono (by decide)) pass0 (pa_cons (pv 12) (pa_cons (pe_ix ix_list (pv 13) pe_int (fun _ _ => rfl)) (pa_cons (pv 7) pa_nil)))) (nomark _))
      (pss_one (ps_ret pe_bl))
      pss_nil)
    (pss_cut (ps_if (PW.pt (pw_or (pt_cmpR (op_neF NQ Fq bq_ pass0 (hr.mono (by decide))) (pe_cal G.seen_from (hr.mono (by decide)) passF (pa_cons (pe_mak G.Gap (hr.mono (by decide)) pass0 (pa_cons (pv 7) (pa_cons (pe_mak0 G.Now (hr.mono (by decide)) pass0) pa_nil))) (pa_cons (pv 6) pa_nil))) (pe_mak G.Gap (hr.mono (by decide)) pass0 (pa_cons (pe_ix ix_list (pv 13) pe_int (fun _ _ => rfl)) (pa_cons (pv 6) pa_nil))) (nomark _)) (pw_or1 (pt_cmpR (op_neF NT Ft bt_ pass0 (hr.mono (by decide))) (pe_cal G.seen_from (hr.mono (by decide)) passF (pa_cons (pe_op (op_fam OO Fo bo pass0 (hr.mono (by decide))) (pv 6) (pe_mak0 G.Now (hr.mono (by decide)) pass0)) (pa_cons (pv 7) pa_nil))) (pe_op (op_fam OO Fo bo pass0 (hr.mono (by decide))) (pe_ix ix_list (pv 13) pe_int (fun _ _ => rfl)) (pv 7)) (nomark _)))))
      (pss_one (ps_ret pe_bl))
      pss_nil)
    (pss_cons (ps_set (i := 14) sc_law.nd rfl (Or.inl rfl) (pe_cal G.law_asked (hr.mono (by decide)) pass0 (pa_cons (pe_cal G.law_question0 (hr.mono (by decide)) pass0 (pa_cons (pv 1) (pa_cons (pv 2) (pa_cons pe_int pa_nil)))) pa_nil)))
    (pss_cons (ps_set (i := 15) sc_law.nd rfl (Or.inl rfl) (pe_mak G.Last (hr.mono (by decide)) pass0 (pa_cons (pv 12) (pa_cons (pe_mak0 G.Now (hr.mono (by decide)) pass0) pa_nil))))
    (pss_cut (ps_if (pt_cmpR (opR_or (op_neF NT Ft bt_ pass0 (hr.mono (by decide))) (op_neF NQ Fq bq_ pass0 (hr.mono (by decide)))) (pe_cal G.seen_from (hr.mono (by decide)) passF (pa_cons (pe_cal G.seen_from (hr.mono (by decide)) passF (pa_cons (pv 14) (pa_cons (pv 7) pa_nil))) (pa_cons (pv 15) pa_nil))) (pe_cal G.seen_from (hr.mono (by decide)) passF (pa_cons (pv 14) (pa_cons (pe_cal G.seen_from (hr.mono (by decide)) passF (pa_cons (pv 7) (pa_cons (pv 15) pa_nil))) pa_nil))) (nomark _))
      (pss_one (ps_ret pe_bl))
      pss_nil)
    (pss_cons (ps_set (i := 16) sc_law.nd rfl (Or.inl rfl) (pe_lst (pa_cons (pe_cal G.law_draw (hr.mono (by decide)) pass0 (pa_cons (pv 1) (pa_cons pe_int pa_nil))) (pa_cons (pe_cal G.law_draw (hr.mono (by decide)) pass0 (pa_cons (pv 1) (pa_cons pe_int pa_nil))) pa_nil))))
    (pss_cons (ps_set (i := 17) sc_law.nd rfl (Or.inl rfl) (pe_callB (call_min2 rfl) (by rfl) B.min (by decide +kernel) (pa_cons pe_int (pa_cons (pe_op op_add (pe_op op_add pe_int (pe_ix ix_list (pv 16) pe_int (fun _ _ => rfl))) (pe_ix ix_list (pv 16) pe_int (fun _ _ => rfl))) pa_nil))))
    (pss_one (ps_ret (pe_cmpR op_eq (pe_cal G.law_size (hr.mono (by decide)) pass0 (pa_cons (pe_cal G.law_deep (hr.mono (by decide)) pass0 (pa_cons (pv 1) (pa_cons (pv 2) (pa_cons (pe_ix ix_list (pv 16) pe_int (fun _ _ => rfl)) pa_nil)))) (pa_cons (pe_cal G.law_deep (hr.mono (by decide)) pass0 (pa_cons (pv 1) (pa_cons (pv 2) (pa_cons (pe_ix ix_list (pv 16) pe_int (fun _ _ => rfl)) pa_nil)))) pa_nil))) (pv 17) (nomark _))))))))))))))))))))))))), ?_⟩
    refine ⟨_, rfl, a, ns, rfl, hS, fun p s0 H1 hp1 hP1 s1 => ?_⟩
    refine ⟨_, rfl, _, rfl, p, s0, 3, rfl, hP1, (by decide), (by decide), fun y H2 y0 y3 P2 => ⟨_, _, rfl, rfl, p, s0, 1 + y, rfl, P2.now, (by omega), (by omega), fun l names H3 hl0 hl hlen hnd hnm P3 => ?_⟩⟩
    have lp : l ≠ p := fun z => P2.now.ne.1 (z ▸ hl0)
    refine ⟨_, rfl, _, rfl, _, rfl, p, s0, 13, rfl, P3.now, (by decide), (by decide), fun many H4 m0 m13 P4 => ?_⟩
    refine ⟨p, s0, l, names, many, rfl, P4.now, lp, P4.keep hl lp, (by omega), (by omega), hnd, m0, (by omega), fun d Ad T H5 hd0 hA0 R5 G5 _ _ P5 => ?_⟩
    have hl5 := P5.keep (P4.keep hl lp) lp
    refine fun wd dxw hwd hdxw hnew => ⟨wd, dxw, d, names, Ad, T, many.toNat, rfl, upd_same, (R5.same (sameAt (sameAt (Same.refl H5) hdxw) hwd)).rq, by omega, hnd, hnm, G5, by omega, fun H6 W hW hRW hKw => ⟨rfl, ?_⟩⟩
    have s6 : Same H5 H6 := keep_make hKw hwd hdxw
    have hl6 := s6 _ _ hl5
    have hP6 := P5.now.same s6
    clear P5 P4 P3 P2 R5 G5 hA0 hd0 hKw
    refine ⟨_, rfl, p, s0, rfl, hP6, fun now H7 _ P7 => ?_⟩
    have hl7 := P7.keep hl6 lp
    have hW7 := hW.nl (nl_pl hP6 P7)
    refine ⟨_, rfl, _, rfl, p, s0, l, names, rfl, P7.now, lp, hl7, (by omega), (by omega), hnm, fun em m H8 hM8 L8 I8 P8 => ?_⟩
    refine ⟨em, m, rfl, hM8, L8.nm, LevQ.fit (by omega) L8, fun qa H9 hQ9 s9 => ?_⟩
    have hz := szq_bq L8
    generalize bq m = qn at hQ9 hz
    have hl9 := s9 _ _ (P8.keep hl7 lp)
    have hW9 := (hW7.nl (nl_pl P7.now P8)).same s9
    have hP9 := P8.now.same s9
    clear P8 P7 hM8 hP6 hl7 hl6
    refine ⟨_, rfl, _, rfl, p, s0, l, names, rfl, hP9, lp, hl9, (by omega), (by omega), hnm, fun e1 t1 HA hMA LA IA PA => ?_⟩
    refine ⟨e1, t1, rfl, hMA, LA.nm, LA.fit (by omega), (by have := LA.dep; omega), fun oa HB hOB sB => ?_⟩
    have z1 := sz_bt LA
    generalize bt t1 = u1 at hOB z1
    have hlB := sB _ _ (PA.keep hl9 lp)
    have hWB := (hW9.nl (nl_pl hP9 PA)).same sB
    have hQB := (hQ9.nl (nl_pl hP9 PA)).same sB
    have hPB := PA.now.same sB
    clear PA hMA hP9 hl9 hW9
    refine ⟨_, rfl, _, rfl, p, s0, l, names, rfl, hPB, lp, hlB, (by omega), (by omega), hnm, fun e2 t2 HC hMC LC IC PC => ?_⟩
    refine ⟨e2, t2, rfl, hMC, LC.nm, LC.fit (by omega), (by have := LC.dep; omega), fun xa HD hXD sD => ?_⟩
    have z2 := sz_bt LC
    generalize bt t2 = u2 at hXD z2
    have hlD := sD _ _ (PC.keep hlB lp)
    have hWD := (hWB.nl (nl_pl hPB PC)).same sD
    have hQD := (hQB.nl (nl_pl hPB PC)).same sD
    have hOD := (hOB.nl (nl_pl hPB PC)).same sD
    have hPD := PC.now.same sD
    clear PC hMC hPB hlB hWB hQB hOB
    have f1 := z1.fit (by omega)
    have f2 := z2.fit (by omega)
    have fQ := hz.fit (by omega)
    have so1 : Qn.Sok u1 qn := qsok_of (szq_all (fun t h => low_22 h z1) (fun t h => low_12 h z1) hz)
    refine ⟨_, rfl, _, rfl, qa, oa, qn, u1, rfl, hQD, hOD, hz.nm, fQ, f1, .inl ⟨so1, fun mv HE hME sE => ?_⟩⟩
    refine ⟨_, rfl, _, rfl, _, rfl, oa, wd, .tm u1, W, now, rfl, hOD.same sE, hWD.same sE, z1.nm, f1, fun HF sF => ?_⟩
    have sDF := sE.trans sF
    have hlF := sDF _ _ hlD
    have hWF := hWD.same sDF
    have hQF := hQD.same sDF
    have hOF := hOD.same sDF
    have hXF := hXD.same sDF
    have hMF := hME.same sF
    have hPF := hPD.same sDF
    clear sDF sE sF hlD hWD hQD hOD hXD hME hPD
    refine ⟨fun σ H' => (∃ x10 x11, σ = [some (.ref a), some (.ref p), some (.ref l), some (.ref wd), some (.int now), some (.ref qa), some (.ref oa), some (.ref xa), some (.ref mv), some (oV (ev W now u1).1), x10, x11, none, none, none, none, none, none, none]) ∧ Same HF H', ?_, ?_⟩
    ·--[ S0
      have hev : ∃ mo sn, ev W now u1 = (mo, sn) := ⟨_, _, rfl⟩
      obtain ⟨mo, sn, hev⟩ := hev
      have e1 : (evQ W now (.tm u1)).1 = mo := by show (ev W now u1).1 = mo; rw [hev]
      have e0 : (ev W now u1).1 = mo := by rw [hev]
      rw [e1, e0]
      refine ⟨_, rfl, rfl, _, rfl, ?_⟩
      cases mo with
      | none => exact iteF ⟨⟨_, _, rfl⟩, Same.refl HF⟩
      | some k =>
        obtain ⟨r1, r2, r3⟩ := evQ_sub hev qn
        refine iteT ?_
        refine ⟨_, rfl, _, rfl, _, rfl, mv, wd, Qn.sub u1 qn, W, now, rfl, hMF, hWF, qsub_nm z1.nm hz.nm, qsok_fit f1 so1, fun G1 t1 => ?_⟩
        refine ⟨_, rfl, _, rfl, _, rfl, qa, wd, qn, W, k, rfl, hQF.same t1, hWF.same t1, hz.nm, fQ, fun G2 t2 => ?_⟩
        refine ⟨_, _, rfl, ?_⟩
        rw [r1, decide_eq_true rfl]
        refine ⟨_, rfl, iteF ?_⟩
        have t12 := t1.trans t2
        refine ⟨_, rfl, _, rfl, _, rfl, qa, wd, qn, W, k, rfl, hQF.same t12, hWF.same t12, hz.nm, fQ, fun l1 ys1 G3 t3 hn3 hl3 as3 len3 me3 => ?_⟩
        have t13 := t12.trans t3
        refine ⟨_, rfl, _, rfl, _, rfl, oa, wd, .tm u1, W, now, rfl, hOF.same t13, hWF.same t13, z1.nm, f1, fun l2 ys2 G4 t4 hn4 hl4 as4 len4 me4 => ?_⟩
        have t14 := t13.trans t4
        refine ⟨l1, l2, _, _, rfl, rfl, t4 _ _ hl3, hl4, (by rw [List.length_map, List.length_map, sizeLine_eq]; omega), fun sl hsl => ?_⟩
        have t5 : Same G4 (upd G4 sl (.lst (ys1.map V.int ++ ys2.map V.int))) := sameAt (Same.refl G4) hsl
        have hsl5 : (upd G4 sl (.lst (ys1.map V.int ++ ys2.map V.int))) sl = some (.lst ((ys1 ++ ys2).map V.int)) := by rw [upd_same, List.map_append]
        generalize (upd G4 sl (.lst (ys1.map V.int ++ ys2.map V.int))) = G5 at t5 hsl5 ⊢
        have t15 := t14.trans t5
        have me4 : ∀ z, z ∈ ys2 ↔ z ∈ sn := fun z => (me4 z).trans (by show z ∈ (ev W now u1).2 ↔ _; rw [hev])
        refine ⟨_, rfl, _, rfl, _, rfl, mv, wd, Qn.sub u1 qn, W, now, rfl, hMF.same t15, hWF.same t15, qsub_nm z1.nm hz.nm, qsok_fit f1 so1, fun l3 ys3 G6 t6 hn6 hl6' as6 len6 me6 => ?_⟩
        have t16 := t15.trans t6
        have hsl6 := t6 _ _ hsl5
        have fl : ∀ xs : List Int, (xs.map V.int).all flatV = true := fun xs => by
          rw [List.all_map]
          exact List.all_eq_true.mpr fun _ _ => rfl
        refine ⟨_, rfl, l3, rfl, ⟨_, SqL.of hl6'⟩, fun D hD => lc_it (walk_list (xs := ys3.map V.int)) (fun i H5 => H5 D = some (.lst (((ys3.take i).map fun z => decide (z ∈ ys1 ++ ys2)).map V.bl)) ∧ Same G6 H5) ⟨upd_same, sameAt (Same.refl G6) hD⟩ (fun i H5 _ hv => SqL.of (hv.2 _ _ hl6')) ?_ ?_⟩
        · rintro i x H5 H6' hi ⟨hD5, t7⟩ ⟨rfl, hx⟩
          obtain ⟨z, hz3, rfl⟩ : ∃ z, ys3[i]? = some z ∧ x = V.int z := by
            rw [List.getElem?_map] at hx
            cases e : ys3[i]? with
            | none => rw [e] at hx; cases hx
            | some z => rw [e] at hx; exact ⟨z, rfl, (Option.some.inj hx).symm⟩
          have hi3 : i < ys3.length := (List.getElem?_eq_some_iff.mp hz3).1
          refine ⟨rfl, _, rfl, _, rfl, sl, _, rfl, .inl (SqL.of (t7 _ _ hsl6)), rfl, fl _, _, hD5, ?_, ?_, sameAt t7 hD⟩
          · rw [List.length_map, List.length_map, List.length_take]
            exact small1000 (by omega)
          · rw [upd_same]
            show some (HO.lst (_ ++ [V.bl (inV (.int z) _)])) = _
            rw [inI, list_take hz3, List.map_append, List.map_append]
            rfl
        · rintro G7 ⟨hD7, t7⟩
          rw [List.length_map, List.take_length] at hD7
          refine ⟨D, _, rfl, SqL.of hD7, ?_⟩
          rw [all_in (fun z hz => List.mem_append.mpr (((r3 z ((me6 z).mp hz)).imp (me3 z).mpr (me4 z).mpr)))]
          refine ⟨_, rfl, iteF ?_⟩
          have t17 := t16.trans t7
          have hl7 := t7 _ _ hl6'
          refine ⟨_, rfl, _, rfl, _, rfl, qa, wd, qn, W, k, rfl, hQF.same t17, hWF.same t17, hz.nm, fQ, fun l4 ys4 G8 t8 hn8 hl8 as8 len8 me8 => ?_⟩
          have hl38 := t8 _ _ hl7
          refine ⟨l4, rfl, ⟨_, SqL.of hl8⟩, fun D2 hD2 => lc_it (walk_list (xs := ys4.map V.int)) (fun i H5 => H5 D2 = some (.lst (((ys4.take i).map fun z => decide (z ∈ ys3)).map V.bl)) ∧ Same G8 H5) ⟨upd_same, sameAt (Same.refl G8) hD2⟩ (fun i H5 _ hv => SqL.of (hv.2 _ _ hl8)) ?_ ?_⟩
          · rintro i x H5 H6' hi ⟨hD5, t9⟩ ⟨rfl, hx⟩
            obtain ⟨z, hz3, rfl⟩ : ∃ z, ys4[i]? = some z ∧ x = V.int z := by
              rw [List.getElem?_map] at hx
              cases e : ys4[i]? with
              | none => rw [e] at hx; cases hx
              | some z => rw [e] at hx; exact ⟨z, rfl, (Option.some.inj hx).symm⟩
            have hi3 : i < ys4.length := (List.getElem?_eq_some_iff.mp hz3).1
            refine ⟨rfl, _, rfl, _, rfl, l3, _, rfl, .inl (SqL.of (t9 _ _ hl38)), rfl, fl _, _, hD5, ?_, ?_, sameAt t9 hD2⟩
            · rw [List.length_map, List.length_map, List.length_take]
              exact small1000 (by omega)
            · rw [upd_same]
              show some (HO.lst (_ ++ [V.bl (inV (.int z) _)])) = _
              rw [inI, list_take hz3, List.map_append, List.map_append]
              rfl
          · rintro G9 ⟨hD9, t9⟩
            rw [List.length_map, List.take_length] at hD9
            refine ⟨D2, _, rfl, SqL.of hD9, ?_⟩
            rw [all_in (fun z hz => (me6 z).mpr (r2 z ((me8 z).mp hz)))]
            exact ⟨_, rfl, iteF ⟨⟨_, _, rfl⟩, t17.trans (t8.trans t9)⟩⟩
      --]
    · rintro σ H0 ⟨⟨x10, x11, rfl⟩, sF⟩
      have hl0 := sF _ _ hlF
      have hQ0 := hQF.same sF
      have hO0 := hOF.same sF
      have hX0 := hXF.same sF
      have hP0 := hPF.same sF
      clear hlF hQF hOF hXF hPF hWF hMF sF
      refine ⟨fun σ H' => (∃ x10 x11, σ = [some (.ref a), some (.ref p), some (.ref l), some (.ref wd), some (.int now), some (.ref qa), some (.ref oa), some (.ref xa), some (.ref mv), some (oV (ev W now u1).1), x10, x11, none, none, none, none, none, none, none]) ∧ Same H0 H', ?_, ?_⟩
      ·--[ S1
        refine ⟨_, rfl, fun x dx hx hdx hne => ⟨x, dx, rfl, upd_same, fun H1 hN1 hK1 => ⟨rfl, ?_⟩⟩⟩
        have s1 : Same H0 H1 := keep_make hK1 hx hdx
        refine ⟨qa, x, qn, .now, rfl, hQ0.same s1, hN1, hz.nm, fQ, now_fit, .inl ⟨qsok_of (szq_all (fun t h => low_now (h.fit (by omega))) (fun t h => low_now (h.fit (by omega))) hz), fun r1 H2 hR1 s2 => ?_⟩⟩
        rw [qsub_now (szq_all (fun t h => h.nf) (fun t h => h.nf) hz)] at hR1
        have s12 := s1.trans s2
        refine ⟨_, rfl, ne_q hR1 (hQ0.same s12) hz.nm fun H3 s3 => ⟨_, rfl, iteF ?_⟩⟩
        have s13 := s12.trans s3
        refine fun x2 dx2 hx2 hdx2 hne2 => ⟨x2, dx2, rfl, upd_same, fun H4 hN2 hK2 => ⟨rfl, ?_⟩⟩
        have s14 := s13.trans (keep_make hK2 hx2 hdx2)
        refine ⟨_, rfl, x2, oa, .tm .now, u1, rfl, hN2, hO0.same s14, trivial, now_fit, f1, .inl ⟨trivial, fun r2 H5 hR2 s5 => ?_⟩⟩
        have s15 := s14.trans s5
        exact ⟨_, rfl, ne_tm hR2 (hO0.same s15) z1.nm fun H6 s6 => ⟨_, rfl, iteF ⟨⟨_, _, rfl⟩, s15.trans s6⟩⟩⟩
        --]
      rintro σ HA' ⟨⟨y10, y11, rfl⟩, sA⟩
      have hlA := sA _ _ hl0
      have hQA := hQ0.same sA
      have hOA := hO0.same sA
      have hXA := hX0.same sA
      have hPA := hP0.same sA
      clear hl0 hQ0 hO0 hX0 hP0 sA
      refine ⟨fun σ H' => (∃ x10 x11, σ = [some (.ref a), some (.ref p), some (.ref l), some (.ref wd), some (.int now), some (.ref qa), some (.ref oa), some (.ref xa), some (.ref mv), some (oV (ev W now u1).1), x10, x11, none, none, none, none, none, none, none]) ∧ Same HA' H', ?_, ?_⟩
      ·--[ S2
        refine fun x dx hx hdx hne => ⟨x, dx, rfl, upd_same, fun H1 hN1 hK1 => ⟨rfl, ?_⟩⟩
        have s1 : Same HA' H1 := keep_make hK1 hx hdx
        obtain ⟨dx1, fs1, g1, _⟩ := hN1.meth
        refine ⟨x, _, dx1, fs1, 3, rfl, rfl, g1, C.is_of _, x, .now, 3, rfl, hN1, now3_fit, fun r1 H2 hR1 s2 => ?_⟩
        have s12 := s1.trans s2
        refine ⟨_, rfl, r1, oa, .tm (Tm.plus .now 3), u1, rfl, hR1, hOA.same s12, plus_nm (t := .now) trivial, now3_fit, f1, .inl ⟨sok_of (low_now3 z1), fun r2 H3 hR2 s3 => ?_⟩⟩
        have s13 := s12.trans s3
        have hR2 : TmAt C H3 r2 (Tm.sub u1 (Tm.plus .now 3)) := hR2
        rw [sub_plus z1.nf (t := .now) trivial] at hR2
        have hR2 : TmAt C H3 r2 (u1.plus 3) := hR2
        obtain ⟨dx2, fs2, g2, _⟩ := (hOA.same s13).meth
        refine ⟨_, rfl, oa, _, dx2, fs2, 3, rfl, rfl, g2, C.is_of _, oa, u1, 3, rfl, hOA.same s13, plus_fit2 z1, fun r3 H4 hR3 s4 => ?_⟩
        have s14 := s13.trans s4
        refine ne_tm (hR2.same s4) hR3 (plus_nm z1.nm) fun H5 s5 => ⟨_, rfl, iteF ?_⟩
        have s15 := s14.trans s5
        obtain ⟨dx3, fs3, g3, _⟩ := (hOA.same s15).meth
        refine ⟨_, rfl, oa, _, dx3, fs3, 2, rfl, rfl, g3, C.is_of _, oa, u1, 2, rfl, hOA.same s15, plus_fit2 z1, fun r4 H6 hR4 s6 => ?_⟩
        have s16 := s15.trans s6
        refine ⟨_, rfl, r4, xa, .tm (u1.plus (-2)), u2, rfl, hR4, hXA.same s16, plus_nm z1.nm, plus_fit2 z1, f2, .inl ⟨sok_of (low_plus z1 z2), fun r5 H7 hR5 s7 => ?_⟩⟩
        have s17 := s16.trans s7
        refine ⟨_, rfl, _, rfl, oa, xa, .tm u1, u2, rfl, hOA.same s17, hXA.same s17, z1.nm, f1, f2, .inl ⟨sok_of (low_22 z1 z2), fun r6 H8 hR6 s8 => ?_⟩⟩
        have s18 := s17.trans s8
        have hR6 : TmAt C H8 r6 (Tm.sub u2 u1) := hR6
        obtain ⟨dx4, fs4, g4, _⟩ := hR6.meth
        refine ⟨r6, _, dx4, fs4, 2, rfl, rfl, g4, C.is_of _, r6, _, 2, rfl, hR6, plus_fit22 z1 z2, fun r7 H9 hR7 s9 => ?_⟩
        have hR5 : TmAt C H7 r5 (Tm.sub u2 (u1.plus (-2))) := hR5
        rw [sub_plus z2.nf z1.nf] at hR5
        exact ne_tm ((hR5.same s8).same s9) hR7 (plus_nm (sub_nm z2.nm z1.nm)) fun HX s => ⟨_, rfl, iteF ⟨⟨_, _, rfl⟩, (s18.trans s9).trans s⟩⟩
        --]
      rintro σ HB' ⟨⟨y10, y11, rfl⟩, sA⟩
      have hlB := sA _ _ hlA
      have hQB := hQA.same sA
      have hOB := hOA.same sA
      have hXB := hXA.same sA
      have hPB := hPA.same sA
      clear hlA hQA hOA hXA hPA sA
      -- stream
      refine ⟨_, rfl, _, rfl, _, rfl, _, _, rfl, .inl ⟨_, SqL.of hlB, rfl⟩, p, s0, _, rfl, hPB, (by rw [List.length_map]; omega), Int.lt_of_le_of_lt (show ((names.map V.str).length : Int) ≤ 25 by rw [List.length_map]; omega) (by decide), fun g HC' g0 g1 PC => ?_⟩
      rw [List.length_map] at g1
      obtain ⟨j, rfl⟩ : ∃ j : Nat, g = (j : Int) := ⟨g.toNat, by omega⟩
      have hj : j < names.length := by omega
      have hzm : names[j] ∈ names := List.getElem_mem hj
      generalize hzz : names[j] = z at hzm
      have nz := hnm z hzm
      have nl := nl_pl hPB PC
      have hlC := PC.keep hlB lp
      have hOC := hOB.nl nl
      have hXC := hXB.nl nl
      have hPC := PC.now
      refine ⟨_, _, _, .str z, rfl, rfl, SqL.of hlC, atI_nat (by rw [List.getElem?_map, List.getElem?_eq_getElem hj, hzz]; rfl), ?_⟩
      clear hPB hlB hQB hOB hXB nl PC
      -- pair
      refine ⟨_, rfl, _, rfl, oa, xa, .tm u1, u2, rfl, hOC, hXC, z1.nm, f1, f2, .inl ⟨sok_of (low_22 z1 z2), fun ra HD' hRa sD => ?_⟩⟩
      refine ⟨_, rfl, _, rfl, xa, oa, .tm u2, u1, rfl, hXC.same sD, hOC.same sD, z2.nm, f2, f1, .inl ⟨sok_of (low_22 z2 z1), fun rb HE' hRb sE => ⟨(by show 2 ≤ sizeLine; decide), fun pr hpr => ?_⟩⟩⟩
      have sF0 : Same HE' (upd HE' pr (.lst [.ref ra, .ref rb])) := sameAt (Same.refl HE') hpr
      have hprF : (upd HE' pr (.lst [.ref ra, .ref rb])) pr = some (.lst [.ref ra, .ref rb]) := upd_same
      generalize (upd HE' pr (.lst [.ref ra, .ref rb])) = HF' at sF0 hprF ⊢
      have sCF := (sD.trans sE).trans sF0
      have hlF := sCF _ _ hlC
      have hOF := hOC.same sCF
      have hXF := hXC.same sCF
      have hPF := hPC.same sCF
      have hRaF : TmAt C HF' ra (Tm.sub u2 u1) := (TmAt.same hRa sE).same sF0
      have hRbF : TmAt C HF' rb (Tm.sub u1 u2) := TmAt.same hRb sF0
      clear hlC hOC hXC hPC sD sE sF0 sCF hRa hRb hpr
      have fab := sok_fit f2 (sok_of (low_22 z1 z2))
      have fba := sok_fit f1 (sok_of (low_22 z2 z1))
      refine ⟨fun σ H' => (∃ x10 x11, σ = [some (.ref a), some (.ref p), some (.ref l), some (.ref wd), some (.int now), some (.ref qa), some (.ref oa), some (.ref xa), some (.ref mv), some (oV (ev W now u1).1), x10, x11, some (.str z), some (.ref pr), none, none, none, none, none]) ∧ Same HF' H', ?_, ?_⟩
      ·--[ S3
        refine ⟨_, rfl, _, rfl, fun x dx hx hdx hne => ⟨x, dx, rfl, upd_same, fun H1 hN1 hK1 => ⟨rfl, ?_⟩⟩⟩
        have s1 : Same HF' H1 := keep_make hK1 hx hdx
        refine fun cx dx2 hcx hdx2 hne2 => ⟨cx, dx2, oa, x, z, u1, .now, rfl, upd_same, nz, (hOF.same s1).same (sameAt (sameAt (Same.refl H1) hdx2) hcx), hN1.same (sameAt (sameAt (Same.refl H1) hdx2) hcx), f1, now_fit, fun H2 hA hK2 => ⟨rfl, ?_⟩⟩
        have s12 := s1.trans (keep_make hK2 hcx hdx2)
        refine ⟨_, rfl, cx, xa, .am (.count z u1 .now), u2, rfl, hA, hXF.same s12, ⟨nz, z1.nm, trivial⟩, ⟨f1, now_fit⟩, f2, .inl ⟨⟨sok_of (low_22 z1 z2), trivial⟩, fun r1 H3 hR1 s3 => ?_⟩⟩
        have s13 := s12.trans s3
        refine ⟨_, rfl, _, rfl, _, _, _, _, rfl, rfl, SqL.of (s13 _ _ hprF), rfl, _, rfl, ?_⟩
        refine fun c2 dx3 hc2 hdx3 hne3 => ⟨c2, dx3, ra, xa, z, Tm.sub u2 u1, u2, rfl, upd_same, nz, (hRaF.same s13).same (sameAt (sameAt (Same.refl H3) hdx3) hc2), (hXF.same s13).same (sameAt (sameAt (Same.refl H3) hdx3) hc2), fab, f2, fun H4 hA2 hK3 => ⟨rfl, ?_⟩⟩
        have s4 := keep_make hK3 hc2 hdx3
        have hR1 : AmAt A0 C H3 r1 (.count z (Tm.sub u2 u1) u2) := hR1
        exact ne_am (hR1.same s4) hA2 ⟨nz, sub_nm z2.nm z1.nm, z2.nm⟩ fun H5 s5 => ⟨_, rfl, iteF ⟨⟨_, _, rfl⟩, (s13.trans s4).trans s5⟩⟩
        --]
      rintro σ HG' ⟨⟨y10', y11', rfl⟩, sA⟩
      have hlG := sA _ _ hlF
      have hOG := hOF.same sA
      have hXG := hXF.same sA
      have hPG := hPF.same sA
      have hRaG := hRaF.same sA
      have hRbG := hRbF.same sA
      have hprG := sA _ _ hprF
      clear hlF hOF hXF hPF hRaF hRbF hprF sA
      refine ⟨fun σ H' => (∃ x10 x11, σ = [some (.ref a), some (.ref p), some (.ref l), some (.ref wd), some (.int now), some (.ref qa), some (.ref oa), some (.ref xa), some (.ref mv), some (oV (ev W now u1).1), x10, x11, some (.str z), some (.ref pr), none, none, none, none, none]) ∧ Same HG' H', ?_, ?_⟩
      ·--[ S4
        refine ⟨_, rfl, fun x dx hx hdx hne => ⟨x, dx, rfl, upd_same, fun H1 hN1 hK1 => ⟨rfl, ?_⟩⟩⟩
        have s1 : Same HG' H1 := keep_make hK1 hx hdx
        refine fun cx dx2 hcx hdx2 hne2 => ⟨cx, dx2, xa, x, u2, .now, rfl, upd_same, (hXG.same s1).same (sameAt (sameAt (Same.refl H1) hdx2) hcx), hN1.same (sameAt (sameAt (Same.refl H1) hdx2) hcx), f2, now_fit, fun H2 hA hK2 => ⟨rfl, ?_⟩⟩
        have s12 := s1.trans (keep_make hK2 hcx hdx2)
        refine ⟨_, rfl, cx, oa, .am (.gap u2 .now), u1, rfl, hA, hOG.same s12, ⟨z2.nm, trivial⟩, ⟨f2, now_fit⟩, f1, .inl ⟨⟨sok_of (low_22 z2 z1), trivial⟩, fun r1 H3 hR1 s3 => ?_⟩⟩
        have s13 := s12.trans s3
        refine ⟨_, rfl, _, _, _, _, rfl, rfl, SqL.of (s13 _ _ hprG), rfl, _, rfl, ?_⟩
        refine fun c2 dx3 hc2 hdx3 hne3 => ⟨c2, dx3, rb, oa, Tm.sub u1 u2, u1, rfl, upd_same, (hRbG.same s13).same (sameAt (sameAt (Same.refl H3) hdx3) hc2), (hOG.same s13).same (sameAt (sameAt (Same.refl H3) hdx3) hc2), fba, f1, fun H4 hA2 hK3 => ⟨rfl, ?_⟩⟩
        have s4 := keep_make hK3 hc2 hdx3
        have hR1 : AmAt A0 C H3 r1 (.gap (Tm.sub u1 u2) u1) := hR1
        refine ne_am (hR1.same s4) hA2 ⟨sub_nm z1.nm z2.nm, z1.nm⟩ fun H5 s5 => ⟨_, rfl, iteF ?_⟩
        have s15 := (s13.trans s4).trans s5
        refine ⟨_, rfl, fun x2 dx4 hx2 hdx4 hne4 => ⟨x2, dx4, rfl, upd_same, fun H6 hN6 hK6 => ⟨rfl, ?_⟩⟩⟩
        have s16 := s15.trans (keep_make hK6 hx2 hdx4)
        obtain ⟨ex1, fs1, g1, _⟩ := (hOG.same s16).meth
        obtain ⟨ex2, fs2, g2, _⟩ := hN6.meth
        refine ⟨oa, x2, _, _, ex1, ex2, fs1, fs2, rfl, rfl, g1, C.is_of _, g2, C.is_of _, oa, x2, u1, .now, rfl, hOG.same s16, hN6, either_fit z1, fun r2 H7 hR2 s7 => ?_⟩
        have s17 := s16.trans s7
        refine ⟨_, rfl, r2, xa, .tm (.either u1 .now), u2, rfl, hR2, hXG.same s17, ⟨z1.nm, trivial⟩, either_fit z1, f2, .inl ⟨sok_of (t := .either u1 .now) (low_either z1 z2), fun r3 H8 hR3 s8 => ?_⟩⟩
        have s18 := s17.trans s8
        have hR3 : TmAt C H8 r3 (.either (Tm.sub u2 u1) u2) := hR3
        obtain ⟨ex3, fs3, g3, _⟩ := (hRaG.same s18).meth
        obtain ⟨ex4, fs4, g4, _⟩ := (hXG.same s18).meth
        refine ⟨_, rfl, _, _, _, _, rfl, rfl, SqL.of (s18 _ _ hprG), rfl, _, rfl, ?_⟩
        refine ⟨ra, xa, _, _, ex3, ex4, fs3, fs4, rfl, rfl, g3, C.is_of _, g4, C.is_of _, ra, xa, _, _, rfl, hRaG.same s18, hXG.same s18, low_fit (t := .either u1 .now) (low_either z1 z2), fun r4 H9 hR4 s9 => ?_⟩
        exact ne_tm (hR3.same s9) hR4 ⟨sub_nm z2.nm z1.nm, z2.nm⟩ fun HX s => ⟨_, rfl, iteF ⟨⟨_, _, rfl⟩, (s18.trans s9).trans s⟩⟩
        --]
      rintro σ HH' ⟨⟨y10'', y11'', rfl⟩, sA⟩
      have hlH := sA _ _ hlG
      have hXH := hXG.same sA
      have hPH := hPG.same sA
      clear hlG hOG hXG hPG hRaG hRbG hprG sA
      -- small, look
      refine ⟨_, rfl, _, rfl, p, s0, l, names, rfl, hPH, lp, hlH, (by omega), (by omega), hnm, fun e3 m3 HI hMI LI II PI => ?_⟩
      refine ⟨e3, m3, rfl, hMI, LI.nm, LevQ.fit (by omega) LI, fun sa HJ hSJ sJ => ?_⟩
      have z3 := szq_bq LI
      generalize bq m3 = qs at hSJ z3
      have hlJ := sJ _ _ (PI.keep hlH lp)
      have hXJ := (hXH.nl (nl_pl hPH PI)).same sJ
      have hPJ := PI.now.same sJ
      clear PI hMI hPH hlH hXH
      refine ⟨_, rfl, fun x dx hx hdx hne => ⟨x, dx, rfl, upd_same, fun HK hNK hKK => ⟨rfl, ?_⟩⟩⟩
      have sK : Same HJ HK := keep_make hKK hx hdx
      refine fun lx dx2 hlx hdx2 hne2 => ⟨lx, dx2, x, z, .now, rfl, upd_same, nz, hNK.same (sameAt (sameAt (Same.refl HK) hdx2) hlx), lk_fit, fun HL hLk hKL => ⟨rfl, ?_⟩⟩
      have sJL := sK.trans (keep_make hKL hlx hdx2)
      have hLk : TmAt C HL lx (lk z) := hLk
      have hlL := sJL _ _ hlJ
      have hXL := hXJ.same sJL
      have hPL := hPJ.same sJL
      have hSL := hSJ.same sJL
      have f3 := z3.fit (by omega)
      have nk : (lk z).NmS := ⟨nz, trivial⟩
      clear hlJ hXJ hPJ hSJ sJL sK hKK hKL hNK
      refine ⟨fun σ H' => (∃ x10 x11, σ = [some (.ref a), some (.ref p), some (.ref l), some (.ref wd), some (.int now), some (.ref qa), some (.ref oa), some (.ref xa), some (.ref mv), some (oV (ev W now u1).1), x10, x11, some (.str z), some (.ref pr), some (.ref sa), some (.ref lx), none, none, none]) ∧ Same HL H', ?_, ?_⟩
      ·--[ S5
        have so3 : Qn.Sok u2 qs := qsok_of (szq_all (fun t h => low_12 h z2) (fun t h => low_02 h z2) z3)
        refine ⟨_, rfl, _, rfl, sa, xa, qs, u2, rfl, hSL, hXL, z3.nm, f3, f2, .inl ⟨so3, fun r1 H1 hR1 s1 => ?_⟩⟩
        have so4 : Qn.Sok (lk z) (Qn.sub u2 qs) := qsok_of (qsub_all (szq_all (fun t h => low_lk2 h.n1 z2) (fun t h => by
          obtain ⟨a1, a2, a3, a4⟩ := h.n0
          exact low_lk2 ⟨by omega, by omega, by omega, by omega⟩ z2) z3))
        refine ⟨_, rfl, r1, lx, Qn.sub u2 qs, lk z, rfl, hR1, hLk.same s1, qsub_nm z2.nm z3.nm, qsok_fit f2 so3, lk_fit, .inl ⟨so4, fun r2 H2 hR2 s2 => ?_⟩⟩
        have s12 := s1.trans s2
        refine ⟨_, rfl, _, rfl, _, rfl, xa, lx, .tm u2, lk z, rfl, hXL.same s12, hLk.same s12, z2.nm, f2, lk_fit, .inl ⟨sok_of (low_lk z2), fun r3 H3 hR3 s3 => ?_⟩⟩
        have s13 := s12.trans s3
        have hR3 : TmAt C H3 r3 (Tm.sub (lk z) u2) := hR3
        have so5 : Qn.Sok (Tm.sub (lk z) u2) qs := qsok_of (szq_all (fun t h => low_lk3 h.n1 z2) (fun t h => by
          obtain ⟨a1, a2, a3, a4⟩ := h.n0
          exact low_lk3 ⟨by omega, by omega, by omega, by omega⟩ z2) z3)
        refine ⟨sa, r3, qs, Tm.sub (lk z) u2, rfl, hSL.same s13, hR3, z3.nm, f3, sok_fit lk_fit (sok_of (low_lk z2)), .inl ⟨so5, fun r4 H4 hR4 s4 => ?_⟩⟩
        rw [qsub_sub z2.nf (v := lk z) trivial (szq_all (fun t h => h.nf) (fun t h => h.nf) z3)] at hR2
        exact ne_q ((hR2.same s3).same s4) hR4 (qsub_nm (sub_nm nk z2.nm) z3.nm) fun H5 s5 => ⟨_, rfl, iteF ⟨⟨_, _, rfl⟩, (s13.trans s4).trans s5⟩⟩
        --]
      rintro σ HM' ⟨⟨w10, w11, rfl⟩, sA⟩
      have hlM := sA _ _ hlL
      have hPM := hPL.same sA
      clear hlL hXL hPL hSL hLk sA
      -- many
      refine ⟨_, rfl, p, s0, 12, rfl, hPM, (by decide), (by decide), fun c1 H1 c10 c112 P1 => ?_⟩
      refine ⟨_, rfl, p, s0, 12, rfl, P1.now, (by decide), (by decide), fun c2 H2 c20 c212 P2 => ⟨(by show 2 ≤ sizeLine; decide), fun ml hml => ?_⟩⟩
      have t3 : Same H2 (upd H2 ml (.lst [.int c1, .int c2])) := sameAt (Same.refl H2) hml
      have hml3 : (upd H2 ml (.lst [.int c1, .int c2])) ml = some (.lst [.int c1, .int c2]) := upd_same
      have hP3 : PoolAt (upd H2 ml (.lst [.int c1, .int c2])) p s0 := P2.now.same t3
      have hl3 := t3 _ _ (P2.keep (P1.keep hlM lp) lp)
      have mp : ml ≠ p := fun q => P2.now.ne.1 (q ▸ hml)
      generalize (upd H2 ml (.lst [.int c1, .int c2])) = H3 at t3 hml3 hP3 hl3 ⊢
      clear t3 hml P1 P2 hlM hPM
      refine ⟨_, rfl, _, _, _, .int c1, rfl, rfl, SqL.of hml3, rfl, _, _, rfl, rfl, _, rfl, _, _, _, .int c2, rfl, rfl, SqL.of hml3, rfl, _, _, rfl, rfl, 13, 1 + c1 + c2, rfl, ?_⟩
      refine ⟨_, rfl, _, rfl, _, rfl, _, _, _, .int c1, rfl, rfl, SqL.of hml3, rfl, p, s0, l, names, c1, rfl, hP3, lp, hl3, (by omega), (by omega), hnm, c10, (by omega), fun d1 v1 H4 hT1 hC1 P4 => ?_⟩
      refine ⟨_, rfl, _, rfl, _, rfl, _, _, _, .int c2, rfl, rfl, SqL.of (P4.keep hml3 mp), rfl, p, s0, l, names, c2, rfl, P4.now, lp, P4.keep hl3 lp, (by omega), (by omega), hnm, c20, (by omega), fun d2 v2 H5 hT2 hC2 P5 => ?_⟩
      refine ⟨d1, d2, v1, v2, c1, c2, rfl, hT1.nl (nl_pl P4.now P5), hT2, hC1, hC2, c10, (by omega), c20, (by omega), fun H6 => ?_⟩
      refine ⟨_, rfl, rfl, ?_⟩
      have e : (if 1 + c1 + c2 ≤ 12 then 1 + c1 + c2 else 13) = (if 1 + c1 + c2 < 13 then 1 + c1 + c2 else 13) := by
        by_cases c : 1 + c1 + c2 ≤ 12
        · rw [if_pos c, if_pos (by omega)]
        · rw [if_neg c, if_neg (by omega)]
      rw [e, decide_eq_true rfl]
      exact q H6
end
end Ash

set_option Elab.async false
set_option linter.all false
set_option maxRecDepth 100000
set_option maxHeartbeats 4000000
namespace Ash
open PySem PySem.Spec PyProof.Rows L2
/-! ### the facts of the seven classes, put together -/
theorem is7 {C : TC} {p : Addr → Prop} (h1 : p C.now) (h2 : p C.last) (h3 : p C.next) (h4 : p C.shift) (h5 : p C.either) (h6 : p C.later) (h7 : p C.earlier) : ∀ a, C.Is a → p a := fun a ha => by
  rcases ha with rfl | rfl | rfl | rfl | rfl | rfl | rfl
  · exact h1
  · exact h2
  · exact h3
  · exact h4
  · exact h5
  · exact h6
  · exact h7
theorem na10 {K : PySem.W.Frag} {a : Addr} (h1 : NoAttr K a "stream") (h2 : NoAttr K a "term") (h3 : NoAttr K a "first") (h4 : NoAttr K a "second") (h5 : NoAttr K a "amount") (h6 : NoAttr K a "spelling") (h7 : NoAttr K a "depth") (h8 : NoAttr K a "parts") (h9 : NoAttr K a "looks") (h10 : NoAttr K a "choices") : ∀ f ∈ ATTRS, NoAttr K a f := fun f hf => by
  simp only [ATTRS, List.mem_cons, List.not_mem_nil, or_false] at hf
  rcases hf with rfl | rfl | rfl | rfl | rfl | rfl | rfl | rfl | rfl | rfl
  · exact h1
  · exact h2
  · exact h3
  · exact h4
  · exact h5
  · exact h6
  · exact h7
  · exact h8
  · exact h9
  · exact h10
theorem kit_me {K : PySem.W.Frag} {a : Addr} : PySem.W.kitOne K (.ref a) (.ref a) = some (decide (a = a)) := by
  unfold PySem.W.kitOne
  simp
theorem ne_sub {K : PySem.W.Frag} {a b : Addr} (h1 : PySem.W.subIn K (.ref a) (.ref a) = some true) (h2 : PySem.W.subIn K (.ref a) (.ref b) = some false) : a ≠ b := fun e => by
  rw [← e, h1] at h2
  cases h2
theorem kit_no {K : PySem.W.Frag} {a b : Addr} (n : a ≠ b) (h2 : PySem.W.isClsIn K b = true) (h3 : PySem.W.typeIn K (.ref b) = some (.type "type")) (h4 : PySem.W.subIn K (.ref a) (.ref b) = some false) : PySem.W.kitOne K (.ref a) (.ref b) = some (decide (a = b)) := by
  have h2' : (PySem.W.clsIn K b).isSome = true := h2
  rw [decide_eq_false n]
  simp [PySem.W.kitOne, PySem.W.kitCls, n, h2', h3, h4]
theorem is4 {A : AC} {p : Addr → Prop} (h1 : p A.number) (h2 : p A.count) (h3 : p A.total) (h4 : p A.gap) : ∀ a, A.Is a → p a := fun a ha => by
  rcases ha with rfl | rfl | rfl | rfl
  · exact h1
  · exact h2
  · exact h3
  · exact h4
theorem na5 {K : PySem.W.Frag} {a : Addr} (h1 : NoAttr K a "stream") (h2 : NoAttr K a "term") (h3 : NoAttr K a "first") (h4 : NoAttr K a "last") (h5 : NoAttr K a "spelling") : ∀ f ∈ AATTRS, NoAttr K a f := fun f hf => by
  simp only [AATTRS, List.mem_cons, List.not_mem_nil, or_false] at hf
  rcases hf with rfl | rfl | rfl | rfl | rfl
  · exact h1
  · exact h2
  · exact h3
  · exact h4
  · exact h5
theorem kit_no0 {K : PySem.W.Frag} {a b : Addr} (n : a ≠ b) (h2 : PySem.W.isClsIn K b = true) (h3 : PySem.W.typeIn K (.ref b) = some (.type "type")) (h4 : PySem.W.subIn K (.ref a) (.ref b) = some false) : PySem.W.kitOne K (.ref a) (.ref b) = some false := by
  have h := kit_no n h2 h3 h4
  rw [decide_eq_false n] at h
  exact h
example : PySem.dunder (Operator.info .BitOr).2 = "__or__" := by rfl
example : dunderR (Operator.info .BitOr).2 = "__ror__" := by rfl
example : PySem.dunder (Operator.info .Sub).2 = "__sub__" := by rfl
example : PySem.dunder (Operator.info .Add).2 = "__add__" := by rfl
example : dunderR (Operator.info .Add).2 = "__radd__" := by rfl
abbrev veB : List Value := [.type "ValueError", .type "Exception", .type "BaseException", .type "object"]
/-- an own error without an __init__, beneath another one -/
theorem exc_mk {K : PySem.W.Frag} {C D N N2 : Addr} {nm q nm2 q2 : Str} {bs bs2 sub sub2 : List Value} {hd ab hd2 ab2 : Bool} {sn sn2 : List Str} {col col2 : Option Bool} {dd dd2 : Option Addr} {k0 k1 k2 k3 k5 l0 l1 l2 l3 l5 : Option Value} {nid2 : String}
    {oN oM : Value} {dN dM : Option Addr} {es es2 : Array DictEntry} {nn nn2 : Nat} {slN slM : Array (Option Value)}
    (h1 : K.lookup C = some (excClassObj nm q C N bs (.ref D :: veB) hd sn sub ab col dd k0 k1 k2 k3 k5 "ValueError.__new__")) (h2 : K.lookup N = some ⟨oN, dN, .dict es nn, slN⟩) (h3 : (es.toList.all fun e => match e.key with | .str _ _ => true | _ => false) = true) (h4 : PySem.W.nsIn K N "__init__" = some none)
    (h5 : K.lookup D = some (excClassObj nm2 q2 D N2 bs2 veB hd2 sn2 sub2 ab2 col2 dd2 l0 l1 l2 l3 l5 nid2)) (h6 : K.lookup N2 = some ⟨oM, dM, .dict es2 nn2, slM⟩) (h7 : (es2.toList.all fun e => match e.key with | .str _ _ => true | _ => false) = true) (h8 : PySem.W.nsIn K N2 "__init__" = some none) :
    PySem.W.excIn K C veB "ValueError.__new__" = true := by
  have n1 : PySem.W.nsOkIn K N = true := by unfold PySem.W.nsOkIn; rw [h2]; exact (Array.all_toList ..).symm.trans h3
  have n2 : PySem.W.nsOkIn K N2 = true := by unfold PySem.W.nsOkIn; rw [h6]; exact (Array.all_toList ..).symm.trans h7
  have t0 : PySem.W.tailIn K veB veB = true := by unfold PySem.W.tailIn; rfl
  have t : PySem.W.tailIn K veB (.ref D :: veB) = true := by
    unfold PySem.W.tailIn
    dsimp only
    rw [h5]
    simp [excClassObj, n2, h8, t0]
  unfold PySem.W.excIn
  rw [h1]
  simp [excClassObj, t, n1, h4]
end Ash

set_option Elab.async false
set_option linter.all false
set_option maxRecDepth 100000
set_option maxHeartbeats 4000000
namespace Ash
open PySem PySem.Spec PyProof.Rows L2
section
variable {P : Program} {w : World} {K : PySem.W.Frag} {mg : Str → Option Value} {base : Heap}
theorem all_ok {CW CT cA cB cC cD cE cF cG aA aB aC aD fadd fior flat fear fsub fteq faeq : Addr}
    (M : TMy K mg CT)
    (B : Blt mg)
    (Cs : Cst mg)
    (TW : Cw K mg CW)
    (wi : BkI K CW)
    (mkW : PySem.W.makesIn K CW = true)
    (kW : PySem.W.keepIn K (.ref CW) = true)
    (nm0 : mg "Now" = some (.ref cA))
    (cl0 : Cls K cA)
    (b0 : BkI K cA)
    (ic0 : PySem.W.isClsIn K cA = true)
    (ti0 : PySem.W.typeIn K (.ref cA) = some (.type "type"))
    (sf0 : PySem.W.selfFirst K cA = true)
    (at0 : PySem.W.findIn K (.ref cA) "__add__" = some (some (.ref fadd)))
    (rt0 : PySem.W.findIn K (.ref cA) "__radd__" = some none)
    (si0 : PySem.W.subIn K (.type "int") (.ref cA) = some false)
    (or0 : PySem.W.findIn K (.ref cA) "__or__" = some (some (.ref fior)))
    (ro0 : PySem.W.findIn K (.ref cA) "__ror__" = some none)
    (la0 : PySem.W.findIn K (.ref cA) "later" = some (some (.ref flat)))
    (ea0 : PySem.W.findIn K (.ref cA) "earlier" = some (some (.ref fear)))
    (n0_0 : NoAttr K cA "stream")
    (n0_1 : NoAttr K cA "term")
    (n0_2 : NoAttr K cA "first")
    (n0_3 : NoAttr K cA "second")
    (n0_4 : NoAttr K cA "amount")
    (n0_5 : NoAttr K cA "spelling")
    (n0_6 : NoAttr K cA "depth")
    (n0_7 : NoAttr K cA "parts")
    (n0_8 : NoAttr K cA "looks")
    (n0_9 : NoAttr K cA "choices")
    (s0_0 : PySem.W.subIn K (.ref cA) (.ref cA) = some true)
    (s0_1 : PySem.W.subIn K (.ref cA) (.ref cB) = some false)
    (s0_2 : PySem.W.subIn K (.ref cA) (.ref cC) = some false)
    (s0_3 : PySem.W.subIn K (.ref cA) (.ref cD) = some false)
    (s0_4 : PySem.W.subIn K (.ref cA) (.ref cE) = some false)
    (s0_5 : PySem.W.subIn K (.ref cA) (.ref cF) = some false)
    (s0_6 : PySem.W.subIn K (.ref cA) (.ref cG) = some false)
    (nm1 : mg "Last" = some (.ref cB))
    (cl1 : Cls K cB)
    (b1 : BkI K cB)
    (ic1 : PySem.W.isClsIn K cB = true)
    (ti1 : PySem.W.typeIn K (.ref cB) = some (.type "type"))
    (sf1 : PySem.W.selfFirst K cB = true)
    (at1 : PySem.W.findIn K (.ref cB) "__add__" = some (some (.ref fadd)))
    (rt1 : PySem.W.findIn K (.ref cB) "__radd__" = some none)
    (si1 : PySem.W.subIn K (.type "int") (.ref cB) = some false)
    (or1 : PySem.W.findIn K (.ref cB) "__or__" = some (some (.ref fior)))
    (ro1 : PySem.W.findIn K (.ref cB) "__ror__" = some none)
    (la1 : PySem.W.findIn K (.ref cB) "later" = some (some (.ref flat)))
    (ea1 : PySem.W.findIn K (.ref cB) "earlier" = some (some (.ref fear)))
    (n1_0 : NoAttr K cB "stream")
    (n1_1 : NoAttr K cB "term")
    (n1_2 : NoAttr K cB "first")
    (n1_3 : NoAttr K cB "second")
    (n1_4 : NoAttr K cB "amount")
    (n1_5 : NoAttr K cB "spelling")
    (n1_6 : NoAttr K cB "depth")
    (n1_7 : NoAttr K cB "parts")
    (n1_8 : NoAttr K cB "looks")
    (n1_9 : NoAttr K cB "choices")
    (s1_0 : PySem.W.subIn K (.ref cB) (.ref cA) = some false)
    (s1_1 : PySem.W.subIn K (.ref cB) (.ref cB) = some true)
    (s1_2 : PySem.W.subIn K (.ref cB) (.ref cC) = some false)
    (s1_3 : PySem.W.subIn K (.ref cB) (.ref cD) = some false)
    (s1_4 : PySem.W.subIn K (.ref cB) (.ref cE) = some false)
    (s1_5 : PySem.W.subIn K (.ref cB) (.ref cF) = some false)
    (s1_6 : PySem.W.subIn K (.ref cB) (.ref cG) = some false)
    (nm2 : mg "Next" = some (.ref cC))
    (cl2 : Cls K cC)
    (b2 : BkI K cC)
    (ic2 : PySem.W.isClsIn K cC = true)
    (ti2 : PySem.W.typeIn K (.ref cC) = some (.type "type"))
    (sf2 : PySem.W.selfFirst K cC = true)
    (at2 : PySem.W.findIn K (.ref cC) "__add__" = some (some (.ref fadd)))
    (rt2 : PySem.W.findIn K (.ref cC) "__radd__" = some none)
    (si2 : PySem.W.subIn K (.type "int") (.ref cC) = some false)
    (or2 : PySem.W.findIn K (.ref cC) "__or__" = some (some (.ref fior)))
    (ro2 : PySem.W.findIn K (.ref cC) "__ror__" = some none)
    (la2 : PySem.W.findIn K (.ref cC) "later" = some (some (.ref flat)))
    (ea2 : PySem.W.findIn K (.ref cC) "earlier" = some (some (.ref fear)))
    (n2_0 : NoAttr K cC "stream")
    (n2_1 : NoAttr K cC "term")
    (n2_2 : NoAttr K cC "first")
    (n2_3 : NoAttr K cC "second")
    (n2_4 : NoAttr K cC "amount")
    (n2_5 : NoAttr K cC "spelling")
    (n2_6 : NoAttr K cC "depth")
    (n2_7 : NoAttr K cC "parts")
    (n2_8 : NoAttr K cC "looks")
    (n2_9 : NoAttr K cC "choices")
    (s2_0 : PySem.W.subIn K (.ref cC) (.ref cA) = some false)
    (s2_1 : PySem.W.subIn K (.ref cC) (.ref cB) = some false)
    (s2_2 : PySem.W.subIn K (.ref cC) (.ref cC) = some true)
    (s2_3 : PySem.W.subIn K (.ref cC) (.ref cD) = some false)
    (s2_4 : PySem.W.subIn K (.ref cC) (.ref cE) = some false)
    (s2_5 : PySem.W.subIn K (.ref cC) (.ref cF) = some false)
    (s2_6 : PySem.W.subIn K (.ref cC) (.ref cG) = some false)
    (nm3 : mg "Shift" = some (.ref cD))
    (cl3 : Cls K cD)
    (b3 : BkI K cD)
    (ic3 : PySem.W.isClsIn K cD = true)
    (ti3 : PySem.W.typeIn K (.ref cD) = some (.type "type"))
    (sf3 : PySem.W.selfFirst K cD = true)
    (at3 : PySem.W.findIn K (.ref cD) "__add__" = some (some (.ref fadd)))
    (rt3 : PySem.W.findIn K (.ref cD) "__radd__" = some none)
    (si3 : PySem.W.subIn K (.type "int") (.ref cD) = some false)
    (or3 : PySem.W.findIn K (.ref cD) "__or__" = some (some (.ref fior)))
    (ro3 : PySem.W.findIn K (.ref cD) "__ror__" = some none)
    (la3 : PySem.W.findIn K (.ref cD) "later" = some (some (.ref flat)))
    (ea3 : PySem.W.findIn K (.ref cD) "earlier" = some (some (.ref fear)))
    (n3_0 : NoAttr K cD "stream")
    (n3_1 : NoAttr K cD "term")
    (n3_2 : NoAttr K cD "first")
    (n3_3 : NoAttr K cD "second")
    (n3_4 : NoAttr K cD "amount")
    (n3_5 : NoAttr K cD "spelling")
    (n3_6 : NoAttr K cD "depth")
    (n3_7 : NoAttr K cD "parts")
    (n3_8 : NoAttr K cD "looks")
    (n3_9 : NoAttr K cD "choices")
    (s3_0 : PySem.W.subIn K (.ref cD) (.ref cA) = some false)
    (s3_1 : PySem.W.subIn K (.ref cD) (.ref cB) = some false)
    (s3_2 : PySem.W.subIn K (.ref cD) (.ref cC) = some false)
    (s3_3 : PySem.W.subIn K (.ref cD) (.ref cD) = some true)
    (s3_4 : PySem.W.subIn K (.ref cD) (.ref cE) = some false)
    (s3_5 : PySem.W.subIn K (.ref cD) (.ref cF) = some false)
    (s3_6 : PySem.W.subIn K (.ref cD) (.ref cG) = some false)
    (nm4 : mg "Either" = some (.ref cE))
    (cl4 : Cls K cE)
    (b4 : BkI K cE)
    (ic4 : PySem.W.isClsIn K cE = true)
    (ti4 : PySem.W.typeIn K (.ref cE) = some (.type "type"))
    (sf4 : PySem.W.selfFirst K cE = true)
    (at4 : PySem.W.findIn K (.ref cE) "__add__" = some (some (.ref fadd)))
    (rt4 : PySem.W.findIn K (.ref cE) "__radd__" = some none)
    (si4 : PySem.W.subIn K (.type "int") (.ref cE) = some false)
    (or4 : PySem.W.findIn K (.ref cE) "__or__" = some (some (.ref fior)))
    (ro4 : PySem.W.findIn K (.ref cE) "__ror__" = some none)
    (la4 : PySem.W.findIn K (.ref cE) "later" = some (some (.ref flat)))
    (ea4 : PySem.W.findIn K (.ref cE) "earlier" = some (some (.ref fear)))
    (n4_0 : NoAttr K cE "stream")
    (n4_1 : NoAttr K cE "term")
    (n4_2 : NoAttr K cE "first")
    (n4_3 : NoAttr K cE "second")
    (n4_4 : NoAttr K cE "amount")
    (n4_5 : NoAttr K cE "spelling")
    (n4_6 : NoAttr K cE "depth")
    (n4_7 : NoAttr K cE "parts")
    (n4_8 : NoAttr K cE "looks")
    (n4_9 : NoAttr K cE "choices")
    (s4_0 : PySem.W.subIn K (.ref cE) (.ref cA) = some false)
    (s4_1 : PySem.W.subIn K (.ref cE) (.ref cB) = some false)
    (s4_2 : PySem.W.subIn K (.ref cE) (.ref cC) = some false)
    (s4_3 : PySem.W.subIn K (.ref cE) (.ref cD) = some false)
    (s4_4 : PySem.W.subIn K (.ref cE) (.ref cE) = some true)
    (s4_5 : PySem.W.subIn K (.ref cE) (.ref cF) = some false)
    (s4_6 : PySem.W.subIn K (.ref cE) (.ref cG) = some false)
    (nm5 : mg "Later" = some (.ref cF))
    (cl5 : Cls K cF)
    (b5 : BkI K cF)
    (ic5 : PySem.W.isClsIn K cF = true)
    (ti5 : PySem.W.typeIn K (.ref cF) = some (.type "type"))
    (sf5 : PySem.W.selfFirst K cF = true)
    (at5 : PySem.W.findIn K (.ref cF) "__add__" = some (some (.ref fadd)))
    (rt5 : PySem.W.findIn K (.ref cF) "__radd__" = some none)
    (si5 : PySem.W.subIn K (.type "int") (.ref cF) = some false)
    (or5 : PySem.W.findIn K (.ref cF) "__or__" = some (some (.ref fior)))
    (ro5 : PySem.W.findIn K (.ref cF) "__ror__" = some none)
    (la5 : PySem.W.findIn K (.ref cF) "later" = some (some (.ref flat)))
    (ea5 : PySem.W.findIn K (.ref cF) "earlier" = some (some (.ref fear)))
    (n5_0 : NoAttr K cF "stream")
    (n5_1 : NoAttr K cF "term")
    (n5_2 : NoAttr K cF "first")
    (n5_3 : NoAttr K cF "second")
    (n5_4 : NoAttr K cF "amount")
    (n5_5 : NoAttr K cF "spelling")
    (n5_6 : NoAttr K cF "depth")
    (n5_7 : NoAttr K cF "parts")
    (n5_8 : NoAttr K cF "looks")
    (n5_9 : NoAttr K cF "choices")
    (s5_0 : PySem.W.subIn K (.ref cF) (.ref cA) = some false)
    (s5_1 : PySem.W.subIn K (.ref cF) (.ref cB) = some false)
    (s5_2 : PySem.W.subIn K (.ref cF) (.ref cC) = some false)
    (s5_3 : PySem.W.subIn K (.ref cF) (.ref cD) = some false)
    (s5_4 : PySem.W.subIn K (.ref cF) (.ref cE) = some false)
    (s5_5 : PySem.W.subIn K (.ref cF) (.ref cF) = some true)
    (s5_6 : PySem.W.subIn K (.ref cF) (.ref cG) = some false)
    (nm6 : mg "Earlier" = some (.ref cG))
    (cl6 : Cls K cG)
    (b6 : BkI K cG)
    (ic6 : PySem.W.isClsIn K cG = true)
    (ti6 : PySem.W.typeIn K (.ref cG) = some (.type "type"))
    (sf6 : PySem.W.selfFirst K cG = true)
    (at6 : PySem.W.findIn K (.ref cG) "__add__" = some (some (.ref fadd)))
    (rt6 : PySem.W.findIn K (.ref cG) "__radd__" = some none)
    (si6 : PySem.W.subIn K (.type "int") (.ref cG) = some false)
    (or6 : PySem.W.findIn K (.ref cG) "__or__" = some (some (.ref fior)))
    (ro6 : PySem.W.findIn K (.ref cG) "__ror__" = some none)
    (la6 : PySem.W.findIn K (.ref cG) "later" = some (some (.ref flat)))
    (ea6 : PySem.W.findIn K (.ref cG) "earlier" = some (some (.ref fear)))
    (n6_0 : NoAttr K cG "stream")
    (n6_1 : NoAttr K cG "term")
    (n6_2 : NoAttr K cG "first")
    (n6_3 : NoAttr K cG "second")
    (n6_4 : NoAttr K cG "amount")
    (n6_5 : NoAttr K cG "spelling")
    (n6_6 : NoAttr K cG "depth")
    (n6_7 : NoAttr K cG "parts")
    (n6_8 : NoAttr K cG "looks")
    (n6_9 : NoAttr K cG "choices")
    (s6_0 : PySem.W.subIn K (.ref cG) (.ref cA) = some false)
    (s6_1 : PySem.W.subIn K (.ref cG) (.ref cB) = some false)
    (s6_2 : PySem.W.subIn K (.ref cG) (.ref cC) = some false)
    (s6_3 : PySem.W.subIn K (.ref cG) (.ref cD) = some false)
    (s6_4 : PySem.W.subIn K (.ref cG) (.ref cE) = some false)
    (s6_5 : PySem.W.subIn K (.ref cG) (.ref cF) = some false)
    (s6_6 : PySem.W.subIn K (.ref cG) (.ref cG) = some true)
    (su0 : PySem.W.findIn K (.ref cA) "__sub__" = some (some (.ref fsub)))
    (rs0 : PySem.W.findIn K (.ref cA) "__rsub__" = some none)
    (nq0 : PySem.W.findIn K (.ref cA) "__ne__" = some (some (.builtin "object.__ne__")))
    (eq0 : PySem.W.findIn K (.ref cA) "__eq__" = some (some (.ref fteq)))
    (ob0 : PySem.W.subIn K (.ref cA) (.type "object") = some true)
    (su1 : PySem.W.findIn K (.ref cB) "__sub__" = some (some (.ref fsub)))
    (rs1 : PySem.W.findIn K (.ref cB) "__rsub__" = some none)
    (nq1 : PySem.W.findIn K (.ref cB) "__ne__" = some (some (.builtin "object.__ne__")))
    (eq1 : PySem.W.findIn K (.ref cB) "__eq__" = some (some (.ref fteq)))
    (ob1 : PySem.W.subIn K (.ref cB) (.type "object") = some true)
    (su2 : PySem.W.findIn K (.ref cC) "__sub__" = some (some (.ref fsub)))
    (rs2 : PySem.W.findIn K (.ref cC) "__rsub__" = some none)
    (nq2 : PySem.W.findIn K (.ref cC) "__ne__" = some (some (.builtin "object.__ne__")))
    (eq2 : PySem.W.findIn K (.ref cC) "__eq__" = some (some (.ref fteq)))
    (ob2 : PySem.W.subIn K (.ref cC) (.type "object") = some true)
    (su3 : PySem.W.findIn K (.ref cD) "__sub__" = some (some (.ref fsub)))
    (rs3 : PySem.W.findIn K (.ref cD) "__rsub__" = some none)
    (nq3 : PySem.W.findIn K (.ref cD) "__ne__" = some (some (.builtin "object.__ne__")))
    (eq3 : PySem.W.findIn K (.ref cD) "__eq__" = some (some (.ref fteq)))
    (ob3 : PySem.W.subIn K (.ref cD) (.type "object") = some true)
    (su4 : PySem.W.findIn K (.ref cE) "__sub__" = some (some (.ref fsub)))
    (rs4 : PySem.W.findIn K (.ref cE) "__rsub__" = some none)
    (nq4 : PySem.W.findIn K (.ref cE) "__ne__" = some (some (.builtin "object.__ne__")))
    (eq4 : PySem.W.findIn K (.ref cE) "__eq__" = some (some (.ref fteq)))
    (ob4 : PySem.W.subIn K (.ref cE) (.type "object") = some true)
    (su5 : PySem.W.findIn K (.ref cF) "__sub__" = some (some (.ref fsub)))
    (rs5 : PySem.W.findIn K (.ref cF) "__rsub__" = some none)
    (nq5 : PySem.W.findIn K (.ref cF) "__ne__" = some (some (.builtin "object.__ne__")))
    (eq5 : PySem.W.findIn K (.ref cF) "__eq__" = some (some (.ref fteq)))
    (ob5 : PySem.W.subIn K (.ref cF) (.type "object") = some true)
    (su6 : PySem.W.findIn K (.ref cG) "__sub__" = some (some (.ref fsub)))
    (rs6 : PySem.W.findIn K (.ref cG) "__rsub__" = some none)
    (nq6 : PySem.W.findIn K (.ref cG) "__ne__" = some (some (.builtin "object.__ne__")))
    (eq6 : PySem.W.findIn K (.ref cG) "__eq__" = some (some (.ref fteq)))
    (ob6 : PySem.W.subIn K (.ref cG) (.type "object") = some true)
    (anq0 : PySem.W.findIn K (.ref aA) "__ne__" = some (some (.builtin "object.__ne__")))
    (aeq0 : PySem.W.findIn K (.ref aA) "__eq__" = some (some (.ref faeq)))
    (aob0 : PySem.W.subIn K (.ref aA) (.type "object") = some true)
    (ta0_0 : PySem.W.subIn K (.ref cA) (.ref aA) = some false)
    (ta0_1 : PySem.W.subIn K (.ref cB) (.ref aA) = some false)
    (ta0_2 : PySem.W.subIn K (.ref cC) (.ref aA) = some false)
    (ta0_3 : PySem.W.subIn K (.ref cD) (.ref aA) = some false)
    (ta0_4 : PySem.W.subIn K (.ref cE) (.ref aA) = some false)
    (ta0_5 : PySem.W.subIn K (.ref cF) (.ref aA) = some false)
    (ta0_6 : PySem.W.subIn K (.ref cG) (.ref aA) = some false)
    (anq1 : PySem.W.findIn K (.ref aB) "__ne__" = some (some (.builtin "object.__ne__")))
    (aeq1 : PySem.W.findIn K (.ref aB) "__eq__" = some (some (.ref faeq)))
    (aob1 : PySem.W.subIn K (.ref aB) (.type "object") = some true)
    (ta1_0 : PySem.W.subIn K (.ref cA) (.ref aB) = some false)
    (ta1_1 : PySem.W.subIn K (.ref cB) (.ref aB) = some false)
    (ta1_2 : PySem.W.subIn K (.ref cC) (.ref aB) = some false)
    (ta1_3 : PySem.W.subIn K (.ref cD) (.ref aB) = some false)
    (ta1_4 : PySem.W.subIn K (.ref cE) (.ref aB) = some false)
    (ta1_5 : PySem.W.subIn K (.ref cF) (.ref aB) = some false)
    (ta1_6 : PySem.W.subIn K (.ref cG) (.ref aB) = some false)
    (anq2 : PySem.W.findIn K (.ref aC) "__ne__" = some (some (.builtin "object.__ne__")))
    (aeq2 : PySem.W.findIn K (.ref aC) "__eq__" = some (some (.ref faeq)))
    (aob2 : PySem.W.subIn K (.ref aC) (.type "object") = some true)
    (ta2_0 : PySem.W.subIn K (.ref cA) (.ref aC) = some false)
    (ta2_1 : PySem.W.subIn K (.ref cB) (.ref aC) = some false)
    (ta2_2 : PySem.W.subIn K (.ref cC) (.ref aC) = some false)
    (ta2_3 : PySem.W.subIn K (.ref cD) (.ref aC) = some false)
    (ta2_4 : PySem.W.subIn K (.ref cE) (.ref aC) = some false)
    (ta2_5 : PySem.W.subIn K (.ref cF) (.ref aC) = some false)
    (ta2_6 : PySem.W.subIn K (.ref cG) (.ref aC) = some false)
    (anq3 : PySem.W.findIn K (.ref aD) "__ne__" = some (some (.builtin "object.__ne__")))
    (aeq3 : PySem.W.findIn K (.ref aD) "__eq__" = some (some (.ref faeq)))
    (aob3 : PySem.W.subIn K (.ref aD) (.type "object") = some true)
    (ta3_0 : PySem.W.subIn K (.ref cA) (.ref aD) = some false)
    (ta3_1 : PySem.W.subIn K (.ref cB) (.ref aD) = some false)
    (ta3_2 : PySem.W.subIn K (.ref cC) (.ref aD) = some false)
    (ta3_3 : PySem.W.subIn K (.ref cD) (.ref aD) = some false)
    (ta3_4 : PySem.W.subIn K (.ref cE) (.ref aD) = some false)
    (ta3_5 : PySem.W.subIn K (.ref cF) (.ref aD) = some false)
    (ta3_6 : PySem.W.subIn K (.ref cG) (.ref aD) = some false)
    (i3 : PySem.W.findIn K (.type "int") "__sub__" = some (some (.builtin "int.__sub__")))
    (i4 : PySem.W.findIn K (.type "int") "__rsub__" = some (some (.builtin "int.__rsub__")))
    (mk0 : PySem.W.makesIn K cA = true)
    (kp0 : PySem.W.keepIn K (.ref cA) = true)
    (mk1 : PySem.W.makesIn K cB = true)
    (kp1 : PySem.W.keepIn K (.ref cB) = true)
    (mk2 : PySem.W.makesIn K cC = true)
    (kp2 : PySem.W.keepIn K (.ref cC) = true)
    (mk3 : PySem.W.makesIn K cD = true)
    (kp3 : PySem.W.keepIn K (.ref cD) = true)
    (mk4 : PySem.W.makesIn K cE = true)
    (kp4 : PySem.W.keepIn K (.ref cE) = true)
    (mk5 : PySem.W.makesIn K cF = true)
    (kp5 : PySem.W.keepIn K (.ref cF) = true)
    (mk6 : PySem.W.makesIn K cG = true)
    (kp6 : PySem.W.keepIn K (.ref cG) = true)
    (i1 : PySem.W.findIn K (.type "int") "__add__" = some (some (.builtin "int.__add__")))
    (i2 : PySem.W.findIn K (.type "int") "__radd__" = some (some (.builtin "int.__radd__")))
    (anm0 : mg "Number" = some (.ref aA))
    (acl0 : Cls K aA)
    (ab0 : BkI K aA)
    (aic0 : PySem.W.isClsIn K aA = true)
    (ati0 : PySem.W.typeIn K (.ref aA) = some (.type "type"))
    (an0_0 : NoAttr K aA "stream")
    (an0_1 : NoAttr K aA "term")
    (an0_2 : NoAttr K aA "first")
    (an0_3 : NoAttr K aA "last")
    (an0_4 : NoAttr K aA "spelling")
    (as0_0 : PySem.W.subIn K (.ref aA) (.ref aA) = some true)
    (as0_1 : PySem.W.subIn K (.ref aA) (.ref aB) = some false)
    (as0_2 : PySem.W.subIn K (.ref aA) (.ref aC) = some false)
    (as0_3 : PySem.W.subIn K (.ref aA) (.ref aD) = some false)
    (at0_0 : PySem.W.subIn K (.ref aA) (.ref cA) = some false)
    (at0_1 : PySem.W.subIn K (.ref aA) (.ref cB) = some false)
    (at0_2 : PySem.W.subIn K (.ref aA) (.ref cC) = some false)
    (at0_3 : PySem.W.subIn K (.ref aA) (.ref cD) = some false)
    (at0_4 : PySem.W.subIn K (.ref aA) (.ref cE) = some false)
    (at0_5 : PySem.W.subIn K (.ref aA) (.ref cF) = some false)
    (at0_6 : PySem.W.subIn K (.ref aA) (.ref cG) = some false)
    (amk0 : PySem.W.makesIn K aA = true)
    (akp0 : PySem.W.keepIn K (.ref aA) = true)
    (anm1 : mg "Count" = some (.ref aB))
    (acl1 : Cls K aB)
    (ab1 : BkI K aB)
    (aic1 : PySem.W.isClsIn K aB = true)
    (ati1 : PySem.W.typeIn K (.ref aB) = some (.type "type"))
    (an1_0 : NoAttr K aB "stream")
    (an1_1 : NoAttr K aB "term")
    (an1_2 : NoAttr K aB "first")
    (an1_3 : NoAttr K aB "last")
    (an1_4 : NoAttr K aB "spelling")
    (as1_0 : PySem.W.subIn K (.ref aB) (.ref aA) = some false)
    (as1_1 : PySem.W.subIn K (.ref aB) (.ref aB) = some true)
    (as1_2 : PySem.W.subIn K (.ref aB) (.ref aC) = some false)
    (as1_3 : PySem.W.subIn K (.ref aB) (.ref aD) = some false)
    (at1_0 : PySem.W.subIn K (.ref aB) (.ref cA) = some false)
    (at1_1 : PySem.W.subIn K (.ref aB) (.ref cB) = some false)
    (at1_2 : PySem.W.subIn K (.ref aB) (.ref cC) = some false)
    (at1_3 : PySem.W.subIn K (.ref aB) (.ref cD) = some false)
    (at1_4 : PySem.W.subIn K (.ref aB) (.ref cE) = some false)
    (at1_5 : PySem.W.subIn K (.ref aB) (.ref cF) = some false)
    (at1_6 : PySem.W.subIn K (.ref aB) (.ref cG) = some false)
    (amk1 : PySem.W.makesIn K aB = true)
    (akp1 : PySem.W.keepIn K (.ref aB) = true)
    (anm2 : mg "Total" = some (.ref aC))
    (acl2 : Cls K aC)
    (ab2 : BkI K aC)
    (aic2 : PySem.W.isClsIn K aC = true)
    (ati2 : PySem.W.typeIn K (.ref aC) = some (.type "type"))
    (an2_0 : NoAttr K aC "stream")
    (an2_1 : NoAttr K aC "term")
    (an2_2 : NoAttr K aC "first")
    (an2_3 : NoAttr K aC "last")
    (an2_4 : NoAttr K aC "spelling")
    (as2_0 : PySem.W.subIn K (.ref aC) (.ref aA) = some false)
    (as2_1 : PySem.W.subIn K (.ref aC) (.ref aB) = some false)
    (as2_2 : PySem.W.subIn K (.ref aC) (.ref aC) = some true)
    (as2_3 : PySem.W.subIn K (.ref aC) (.ref aD) = some false)
    (at2_0 : PySem.W.subIn K (.ref aC) (.ref cA) = some false)
    (at2_1 : PySem.W.subIn K (.ref aC) (.ref cB) = some false)
    (at2_2 : PySem.W.subIn K (.ref aC) (.ref cC) = some false)
    (at2_3 : PySem.W.subIn K (.ref aC) (.ref cD) = some false)
    (at2_4 : PySem.W.subIn K (.ref aC) (.ref cE) = some false)
    (at2_5 : PySem.W.subIn K (.ref aC) (.ref cF) = some false)
    (at2_6 : PySem.W.subIn K (.ref aC) (.ref cG) = some false)
    (amk2 : PySem.W.makesIn K aC = true)
    (akp2 : PySem.W.keepIn K (.ref aC) = true)
    (anm3 : mg "Gap" = some (.ref aD))
    (acl3 : Cls K aD)
    (ab3 : BkI K aD)
    (aic3 : PySem.W.isClsIn K aD = true)
    (ati3 : PySem.W.typeIn K (.ref aD) = some (.type "type"))
    (an3_0 : NoAttr K aD "stream")
    (an3_1 : NoAttr K aD "term")
    (an3_2 : NoAttr K aD "first")
    (an3_3 : NoAttr K aD "last")
    (an3_4 : NoAttr K aD "spelling")
    (as3_0 : PySem.W.subIn K (.ref aD) (.ref aA) = some false)
    (as3_1 : PySem.W.subIn K (.ref aD) (.ref aB) = some false)
    (as3_2 : PySem.W.subIn K (.ref aD) (.ref aC) = some false)
    (as3_3 : PySem.W.subIn K (.ref aD) (.ref aD) = some true)
    (at3_0 : PySem.W.subIn K (.ref aD) (.ref cA) = some false)
    (at3_1 : PySem.W.subIn K (.ref aD) (.ref cB) = some false)
    (at3_2 : PySem.W.subIn K (.ref aD) (.ref cC) = some false)
    (at3_3 : PySem.W.subIn K (.ref aD) (.ref cD) = some false)
    (at3_4 : PySem.W.subIn K (.ref aD) (.ref cE) = some false)
    (at3_5 : PySem.W.subIn K (.ref aD) (.ref cF) = some false)
    (at3_6 : PySem.W.subIn K (.ref aD) (.ref cG) = some false)
    (amk3 : PySem.W.makesIn K aD = true)
    (akp3 : PySem.W.keepIn K (.ref aD) = true)
    (d_is_integer : D1 K mg "is_integer" s_is_integer)
    (d_is_natural : D1 K mg "is_natural" s_is_natural)
    (d_is_name : D1 K mg "is_name" s_is_name)
    (d_are_integers : D1 K mg "are_integers" s_are_integers)
    (d_is_row : D1 K mg "is_row" s_is_row)
    (d_are_rows : D1 K mg "are_rows" s_are_rows)
    (d_first_twice : D1 K mg "first_twice" s_first_twice)
    (d_is_rows : D1 K mg "is_rows" s_is_rows)
    (d_is_term : D1 K mg "is_term" s_is_term)
    (d_is_look : D1 K mg "is_look" s_is_look)
    (d_checked_stream : D1 K mg "checked_stream" s_checked_stream)
    (d_checked_term : D1 K mg "checked_term" s_checked_term)
    (d_sizes : D1 K mg "sizes" s_sizes)
    (d_shifted : D1 K mg "shifted" s_shifted)
    (d_last_row : D1 K mg "last_row" s_last_row)
    (d_next_row : D1 K mg "next_row" s_next_row)
    (d_moved : D1 K mg "moved" s_moved)
    (d_looked : D1 K mg "looked" s_looked)
    (d_followed_either : D1 K mg "followed_either" s_followed_either)
    (d_followed_both : D1 K mg "followed_both" s_followed_both)
    (d_followed : D1 K mg "followed" s_followed)
    (d_is_amount : D1 K mg "is_amount" s_is_amount)
    (d_told_between : D1 K mg "told_between" s_told_between)
    (d_is_question : D1 K mg "is_question" s_is_question)
    (d_check : D1 K mg "check" s_check)
    (d_answered : D1 K mg "answered" s_answered)
    (d_value : D1 K mg "value" s_value)
    (d__law_pool : D1 K mg "_law_pool" s_l_pool)
    (d__law_draw : D1 K mg "_law_draw" s_l_draw)
    (d__law_names : D1 K mg "_law_names" s_l_names)
    (d__law_moment : D1 K mg "_law_moment" s_l_moment)
    (d__law_rows : D1 K mg "_law_rows" s_l_rows)
    (d__law_term : D1 K mg "_law_term" s_l_term)
    (d__law_built : D1 K mg "_law_built" s_l_built)
    (d_support : D1 K mg "support" s_support)
    (d__law_question : D1 K mg "_law_question" s_l_question)
    (d__law_asked : D1 K mg "_law_asked" s_l_asked)
    (d__law_same : D1 K mg "_law_same" s_l_same)
    (d_term_from : D1 K mg "term_from" s_term_from)
    (d_amount_from : D1 K mg "amount_from" s_amount_from)
    (d_seen_from : D1 K mg "seen_from" s_seen_from)
    (d__law_deep : D1 K mg "_law_deep" s_l_deep)
    (d__law_size : D1 K mg "_law_size" s_l_size)
    (m_WI : DM K CW "__init__" "World.__init__" s_World_init)
    (m_WR : DM K CW "rows" "World.rows" s_World_rows)
    (m_NI : DM K cA "__init__" "Now.__init__" s_Now_init)
    (m_LI : DM K cB "__init__" "Last.__init__" s_Last_init)
    (m_XI : DM K cC "__init__" "Next.__init__" s_Next_init)
    (m_SI : DM K cD "__init__" "Shift.__init__" s_Shift_init)
    (m_EI : DM K cE "__init__" "Either.__init__" s_Either_init)
    (m_JI : DM K cF "__init__" "Later.__init__" s_Later_init)
    (m_KI : DM K cG "__init__" "Earlier.__init__" s_Earlier_init)
    (m_nuI : DM K aA "__init__" "Number.__init__" s_Number_init)
    (m_coI : DM K aB "__init__" "Count.__init__" s_Count_init)
    (m_toI : DM K aC "__init__" "Total.__init__" s_Total_init)
    (m_gaI : DM K aD "__init__" "Gap.__init__" s_Gap_init)
    (m_add : DQ K cA fadd "__add__" "Term.__add__" s_Term_add)
    (m_ior : DQ K cA fior "__or__" "Term.__or__" s_Term_or)
    (m_lat : DQ K cA flat "later" "Term.later" s_Term_later)
    (m_ear : DQ K cA fear "earlier" "Term.earlier" s_Term_earlier)
    (m_sub : DQ K cA fsub "__sub__" "Term.__sub__" s_Term_sub)
    (m_teq : DQ K cA fteq "__eq__" "Term.__eq__" s_Term_eq)
    (m_aeq : DQ K aA faeq "__eq__" "Amount.__eq__" s_Amount_eq)
    {f : Addr} {fd : FuncData} (F_law : Fun K "law" "law" s_law f fd) : FnOk P w K mg base CX0 40 f fd ["script"] (spLaw K) := by
  have TT : TF K mg (⟨cA, cB, cC, cD, cE, cF, cG⟩ : TC) := { cl := is7 (cl0) (cl1) (cl2) (cl3) (cl4) (cl5) (cl6), no := is7 (na10 n0_0 n0_1 n0_2 n0_3 n0_4 n0_5 n0_6 n0_7 n0_8 n0_9) (na10 n1_0 n1_1 n1_2 n1_3 n1_4 n1_5 n1_6 n1_7 n1_8 n1_9) (na10 n2_0 n2_1 n2_2 n2_3 n2_4 n2_5 n2_6 n2_7 n2_8 n2_9) (na10 n3_0 n3_1 n3_2 n3_3 n3_4 n3_5 n3_6 n3_7 n3_8 n3_9) (na10 n4_0 n4_1 n4_2 n4_3 n4_4 n4_5 n4_6 n4_7 n4_8 n4_9) (na10 n5_0 n5_1 n5_2 n5_3 n5_4 n5_5 n5_6 n5_7 n5_8 n5_9) (na10 n6_0 n6_1 n6_2 n6_3 n6_4 n6_5 n6_6 n6_7 n6_8 n6_9), ty := is7 (⟨b0.ha, b0.hn, b0.ht, b0.hm⟩) (⟨b1.ha, b1.hn, b1.ht, b1.hm⟩) (⟨b2.ha, b2.hn, b2.ht, b2.hm⟩) (⟨b3.ha, b3.hn, b3.ht, b3.hm⟩) (⟨b4.ha, b4.hn, b4.ht, b4.hm⟩) (⟨b5.ha, b5.hn, b5.ht, b5.hm⟩) (⟨b6.ha, b6.hn, b6.ht, b6.hm⟩), one := is7 (p := fun a => ∀ b, ((⟨cA, cB, cC, cD, cE, cF, cG⟩ : TC)).Is b → PySem.W.kitOne K (.ref a) (.ref b) = some (decide (a = b))) (is7 (C := (⟨cA, cB, cC, cD, cE, cF, cG⟩ : TC)) (p := fun b => PySem.W.kitOne K (.ref cA) (.ref b) = some (decide (cA = b))) (kit_me) (kit_no (ne_sub s0_0 s0_1) ic1 ti1 s0_1) (kit_no (ne_sub s0_0 s0_2) ic2 ti2 s0_2) (kit_no (ne_sub s0_0 s0_3) ic3 ti3 s0_3) (kit_no (ne_sub s0_0 s0_4) ic4 ti4 s0_4) (kit_no (ne_sub s0_0 s0_5) ic5 ti5 s0_5) (kit_no (ne_sub s0_0 s0_6) ic6 ti6 s0_6)) (is7 (C := (⟨cA, cB, cC, cD, cE, cF, cG⟩ : TC)) (p := fun b => PySem.W.kitOne K (.ref cB) (.ref b) = some (decide (cB = b))) (kit_no (ne_sub s1_1 s1_0) ic0 ti0 s1_0) (kit_me) (kit_no (ne_sub s1_1 s1_2) ic2 ti2 s1_2) (kit_no (ne_sub s1_1 s1_3) ic3 ti3 s1_3) (kit_no (ne_sub s1_1 s1_4) ic4 ti4 s1_4) (kit_no (ne_sub s1_1 s1_5) ic5 ti5 s1_5) (kit_no (ne_sub s1_1 s1_6) ic6 ti6 s1_6)) (is7 (C := (⟨cA, cB, cC, cD, cE, cF, cG⟩ : TC)) (p := fun b => PySem.W.kitOne K (.ref cC) (.ref b) = some (decide (cC = b))) (kit_no (ne_sub s2_2 s2_0) ic0 ti0 s2_0) (kit_no (ne_sub s2_2 s2_1) ic1 ti1 s2_1) (kit_me) (kit_no (ne_sub s2_2 s2_3) ic3 ti3 s2_3) (kit_no (ne_sub s2_2 s2_4) ic4 ti4 s2_4) (kit_no (ne_sub s2_2 s2_5) ic5 ti5 s2_5) (kit_no (ne_sub s2_2 s2_6) ic6 ti6 s2_6)) (is7 (C := (⟨cA, cB, cC, cD, cE, cF, cG⟩ : TC)) (p := fun b => PySem.W.kitOne K (.ref cD) (.ref b) = some (decide (cD = b))) (kit_no (ne_sub s3_3 s3_0) ic0 ti0 s3_0) (kit_no (ne_sub s3_3 s3_1) ic1 ti1 s3_1) (kit_no (ne_sub s3_3 s3_2) ic2 ti2 s3_2) (kit_me) (kit_no (ne_sub s3_3 s3_4) ic4 ti4 s3_4) (kit_no (ne_sub s3_3 s3_5) ic5 ti5 s3_5) (kit_no (ne_sub s3_3 s3_6) ic6 ti6 s3_6)) (is7 (C := (⟨cA, cB, cC, cD, cE, cF, cG⟩ : TC)) (p := fun b => PySem.W.kitOne K (.ref cE) (.ref b) = some (decide (cE = b))) (kit_no (ne_sub s4_4 s4_0) ic0 ti0 s4_0) (kit_no (ne_sub s4_4 s4_1) ic1 ti1 s4_1) (kit_no (ne_sub s4_4 s4_2) ic2 ti2 s4_2) (kit_no (ne_sub s4_4 s4_3) ic3 ti3 s4_3) (kit_me) (kit_no (ne_sub s4_4 s4_5) ic5 ti5 s4_5) (kit_no (ne_sub s4_4 s4_6) ic6 ti6 s4_6)) (is7 (C := (⟨cA, cB, cC, cD, cE, cF, cG⟩ : TC)) (p := fun b => PySem.W.kitOne K (.ref cF) (.ref b) = some (decide (cF = b))) (kit_no (ne_sub s5_5 s5_0) ic0 ti0 s5_0) (kit_no (ne_sub s5_5 s5_1) ic1 ti1 s5_1) (kit_no (ne_sub s5_5 s5_2) ic2 ti2 s5_2) (kit_no (ne_sub s5_5 s5_3) ic3 ti3 s5_3) (kit_no (ne_sub s5_5 s5_4) ic4 ti4 s5_4) (kit_me) (kit_no (ne_sub s5_5 s5_6) ic6 ti6 s5_6)) (is7 (C := (⟨cA, cB, cC, cD, cE, cF, cG⟩ : TC)) (p := fun b => PySem.W.kitOne K (.ref cG) (.ref b) = some (decide (cG = b))) (kit_no (ne_sub s6_6 s6_0) ic0 ti0 s6_0) (kit_no (ne_sub s6_6 s6_1) ic1 ti1 s6_1) (kit_no (ne_sub s6_6 s6_2) ic2 ti2 s6_2) (kit_no (ne_sub s6_6 s6_3) ic3 ti3 s6_3) (kit_no (ne_sub s6_6 s6_4) ic4 ti4 s6_4) (kit_no (ne_sub s6_6 s6_5) ic5 ti5 s6_5) (kit_me)) |> (fun h a b ha hb => h a ha b hb), Now := nm0, Last := nm1, Next := nm2, Shift := nm3, Either := nm4, Later := nm5, Earlier := nm6 }
  have DD : TD (⟨cA, cB, cC, cD, cE, cF, cG⟩ : TC) := ⟨by
    show [cA, cB, cC, cD, cE, cF, cG].Nodup
    simp only [List.nodup_cons, List.mem_cons, List.not_mem_nil, or_false, not_or, List.nodup_nil, and_true, not_false_eq_true]
    exact ⟨⟨(ne_sub s0_0 s0_1), (ne_sub s0_0 s0_2), (ne_sub s0_0 s0_3), (ne_sub s0_0 s0_4), (ne_sub s0_0 s0_5), (ne_sub s0_0 s0_6)⟩, ⟨(ne_sub s1_1 s1_2), (ne_sub s1_1 s1_3), (ne_sub s1_1 s1_4), (ne_sub s1_1 s1_5), (ne_sub s1_1 s1_6)⟩, ⟨(ne_sub s2_2 s2_3), (ne_sub s2_2 s2_4), (ne_sub s2_2 s2_5), (ne_sub s2_2 s2_6)⟩, ⟨(ne_sub s3_3 s3_4), (ne_sub s3_3 s3_5), (ne_sub s3_3 s3_6)⟩, ⟨(ne_sub s4_4 s4_5), (ne_sub s4_4 s4_6)⟩, (ne_sub s5_5 s5_6)⟩⟩
  have ANd : [aA, aB, aC, aD].Nodup := by
    simp only [List.nodup_cons, List.mem_cons, List.not_mem_nil, or_false, not_or, List.nodup_nil, and_true, not_false_eq_true]
    exact ⟨⟨(ne_sub as0_0 as0_1), (ne_sub as0_0 as0_2), (ne_sub as0_0 as0_3)⟩, ⟨(ne_sub as1_1 as1_2), (ne_sub as1_1 as1_3)⟩, (ne_sub as2_2 as2_3)⟩
  have AF0 : AF K mg (⟨aA, aB, aC, aD⟩ : AC) (⟨cA, cB, cC, cD, cE, cF, cG⟩ : TC) := { cl := is4 (acl0) (acl1) (acl2) (acl3), no := is4 (na5 an0_0 an0_1 an0_2 an0_3 an0_4) (na5 an1_0 an1_1 an1_2 an1_3 an1_4) (na5 an2_0 an2_1 an2_2 an2_3 an2_4) (na5 an3_0 an3_1 an3_2 an3_3 an3_4), ty := is4 (⟨ab0.ha, ab0.hn, ab0.ht, ab0.hm⟩) (⟨ab1.ha, ab1.hn, ab1.ht, ab1.hm⟩) (⟨ab2.ha, ab2.hn, ab2.ht, ab2.hm⟩) (⟨ab3.ha, ab3.hn, ab3.ht, ab3.hm⟩), one := (is4 (p := fun a => ∀ b, (⟨aA, aB, aC, aD⟩ : AC).Is b → PySem.W.kitOne K (.ref a) (.ref b) = some (decide (a = b))) (is4 (A := ⟨aA, aB, aC, aD⟩) (p := fun b => PySem.W.kitOne K (.ref aA) (.ref b) = some (decide (aA = b))) (kit_me) (kit_no (ne_sub as0_0 as0_1) aic1 ati1 as0_1) (kit_no (ne_sub as0_0 as0_2) aic2 ati2 as0_2) (kit_no (ne_sub as0_0 as0_3) aic3 ati3 as0_3)) (is4 (A := ⟨aA, aB, aC, aD⟩) (p := fun b => PySem.W.kitOne K (.ref aB) (.ref b) = some (decide (aB = b))) (kit_no (ne_sub as1_1 as1_0) aic0 ati0 as1_0) (kit_me) (kit_no (ne_sub as1_1 as1_2) aic2 ati2 as1_2) (kit_no (ne_sub as1_1 as1_3) aic3 ati3 as1_3)) (is4 (A := ⟨aA, aB, aC, aD⟩) (p := fun b => PySem.W.kitOne K (.ref aC) (.ref b) = some (decide (aC = b))) (kit_no (ne_sub as2_2 as2_0) aic0 ati0 as2_0) (kit_no (ne_sub as2_2 as2_1) aic1 ati1 as2_1) (kit_me) (kit_no (ne_sub as2_2 as2_3) aic3 ati3 as2_3)) (is4 (A := ⟨aA, aB, aC, aD⟩) (p := fun b => PySem.W.kitOne K (.ref aD) (.ref b) = some (decide (aD = b))) (kit_no (ne_sub as3_3 as3_0) aic0 ati0 as3_0) (kit_no (ne_sub as3_3 as3_1) aic1 ati1 as3_1) (kit_no (ne_sub as3_3 as3_2) aic2 ati2 as3_2) (kit_me))) |> (fun h a b ha hb => h a ha b hb), noT := (is4 (p := fun a => ∀ b, ((⟨cA, cB, cC, cD, cE, cF, cG⟩ : TC)).Is b → PySem.W.kitOne K (.ref a) (.ref b) = some false) (is7 (C := (⟨cA, cB, cC, cD, cE, cF, cG⟩ : TC)) (p := fun b => PySem.W.kitOne K (.ref aA) (.ref b) = some false) (kit_no0 (ne_sub as0_0 at0_0) ic0 ti0 at0_0) (kit_no0 (ne_sub as0_0 at0_1) ic1 ti1 at0_1) (kit_no0 (ne_sub as0_0 at0_2) ic2 ti2 at0_2) (kit_no0 (ne_sub as0_0 at0_3) ic3 ti3 at0_3) (kit_no0 (ne_sub as0_0 at0_4) ic4 ti4 at0_4) (kit_no0 (ne_sub as0_0 at0_5) ic5 ti5 at0_5) (kit_no0 (ne_sub as0_0 at0_6) ic6 ti6 at0_6)) (is7 (C := (⟨cA, cB, cC, cD, cE, cF, cG⟩ : TC)) (p := fun b => PySem.W.kitOne K (.ref aB) (.ref b) = some false) (kit_no0 (ne_sub as1_1 at1_0) ic0 ti0 at1_0) (kit_no0 (ne_sub as1_1 at1_1) ic1 ti1 at1_1) (kit_no0 (ne_sub as1_1 at1_2) ic2 ti2 at1_2) (kit_no0 (ne_sub as1_1 at1_3) ic3 ti3 at1_3) (kit_no0 (ne_sub as1_1 at1_4) ic4 ti4 at1_4) (kit_no0 (ne_sub as1_1 at1_5) ic5 ti5 at1_5) (kit_no0 (ne_sub as1_1 at1_6) ic6 ti6 at1_6)) (is7 (C := (⟨cA, cB, cC, cD, cE, cF, cG⟩ : TC)) (p := fun b => PySem.W.kitOne K (.ref aC) (.ref b) = some false) (kit_no0 (ne_sub as2_2 at2_0) ic0 ti0 at2_0) (kit_no0 (ne_sub as2_2 at2_1) ic1 ti1 at2_1) (kit_no0 (ne_sub as2_2 at2_2) ic2 ti2 at2_2) (kit_no0 (ne_sub as2_2 at2_3) ic3 ti3 at2_3) (kit_no0 (ne_sub as2_2 at2_4) ic4 ti4 at2_4) (kit_no0 (ne_sub as2_2 at2_5) ic5 ti5 at2_5) (kit_no0 (ne_sub as2_2 at2_6) ic6 ti6 at2_6)) (is7 (C := (⟨cA, cB, cC, cD, cE, cF, cG⟩ : TC)) (p := fun b => PySem.W.kitOne K (.ref aD) (.ref b) = some false) (kit_no0 (ne_sub as3_3 at3_0) ic0 ti0 at3_0) (kit_no0 (ne_sub as3_3 at3_1) ic1 ti1 at3_1) (kit_no0 (ne_sub as3_3 at3_2) ic2 ti2 at3_2) (kit_no0 (ne_sub as3_3 at3_3) ic3 ti3 at3_3) (kit_no0 (ne_sub as3_3 at3_4) ic4 ti4 at3_4) (kit_no0 (ne_sub as3_3 at3_5) ic5 ti5 at3_5) (kit_no0 (ne_sub as3_3 at3_6) ic6 ti6 at3_6))) |> (fun h a b ha hb => h a ha b hb), Number := anm0, Count := anm1, Total := anm2, Gap := anm3, nd := ANd }
  have OI : OpI K ((⟨cA, cB, cC, cD, cE, cF, cG⟩ : TC)).Is .Add fadd := { sf := is7 (sf0) (sf1) (sf2) (sf3) (sf4) (sf5) (sf6), at_ := is7 (at0) (at1) (at2) (at3) (at4) (at5) (at6), rt := is7 (rt0) (rt1) (rt2) (rt3) (rt4) (rt5) (rt6), fn := m_add.ex.choose_spec.1.fn, sub := is7 (si0) (si1) (si2) (si3) (si4) (si5) (si6), i1 := ⟨_, i1⟩, i2 := ⟨_, i2⟩ }
  have sub7 : ∀ a b, ((⟨cA, cB, cC, cD, cE, cF, cG⟩ : TC)).Is a → ((⟨cA, cB, cC, cD, cE, cF, cG⟩ : TC)).Is b → a ≠ b → PySem.W.subIn K (.ref b) (.ref a) = some false := fun a b ha hb => is7 (C := (⟨cA, cB, cC, cD, cE, cF, cG⟩ : TC)) (p := fun a => ∀ b, ((⟨cA, cB, cC, cD, cE, cF, cG⟩ : TC)).Is b → a ≠ b → PySem.W.subIn K (.ref b) (.ref a) = some false) (is7 (C := (⟨cA, cB, cC, cD, cE, cF, cG⟩ : TC)) (p := fun b => cA ≠ b → PySem.W.subIn K (.ref b) (.ref cA) = some false) (fun h => absurd rfl h) (fun _ => s1_0) (fun _ => s2_0) (fun _ => s3_0) (fun _ => s4_0) (fun _ => s5_0) (fun _ => s6_0)) (is7 (C := (⟨cA, cB, cC, cD, cE, cF, cG⟩ : TC)) (p := fun b => cB ≠ b → PySem.W.subIn K (.ref b) (.ref cB) = some false) (fun _ => s0_1) (fun h => absurd rfl h) (fun _ => s2_1) (fun _ => s3_1) (fun _ => s4_1) (fun _ => s5_1) (fun _ => s6_1)) (is7 (C := (⟨cA, cB, cC, cD, cE, cF, cG⟩ : TC)) (p := fun b => cC ≠ b → PySem.W.subIn K (.ref b) (.ref cC) = some false) (fun _ => s0_2) (fun _ => s1_2) (fun h => absurd rfl h) (fun _ => s3_2) (fun _ => s4_2) (fun _ => s5_2) (fun _ => s6_2)) (is7 (C := (⟨cA, cB, cC, cD, cE, cF, cG⟩ : TC)) (p := fun b => cD ≠ b → PySem.W.subIn K (.ref b) (.ref cD) = some false) (fun _ => s0_3) (fun _ => s1_3) (fun _ => s2_3) (fun h => absurd rfl h) (fun _ => s4_3) (fun _ => s5_3) (fun _ => s6_3)) (is7 (C := (⟨cA, cB, cC, cD, cE, cF, cG⟩ : TC)) (p := fun b => cE ≠ b → PySem.W.subIn K (.ref b) (.ref cE) = some false) (fun _ => s0_4) (fun _ => s1_4) (fun _ => s2_4) (fun _ => s3_4) (fun h => absurd rfl h) (fun _ => s5_4) (fun _ => s6_4)) (is7 (C := (⟨cA, cB, cC, cD, cE, cF, cG⟩ : TC)) (p := fun b => cF ≠ b → PySem.W.subIn K (.ref b) (.ref cF) = some false) (fun _ => s0_5) (fun _ => s1_5) (fun _ => s2_5) (fun _ => s3_5) (fun _ => s4_5) (fun h => absurd rfl h) (fun _ => s6_5)) (is7 (C := (⟨cA, cB, cC, cD, cE, cF, cG⟩ : TC)) (p := fun b => cG ≠ b → PySem.W.subIn K (.ref b) (.ref cG) = some false) (fun _ => s0_6) (fun _ => s1_6) (fun _ => s2_6) (fun _ => s3_6) (fun _ => s4_6) (fun _ => s5_6) (fun h => absurd rfl h)) a ha b hb
  have OO : OpF K ((⟨cA, cB, cC, cD, cE, cF, cG⟩ : TC)).Is .BitOr fior := { sf := is7 (sf0) (sf1) (sf2) (sf3) (sf4) (sf5) (sf6), at_ := is7 (or0) (or1) (or2) (or3) (or4) (or5) (or6), rt := is7 (ro0) (ro1) (ro2) (ro3) (ro4) (ro5) (ro6), fn := m_ior.ex.choose_spec.1.fn, sub := sub7 }
  have ML : MethF K ((⟨cA, cB, cC, cD, cE, cF, cG⟩ : TC)).Is "later" flat := { at_ := is7 (⟨cl0, la0⟩) (⟨cl1, la1⟩) (⟨cl2, la2⟩) (⟨cl3, la3⟩) (⟨cl4, la4⟩) (⟨cl5, la5⟩) (⟨cl6, la6⟩), fn := m_lat.ex.choose_spec.1.fn, kp := m_lat.ex.choose_spec.1.kp }
  have ME : MethF K ((⟨cA, cB, cC, cD, cE, cF, cG⟩ : TC)).Is "earlier" fear := { at_ := is7 (⟨cl0, ea0⟩) (⟨cl1, ea1⟩) (⟨cl2, ea2⟩) (⟨cl3, ea3⟩) (⟨cl4, ea4⟩) (⟨cl5, ea5⟩) (⟨cl6, ea6⟩), fn := m_ear.ex.choose_spec.1.fn, kp := m_ear.ex.choose_spec.1.kp }
  have c_is_integer := cal_of (P := P) (w := w) (base := base) (ps := ["thing"]) d_is_integer (fun _ _ _ _ _ _ us hl => match us, hl with | [_], _ => rfl) fun f fd F => ok_is_integer F B
  have k1 : K1 P w K mg base := ⟨c_is_integer⟩
  have c_is_natural := cal_of (P := P) (w := w) (base := base) (ps := ["thing"]) d_is_natural (fun _ _ _ _ _ _ us hl => match us, hl with | [_], _ => rfl) fun f fd F => ok_is_natural F B k1
  have c_is_name := cal_of (P := P) (w := w) (base := base) (ps := ["thing"]) d_is_name (fun _ _ _ _ _ _ us hl => match us, hl with | [_], _ => rfl) fun f fd F => ok_is_name F B Cs
  have k2 : K2 P w K mg base := ⟨k1, c_is_natural, c_is_name⟩
  have c_are_integers := cal_of (P := P) (w := w) (base := base) (ps := ["things"]) d_are_integers (fun _ _ _ _ _ _ us hl => match us, hl with | [_], _ => rfl) fun f fd F => ok_are_integers F B k2
  have c_is_row := cal_of (P := P) (w := w) (base := base) (ps := ["thing"]) d_is_row (fun _ _ _ _ _ _ us hl => match us, hl with | [_], _ => rfl) fun f fd F => ok_is_row F B
  have k3 : K3 P w K mg base := ⟨k2, c_are_integers, c_is_row⟩
  have c_are_rows := cal_of (P := P) (w := w) (base := base) (ps := ["things"]) d_are_rows (fun _ _ _ _ _ _ us hl => match us, hl with | [_], _ => rfl) fun f fd F => ok_are_rows F B k3
  have c_first_twice := cal_of (P := P) (w := w) (base := base) (ps := ["numbers"]) d_first_twice (fun _ _ _ _ _ _ us hl => match us, hl with | [_], _ => rfl) fun f fd F => ok_twice F B
  have w1 : W1 P w K mg base := ⟨k3, c_are_rows, c_first_twice⟩
  have c_is_rows := cal_of (P := P) (w := w) (base := base) (ps := ["thing"]) d_is_rows (fun _ _ _ _ _ _ us hl => match us, hl with | [_], _ => rfl) fun f fd F => ok_is_rows F B w1
  have w2 : W2 P w K mg base := ⟨w1, c_is_rows⟩
  obtain ⟨fWI, fdWI, mWI, FWI⟩ := m_WI.ex
  have bWI : Binds K fdWI ["self", "rows"] [] := FWI.binds (ps := ["self", "rows"]) fun _ _ _ _ _ _ us hl => match us, hl with | [_, _], _ => rfl
  have oWI := ok_world_init (P := P) (w := w) (base := base) FWI B Cs TW w2
  obtain ⟨fWR, fdWR, mWR, FWR⟩ := m_WR.ex
  have bWR : Binds K fdWR ["self", "stream"] [] := FWR.binds (ps := ["self", "stream"]) fun _ _ _ _ _ _ us hl => match us, hl with | [_, _], _ => rfl
  have oWR := ok_world_rows (P := P) (w := w) (base := base) FWR B TW k2
  have c_is_term := cal_of (P := P) (w := w) (base := base) (ps := ["thing"]) d_is_term (fun _ _ _ _ _ _ us hl => match us, hl with | [_], _ => rfl) fun f fd F => ok_is_term F B TT
  have c_is_look := cal_of (P := P) (w := w) (base := base) (ps := ["thing"]) d_is_look (fun _ _ _ _ _ _ us hl => match us, hl with | [_], _ => rfl) fun f fd F => ok_is_look F B TT DD
  have t1 : T1 P w K mg base (⟨cA, cB, cC, cD, cE, cF, cG⟩ : TC) := ⟨w2, c_is_term, c_is_look⟩
  have c_checked_stream := cal_of (P := P) (w := w) (base := base) (ps := ["stream"]) d_checked_stream (fun _ _ _ _ _ _ us hl => match us, hl with | [_], _ => rfl) fun f fd F => ok_cstream F B t1
  have c_checked_term := cal_of (P := P) (w := w) (base := base) (ps := ["term"]) d_checked_term (fun _ _ _ _ _ _ us hl => match us, hl with | [_], _ => rfl) fun f fd F => ok_cterm F B t1
  have c_sizes := cal_of (P := P) (w := w) (base := base) (ps := ["children", "looks", "choices"]) d_sizes (fun _ _ _ _ _ _ us hl => match us, hl with | [_, _, _], _ => rfl) fun f fd F => ok_sizes F B Cs TT
  have t2 : T2 P w K mg base (⟨cA, cB, cC, cD, cE, cF, cG⟩ : TC) := ⟨t1, c_checked_stream, c_checked_term, c_sizes⟩
  have c_sizesX := cal_of (P := P) (w := w) (base := base) (ps := ["children", "looks", "choices"]) d_sizes (fun _ _ _ _ _ _ us hl => match us, hl with | [_, _, _], _ => rfl) fun f fd F => ok_sizesX M F B Cs TT
  have t2x : T2X P w K mg base (⟨cA, cB, cC, cD, cE, cF, cG⟩ : TC) CT := ⟨t2, c_sizesX⟩
  obtain ⟨fNI, fdNI, mNI, FNI⟩ := m_NI.ex
  have bNI : Binds K fdNI ["self"] [] := FNI.binds (ps := ["self"]) fun _ _ _ _ _ _ us hl => match us, hl with | [_], _ => rfl
  have oNI := ok_now (P := P) (w := w) (base := base) FNI B TT t2
  obtain ⟨fLI, fdLI, mLI, FLI⟩ := m_LI.ex
  have bLI : Binds K fdLI ["self", "stream", "term"] [] := FLI.binds (ps := ["self", "stream", "term"]) fun _ _ _ _ _ _ us hl => match us, hl with | [_, _, _], _ => rfl
  have oLI := ok_last (P := P) (w := w) (base := base) FLI B TT t2
  have oLX := ok_lastX (P := P) (w := w) (base := base) FLI B TT t2x
  obtain ⟨fXI, fdXI, mXI, FXI⟩ := m_XI.ex
  have bXI : Binds K fdXI ["self", "stream", "term"] [] := FXI.binds (ps := ["self", "stream", "term"]) fun _ _ _ _ _ _ us hl => match us, hl with | [_, _, _], _ => rfl
  have oXI := ok_next (P := P) (w := w) (base := base) FXI B TT t2
  have oXX := ok_nextX (P := P) (w := w) (base := base) FXI B TT t2x
  obtain ⟨fSI, fdSI, mSI, FSI⟩ := m_SI.ex
  have bSI : Binds K fdSI ["self", "term", "amount"] [] := FSI.binds (ps := ["self", "term", "amount"]) fun _ _ _ _ _ _ us hl => match us, hl with | [_, _, _], _ => rfl
  have oSI := ok_shift (P := P) (w := w) (base := base) FSI B TT t2
  obtain ⟨fEI, fdEI, mEI, FEI⟩ := m_EI.ex
  have bEI : Binds K fdEI ["self", "first", "second"] [] := FEI.binds (ps := ["self", "first", "second"]) fun _ _ _ _ _ _ us hl => match us, hl with | [_, _, _], _ => rfl
  have oEI := ok_either (P := P) (w := w) (base := base) FEI B TT t2
  obtain ⟨fJI, fdJI, mJI, FJI⟩ := m_JI.ex
  have bJI : Binds K fdJI ["self", "first", "second"] [] := FJI.binds (ps := ["self", "first", "second"]) fun _ _ _ _ _ _ us hl => match us, hl with | [_, _, _], _ => rfl
  have oJI := ok_later (P := P) (w := w) (base := base) FJI B TT t2
  obtain ⟨fKI, fdKI, mKI, FKI⟩ := m_KI.ex
  have bKI : Binds K fdKI ["self", "first", "second"] [] := FKI.binds (ps := ["self", "first", "second"]) fun _ _ _ _ _ _ us hl => match us, hl with | [_, _, _], _ => rfl
  have oKI := ok_earlier (P := P) (w := w) (base := base) FKI B TT t2
  have t3 : T3s P w K mg base (⟨cA, cB, cC, cD, cE, cF, cG⟩ : TC) CW := ⟨t2, ⟨fSI, fdSI, ⟨mk3, mSI.at_, mSI.fn, kp3⟩, nm3, bSI, oSI⟩, ⟨fWR, fdWR, mWR, bWR, oWR⟩⟩
  have c_shifted := cal_of (P := P) (w := w) (base := base) (ps := ["term", "amount"]) d_shifted (fun _ _ _ _ _ _ us hl => match us, hl with | [_, _], _ => rfl) fun f fd F => ok_shifted F B TT DD t3
  have c_last_row := cal_of (P := P) (w := w) (base := base) (ps := ["world", "stream", "moment"]) d_last_row (fun _ _ _ _ _ _ us hl => match us, hl with | [_, _, _], _ => rfl) fun f fd F => ok_lastrow F B TW t3
  have c_next_row := cal_of (P := P) (w := w) (base := base) (ps := ["world", "stream", "moment"]) d_next_row (fun _ _ _ _ _ _ us hl => match us, hl with | [_, _, _], _ => rfl) fun f fd F => ok_nextrow F B TW t3
  have a1 : A1 P w K mg base (⟨cA, cB, cC, cD, cE, cF, cG⟩ : TC) CW := ⟨t3, c_last_row, c_next_row⟩
  have fo := fol_all B Cs TT DD a1 d_moved d_looked d_followed_either d_followed_both d_followed 12
  have c_is_amount := cal_of (P := P) (w := w) (base := base) (ps := ["thing"]) d_is_amount (fun _ _ _ _ _ _ us hl => match us, hl with | [_], _ => rfl) fun f fd F => ok_isam F B AF0
  have c_lookedA := cal_of (P := P) (w := w) (base := base) (ps := ["question", "world", "now", "place"]) d_looked (fun _ _ _ _ _ _ us hl => match us, hl with | [_, _, _, _], _ => rfl) fun f fd F => ok_lookedA F B TT AF0 fo
  have c_told_between := cal_of (P := P) (w := w) (base := base) (ps := ["question", "world", "now"]) d_told_between (fun _ _ _ _ _ _ us hl => match us, hl with | [_, _, _], _ => rfl) fun f fd F => ok_told F B TT AF0 TW fo
  have u0 : U0 P w K mg base (⟨aA, aB, aC, aD⟩ : AC) (⟨cA, cB, cC, cD, cE, cF, cG⟩ : TC) CW := ⟨fo, c_is_amount, c_lookedA, c_told_between⟩
  have c_is_question := cal_of (P := P) (w := w) (base := base) (ps := ["thing"]) d_is_question (fun _ _ _ _ _ _ us hl => match us, hl with | [_], _ => rfl) fun f fd F => ok_isq F B AF0 u0
  have u1 : U1 P w K mg base (⟨aA, aB, aC, aD⟩ : AC) (⟨cA, cB, cC, cD, cE, cF, cG⟩ : TC) CW := ⟨u0, c_is_question⟩
  have c_check := cal_of (P := P) (w := w) (base := base) (ps := ["question", "world", "now"]) d_check (fun _ _ _ _ _ _ us hl => match us, hl with | [_, _, _], _ => rfl) fun f fd F => ok_check F B TW wi u1
  have c_answered := cal_of (P := P) (w := w) (base := base) (ps := ["question", "world", "now"]) d_answered (fun _ _ _ _ _ _ us hl => match us, hl with | [_, _, _], _ => rfl) fun f fd F => ok_answered F B Cs AF0 u1
  have u2 : U2 P w K mg base (⟨aA, aB, aC, aD⟩ : AC) (⟨cA, cB, cC, cD, cE, cF, cG⟩ : TC) CW := ⟨u1, c_check, c_answered⟩
  have c_value := cal_of (P := P) (w := w) (base := base) (ps := ["question", "world", "now"]) d_value (fun _ _ _ _ _ _ us hl => match us, hl with | [_, _, _], _ => rfl) fun f fd F => ok_value F B u2
  have v3 : V3 P w K mg base (⟨cA, cB, cC, cD, cE, cF, cG⟩ : TC) CW := ⟨fo, c_shifted⟩
  have v4 : V4 P w K mg base (⟨cA, cB, cC, cD, cE, cF, cG⟩ : TC) CW := ⟨v3, ⟨fEI, fdEI, ⟨mk4, mEI.at_, mEI.fn, kp4⟩, nm4, bEI, oEI⟩, ⟨fJI, fdJI, ⟨mk5, mJI.at_, mJI.fn, kp5⟩, nm5, bJI, oJI⟩, ⟨fKI, fdKI, ⟨mk6, mKI.at_, mKI.fn, kp6⟩, nm6, bKI, oKI⟩⟩
  obtain ⟨fdadd, madd, Fadd⟩ := m_add.ex
  have badd : Binds K fdadd ["self", "other"] [] := Fadd.binds (ps := ["self", "other"]) fun _ _ _ _ _ _ us hl => match us, hl with | [_, _], _ => rfl
  have oAdd := ok_tadd (P := P) (w := w) (base := base) Fadd B v3
  obtain ⟨fdior, mior, Fior⟩ := m_ior.ex
  have bior : Binds K fdior ["self", "other"] [] := Fior.binds (ps := ["self", "other"]) fun _ _ _ _ _ _ us hl => match us, hl with | [_, _], _ => rfl
  have oOr := ok_tor (P := P) (w := w) (base := base) Fior B v4
  obtain ⟨fdlat, mlat, Flat⟩ := m_lat.ex
  have blat : Binds K fdlat ["self", "other"] [] := Flat.binds (ps := ["self", "other"]) fun _ _ _ _ _ _ us hl => match us, hl with | [_, _], _ => rfl
  have oLat := ok_tlater (P := P) (w := w) (base := base) Flat B v4
  obtain ⟨fdear, mear, Fear⟩ := m_ear.ex
  have bear : Binds K fdear ["self", "other"] [] := Fear.binds (ps := ["self", "other"]) fun _ _ _ _ _ _ us hl => match us, hl with | [_, _], _ => rfl
  have oEar := ok_tearlier (P := P) (w := w) (base := base) Fear B v4
  have c__law_pool := cal_of (P := P) (w := w) (base := base) (ps := ["script"]) d__law_pool (fun _ _ _ _ _ _ us hl => match us, hl with | [_], _ => rfl) fun f fd F => ok_pool F B
  have c__law_draw := cal_of (P := P) (w := w) (base := base) (ps := ["pool", "many"]) d__law_draw (fun _ _ _ _ _ _ us hl => match us, hl with | [_, _], _ => rfl) fun f fd F => ok_draw F B
  have g1 : G1 P w K mg base := ⟨c__law_draw⟩
  have c__law_names := cal_of (P := P) (w := w) (base := base) (ps := ["pool", "many"]) d__law_names (fun _ _ _ _ _ _ us hl => match us, hl with | [_, _], _ => rfl) fun f fd F => ok_names F B g1
  have c__law_moment := cal_of (P := P) (w := w) (base := base) (ps := ["pool"]) d__law_moment (fun _ _ _ _ _ _ us hl => match us, hl with | [_], _ => rfl) fun f fd F => ok_moment F B g1
  have g2 : G2w P w K mg base := ⟨g1, c__law_moment⟩
  have c__law_rows := cal_of (P := P) (w := w) (base := base) (ps := ["pool", "streams", "many"]) d__law_rows (fun _ _ _ _ _ _ us hl => match us, hl with | [_, _, _], _ => rfl) fun f fd F => ok_wrows F B g2
  have ops : Ops P w K mg base (⟨cA, cB, cC, cD, cE, cF, cG⟩ : TC) := ⟨⟨_, _, OI, oAdd, badd⟩, ⟨_, _, OO, oOr, bior⟩, ⟨_, _, ML, oLat, blat⟩, ⟨_, _, ME, oEar, bear⟩⟩
  have b0 : B0 P w K mg base (⟨cA, cB, cC, cD, cE, cF, cG⟩ : TC) := ⟨⟨fNI, fdNI, ⟨mk0, mNI.at_, mNI.fn, kp0⟩, nm0, bNI, oNI⟩, ⟨fLI, fdLI, ⟨mk1, mLI.at_, mLI.fn, kp1⟩, nm1, bLI, oLI⟩, ⟨fXI, fdXI, ⟨mk2, mXI.at_, mXI.fn, kp2⟩, nm2, bXI, oXI⟩⟩
  obtain ⟨fnuI, fdnuI, mnuI, FnuI⟩ := m_nuI.ex
  have bnuI : Binds K fdnuI ["self", "stream", "term"] [] := FnuI.binds (ps := ["self", "stream", "term"]) fun _ _ _ _ _ _ us hl => match us, hl with | [_, _, _], _ => rfl
  have oNu := ok_number (P := P) (w := w) (base := base) FnuI B TT AF0 t2
  obtain ⟨fcoI, fdcoI, mcoI, FcoI⟩ := m_coI.ex
  have bcoI : Binds K fdcoI ["self", "stream", "first", "last"] [] := FcoI.binds (ps := ["self", "stream", "first", "last"]) fun _ _ _ _ _ _ us hl => match us, hl with | [_, _, _, _], _ => rfl
  have oCo := ok_count (P := P) (w := w) (base := base) FcoI B TT AF0 t2
  obtain ⟨ftoI, fdtoI, mtoI, FtoI⟩ := m_toI.ex
  have btoI : Binds K fdtoI ["self", "stream", "first", "last"] [] := FtoI.binds (ps := ["self", "stream", "first", "last"]) fun _ _ _ _ _ _ us hl => match us, hl with | [_, _, _, _], _ => rfl
  have oTo := ok_total (P := P) (w := w) (base := base) FtoI B TT AF0 t2
  obtain ⟨fgaI, fdgaI, mgaI, FgaI⟩ := m_gaI.ex
  have bgaI : Binds K fdgaI ["self", "first", "last"] [] := FgaI.binds (ps := ["self", "first", "last"]) fun _ _ _ _ _ _ us hl => match us, hl with | [_, _, _], _ => rfl
  have oGa := ok_gap (P := P) (w := w) (base := base) FgaI B TT AF0 t2
  have c_support := cal_of (P := P) (w := w) (base := base) (ps := ["question", "world", "now"]) d_support (fun _ _ _ _ _ _ us hl => match us, hl with | [_, _, _], _ => rfl) fun f fd F => ok_support F B u2
  have mkWo : Mak P w K mg base CX0 "World" CW 5 ["self", "rows"] (spWorldInit CW) := ⟨fWI, fdWI, ⟨mkW, mWI.at_, mWI.fn, kW⟩, TW.c, bWI, oWI⟩
  have gq1 : Gq P w K mg base 1 := ⟨g2, (lterm_all B g2 d__law_term 2).law_term, (lterm_all B g2 d__law_term 1).law_term⟩
  have gq0 : Gq P w K mg base 0 := ⟨g2, (lterm_all B g2 d__law_term 1).law_term, (lterm_all B g2 d__law_term 0).law_term⟩
  have mNu : Mak P w K mg base CX0 "Number" aA 3 ["self", "stream", "term"] (spInitN (⟨aA, aB, aC, aD⟩ : AC) (⟨cA, cB, cC, cD, cE, cF, cG⟩ : TC)) := ⟨fnuI, fdnuI, ⟨amk0, mnuI.at_, mnuI.fn, akp0⟩, anm0, bnuI, oNu⟩
  have mCo : Mak P w K mg base CX0 "Count" aB 3 ["self", "stream", "first", "last"] (spInitC (⟨aA, aB, aC, aD⟩ : AC) (⟨cA, cB, cC, cD, cE, cF, cG⟩ : TC) aB Am.count) := ⟨fcoI, fdcoI, ⟨amk1, mcoI.at_, mcoI.fn, akp1⟩, anm1, bcoI, oCo⟩
  have mTo : Mak P w K mg base CX0 "Total" aC 3 ["self", "stream", "first", "last"] (spInitC (⟨aA, aB, aC, aD⟩ : AC) (⟨cA, cB, cC, cD, cE, cF, cG⟩ : TC) aC Am.total) := ⟨ftoI, fdtoI, ⟨amk2, mtoI.at_, mtoI.fn, akp2⟩, anm2, btoI, oTo⟩
  have mGa : Mak P w K mg base CX0 "Gap" aD 3 ["self", "first", "last"] (spInitG (⟨aA, aB, aC, aD⟩ : AC) (⟨cA, cB, cC, cD, cE, cF, cG⟩ : TC)) := ⟨fgaI, fdgaI, ⟨amk3, mgaI.at_, mgaI.fn, akp3⟩, anm3, bgaI, oGa⟩
  have bu := built_all B b0 ops d__law_built 12
  have ga : Ga P w K mg base (⟨aA, aB, aC, aD⟩ : AC) (⟨cA, cB, cC, cD, cE, cF, cG⟩ : TC) := ⟨bu, mNu, mCo, mTo, mGa⟩
  have NA0 : NA K (⟨aA, aB, aC, aD⟩ : AC) (⟨cA, cB, cC, cD, cE, cF, cG⟩ : TC) := ⟨(is7 (C := (⟨cA, cB, cC, cD, cE, cF, cG⟩ : TC)) (p := fun a => ∀ b, (⟨aA, aB, aC, aD⟩ : AC).Is b → PySem.W.kitOne K (.ref a) (.ref b) = some false) (is4 (A := ⟨aA, aB, aC, aD⟩) (p := fun b => PySem.W.kitOne K (.ref cA) (.ref b) = some false) (kit_no0 (ne_sub s0_0 ta0_0) aic0 ati0 ta0_0) (kit_no0 (ne_sub s0_0 ta1_0) aic1 ati1 ta1_0) (kit_no0 (ne_sub s0_0 ta2_0) aic2 ati2 ta2_0) (kit_no0 (ne_sub s0_0 ta3_0) aic3 ati3 ta3_0)) (is4 (A := ⟨aA, aB, aC, aD⟩) (p := fun b => PySem.W.kitOne K (.ref cB) (.ref b) = some false) (kit_no0 (ne_sub s1_1 ta0_1) aic0 ati0 ta0_1) (kit_no0 (ne_sub s1_1 ta1_1) aic1 ati1 ta1_1) (kit_no0 (ne_sub s1_1 ta2_1) aic2 ati2 ta2_1) (kit_no0 (ne_sub s1_1 ta3_1) aic3 ati3 ta3_1)) (is4 (A := ⟨aA, aB, aC, aD⟩) (p := fun b => PySem.W.kitOne K (.ref cC) (.ref b) = some false) (kit_no0 (ne_sub s2_2 ta0_2) aic0 ati0 ta0_2) (kit_no0 (ne_sub s2_2 ta1_2) aic1 ati1 ta1_2) (kit_no0 (ne_sub s2_2 ta2_2) aic2 ati2 ta2_2) (kit_no0 (ne_sub s2_2 ta3_2) aic3 ati3 ta3_2)) (is4 (A := ⟨aA, aB, aC, aD⟩) (p := fun b => PySem.W.kitOne K (.ref cD) (.ref b) = some false) (kit_no0 (ne_sub s3_3 ta0_3) aic0 ati0 ta0_3) (kit_no0 (ne_sub s3_3 ta1_3) aic1 ati1 ta1_3) (kit_no0 (ne_sub s3_3 ta2_3) aic2 ati2 ta2_3) (kit_no0 (ne_sub s3_3 ta3_3) aic3 ati3 ta3_3)) (is4 (A := ⟨aA, aB, aC, aD⟩) (p := fun b => PySem.W.kitOne K (.ref cE) (.ref b) = some false) (kit_no0 (ne_sub s4_4 ta0_4) aic0 ati0 ta0_4) (kit_no0 (ne_sub s4_4 ta1_4) aic1 ati1 ta1_4) (kit_no0 (ne_sub s4_4 ta2_4) aic2 ati2 ta2_4) (kit_no0 (ne_sub s4_4 ta3_4) aic3 ati3 ta3_4)) (is4 (A := ⟨aA, aB, aC, aD⟩) (p := fun b => PySem.W.kitOne K (.ref cF) (.ref b) = some false) (kit_no0 (ne_sub s5_5 ta0_5) aic0 ati0 ta0_5) (kit_no0 (ne_sub s5_5 ta1_5) aic1 ati1 ta1_5) (kit_no0 (ne_sub s5_5 ta2_5) aic2 ati2 ta2_5) (kit_no0 (ne_sub s5_5 ta3_5) aic3 ati3 ta3_5)) (is4 (A := ⟨aA, aB, aC, aD⟩) (p := fun b => PySem.W.kitOne K (.ref cG) (.ref b) = some false) (kit_no0 (ne_sub s6_6 ta0_6) aic0 ati0 ta0_6) (kit_no0 (ne_sub s6_6 ta1_6) aic1 ati1 ta1_6) (kit_no0 (ne_sub s6_6 ta2_6) aic2 ati2 ta2_6) (kit_no0 (ne_sub s6_6 ta3_6) aic3 ati3 ta3_6))) |> (fun h a b ha hb => h a ha b hb)⟩
  have c_is_amount2 := cal_of (P := P) (w := w) (base := base) (ps := ["thing"]) d_is_amount (fun _ _ _ _ _ _ us hl => match us, hl with | [_], _ => rfl) fun f fd F => ok_isam2 F B TT AF0 NA0
  have s0 : S0 P w K mg base (⟨cA, cB, cC, cD, cE, cF, cG⟩ : TC) CT := ⟨⟨fLI, fdLI, ⟨mk1, mLI.at_, mLI.fn, kp1⟩, nm1, bLI, oLX⟩, ⟨fXI, fdXI, ⟨mk2, mXI.at_, mXI.fn, kp2⟩, nm2, bXI, oXX⟩⟩
  have tf := tf_all B TT DD s0 ops d_term_from 12
  have s2 : S2 P w K mg base (⟨aA, aB, aC, aD⟩ : AC) (⟨cA, cB, cC, cD, cE, cF, cG⟩ : TC) CT := ⟨c_is_term, c_is_question, c_is_amount2, tf.term_from, mNu, mCo, mTo, mGa⟩
  have c_amount_from := cal_of (P := P) (w := w) (base := base) (ps := ["question", "term"]) d_amount_from (fun _ _ _ _ _ _ us hl => match us, hl with | [_, _], _ => rfl) fun f fd F => ok_af F B AF0 s2
  have s3 : S3q P w K mg base (⟨aA, aB, aC, aD⟩ : AC) (⟨cA, cB, cC, cD, cE, cF, cG⟩ : TC) CT := ⟨s2, c_amount_from⟩
  have c_seen_from := cal_of (P := P) (w := w) (base := base) (ps := ["question", "term"]) d_seen_from (fun _ _ _ _ _ _ us hl => match us, hl with | [_, _], _ => rfl) fun f fd F => ok_sf F B s3
  obtain ⟨fdsub, msub, Fsub⟩ := m_sub.ex
  have bsub : Binds K fdsub ["self", "other"] [] := Fsub.binds (ps := ["self", "other"]) fun _ _ _ _ _ _ us hl => match us, hl with | [_, _], _ => rfl
  have oSub := ok_tsub (P := P) (w := w) (base := base) Fsub B v3
  obtain ⟨fdteq, mteq, Fteq⟩ := m_teq.ex
  have bteq : Binds K fdteq ["self", "other"] [] := Fteq.binds (ps := ["self", "other"]) fun _ _ _ _ _ _ us hl => match us, hl with | [_, _], _ => rfl
  have oTeq := ok_teq (P := P) (w := w) (base := base) Fteq B TT s2
  obtain ⟨fdaeq, maeq, Faeq⟩ := m_aeq.ex
  have baeq : Binds K fdaeq ["self", "other"] [] := Faeq.binds (ps := ["self", "other"]) fun _ _ _ _ _ _ us hl => match us, hl with | [_, _], _ => rfl
  have oAeq := ok_aeq (P := P) (w := w) (base := base) Faeq B AF0 s2
  have OS : OpI K ((⟨cA, cB, cC, cD, cE, cF, cG⟩ : TC)).Is .Sub fsub := { sf := is7 (sf0) (sf1) (sf2) (sf3) (sf4) (sf5) (sf6), at_ := is7 (su0) (su1) (su2) (su3) (su4) (su5) (su6), rt := is7 (rs0) (rs1) (rs2) (rs3) (rs4) (rs5) (rs6), fn := msub.fn, sub := is7 (si0) (si1) (si2) (si3) (si4) (si5) (si6), i1 := ⟨_, i3⟩, i2 := ⟨_, i4⟩ }
  have NT : NeF K ((⟨cA, cB, cC, cD, cE, cF, cG⟩ : TC)).Is fteq := { ne := is7 (nq0) (nq1) (nq2) (nq3) (nq4) (nq5) (nq6), eq := is7 (eq0) (eq1) (eq2) (eq3) (eq4) (eq5) (eq6), fn := mteq.fn, ob := is7 (ob0) (ob1) (ob2) (ob3) (ob4) (ob5) (ob6) }
  have NQ : NeF K (⟨aA, aB, aC, aD⟩ : AC).Is faeq := { ne := is4 (anq0) (anq1) (anq2) (anq3), eq := is4 (aeq0) (aeq1) (aeq2) (aeq3), fn := maeq.fn, ob := is4 (aob0) (aob1) (aob2) (aob3) }
  have oo : Op15 P w K mg base (⟨aA, aB, aC, aD⟩ : AC) (⟨cA, cB, cC, cD, cE, cF, cG⟩ : TC) := ⟨ops, ⟨_, _, OS, oSub, bsub⟩, ⟨_, _, NT, oTeq, bteq⟩, ⟨_, _, NQ, oAeq, baeq⟩⟩
  have c__law_question := cal_of (P := P) (w := w) (base := base) (ps := ["pool", "streams", "depth"]) d__law_question (fun _ _ _ _ _ _ us hl => match us, hl with | [_, _, _], _ => rfl) fun f fd F => ok_lquest F B gq1
  have c_lq0 := cal_of (P := P) (w := w) (base := base) (ps := ["pool", "streams", "depth"]) d__law_question (fun _ _ _ _ _ _ us hl => match us, hl with | [_, _, _], _ => rfl) fun f fd F => ok_lquest F B gq0
  have c__law_asked := cal_of (P := P) (w := w) (base := base) (ps := ["model"]) d__law_asked (fun _ _ _ _ _ _ us hl => match us, hl with | [_], _ => rfl) fun f fd F => ok_lasked F B ga
  have c__law_same := cal_of (P := P) (w := w) (base := base) (ps := ["told", "due"]) d__law_same (fun _ _ _ _ _ _ us hl => match us, hl with | [_, _], _ => rfl) fun f fd F => ok_same F B
  have gd : GD15 P w K mg base (⟨cA, cB, cC, cD, cE, cF, cG⟩ : TC) := ⟨b0, c__law_draw⟩
  have c__law_deep := cal_of (P := P) (w := w) (base := base) (ps := ["pool", "streams", "many"]) d__law_deep (fun _ _ _ _ _ _ us hl => match us, hl with | [_, _, _], _ => rfl) fun f fd F => ok_ldeep F B gd
  have gs : GS15 P w K mg base (⟨aA, aB, aC, aD⟩ : AC) (⟨cA, cB, cC, cD, cE, cF, cG⟩ : TC) CT := ⟨c_seen_from⟩
  have c__law_size := cal_of (P := P) (w := w) (base := base) (ps := ["one", "other"]) d__law_size (fun _ _ _ _ _ _ us hl => match us, hl with | [_, _], _ => rfl) fun f fd F => ok_lsize F B TT M gs
  have gl : L15 P w K mg base (⟨aA, aB, aC, aD⟩ : AC) (⟨cA, cB, cC, cD, cE, cF, cG⟩ : TC) CT CW := ⟨c__law_pool, c__law_draw, c__law_names, c__law_moment, c__law_rows, c__law_question, c_lq0, (lterm_all B g2 d__law_term 2).law_term, c__law_asked, bu.law_built, c__law_same, c_value, c_support, c_seen_from, c__law_deep, c__law_size, mkWo, b0.Now, b0.Last, mCo, mGa⟩
  exact ok_law F_law B oo gl
end
theorem all_mk {P : Program} {w : World} {K : PySem.W.Frag} {h : Heap} {mg : Str → Option Value} {fa CW CT cA cB cC cD cE cF cG aA aB aC aD fadd fior flat fear fsub fteq faeq f4 : Addr} {oc4 kV4 dc4 pm4 cd4 ct4 : Value} {od4 an4 : Option Addr} {sl4 : Array (Option Value)} (X : K.In h) (G : h.Ns mainGlobals mg) (hfa : mg "law" = some (.ref fa))
    (a4 : PySem.W.nsIn K mainGlobals "law" = some (some (.ref f4))) (l4 : K.lookup f4 = some ⟨oc4, od4, .func (PySem.W.fnOf "law" "law" (defArgs s_law) (defBody s_law) (defScope s_law) .none kV4 dc4 pm4 an4 cd4 ct4), sl4⟩) (c4 : PySem.W.codeIn K cd4 "law" = true) (k4 : PySem.W.keepIn K (.ref f4) = true)
    (M : TMy K mg CT)
    (B : Blt mg)
    (Cs : Cst mg)
    (TW : Cw K mg CW)
    (wi : BkI K CW)
    (mkW : PySem.W.makesIn K CW = true)
    (kW : PySem.W.keepIn K (.ref CW) = true)
    (nm0 : mg "Now" = some (.ref cA))
    (cl0 : Cls K cA)
    (b0 : BkI K cA)
    (ic0 : PySem.W.isClsIn K cA = true)
    (ti0 : PySem.W.typeIn K (.ref cA) = some (.type "type"))
    (sf0 : PySem.W.selfFirst K cA = true)
    (at0 : PySem.W.findIn K (.ref cA) "__add__" = some (some (.ref fadd)))
    (rt0 : PySem.W.findIn K (.ref cA) "__radd__" = some none)
    (si0 : PySem.W.subIn K (.type "int") (.ref cA) = some false)
    (or0 : PySem.W.findIn K (.ref cA) "__or__" = some (some (.ref fior)))
    (ro0 : PySem.W.findIn K (.ref cA) "__ror__" = some none)
    (la0 : PySem.W.findIn K (.ref cA) "later" = some (some (.ref flat)))
    (ea0 : PySem.W.findIn K (.ref cA) "earlier" = some (some (.ref fear)))
    (n0_0 : NoAttr K cA "stream")
    (n0_1 : NoAttr K cA "term")
    (n0_2 : NoAttr K cA "first")
    (n0_3 : NoAttr K cA "second")
    (n0_4 : NoAttr K cA "amount")
    (n0_5 : NoAttr K cA "spelling")
    (n0_6 : NoAttr K cA "depth")
    (n0_7 : NoAttr K cA "parts")
    (n0_8 : NoAttr K cA "looks")
    (n0_9 : NoAttr K cA "choices")
    (s0_0 : PySem.W.subIn K (.ref cA) (.ref cA) = some true)
    (s0_1 : PySem.W.subIn K (.ref cA) (.ref cB) = some false)
    (s0_2 : PySem.W.subIn K (.ref cA) (.ref cC) = some false)
    (s0_3 : PySem.W.subIn K (.ref cA) (.ref cD) = some false)
    (s0_4 : PySem.W.subIn K (.ref cA) (.ref cE) = some false)
    (s0_5 : PySem.W.subIn K (.ref cA) (.ref cF) = some false)
    (s0_6 : PySem.W.subIn K (.ref cA) (.ref cG) = some false)
    (nm1 : mg "Last" = some (.ref cB))
    (cl1 : Cls K cB)
    (b1 : BkI K cB)
    (ic1 : PySem.W.isClsIn K cB = true)
    (ti1 : PySem.W.typeIn K (.ref cB) = some (.type "type"))
    (sf1 : PySem.W.selfFirst K cB = true)
    (at1 : PySem.W.findIn K (.ref cB) "__add__" = some (some (.ref fadd)))
    (rt1 : PySem.W.findIn K (.ref cB) "__radd__" = some none)
    (si1 : PySem.W.subIn K (.type "int") (.ref cB) = some false)
    (or1 : PySem.W.findIn K (.ref cB) "__or__" = some (some (.ref fior)))
    (ro1 : PySem.W.findIn K (.ref cB) "__ror__" = some none)
    (la1 : PySem.W.findIn K (.ref cB) "later" = some (some (.ref flat)))
    (ea1 : PySem.W.findIn K (.ref cB) "earlier" = some (some (.ref fear)))
    (n1_0 : NoAttr K cB "stream")
    (n1_1 : NoAttr K cB "term")
    (n1_2 : NoAttr K cB "first")
    (n1_3 : NoAttr K cB "second")
    (n1_4 : NoAttr K cB "amount")
    (n1_5 : NoAttr K cB "spelling")
    (n1_6 : NoAttr K cB "depth")
    (n1_7 : NoAttr K cB "parts")
    (n1_8 : NoAttr K cB "looks")
    (n1_9 : NoAttr K cB "choices")
    (s1_0 : PySem.W.subIn K (.ref cB) (.ref cA) = some false)
    (s1_1 : PySem.W.subIn K (.ref cB) (.ref cB) = some true)
    (s1_2 : PySem.W.subIn K (.ref cB) (.ref cC) = some false)
    (s1_3 : PySem.W.subIn K (.ref cB) (.ref cD) = some false)
    (s1_4 : PySem.W.subIn K (.ref cB) (.ref cE) = some false)
    (s1_5 : PySem.W.subIn K (.ref cB) (.ref cF) = some false)
    (s1_6 : PySem.W.subIn K (.ref cB) (.ref cG) = some false)
    (nm2 : mg "Next" = some (.ref cC))
    (cl2 : Cls K cC)
    (b2 : BkI K cC)
    (ic2 : PySem.W.isClsIn K cC = true)
    (ti2 : PySem.W.typeIn K (.ref cC) = some (.type "type"))
    (sf2 : PySem.W.selfFirst K cC = true)
    (at2 : PySem.W.findIn K (.ref cC) "__add__" = some (some (.ref fadd)))
    (rt2 : PySem.W.findIn K (.ref cC) "__radd__" = some none)
    (si2 : PySem.W.subIn K (.type "int") (.ref cC) = some false)
    (or2 : PySem.W.findIn K (.ref cC) "__or__" = some (some (.ref fior)))
    (ro2 : PySem.W.findIn K (.ref cC) "__ror__" = some none)
    (la2 : PySem.W.findIn K (.ref cC) "later" = some (some (.ref flat)))
    (ea2 : PySem.W.findIn K (.ref cC) "earlier" = some (some (.ref fear)))
    (n2_0 : NoAttr K cC "stream")
    (n2_1 : NoAttr K cC "term")
    (n2_2 : NoAttr K cC "first")
    (n2_3 : NoAttr K cC "second")
    (n2_4 : NoAttr K cC "amount")
    (n2_5 : NoAttr K cC "spelling")
    (n2_6 : NoAttr K cC "depth")
    (n2_7 : NoAttr K cC "parts")
    (n2_8 : NoAttr K cC "looks")
    (n2_9 : NoAttr K cC "choices")
    (s2_0 : PySem.W.subIn K (.ref cC) (.ref cA) = some false)
    (s2_1 : PySem.W.subIn K (.ref cC) (.ref cB) = some false)
    (s2_2 : PySem.W.subIn K (.ref cC) (.ref cC) = some true)
    (s2_3 : PySem.W.subIn K (.ref cC) (.ref cD) = some false)
    (s2_4 : PySem.W.subIn K (.ref cC) (.ref cE) = some false)
    (s2_5 : PySem.W.subIn K (.ref cC) (.ref cF) = some false)
    (s2_6 : PySem.W.subIn K (.ref cC) (.ref cG) = some false)
    (nm3 : mg "Shift" = some (.ref cD))
    (cl3 : Cls K cD)
    (b3 : BkI K cD)
    (ic3 : PySem.W.isClsIn K cD = true)
    (ti3 : PySem.W.typeIn K (.ref cD) = some (.type "type"))
    (sf3 : PySem.W.selfFirst K cD = true)
    (at3 : PySem.W.findIn K (.ref cD) "__add__" = some (some (.ref fadd)))
    (rt3 : PySem.W.findIn K (.ref cD) "__radd__" = some none)
    (si3 : PySem.W.subIn K (.type "int") (.ref cD) = some false)
    (or3 : PySem.W.findIn K (.ref cD) "__or__" = some (some (.ref fior)))
    (ro3 : PySem.W.findIn K (.ref cD) "__ror__" = some none)
    (la3 : PySem.W.findIn K (.ref cD) "later" = some (some (.ref flat)))
    (ea3 : PySem.W.findIn K (.ref cD) "earlier" = some (some (.ref fear)))
    (n3_0 : NoAttr K cD "stream")
    (n3_1 : NoAttr K cD "term")
    (n3_2 : NoAttr K cD "first")
    (n3_3 : NoAttr K cD "second")
    (n3_4 : NoAttr K cD "amount")
    (n3_5 : NoAttr K cD "spelling")
    (n3_6 : NoAttr K cD "depth")
    (n3_7 : NoAttr K cD "parts")
    (n3_8 : NoAttr K cD "looks")
    (n3_9 : NoAttr K cD "choices")
    (s3_0 : PySem.W.subIn K (.ref cD) (.ref cA) = some false)
    (s3_1 : PySem.W.subIn K (.ref cD) (.ref cB) = some false)
    (s3_2 : PySem.W.subIn K (.ref cD) (.ref cC) = some false)
    (s3_3 : PySem.W.subIn K (.ref cD) (.ref cD) = some true)
    (s3_4 : PySem.W.subIn K (.ref cD) (.ref cE) = some false)
    (s3_5 : PySem.W.subIn K (.ref cD) (.ref cF) = some false)
    (s3_6 : PySem.W.subIn K (.ref cD) (.ref cG) = some false)
    (nm4 : mg "Either" = some (.ref cE))
    (cl4 : Cls K cE)
    (b4 : BkI K cE)
    (ic4 : PySem.W.isClsIn K cE = true)
    (ti4 : PySem.W.typeIn K (.ref cE) = some (.type "type"))
    (sf4 : PySem.W.selfFirst K cE = true)
    (at4 : PySem.W.findIn K (.ref cE) "__add__" = some (some (.ref fadd)))
    (rt4 : PySem.W.findIn K (.ref cE) "__radd__" = some none)
    (si4 : PySem.W.subIn K (.type "int") (.ref cE) = some false)
    (or4 : PySem.W.findIn K (.ref cE) "__or__" = some (some (.ref fior)))
    (ro4 : PySem.W.findIn K (.ref cE) "__ror__" = some none)
    (la4 : PySem.W.findIn K (.ref cE) "later" = some (some (.ref flat)))
    (ea4 : PySem.W.findIn K (.ref cE) "earlier" = some (some (.ref fear)))
    (n4_0 : NoAttr K cE "stream")
    (n4_1 : NoAttr K cE "term")
    (n4_2 : NoAttr K cE "first")
    (n4_3 : NoAttr K cE "second")
    (n4_4 : NoAttr K cE "amount")
    (n4_5 : NoAttr K cE "spelling")
    (n4_6 : NoAttr K cE "depth")
    (n4_7 : NoAttr K cE "parts")
    (n4_8 : NoAttr K cE "looks")
    (n4_9 : NoAttr K cE "choices")
    (s4_0 : PySem.W.subIn K (.ref cE) (.ref cA) = some false)
    (s4_1 : PySem.W.subIn K (.ref cE) (.ref cB) = some false)
    (s4_2 : PySem.W.subIn K (.ref cE) (.ref cC) = some false)
    (s4_3 : PySem.W.subIn K (.ref cE) (.ref cD) = some false)
    (s4_4 : PySem.W.subIn K (.ref cE) (.ref cE) = some true)
    (s4_5 : PySem.W.subIn K (.ref cE) (.ref cF) = some false)
    (s4_6 : PySem.W.subIn K (.ref cE) (.ref cG) = some false)
    (nm5 : mg "Later" = some (.ref cF))
    (cl5 : Cls K cF)
    (b5 : BkI K cF)
    (ic5 : PySem.W.isClsIn K cF = true)
    (ti5 : PySem.W.typeIn K (.ref cF) = some (.type "type"))
    (sf5 : PySem.W.selfFirst K cF = true)
    (at5 : PySem.W.findIn K (.ref cF) "__add__" = some (some (.ref fadd)))
    (rt5 : PySem.W.findIn K (.ref cF) "__radd__" = some none)
    (si5 : PySem.W.subIn K (.type "int") (.ref cF) = some false)
    (or5 : PySem.W.findIn K (.ref cF) "__or__" = some (some (.ref fior)))
    (ro5 : PySem.W.findIn K (.ref cF) "__ror__" = some none)
    (la5 : PySem.W.findIn K (.ref cF) "later" = some (some (.ref flat)))
    (ea5 : PySem.W.findIn K (.ref cF) "earlier" = some (some (.ref fear)))
    (n5_0 : NoAttr K cF "stream")
    (n5_1 : NoAttr K cF "term")
    (n5_2 : NoAttr K cF "first")
    (n5_3 : NoAttr K cF "second")
    (n5_4 : NoAttr K cF "amount")
    (n5_5 : NoAttr K cF "spelling")
    (n5_6 : NoAttr K cF "depth")
    (n5_7 : NoAttr K cF "parts")
    (n5_8 : NoAttr K cF "looks")
    (n5_9 : NoAttr K cF "choices")
    (s5_0 : PySem.W.subIn K (.ref cF) (.ref cA) = some false)
    (s5_1 : PySem.W.subIn K (.ref cF) (.ref cB) = some false)
    (s5_2 : PySem.W.subIn K (.ref cF) (.ref cC) = some false)
    (s5_3 : PySem.W.subIn K (.ref cF) (.ref cD) = some false)
    (s5_4 : PySem.W.subIn K (.ref cF) (.ref cE) = some false)
    (s5_5 : PySem.W.subIn K (.ref cF) (.ref cF) = some true)
    (s5_6 : PySem.W.subIn K (.ref cF) (.ref cG) = some false)
    (nm6 : mg "Earlier" = some (.ref cG))
    (cl6 : Cls K cG)
    (b6 : BkI K cG)
    (ic6 : PySem.W.isClsIn K cG = true)
    (ti6 : PySem.W.typeIn K (.ref cG) = some (.type "type"))
    (sf6 : PySem.W.selfFirst K cG = true)
    (at6 : PySem.W.findIn K (.ref cG) "__add__" = some (some (.ref fadd)))
    (rt6 : PySem.W.findIn K (.ref cG) "__radd__" = some none)
    (si6 : PySem.W.subIn K (.type "int") (.ref cG) = some false)
    (or6 : PySem.W.findIn K (.ref cG) "__or__" = some (some (.ref fior)))
    (ro6 : PySem.W.findIn K (.ref cG) "__ror__" = some none)
    (la6 : PySem.W.findIn K (.ref cG) "later" = some (some (.ref flat)))
    (ea6 : PySem.W.findIn K (.ref cG) "earlier" = some (some (.ref fear)))
    (n6_0 : NoAttr K cG "stream")
    (n6_1 : NoAttr K cG "term")
    (n6_2 : NoAttr K cG "first")
    (n6_3 : NoAttr K cG "second")
    (n6_4 : NoAttr K cG "amount")
    (n6_5 : NoAttr K cG "spelling")
    (n6_6 : NoAttr K cG "depth")
    (n6_7 : NoAttr K cG "parts")
    (n6_8 : NoAttr K cG "looks")
    (n6_9 : NoAttr K cG "choices")
    (s6_0 : PySem.W.subIn K (.ref cG) (.ref cA) = some false)
    (s6_1 : PySem.W.subIn K (.ref cG) (.ref cB) = some false)
    (s6_2 : PySem.W.subIn K (.ref cG) (.ref cC) = some false)
    (s6_3 : PySem.W.subIn K (.ref cG) (.ref cD) = some false)
    (s6_4 : PySem.W.subIn K (.ref cG) (.ref cE) = some false)
    (s6_5 : PySem.W.subIn K (.ref cG) (.ref cF) = some false)
    (s6_6 : PySem.W.subIn K (.ref cG) (.ref cG) = some true)
    (su0 : PySem.W.findIn K (.ref cA) "__sub__" = some (some (.ref fsub)))
    (rs0 : PySem.W.findIn K (.ref cA) "__rsub__" = some none)
    (nq0 : PySem.W.findIn K (.ref cA) "__ne__" = some (some (.builtin "object.__ne__")))
    (eq0 : PySem.W.findIn K (.ref cA) "__eq__" = some (some (.ref fteq)))
    (ob0 : PySem.W.subIn K (.ref cA) (.type "object") = some true)
    (su1 : PySem.W.findIn K (.ref cB) "__sub__" = some (some (.ref fsub)))
    (rs1 : PySem.W.findIn K (.ref cB) "__rsub__" = some none)
    (nq1 : PySem.W.findIn K (.ref cB) "__ne__" = some (some (.builtin "object.__ne__")))
    (eq1 : PySem.W.findIn K (.ref cB) "__eq__" = some (some (.ref fteq)))
    (ob1 : PySem.W.subIn K (.ref cB) (.type "object") = some true)
    (su2 : PySem.W.findIn K (.ref cC) "__sub__" = some (some (.ref fsub)))
    (rs2 : PySem.W.findIn K (.ref cC) "__rsub__" = some none)
    (nq2 : PySem.W.findIn K (.ref cC) "__ne__" = some (some (.builtin "object.__ne__")))
    (eq2 : PySem.W.findIn K (.ref cC) "__eq__" = some (some (.ref fteq)))
    (ob2 : PySem.W.subIn K (.ref cC) (.type "object") = some true)
    (su3 : PySem.W.findIn K (.ref cD) "__sub__" = some (some (.ref fsub)))
    (rs3 : PySem.W.findIn K (.ref cD) "__rsub__" = some none)
    (nq3 : PySem.W.findIn K (.ref cD) "__ne__" = some (some (.builtin "object.__ne__")))
    (eq3 : PySem.W.findIn K (.ref cD) "__eq__" = some (some (.ref fteq)))
    (ob3 : PySem.W.subIn K (.ref cD) (.type "object") = some true)
    (su4 : PySem.W.findIn K (.ref cE) "__sub__" = some (some (.ref fsub)))
    (rs4 : PySem.W.findIn K (.ref cE) "__rsub__" = some none)
    (nq4 : PySem.W.findIn K (.ref cE) "__ne__" = some (some (.builtin "object.__ne__")))
    (eq4 : PySem.W.findIn K (.ref cE) "__eq__" = some (some (.ref fteq)))
    (ob4 : PySem.W.subIn K (.ref cE) (.type "object") = some true)
    (su5 : PySem.W.findIn K (.ref cF) "__sub__" = some (some (.ref fsub)))
    (rs5 : PySem.W.findIn K (.ref cF) "__rsub__" = some none)
    (nq5 : PySem.W.findIn K (.ref cF) "__ne__" = some (some (.builtin "object.__ne__")))
    (eq5 : PySem.W.findIn K (.ref cF) "__eq__" = some (some (.ref fteq)))
    (ob5 : PySem.W.subIn K (.ref cF) (.type "object") = some true)
    (su6 : PySem.W.findIn K (.ref cG) "__sub__" = some (some (.ref fsub)))
    (rs6 : PySem.W.findIn K (.ref cG) "__rsub__" = some none)
    (nq6 : PySem.W.findIn K (.ref cG) "__ne__" = some (some (.builtin "object.__ne__")))
    (eq6 : PySem.W.findIn K (.ref cG) "__eq__" = some (some (.ref fteq)))
    (ob6 : PySem.W.subIn K (.ref cG) (.type "object") = some true)
    (anq0 : PySem.W.findIn K (.ref aA) "__ne__" = some (some (.builtin "object.__ne__")))
    (aeq0 : PySem.W.findIn K (.ref aA) "__eq__" = some (some (.ref faeq)))
    (aob0 : PySem.W.subIn K (.ref aA) (.type "object") = some true)
    (ta0_0 : PySem.W.subIn K (.ref cA) (.ref aA) = some false)
    (ta0_1 : PySem.W.subIn K (.ref cB) (.ref aA) = some false)
    (ta0_2 : PySem.W.subIn K (.ref cC) (.ref aA) = some false)
    (ta0_3 : PySem.W.subIn K (.ref cD) (.ref aA) = some false)
    (ta0_4 : PySem.W.subIn K (.ref cE) (.ref aA) = some false)
    (ta0_5 : PySem.W.subIn K (.ref cF) (.ref aA) = some false)
    (ta0_6 : PySem.W.subIn K (.ref cG) (.ref aA) = some false)
    (anq1 : PySem.W.findIn K (.ref aB) "__ne__" = some (some (.builtin "object.__ne__")))
    (aeq1 : PySem.W.findIn K (.ref aB) "__eq__" = some (some (.ref faeq)))
    (aob1 : PySem.W.subIn K (.ref aB) (.type "object") = some true)
    (ta1_0 : PySem.W.subIn K (.ref cA) (.ref aB) = some false)
    (ta1_1 : PySem.W.subIn K (.ref cB) (.ref aB) = some false)
    (ta1_2 : PySem.W.subIn K (.ref cC) (.ref aB) = some false)
    (ta1_3 : PySem.W.subIn K (.ref cD) (.ref aB) = some false)
    (ta1_4 : PySem.W.subIn K (.ref cE) (.ref aB) = some false)
    (ta1_5 : PySem.W.subIn K (.ref cF) (.ref aB) = some false)
    (ta1_6 : PySem.W.subIn K (.ref cG) (.ref aB) = some false)
    (anq2 : PySem.W.findIn K (.ref aC) "__ne__" = some (some (.builtin "object.__ne__")))
    (aeq2 : PySem.W.findIn K (.ref aC) "__eq__" = some (some (.ref faeq)))
    (aob2 : PySem.W.subIn K (.ref aC) (.type "object") = some true)
    (ta2_0 : PySem.W.subIn K (.ref cA) (.ref aC) = some false)
    (ta2_1 : PySem.W.subIn K (.ref cB) (.ref aC) = some false)
    (ta2_2 : PySem.W.subIn K (.ref cC) (.ref aC) = some false)
    (ta2_3 : PySem.W.subIn K (.ref cD) (.ref aC) = some false)
    (ta2_4 : PySem.W.subIn K (.ref cE) (.ref aC) = some false)
    (ta2_5 : PySem.W.subIn K (.ref cF) (.ref aC) = some false)
    (ta2_6 : PySem.W.subIn K (.ref cG) (.ref aC) = some false)
    (anq3 : PySem.W.findIn K (.ref aD) "__ne__" = some (some (.builtin "object.__ne__")))
    (aeq3 : PySem.W.findIn K (.ref aD) "__eq__" = some (some (.ref faeq)))
    (aob3 : PySem.W.subIn K (.ref aD) (.type "object") = some true)
    (ta3_0 : PySem.W.subIn K (.ref cA) (.ref aD) = some false)
    (ta3_1 : PySem.W.subIn K (.ref cB) (.ref aD) = some false)
    (ta3_2 : PySem.W.subIn K (.ref cC) (.ref aD) = some false)
    (ta3_3 : PySem.W.subIn K (.ref cD) (.ref aD) = some false)
    (ta3_4 : PySem.W.subIn K (.ref cE) (.ref aD) = some false)
    (ta3_5 : PySem.W.subIn K (.ref cF) (.ref aD) = some false)
    (ta3_6 : PySem.W.subIn K (.ref cG) (.ref aD) = some false)
    (i3 : PySem.W.findIn K (.type "int") "__sub__" = some (some (.builtin "int.__sub__")))
    (i4 : PySem.W.findIn K (.type "int") "__rsub__" = some (some (.builtin "int.__rsub__")))
    (mk0 : PySem.W.makesIn K cA = true)
    (kp0 : PySem.W.keepIn K (.ref cA) = true)
    (mk1 : PySem.W.makesIn K cB = true)
    (kp1 : PySem.W.keepIn K (.ref cB) = true)
    (mk2 : PySem.W.makesIn K cC = true)
    (kp2 : PySem.W.keepIn K (.ref cC) = true)
    (mk3 : PySem.W.makesIn K cD = true)
    (kp3 : PySem.W.keepIn K (.ref cD) = true)
    (mk4 : PySem.W.makesIn K cE = true)
    (kp4 : PySem.W.keepIn K (.ref cE) = true)
    (mk5 : PySem.W.makesIn K cF = true)
    (kp5 : PySem.W.keepIn K (.ref cF) = true)
    (mk6 : PySem.W.makesIn K cG = true)
    (kp6 : PySem.W.keepIn K (.ref cG) = true)
    (i1 : PySem.W.findIn K (.type "int") "__add__" = some (some (.builtin "int.__add__")))
    (i2 : PySem.W.findIn K (.type "int") "__radd__" = some (some (.builtin "int.__radd__")))
    (anm0 : mg "Number" = some (.ref aA))
    (acl0 : Cls K aA)
    (ab0 : BkI K aA)
    (aic0 : PySem.W.isClsIn K aA = true)
    (ati0 : PySem.W.typeIn K (.ref aA) = some (.type "type"))
    (an0_0 : NoAttr K aA "stream")
    (an0_1 : NoAttr K aA "term")
    (an0_2 : NoAttr K aA "first")
    (an0_3 : NoAttr K aA "last")
    (an0_4 : NoAttr K aA "spelling")
    (as0_0 : PySem.W.subIn K (.ref aA) (.ref aA) = some true)
    (as0_1 : PySem.W.subIn K (.ref aA) (.ref aB) = some false)
    (as0_2 : PySem.W.subIn K (.ref aA) (.ref aC) = some false)
    (as0_3 : PySem.W.subIn K (.ref aA) (.ref aD) = some false)
    (at0_0 : PySem.W.subIn K (.ref aA) (.ref cA) = some false)
    (at0_1 : PySem.W.subIn K (.ref aA) (.ref cB) = some false)
    (at0_2 : PySem.W.subIn K (.ref aA) (.ref cC) = some false)
    (at0_3 : PySem.W.subIn K (.ref aA) (.ref cD) = some false)
    (at0_4 : PySem.W.subIn K (.ref aA) (.ref cE) = some false)
    (at0_5 : PySem.W.subIn K (.ref aA) (.ref cF) = some false)
    (at0_6 : PySem.W.subIn K (.ref aA) (.ref cG) = some false)
    (amk0 : PySem.W.makesIn K aA = true)
    (akp0 : PySem.W.keepIn K (.ref aA) = true)
    (anm1 : mg "Count" = some (.ref aB))
    (acl1 : Cls K aB)
    (ab1 : BkI K aB)
    (aic1 : PySem.W.isClsIn K aB = true)
    (ati1 : PySem.W.typeIn K (.ref aB) = some (.type "type"))
    (an1_0 : NoAttr K aB "stream")
    (an1_1 : NoAttr K aB "term")
    (an1_2 : NoAttr K aB "first")
    (an1_3 : NoAttr K aB "last")
    (an1_4 : NoAttr K aB "spelling")
    (as1_0 : PySem.W.subIn K (.ref aB) (.ref aA) = some false)
    (as1_1 : PySem.W.subIn K (.ref aB) (.ref aB) = some true)
    (as1_2 : PySem.W.subIn K (.ref aB) (.ref aC) = some false)
    (as1_3 : PySem.W.subIn K (.ref aB) (.ref aD) = some false)
    (at1_0 : PySem.W.subIn K (.ref aB) (.ref cA) = some false)
    (at1_1 : PySem.W.subIn K (.ref aB) (.ref cB) = some false)
    (at1_2 : PySem.W.subIn K (.ref aB) (.ref cC) = some false)
    (at1_3 : PySem.W.subIn K (.ref aB) (.ref cD) = some false)
    (at1_4 : PySem.W.subIn K (.ref aB) (.ref cE) = some false)
    (at1_5 : PySem.W.subIn K (.ref aB) (.ref cF) = some false)
    (at1_6 : PySem.W.subIn K (.ref aB) (.ref cG) = some false)
    (amk1 : PySem.W.makesIn K aB = true)
    (akp1 : PySem.W.keepIn K (.ref aB) = true)
    (anm2 : mg "Total" = some (.ref aC))
    (acl2 : Cls K aC)
    (ab2 : BkI K aC)
    (aic2 : PySem.W.isClsIn K aC = true)
    (ati2 : PySem.W.typeIn K (.ref aC) = some (.type "type"))
    (an2_0 : NoAttr K aC "stream")
    (an2_1 : NoAttr K aC "term")
    (an2_2 : NoAttr K aC "first")
    (an2_3 : NoAttr K aC "last")
    (an2_4 : NoAttr K aC "spelling")
    (as2_0 : PySem.W.subIn K (.ref aC) (.ref aA) = some false)
    (as2_1 : PySem.W.subIn K (.ref aC) (.ref aB) = some false)
    (as2_2 : PySem.W.subIn K (.ref aC) (.ref aC) = some true)
    (as2_3 : PySem.W.subIn K (.ref aC) (.ref aD) = some false)
    (at2_0 : PySem.W.subIn K (.ref aC) (.ref cA) = some false)
    (at2_1 : PySem.W.subIn K (.ref aC) (.ref cB) = some false)
    (at2_2 : PySem.W.subIn K (.ref aC) (.ref cC) = some false)
    (at2_3 : PySem.W.subIn K (.ref aC) (.ref cD) = some false)
    (at2_4 : PySem.W.subIn K (.ref aC) (.ref cE) = some false)
    (at2_5 : PySem.W.subIn K (.ref aC) (.ref cF) = some false)
    (at2_6 : PySem.W.subIn K (.ref aC) (.ref cG) = some false)
    (amk2 : PySem.W.makesIn K aC = true)
    (akp2 : PySem.W.keepIn K (.ref aC) = true)
    (anm3 : mg "Gap" = some (.ref aD))
    (acl3 : Cls K aD)
    (ab3 : BkI K aD)
    (aic3 : PySem.W.isClsIn K aD = true)
    (ati3 : PySem.W.typeIn K (.ref aD) = some (.type "type"))
    (an3_0 : NoAttr K aD "stream")
    (an3_1 : NoAttr K aD "term")
    (an3_2 : NoAttr K aD "first")
    (an3_3 : NoAttr K aD "last")
    (an3_4 : NoAttr K aD "spelling")
    (as3_0 : PySem.W.subIn K (.ref aD) (.ref aA) = some false)
    (as3_1 : PySem.W.subIn K (.ref aD) (.ref aB) = some false)
    (as3_2 : PySem.W.subIn K (.ref aD) (.ref aC) = some false)
    (as3_3 : PySem.W.subIn K (.ref aD) (.ref aD) = some true)
    (at3_0 : PySem.W.subIn K (.ref aD) (.ref cA) = some false)
    (at3_1 : PySem.W.subIn K (.ref aD) (.ref cB) = some false)
    (at3_2 : PySem.W.subIn K (.ref aD) (.ref cC) = some false)
    (at3_3 : PySem.W.subIn K (.ref aD) (.ref cD) = some false)
    (at3_4 : PySem.W.subIn K (.ref aD) (.ref cE) = some false)
    (at3_5 : PySem.W.subIn K (.ref aD) (.ref cF) = some false)
    (at3_6 : PySem.W.subIn K (.ref aD) (.ref cG) = some false)
    (amk3 : PySem.W.makesIn K aD = true)
    (akp3 : PySem.W.keepIn K (.ref aD) = true)
    (d_is_integer : D1 K mg "is_integer" s_is_integer)
    (d_is_natural : D1 K mg "is_natural" s_is_natural)
    (d_is_name : D1 K mg "is_name" s_is_name)
    (d_are_integers : D1 K mg "are_integers" s_are_integers)
    (d_is_row : D1 K mg "is_row" s_is_row)
    (d_are_rows : D1 K mg "are_rows" s_are_rows)
    (d_first_twice : D1 K mg "first_twice" s_first_twice)
    (d_is_rows : D1 K mg "is_rows" s_is_rows)
    (d_is_term : D1 K mg "is_term" s_is_term)
    (d_is_look : D1 K mg "is_look" s_is_look)
    (d_checked_stream : D1 K mg "checked_stream" s_checked_stream)
    (d_checked_term : D1 K mg "checked_term" s_checked_term)
    (d_sizes : D1 K mg "sizes" s_sizes)
    (d_shifted : D1 K mg "shifted" s_shifted)
    (d_last_row : D1 K mg "last_row" s_last_row)
    (d_next_row : D1 K mg "next_row" s_next_row)
    (d_moved : D1 K mg "moved" s_moved)
    (d_looked : D1 K mg "looked" s_looked)
    (d_followed_either : D1 K mg "followed_either" s_followed_either)
    (d_followed_both : D1 K mg "followed_both" s_followed_both)
    (d_followed : D1 K mg "followed" s_followed)
    (d_is_amount : D1 K mg "is_amount" s_is_amount)
    (d_told_between : D1 K mg "told_between" s_told_between)
    (d_is_question : D1 K mg "is_question" s_is_question)
    (d_check : D1 K mg "check" s_check)
    (d_answered : D1 K mg "answered" s_answered)
    (d_value : D1 K mg "value" s_value)
    (d__law_pool : D1 K mg "_law_pool" s_l_pool)
    (d__law_draw : D1 K mg "_law_draw" s_l_draw)
    (d__law_names : D1 K mg "_law_names" s_l_names)
    (d__law_moment : D1 K mg "_law_moment" s_l_moment)
    (d__law_rows : D1 K mg "_law_rows" s_l_rows)
    (d__law_term : D1 K mg "_law_term" s_l_term)
    (d__law_built : D1 K mg "_law_built" s_l_built)
    (d_support : D1 K mg "support" s_support)
    (d__law_question : D1 K mg "_law_question" s_l_question)
    (d__law_asked : D1 K mg "_law_asked" s_l_asked)
    (d__law_same : D1 K mg "_law_same" s_l_same)
    (d_term_from : D1 K mg "term_from" s_term_from)
    (d_amount_from : D1 K mg "amount_from" s_amount_from)
    (d_seen_from : D1 K mg "seen_from" s_seen_from)
    (d__law_deep : D1 K mg "_law_deep" s_l_deep)
    (d__law_size : D1 K mg "_law_size" s_l_size)
    (m_WI : DM K CW "__init__" "World.__init__" s_World_init)
    (m_WR : DM K CW "rows" "World.rows" s_World_rows)
    (m_NI : DM K cA "__init__" "Now.__init__" s_Now_init)
    (m_LI : DM K cB "__init__" "Last.__init__" s_Last_init)
    (m_XI : DM K cC "__init__" "Next.__init__" s_Next_init)
    (m_SI : DM K cD "__init__" "Shift.__init__" s_Shift_init)
    (m_EI : DM K cE "__init__" "Either.__init__" s_Either_init)
    (m_JI : DM K cF "__init__" "Later.__init__" s_Later_init)
    (m_KI : DM K cG "__init__" "Earlier.__init__" s_Earlier_init)
    (m_nuI : DM K aA "__init__" "Number.__init__" s_Number_init)
    (m_coI : DM K aB "__init__" "Count.__init__" s_Count_init)
    (m_toI : DM K aC "__init__" "Total.__init__" s_Total_init)
    (m_gaI : DM K aD "__init__" "Gap.__init__" s_Gap_init)
    (m_add : DQ K cA fadd "__add__" "Term.__add__" s_Term_add)
    (m_ior : DQ K cA fior "__or__" "Term.__or__" s_Term_or)
    (m_lat : DQ K cA flat "later" "Term.later" s_Term_later)
    (m_ear : DQ K cA fear "earlier" "Term.earlier" s_Term_earlier)
    (m_sub : DQ K cA fsub "__sub__" "Term.__sub__" s_Term_sub)
    (m_teq : DQ K cA fteq "__eq__" "Term.__eq__" s_Term_eq)
    (m_aeq : DQ K aA faeq "__eq__" "Amount.__eq__" s_Amount_eq)
    : ∃ fd : FuncData, (∀ (s : Shared) (v : Value), BindsTo s fd ⟨[v], []⟩ [("script", v)]) ∧ ∀ base : Heap, K.In base → base.Ns mainGlobals mg → FnOk P w K mg base CX0 40 fa fd ["script"] (spLaw K) := by
  have e := hfa.symm.trans (PySem.W.mg_of X G a4)
  cases e
  exact ⟨PySem.W.fnOf "law" "law" (defArgs s_law) (defBody s_law) (defScope s_law) .none kV4 dc4 pm4 an4 cd4 ct4, fun s v => .of_eq rfl, fun base _ _ => all_ok M B Cs TW wi mkW kW nm0 cl0 b0 ic0 ti0 sf0 at0 rt0 si0 or0 ro0 la0 ea0 n0_0 n0_1 n0_2 n0_3 n0_4 n0_5 n0_6 n0_7 n0_8 n0_9 s0_0 s0_1 s0_2 s0_3 s0_4 s0_5 s0_6 nm1 cl1 b1 ic1 ti1 sf1 at1 rt1 si1 or1 ro1 la1 ea1 n1_0 n1_1 n1_2 n1_3 n1_4 n1_5 n1_6 n1_7 n1_8 n1_9 s1_0 s1_1 s1_2 s1_3 s1_4 s1_5 s1_6 nm2 cl2 b2 ic2 ti2 sf2 at2 rt2 si2 or2 ro2 la2 ea2 n2_0 n2_1 n2_2 n2_3 n2_4 n2_5 n2_6 n2_7 n2_8 n2_9 s2_0 s2_1 s2_2 s2_3 s2_4 s2_5 s2_6 nm3 cl3 b3 ic3 ti3 sf3 at3 rt3 si3 or3 ro3 la3 ea3 n3_0 n3_1 n3_2 n3_3 n3_4 n3_5 n3_6 n3_7 n3_8 n3_9 s3_0 s3_1 s3_2 s3_3 s3_4 s3_5 s3_6 nm4 cl4 b4 ic4 ti4 sf4 at4 rt4 si4 or4 ro4 la4 ea4 n4_0 n4_1 n4_2 n4_3 n4_4 n4_5 n4_6 n4_7 n4_8 n4_9 s4_0 s4_1 s4_2 s4_3 s4_4 s4_5 s4_6 nm5 cl5 b5 ic5 ti5 sf5 at5 rt5 si5 or5 ro5 la5 ea5 n5_0 n5_1 n5_2 n5_3 n5_4 n5_5 n5_6 n5_7 n5_8 n5_9 s5_0 s5_1 s5_2 s5_3 s5_4 s5_5 s5_6 nm6 cl6 b6 ic6 ti6 sf6 at6 rt6 si6 or6 ro6 la6 ea6 n6_0 n6_1 n6_2 n6_3 n6_4 n6_5 n6_6 n6_7 n6_8 n6_9 s6_0 s6_1 s6_2 s6_3 s6_4 s6_5 s6_6 su0 rs0 nq0 eq0 ob0 su1 rs1 nq1 eq1 ob1 su2 rs2 nq2 eq2 ob2 su3 rs3 nq3 eq3 ob3 su4 rs4 nq4 eq4 ob4 su5 rs5 nq5 eq5 ob5 su6 rs6 nq6 eq6 ob6 anq0 aeq0 aob0 ta0_0 ta0_1 ta0_2 ta0_3 ta0_4 ta0_5 ta0_6 anq1 aeq1 aob1 ta1_0 ta1_1 ta1_2 ta1_3 ta1_4 ta1_5 ta1_6 anq2 aeq2 aob2 ta2_0 ta2_1 ta2_2 ta2_3 ta2_4 ta2_5 ta2_6 anq3 aeq3 aob3 ta3_0 ta3_1 ta3_2 ta3_3 ta3_4 ta3_5 ta3_6 i3 i4 mk0 kp0 mk1 kp1 mk2 kp2 mk3 kp3 mk4 kp4 mk5 kp5 mk6 kp6 i1 i2 anm0 acl0 ab0 aic0 ati0 an0_0 an0_1 an0_2 an0_3 an0_4 as0_0 as0_1 as0_2 as0_3 at0_0 at0_1 at0_2 at0_3 at0_4 at0_5 at0_6 amk0 akp0 anm1 acl1 ab1 aic1 ati1 an1_0 an1_1 an1_2 an1_3 an1_4 as1_0 as1_1 as1_2 as1_3 at1_0 at1_1 at1_2 at1_3 at1_4 at1_5 at1_6 amk1 akp1 anm2 acl2 ab2 aic2 ati2 an2_0 an2_1 an2_2 an2_3 an2_4 as2_0 as2_1 as2_2 as2_3 at2_0 at2_1 at2_2 at2_3 at2_4 at2_5 at2_6 amk2 akp2 anm3 acl3 ab3 aic3 ati3 an3_0 an3_1 an3_2 an3_3 an3_4 as3_0 as3_1 as3_2 as3_3 at3_0 at3_1 at3_2 at3_3 at3_4 at3_5 at3_6 amk3 akp3 d_is_integer d_is_natural d_is_name d_are_integers d_is_row d_are_rows d_first_twice d_is_rows d_is_term d_is_look d_checked_stream d_checked_term d_sizes d_shifted d_last_row d_next_row d_moved d_looked d_followed_either d_followed_both d_followed d_is_amount d_told_between d_is_question d_check d_answered d_value d__law_pool d__law_draw d__law_names d__law_moment d__law_rows d__law_term d__law_built d_support d__law_question d__law_asked d__law_same d_term_from d_amount_from d_seen_from d__law_deep d__law_size m_WI m_WR m_NI m_LI m_XI m_SI m_EI m_JI m_KI m_nuI m_coI m_toI m_gaI m_add m_ior m_lat m_ear m_sub m_teq m_aeq (fun_mk l4 c4 k4)⟩
theorem walk {l : PySem.W.OpenLaw} {q : Program} {loose : List Str} {XP : (Str → Option Value) → Heap → Prop} {YP : World → Heap → Prop} {d : DefRec} {K : Params → PySem.W.Frag} (hn : l.most = some 63) (hdf : d.params.defaults = [])
    (hY : ∀ (w : World) (h : Heap), YP w h → (K w.params).In h)
    (F : ∀ (w : World) (mg : Str → Option Value) (fa : Addr) (h : Heap), (K w.params).In h → h.Ns mainGlobals mg → mg d.name = some (.ref fa) →
      ∃ fd : FuncData, (∀ (s : Shared) (u : Value), BindsTo s fd ⟨[u], []⟩ [("script", u)]) ∧ ∀ base : Heap, (K w.params).In base → base.Ns mainGlobals mg → FnOk l.prog w (K w.params) mg base CX0 40 fa fd ["script"] (spLaw (K w.params))) :
    PySem.W.WalkO q loose XP YP l.row.toRowW d [] (fun f vs => PySem.call f vs) :=
  L2.walk_of (n := 63) (k := 40) (x := "script") (CX := fun _ => CX0) (sp := fun w => spLaw (K w.params)) hn (by decide) hdf ⟨rfl, by decide, by decide⟩ hY F (fun _ _ a ns hl _ hS => ⟨a, ns, rfl, hS, hl, fun _ => rfl⟩) fun _ _ _ _ _ z => z
end Ash

set_option Elab.async false
open PySem PySem.W PyProof.Rows
/-! names that are taken: the head makes no twins of these parts of the heap -/
theorem PySem.W.Fast.tw1715001245706794975 : True := trivial
theorem PySem.W.Fast.tw4117196019823641490 : True := trivial
theorem PySem.W.Fast.tw10240927232764115944 : True := trivial
theorem PySem.W.Fast.tw6102545184616234036 : True := trivial
theorem PySem.W.Fast.tw14926076404241931009 : True := trivial
theorem PySem.W.Fast.tw7671652192452547613 : True := trivial
theorem PySem.W.Fast.tw2749337397053425120 : True := trivial
theorem PySem.W.Fast.tw3362023784007004653 : True := trivial
theorem PySem.W.Fast.tw3729020134217600057 : True := trivial
theorem PySem.W.Fast.tw15563542688206622884 : True := trivial
theorem PySem.W.Fast.tw4596653891901293072 : True := trivial
theorem PySem.W.Fast.tw8540287173471156237 : True := trivial
theorem PySem.W.Fast.tw842136726125653353 : True := trivial
theorem PySem.W.Fast.tw15337731850572936252 : True := trivial
theorem PySem.W.Fast.tw8837254754557668167 : True := trivial
theorem PySem.W.Fast.tw13823324089316075477 : True := trivial
theorem PySem.W.Fast.tw2421928139542831312 : True := trivial
theorem PySem.W.Fast.tw12160020437121182998 : True := trivial
theorem PySem.W.Fast.tw17739057014058850728 : True := trivial
theorem PySem.W.Fast.tw11270643044891070501 : True := trivial
theorem PySem.W.Fast.tw7405581947642446981 : True := trivial
theorem PySem.W.Fast.tw10157102044587999771 : True := trivial
theorem PySem.W.Fast.tw17860024743311616962 : True := trivial
theorem PySem.W.Fast.tw9835917343375585403 : True := trivial
theorem PySem.W.Fast.tw6109450388127736308 : True := trivial
theorem PySem.W.Fast.tw17273768906914523662 : True := trivial
theorem PySem.W.Fast.tw8860866990288323622 : True := trivial
theorem PySem.W.Fast.tw2563929846916239272 : True := trivial
theorem PySem.W.Fast.tw13505427428643167236 : True := trivial
theorem PySem.W.Fast.tw1014091477461041422 : True := trivial
theorem PySem.W.Fast.tw16339042420982496536 : True := trivial
theorem PySem.W.Fast.tw9780627654833382577 : True := trivial
theorem PySem.W.Fast.tw3693532073113328745 : True := trivial
theorem PySem.W.Fast.tw15835424821262061430 : True := trivial
theorem PySem.W.Fast.tw16387485848209391910 : True := trivial
theorem PySem.W.Fast.tw17688924256774398295 : True := trivial
theorem PySem.W.Fast.tw12273812138522149088 : True := trivial
theorem PySem.W.Fast.tw12171917926110728759 : True := trivial
theorem PySem.W.Fast.tw10707218850035271976 : True := trivial
theorem PySem.W.Fast.tw9438774449848278476 : True := trivial
theorem PySem.W.Fast.tw881186643977067749 : True := trivial
theorem PySem.W.Fast.tw12987569064381387858 : True := trivial
theorem PySem.W.Fast.tw8173223395548722189 : True := trivial
theorem PySem.W.Fast.tw16792057906068241414 : True := trivial
theorem PySem.W.Fast.tw9430862401791798160 : True := trivial
theorem PySem.W.Fast.tw11713884975431382261 : True := trivial
theorem PySem.W.Fast.tw4872403340100661540 : True := trivial
theorem PySem.W.Fast.tw4526548225371061577 : True := trivial
theorem PySem.W.Fast.tw14505718268632475285 : True := trivial
theorem PySem.W.Fast.tw9696008414347781805 : True := trivial
theorem PySem.W.Fast.tw16384157838410978115 : True := trivial
theorem PySem.W.Fast.tw18215396256839058510 : True := trivial
theorem PySem.W.Fast.tw2094194398898413433 : True := trivial
theorem PySem.W.Fast.tw2474828433655219036 : True := trivial
theorem PySem.W.Fast.tw13545171164851682833 : True := trivial
theorem PySem.W.Fast.tw11666873908743065787 : True := trivial
theorem PySem.W.Fast.tw1304996344665302720 : True := trivial
theorem PySem.W.Fast.tw13128247822669268717 : True := trivial
theorem PySem.W.Fast.tw4862660454038790647 : True := trivial
theorem PySem.W.Fast.tw15890134866306120782 : True := trivial
theorem PySem.W.Fast.tw2681029519072913483 : True := trivial
theorem PySem.W.Fast.tw5215363482003129948 : True := trivial
theorem PySem.W.Fast.tw15500889341786224210 : True := trivial
theorem PySem.W.Fast.tw5155143234612015887 : True := trivial
theorem PySem.W.Fast.tw4955727355460136318 : True := trivial
theorem PySem.W.Fast.tw8904138247417120167 : True := trivial
theorem PySem.W.Fast.tw5327190101879559775 : True := trivial
theorem PySem.W.Fast.tw11373881386727971445 : True := trivial
theorem PySem.W.Fast.tw2540972045003272141 : True := trivial
theorem PySem.W.Fast.tw5506375636164386497 : True := trivial
theorem PySem.W.Fast.tw3982931884023213824 : True := trivial
theorem PySem.W.Fast.tw10124860814431434038 : True := trivial
theorem PySem.W.Fast.tw3647106141132746150 : True := trivial
theorem PySem.W.Fast.tw12996196287845856776 : True := trivial
theorem PySem.W.Fast.tw5482638892808696401 : True := trivial
theorem PySem.W.Fast.tw10806695459646892493 : True := trivial
theorem PySem.W.Fast.tw6159830455252484683 : True := trivial
theorem PySem.W.Fast.tw8100602910937634872 : True := trivial
theorem PySem.W.Fast.tw7659803176674829565 : True := trivial
theorem PySem.W.Fast.tw1610703464365713356 : True := trivial
theorem PySem.W.Fast.tw5466213707337977791 : True := trivial
theorem PySem.W.Fast.tw810305167588348594 : True := trivial
theorem PySem.W.Fast.tw9765598294263112103 : True := trivial
theorem PySem.W.Fast.tw9960870135365390028 : True := trivial
theorem PySem.W.Fast.tw9895712860924105360 : True := trivial
theorem PySem.W.Fast.tw4902938049646823802 : True := trivial
theorem PySem.W.Fast.tw1102705405019003238 : True := trivial
theorem PySem.W.Fast.tw15663301490271222316 : True := trivial
theorem PySem.W.Fast.tw550409443482378633 : True := trivial
theorem PySem.W.Fast.tw10921635515291760642 : True := trivial
theorem PySem.W.Fast.tw1630451641250703820 : True := trivial
theorem PySem.W.Fast.tw12581040194932627329 : True := trivial
theorem PySem.W.Fast.tw3473314498021388231 : True := trivial
theorem PySem.W.Fast.tw15845729827638072681 : True := trivial
theorem PySem.W.Fast.tw17250218403252204025 : True := trivial
theorem PySem.W.Fast.tw4701689601428594909 : True := trivial
theorem PySem.W.Fast.tw14401400411694023700 : True := trivial
theorem PySem.W.Fast.tw1970302267770148208 : True := trivial
theorem PySem.W.Fast.tw1655469398362543596 : True := trivial
theorem PySem.W.Fast.tw7398082858670277048 : True := trivial
theorem PySem.W.Fast.tw1615818374940206413 : True := trivial
theorem PySem.W.Fast.tw230195051468495357 : True := trivial
theorem PySem.W.Fast.tw140889202131704266 : True := trivial
theorem PySem.W.Fast.tw17879466016474957144 : True := trivial
theorem PySem.W.Fast.tw15459438217753690628 : True := trivial
theorem PySem.W.Fast.tw2474480848456561361 : True := trivial
theorem PySem.W.Fast.tw8254348274263713542 : True := trivial
theorem PySem.W.Fast.tw15031564161137312172 : True := trivial
theorem PySem.W.Fast.tw4916965705803934854 : True := trivial
theorem PySem.W.Fast.tw14488907552750293649 : True := trivial
theorem PySem.W.Fast.tw8039641214498620590 : True := trivial
theorem PySem.W.Fast.tw4319968849263357042 : True := trivial
theorem PySem.W.Fast.tw18162406780103791964 : True := trivial
theorem PySem.W.Fast.tw12330998273873282044 : True := trivial
theorem PySem.W.Fast.tw4293066922742235561 : True := trivial
theorem PySem.W.Fast.tw5974677037104133232 : True := trivial
theorem PySem.W.Fast.tw7931941924730914807 : True := trivial
theorem PySem.W.Fast.tw14051415661261244101 : True := trivial
theorem PySem.W.Fast.tw11695805845238526417 : True := trivial
theorem PySem.W.Fast.tw4917663494464836484 : True := trivial
theorem PySem.W.Fast.tw4184562014452913725 : True := trivial
theorem PySem.W.Fast.tw9669693419021275908 : True := trivial
theorem PySem.W.Fast.tw1951570683096327246 : True := trivial
theorem PySem.W.Fast.tw11003248910497073441 : True := trivial
theorem PySem.W.Fast.tw15888865675707742413 : True := trivial
theorem PySem.W.Fast.tw14602141711086944637 : True := trivial
theorem PySem.W.Fast.tw16452327615573751872 : True := trivial
theorem PySem.W.Fast.tw12517923172057550272 : True := trivial
theorem PySem.W.Fast.tw7840803883670237735 : True := trivial
theorem PySem.W.Fast.tw15978675405875494823 : True := trivial
theorem PySem.W.Fast.tw5032774906857116146 : True := trivial
theorem PySem.W.Fast.tw15131680652603337889 : True := trivial
theorem PySem.W.Fast.tw902464937217004504 : True := trivial
theorem PySem.W.Fast.tw1801999668028685127 : True := trivial
theorem PySem.W.Fast.tw2720543119178600643 : True := trivial
theorem PySem.W.Fast.tw17867575038197096315 : True := trivial
theorem PySem.W.Fast.tw2794671205535062566 : True := trivial
theorem PySem.W.Fast.tw11285756827539435324 : True := trivial
theorem PySem.W.Fast.tw17549621232554664324 : True := trivial
theorem PySem.W.Fast.tw14712708399854184894 : True := trivial
theorem PySem.W.Fast.tw3272387837633089436 : True := trivial
theorem PySem.W.Fast.tw15064101728178603845 : True := trivial
theorem PySem.W.Fast.tw7246875803966436686 : True := trivial
theorem PySem.W.Fast.tw3442387518928172391 : True := trivial
theorem PySem.W.Fast.tw13285786242223680838 : True := trivial
theorem PySem.W.Fast.tw3635897916476049972 : True := trivial
theorem PySem.W.Fast.tw15992275623091890204 : True := trivial
theorem PySem.W.Fast.tw14481693440638250848 : True := trivial
theorem PySem.W.Fast.tw154449334596163816 : True := trivial
theorem PySem.W.Fast.tw8361633599432839082 : True := trivial
theorem PySem.W.Fast.tw2737111171046255178 : True := trivial
theorem PySem.W.Fast.tw3673720263821709405 : True := trivial
theorem PySem.W.Fast.tw4860150763592969401 : True := trivial
theorem PySem.W.Fast.tw17869598141689636748 : True := trivial
theorem PySem.W.Fast.tw11365404712134784920 : True := trivial
theorem PySem.W.Fast.tw17503861428220016067 : True := trivial
theorem PySem.W.Fast.tw8786561957259513417 : True := trivial
theorem PySem.W.Fast.tw758592776940095774 : True := trivial
theorem PySem.W.Fast.tw1523225930729679601 : True := trivial
theorem PySem.W.Fast.tw7364556693811735216 : True := trivial
theorem PySem.W.Fast.tw9752740413430736791 : True := trivial
theorem PySem.W.Fast.tw4468243226408213519 : True := trivial
theorem PySem.W.Fast.tw16381729778445082847 : True := trivial
theorem PySem.W.Fast.tw14614292475303131921 : True := trivial
theorem PySem.W.Fast.tw16241378113514356835 : True := trivial
theorem PySem.W.Fast.tw16613158698401269740 : True := trivial
theorem PySem.W.Fast.tw16872152370302080671 : True := trivial
theorem PySem.W.Fast.tw15269689901744799091 : True := trivial
theorem PySem.W.Fast.tw10704127383002110843 : True := trivial
theorem PySem.W.Fast.tw11090858114790468545 : True := trivial
theorem PySem.W.Fast.tw15602105273032912838 : True := trivial
theorem PySem.W.Fast.tw12639208751767846321 : True := trivial
theorem PySem.W.Fast.tw7382975531868658566 : True := trivial
theorem PySem.W.Fast.tw13968280400768672034 : True := trivial
theorem PySem.W.Fast.tw3729940818174856964 : True := trivial
theorem PySem.W.Fast.tw2086063107091654630 : True := trivial
theorem PySem.W.Fast.tw8897186440415744581 : True := trivial
theorem PySem.W.Fast.tw8083132511848927745 : True := trivial
theorem PySem.W.Fast.tw4303399658493004037 : True := trivial
theorem PySem.W.Fast.tw16311432019777242319 : True := trivial
theorem PySem.W.Fast.tw5953161757982076847 : True := trivial
theorem PySem.W.Fast.tw4389577326045799040 : True := trivial
theorem PySem.W.Fast.tw11519329930856779139 : True := trivial
theorem PySem.W.Fast.tw5863187727234025924 : True := trivial
theorem PySem.W.Fast.tw4452763280109171758 : True := trivial
theorem PySem.W.Fast.tw10022344227813201763 : True := trivial
theorem PySem.W.Fast.tw18384385344970906486 : True := trivial
theorem PySem.W.Fast.tw9176969710046461688 : True := trivial
theorem PySem.W.Fast.tw3638704774144166916 : True := trivial
theorem PySem.W.Fast.tw3883700451399473310 : True := trivial
theorem PySem.W.Fast.tw260789421351466371 : True := trivial
theorem PySem.W.Fast.tw18378741134803924031 : True := trivial
theorem PySem.W.Fast.tw4434106343266743007 : True := trivial
theorem PySem.W.Fast.tw14980858172472578222 : True := trivial
theorem PySem.W.Fast.tw5041183621485770257 : True := trivial
theorem PySem.W.Fast.tw14555048480504857437 : True := trivial
theorem PySem.W.Fast.tw841946280927520175 : True := trivial
theorem PySem.W.Fast.tw3488547931810950911 : True := trivial
theorem PySem.W.Fast.tw5542797629941134281 : True := trivial
theorem PySem.W.Fast.tw781941712722703539 : True := trivial
theorem PySem.W.Fast.tw12180958769332436317 : True := trivial
theorem PySem.W.Fast.tw4219046606222353616 : True := trivial
theorem PySem.W.Fast.tw508458470625958876 : True := trivial
theorem PySem.W.Fast.tw284381751819524862 : True := trivial
theorem PySem.W.Fast.tw12564470481040452482 : True := trivial
theorem PySem.W.Fast.tw12123307119238220746 : True := trivial
theorem PySem.W.Fast.tw17338932377293092996 : True := trivial
theorem PySem.W.Fast.tw8535090628627218290 : True := trivial
theorem PySem.W.Fast.tw12906884755965052308 : True := trivial
theorem PySem.W.Fast.tw14176970002549783765 : True := trivial
theorem PySem.W.Fast.tw3296081001964724232 : True := trivial
theorem PySem.W.Fast.tw6697597666886951824 : True := trivial
theorem PySem.W.Fast.tw9219885755777522717 : True := trivial
theorem PySem.W.Fast.tw6268938496884899353 : True := trivial
theorem PySem.W.Fast.tw17576376372093161470 : True := trivial
theorem PySem.W.Fast.tw10830000919541260143 : True := trivial
theorem PySem.W.Fast.tw12523381386915747211 : True := trivial
theorem PySem.W.Fast.tw15378630949080581059 : True := trivial
theorem PySem.W.Fast.tw5678646483343698223 : True := trivial
theorem PySem.W.Fast.tw11302041005403904790 : True := trivial
theorem PySem.W.Fast.tw17996838714926595459 : True := trivial
theorem PySem.W.Fast.tw13234979540507645237 : True := trivial
theorem PySem.W.Fast.tw4564067980890187153 : True := trivial
theorem PySem.W.Fast.tw17600470721887597962 : True := trivial
theorem PySem.W.Fast.tw14219257379494960320 : True := trivial
theorem PySem.W.Fast.tw7433251906988883039 : True := trivial
theorem PySem.W.Fast.tw12900283076796055243 : True := trivial
theorem PySem.W.Fast.tw3774752105276059436 : True := trivial
theorem PySem.W.Fast.tw2418549822745876597 : True := trivial
theorem PySem.W.Fast.tw10304247631884000130 : True := trivial
theorem PySem.W.Fast.tw18073260649615794272 : True := trivial
theorem PySem.W.Fast.tw14731238922219803562 : True := trivial
theorem PySem.W.Fast.tw14675367261568066922 : True := trivial
theorem PySem.W.Fast.tw17109407261059816285 : True := trivial
theorem PySem.W.Fast.tw9969604508833796 : True := trivial
theorem PySem.W.Fast.tw3856668469064281989 : True := trivial
theorem PySem.W.Fast.tw3760367403410402039 : True := trivial
theorem PySem.W.Fast.tw11719359656211148127 : True := trivial
theorem PySem.W.Fast.tw7593020296458466704 : True := trivial
theorem PySem.W.Fast.tw15588273101723571459 : True := trivial
theorem PySem.W.Fast.tw10707846617962880536 : True := trivial
theorem PySem.W.Fast.tw3252417349061556245 : True := trivial
theorem PySem.W.Fast.tw8032853703273706117 : True := trivial
theorem PySem.W.Fast.tw17635686359335642077 : True := trivial
theorem PySem.W.Fast.tw1563704181243182153 : True := trivial
theorem PySem.W.Fast.tw11052940188587773659 : True := trivial
theorem PySem.W.Fast.tw11523799592600452687 : True := trivial
theorem PySem.W.Fast.tw10265617036707733299 : True := trivial
theorem PySem.W.Fast.tw11747316497943981796 : True := trivial
theorem PySem.W.Fast.tw11799863468048820394 : True := trivial
theorem PySem.W.Fast.tw14976714806887169692 : True := trivial
theorem PySem.W.Fast.tw13218989355964933274 : True := trivial
theorem PySem.W.Fast.tw17108073918067184236 : True := trivial
theorem PySem.W.Fast.tw8424004937635236230 : True := trivial
theorem PySem.W.Fast.tw4260003407576341913 : True := trivial
theorem PySem.W.Fast.tw18065058385640844149 : True := trivial
theorem PySem.W.Fast.tw9409874344708424837 : True := trivial
theorem PySem.W.Fast.tw2491290170793478530 : True := trivial
theorem PySem.W.Fast.tw8606643751181795440 : True := trivial
theorem PySem.W.Fast.tw9788218493966334236 : True := trivial
theorem PySem.W.Fast.tw13037081325544817932 : True := trivial
theorem PySem.W.Fast.tw17338211518809751377 : True := trivial
theorem PySem.W.Fast.tw13035568826346801181 : True := trivial
theorem PySem.W.Fast.tw13586333915854651215 : True := trivial
theorem PySem.W.Fast.tw11037569496160200409 : True := trivial
theorem PySem.W.Fast.tw4689455350077950600 : True := trivial
theorem PySem.W.Fast.tw10429178197870746469 : True := trivial
theorem PySem.W.Fast.tw1498999175114610463 : True := trivial
theorem PySem.W.Fast.tw6979046959092344351 : True := trivial
theorem PySem.W.Fast.tw669724077668167493 : True := trivial
theorem PySem.W.Fast.tw7783917170549881432 : True := trivial
theorem PySem.W.Fast.tw545002154535672888 : True := trivial
theorem PySem.W.Fast.tw13342476773029230016 : True := trivial
theorem PySem.W.Fast.tw17418534715003805976 : True := trivial
theorem PySem.W.Fast.tw12430152812652361196 : True := trivial
theorem PySem.W.Fast.tw4721085262864477805 : True := trivial
theorem PySem.W.Fast.tw6591554136879469050 : True := trivial
theorem PySem.W.Fast.tw6581080699876250230 : True := trivial
theorem PySem.W.Fast.tw2611911020211831178 : True := trivial
theorem PySem.W.Fast.tw13458963619680098128 : True := trivial
theorem PySem.W.Fast.tw14401578980300934271 : True := trivial
theorem PySem.W.Fast.tw3227817209147288993 : True := trivial
theorem PySem.W.Fast.tw14702064550058667329 : True := trivial
theorem PySem.W.Fast.tw4299337987705674941 : True := trivial
theorem PySem.W.Fast.tw1627607514070310852 : True := trivial
theorem PySem.W.Fast.tw12944643834864803999 : True := trivial
theorem PySem.W.Fast.tw3799650153889685892 : True := trivial
theorem PySem.W.Fast.tw9735262539290249350 : True := trivial
theorem PySem.W.Fast.tw9240579562179416557 : True := trivial
theorem PySem.W.Fast.tw1872772073829771288 : True := trivial
theorem PySem.W.Fast.tw3394841437274156726 : True := trivial
theorem PySem.W.Fast.tw16852645652217111857 : True := trivial
theorem PySem.W.Fast.tw12937892811391510707 : True := trivial
theorem PySem.W.Fast.tw3287619037783368405 : True := trivial
theorem PySem.W.Fast.tw16988434125809078352 : True := trivial
theorem PySem.W.Fast.tw5913518388404427606 : True := trivial
theorem PySem.W.Fast.tw7900046553881510943 : True := trivial
theorem PySem.W.Fast.tw16369892490136334164 : True := trivial
theorem PySem.W.Fast.tw12068795783746163912 : True := trivial
theorem PySem.W.Fast.tw5503374291277289993 : True := trivial
theorem PySem.W.Fast.tw6680119339321885797 : True := trivial
theorem PySem.W.Fast.tw2458490456385527326 : True := trivial
theorem PySem.W.Fast.tw15925342472336890367 : True := trivial
theorem PySem.W.Fast.tw13739310549508252098 : True := trivial
theorem PySem.W.Fast.tw11287179665853609785 : True := trivial
theorem PySem.W.Fast.tw6992987908859457899 : True := trivial
theorem PySem.W.Fast.tw6756244713233093048 : True := trivial
theorem PySem.W.Fast.tw14463093330616903611 : True := trivial
theorem PySem.W.Fast.tw10677644970582221805 : True := trivial
theorem PySem.W.Fast.tw4345575996079249223 : True := trivial
theorem PySem.W.Fast.tw14091411992874857296 : True := trivial
theorem PySem.W.Fast.tw15437074097098111927 : True := trivial
theorem PySem.W.Fast.tw7087617255884132966 : True := trivial
theorem PySem.W.Fast.tw17927192670291205126 : True := trivial
theorem PySem.W.Fast.tw17639261485216665907 : True := trivial
theorem PySem.W.Fast.tw17259823488650391071 : True := trivial
theorem PySem.W.Fast.tw5060158552565231648 : True := trivial
theorem PySem.W.Fast.tw10106467923034101503 : True := trivial
theorem PySem.W.Fast.tw5316539711994602932 : True := trivial
theorem PySem.W.Fast.tw7065738791915570918 : True := trivial
theorem PySem.W.Fast.tw9787992212366999318 : True := trivial
theorem PySem.W.Fast.tw10878758803602535016 : True := trivial
theorem PySem.W.Fast.tw3143483648161635963 : True := trivial
theorem PySem.W.Fast.tw524515126095539330 : True := trivial
theorem PySem.W.Fast.tw11923950461248020217 : True := trivial
theorem PySem.W.Fast.tw6119234765167741788 : True := trivial
theorem PySem.W.Fast.tw11454745201907585134 : True := trivial
theorem PySem.W.Fast.tw11140097445100474011 : True := trivial
theorem PySem.W.Fast.tw3169478770167862293 : True := trivial
theorem PySem.W.Fast.tw440848362146696894 : True := trivial
theorem PySem.W.Fast.tw7178827900216759880 : True := trivial
theorem PySem.W.Fast.tw546556882153769218 : True := trivial
theorem PySem.W.Fast.tw12861307990597846799 : True := trivial
theorem PySem.W.Fast.tw9966498633817115194 : True := trivial
theorem PySem.W.Fast.tw9530996204914441426 : True := trivial
theorem PySem.W.Fast.tw2841996482458035066 : True := trivial
theorem PySem.W.Fast.tw10933816474097849047 : True := trivial
theorem PySem.W.Fast.tw13504351254980209834 : True := trivial
theorem PySem.W.Fast.tw10848577338143995598 : True := trivial
theorem PySem.W.Fast.tw9931115455608593200 : True := trivial
theorem PySem.W.Fast.tw15933762065908777219 : True := trivial
theorem PySem.W.Fast.tw11002358579219562702 : True := trivial
theorem PySem.W.Fast.tw10268059696243105600 : True := trivial
theorem PySem.W.Fast.tw3667131555650576901 : True := trivial
theorem PySem.W.Fast.tw15616684056377150353 : True := trivial
theorem PySem.W.Fast.tw12673474312057396756 : True := trivial
theorem PySem.W.Fast.tw11727778383194794333 : True := trivial
theorem PySem.W.Fast.tw8794383439517454215 : True := trivial
theorem PySem.W.Fast.tw2922013575640062267 : True := trivial
theorem PySem.W.Fast.tw11037135155757971550 : True := trivial
theorem PySem.W.Fast.tw4482106711536240006 : True := trivial
theorem PySem.W.Fast.tw14727630096285166754 : True := trivial
theorem PySem.W.Fast.tw11313130902483768674 : True := trivial
theorem PySem.W.Fast.tw9878899213569772598 : True := trivial
theorem PySem.W.Fast.tw11109886315245939180 : True := trivial
theorem PySem.W.Fast.tw3554395955803748248 : True := trivial
theorem PySem.W.Fast.tw14259555771861309620 : True := trivial
theorem PySem.W.Fast.tw14586072985801576481 : True := trivial
theorem PySem.W.Fast.tw12621230251175471418 : True := trivial
theorem PySem.W.Fast.tw8115035875444177538 : True := trivial
theorem PySem.W.Fast.tw4869517631614774040 : True := trivial
theorem PySem.W.Fast.tw17120121130221906612 : True := trivial
theorem PySem.W.Fast.tw8803583017694243325 : True := trivial
theorem PySem.W.Fast.tw741003563382453369 : True := trivial
theorem PySem.W.Fast.tw16249979897393347677 : True := trivial
theorem PySem.W.Fast.tw17711149531435506165 : True := trivial
theorem PySem.W.Fast.tw14350730155963149329 : True := trivial
theorem PySem.W.Fast.tw2898098320696267617 : True := trivial
theorem PySem.W.Fast.tw3163104087273128990 : True := trivial
theorem PySem.W.Fast.tw12230930373019378959 : True := trivial
theorem PySem.W.Fast.tw11636136332608601960 : True := trivial
theorem PySem.W.Fast.tw5657714276270274617 : True := trivial
theorem PySem.W.Fast.tw18328415557897372529 : True := trivial
theorem PySem.W.Fast.tw13362538217184266435 : True := trivial
theorem PySem.W.Fast.tw3247401060973879343 : True := trivial
theorem PySem.W.Fast.tw8004106637960410044 : True := trivial
theorem PySem.W.Fast.tw15131493611256915602 : True := trivial
theorem PySem.W.Fast.tw1913169063067158051 : True := trivial
theorem PySem.W.Fast.tw2624187067523088223 : True := trivial
theorem PySem.W.Fast.tw3526401202844056342 : True := trivial
theorem PySem.W.Fast.tw333311010476998843 : True := trivial
theorem PySem.W.Fast.tw2520695023166320001 : True := trivial
theorem PySem.W.Fast.tw14461693536538674243 : True := trivial
theorem PySem.W.Fast.tw16090849246656735341 : True := trivial
theorem PySem.W.Fast.tw16599489183808371830 : True := trivial
theorem PySem.W.Fast.tw17722271205116844862 : True := trivial
theorem PySem.W.Fast.tw8346039652200704109 : True := trivial
theorem PySem.W.Fast.tw14687170336108940698 : True := trivial
theorem PySem.W.Fast.tw10641285907458699023 : True := trivial
theorem PySem.W.Fast.tw12994435094581798370 : True := trivial
theorem PySem.W.Fast.tw18052743077544170425 : True := trivial
theorem PySem.W.Fast.tw9765459355911681012 : True := trivial
theorem PySem.W.Fast.tw2139476809742569336 : True := trivial
theorem PySem.W.Fast.tw16259249420503223307 : True := trivial
theorem PySem.W.Fast.tw15320925620902662149 : True := trivial
theorem PySem.W.Fast.tw13265092225481975516 : True := trivial
theorem PySem.W.Fast.tw13844866713560178996 : True := trivial
theorem PySem.W.Fast.tw9564800812323634172 : True := trivial
theorem PySem.W.Fast.tw1267348777509326665 : True := trivial
theorem PySem.W.Fast.tw5180308677027160066 : True := trivial
theorem PySem.W.Fast.tw13715199503262652077 : True := trivial
theorem PySem.W.Fast.tw10079956559194283112 : True := trivial
theorem PySem.W.Fast.tw974335553425684801 : True := trivial
theorem PySem.W.Fast.tw2099479196879207433 : True := trivial
theorem PySem.W.Fast.tw10519669012774606741 : True := trivial
theorem PySem.W.Fast.tw3053850686881025172 : True := trivial
theorem PySem.W.Fast.tw11875309529583524285 : True := trivial
theorem PySem.W.Fast.tw14093888265372232578 : True := trivial
theorem PySem.W.Fast.tw9725603061758184505 : True := trivial
theorem PySem.W.Fast.tw6238830362245524109 : True := trivial
theorem PySem.W.Fast.tw2929346569521262757 : True := trivial
theorem PySem.W.Fast.tw16392435640945053466 : True := trivial
theorem PySem.W.Fast.tw1683597444666407524 : True := trivial
theorem PySem.W.Fast.tw6724048480207749457 : True := trivial
theorem PySem.W.Fast.tw8065231995452602598 : True := trivial
theorem PySem.W.Fast.tw10291017911260641834 : True := trivial
theorem PySem.W.Fast.tw7456409442704197886 : True := trivial
theorem PySem.W.Fast.tw2432677113722379126 : True := trivial
theorem PySem.W.Fast.tw6826808301808724831 : True := trivial
theorem PySem.W.Fast.tw13532614908388582328 : True := trivial
theorem PySem.W.Fast.tw11928951568439541345 : True := trivial
theorem PySem.W.Fast.tw2543155448019682744 : True := trivial
theorem PySem.W.Fast.tw6432022822737341175 : True := trivial
theorem PySem.W.Fast.tw3431024155203187187 : True := trivial
theorem PySem.W.Fast.tw8257033553524554456 : True := trivial
theorem PySem.W.Fast.tw12726582297156600219 : True := trivial
theorem PySem.W.Fast.tw16905830239412133676 : True := trivial
theorem PySem.W.Fast.tw17969956450733576822 : True := trivial
theorem PySem.W.Fast.tw14707726515461263079 : True := trivial
theorem PySem.W.Fast.tw7433252636423643539 : True := trivial
theorem PySem.W.Fast.tw3366821367906316926 : True := trivial
theorem PySem.W.Fast.tw2958037654491722149 : True := trivial
theorem PySem.W.Fast.tw11395504524750568891 : True := trivial
theorem PySem.W.Fast.tw8209346899378143079 : True := trivial
theorem PySem.W.Fast.tw2593856963288448725 : True := trivial
theorem PySem.W.Fast.tw5818887617237642772 : True := trivial
theorem PySem.W.Fast.tw9922134049444907481 : True := trivial
theorem PySem.W.Fast.tw13299330849537960429 : True := trivial
theorem PySem.W.Fast.tw10830863753382023564 : True := trivial
theorem PySem.W.Fast.tw10789998688638419568 : True := trivial
theorem PySem.W.Fast.tw650501036359661277 : True := trivial
theorem PySem.W.Fast.tw12991813563297478844 : True := trivial
theorem PySem.W.Fast.tw698334773533293951 : True := trivial
theorem PySem.W.Fast.tw1761430592604386888 : True := trivial
theorem PySem.W.Fast.tw6251513412901776008 : True := trivial
theorem PySem.W.Fast.tw17492907183273794115 : True := trivial
theorem PySem.W.Fast.tw9997885707586089829 : True := trivial
theorem PySem.W.Fast.tw15541556067627946268 : True := trivial
theorem PySem.W.Fast.tw8369217364328322266 : True := trivial
theorem PySem.W.Fast.tw6845356379367249746 : True := trivial
theorem PySem.W.Fast.tw13950201868012661561 : True := trivial
theorem PySem.W.Fast.tw14328394696207034244 : True := trivial
theorem PySem.W.Fast.tw14729720314949094919 : True := trivial
theorem PySem.W.Fast.tw3592783106281693225 : True := trivial
theorem PySem.W.Fast.tw4007583065747707131 : True := trivial
theorem PySem.W.Fast.tw16486146072579319782 : True := trivial
theorem PySem.W.Fast.tw5655762227382572828 : True := trivial
theorem PySem.W.Fast.tw2120343315162827169 : True := trivial
theorem PySem.W.Fast.tw1587377838511332040 : True := trivial
theorem PySem.W.Fast.tw16497397215376966145 : True := trivial
theorem PySem.W.Fast.tw4106811360317863546 : True := trivial
theorem PySem.W.Fast.tw11681713456107970923 : True := trivial
theorem PySem.W.Fast.tw3420727787745110294 : True := trivial
theorem PySem.W.Fast.tw11865030110625200631 : True := trivial
theorem PySem.W.Fast.tw9674824960076841536 : True := trivial
theorem PySem.W.Fast.tw10058935746888886234 : True := trivial
theorem PySem.W.Fast.tw1083436535417982484 : True := trivial
theorem PySem.W.Fast.tw7255232653481894449 : True := trivial
theorem PySem.W.Fast.tw6068792597760226769 : True := trivial
theorem PySem.W.Fast.tw14752829209333605041 : True := trivial
theorem PySem.W.Fast.tw5799890135983197111 : True := trivial
theorem PySem.W.Fast.tw3796696124518867053 : True := trivial
theorem PySem.W.Fast.tw18339305759553343330 : True := trivial
theorem PySem.W.Fast.tw12760821147737864972 : True := trivial
theorem PySem.W.Fast.tw5256205552513544330 : True := trivial
theorem PySem.W.Fast.tw5932208188519340024 : True := trivial
theorem PySem.W.Fast.tw6117073098532650366 : True := trivial
theorem PySem.W.Fast.tw12312478959920884753 : True := trivial
theorem PySem.W.Fast.tw751732524621884204 : True := trivial
theorem PySem.W.Fast.tw10441207174263844130 : True := trivial
theorem PySem.W.Fast.tw16999100431744228876 : True := trivial
theorem PySem.W.Fast.tw400109265514640757 : True := trivial
theorem PySem.W.Fast.tw7530819650505491097 : True := trivial
theorem PySem.W.Fast.tw13240161658349295640 : True := trivial
theorem PySem.W.Fast.tw9216370667048139997 : True := trivial
theorem PySem.W.Fast.tw5630612062210005246 : True := trivial
theorem PySem.W.Fast.tw684648848107485775 : True := trivial
theorem PySem.W.Fast.tw6204250076812095045 : True := trivial
theorem PySem.W.Fast.tw3332887820992868315 : True := trivial
theorem PySem.W.Fast.tw5534234297972040522 : True := trivial
theorem PySem.W.Fast.tw14750385730408465579 : True := trivial
theorem PySem.W.Fast.tw8819123523587401222 : True := trivial
theorem PySem.W.Fast.tw14986417566790014637 : True := trivial
theorem PySem.W.Fast.tw1037001924602624743 : True := trivial
theorem PySem.W.Fast.tw5965741598674485001 : True := trivial
theorem PySem.W.Fast.tw10466600313145055422 : True := trivial
theorem PySem.W.Fast.tw16758748485916294578 : True := trivial
theorem PySem.W.Fast.tw17320942416493485304 : True := trivial
theorem PySem.W.Fast.tw18390388989816430185 : True := trivial
theorem PySem.W.Fast.tw10929604191680375564 : True := trivial
theorem PySem.W.Fast.tw12162885660020964972 : True := trivial
theorem PySem.W.Fast.tw12397581844699713623 : True := trivial
theorem PySem.W.Fast.tw4028050790338983862 : True := trivial
theorem PySem.W.Fast.tw7673615527810572580 : True := trivial
theorem PySem.W.Fast.tw1631536211056573981 : True := trivial
theorem PySem.W.Fast.tw3560008887537031214 : True := trivial
theorem PySem.W.Fast.tw1535064448510448787 : True := trivial
theorem PySem.W.Fast.tw13534169719512990747 : True := trivial
theorem PySem.W.Fast.tw2303943887497321291 : True := trivial
theorem PySem.W.Fast.tw138414851601634994 : True := trivial
theorem PySem.W.Fast.tw16796920770572268902 : True := trivial
theorem PySem.W.Fast.tw7475448664535761004 : True := trivial
theorem PySem.W.Fast.tw2197971786592010216 : True := trivial
theorem PySem.W.Fast.tw1019786309732284527 : True := trivial
theorem PySem.W.Fast.tw12027347263403036723 : True := trivial
theorem PySem.W.Fast.tw13890953281190632531 : True := trivial
theorem PySem.W.Fast.tw5946604858304267778 : True := trivial
theorem PySem.W.Fast.tw13487917412565677667 : True := trivial
theorem PySem.W.Fast.tw7971606061729960803 : True := trivial
theorem PySem.W.Fast.tw15511420826896982343 : True := trivial
theorem PySem.W.Fast.tw3567421490060475269 : True := trivial
theorem PySem.W.Fast.tw12457421015106045983 : True := trivial
theorem PySem.W.Fast.tw15690645817830683955 : True := trivial
theorem PySem.W.Fast.tw12875279440493279626 : True := trivial
theorem PySem.W.Fast.tw5202099782260626235 : True := trivial
theorem PySem.W.Fast.tw6493395568212294207 : True := trivial
theorem PySem.W.Fast.tw6758576458381520290 : True := trivial
theorem PySem.W.Fast.tw17160375369486726145 : True := trivial
theorem PySem.W.Fast.tw2148370928157445941 : True := trivial
theorem PySem.W.Fast.tw1396871590400737403 : True := trivial
theorem PySem.W.Fast.tw17853982587496736534 : True := trivial
theorem PySem.W.Fast.tw2475132245816153108 : True := trivial
theorem PySem.W.Fast.tw3706781157880986952 : True := trivial
theorem PySem.W.Fast.tw926134660355941098 : True := trivial
theorem PySem.W.Fast.tw9251202828314346279 : True := trivial
theorem PySem.W.Fast.tw9105960922248220575 : True := trivial
theorem PySem.W.Fast.tw15660183129878501139 : True := trivial
theorem PySem.W.Fast.tw2473329305572666661 : True := trivial
theorem PySem.W.Fast.tw14313411226146897697 : True := trivial
theorem PySem.W.Fast.tw7798093292026394022 : True := trivial
theorem PySem.W.Fast.tw17147032467457215142 : True := trivial
theorem PySem.W.Fast.tw4478999623953661634 : True := trivial
theorem PySem.W.Fast.tw6050460160710690223 : True := trivial
theorem PySem.W.Fast.tw4820850301432849602 : True := trivial
theorem PySem.W.Fast.tw2546335607173485422 : True := trivial
theorem PySem.W.Fast.tw12939916137708697656 : True := trivial
theorem PySem.W.Fast.tw1182688245723810502 : True := trivial
theorem PySem.W.Fast.tw10220506109010405145 : True := trivial
theorem PySem.W.Fast.tw2302542517938002959 : True := trivial
theorem PySem.W.Fast.tw1262745971061004501 : True := trivial
theorem PySem.W.Fast.tw12271395195540345719 : True := trivial
theorem PySem.W.Fast.tw15559423294735654447 : True := trivial
theorem PySem.W.Fast.tw1924501300776579909 : True := trivial
theorem PySem.W.Fast.tw6991683885620858259 : True := trivial
theorem PySem.W.Fast.tw4909343568343558945 : True := trivial
theorem PySem.W.Fast.tw3658334941249196008 : True := trivial
theorem PySem.W.Fast.tw10547099779023846152 : True := trivial
theorem PySem.W.Fast.tw10688260551366957530 : True := trivial
theorem PySem.W.Fast.tw3874537454032650478 : True := trivial
theorem PySem.W.Fast.tw17684870656915444923 : True := trivial
theorem PySem.W.Fast.tw17543756911249131602 : True := trivial
theorem PySem.W.Fast.tw8555960094249896069 : True := trivial
theorem PySem.W.Fast.tw14902115721553520152 : True := trivial
theorem PySem.W.Fast.tw8950420883469776767 : True := trivial
theorem PySem.W.Fast.tw17544135520861492536 : True := trivial
theorem PySem.W.Fast.tw14233825522191468126 : True := trivial
theorem PySem.W.Fast.tw13436928380102705433 : True := trivial
theorem PySem.W.Fast.tw16220938214760281551 : True := trivial
theorem PySem.W.Fast.tw10402451912008865687 : True := trivial
theorem PySem.W.Fast.tw11164198273065765332 : True := trivial
theorem PySem.W.Fast.tw8713917313346771011 : True := trivial
theorem PySem.W.Fast.tw12009391759433509768 : True := trivial
theorem PySem.W.Fast.tw10943835699782873210 : True := trivial
theorem PySem.W.Fast.tw6394226392011318298 : True := trivial
theorem PySem.W.Fast.tw888811408637516905 : True := trivial
theorem PySem.W.Fast.tw10531594382954178824 : True := trivial
theorem PySem.W.Fast.tw5747347098864575386 : True := trivial
theorem PySem.W.Fast.tw3278449603461181922 : True := trivial
theorem PySem.W.Fast.tw9725532606254895367 : True := trivial
theorem PySem.W.Fast.tw10799276328971568983 : True := trivial
theorem PySem.W.Fast.tw11101293343045544874 : True := trivial
theorem PySem.W.Fast.tw14566230040829659030 : True := trivial
theorem PySem.W.Fast.tw2189681160840345572 : True := trivial
theorem PySem.W.Fast.tw811408854980788822 : True := trivial
theorem PySem.W.Fast.tw1027900006354160898 : True := trivial
theorem PySem.W.Fast.tw15595590238231757779 : True := trivial
theorem PySem.W.Fast.tw17422500300314304187 : True := trivial
theorem PySem.W.Fast.tw17094934710170643497 : True := trivial
theorem PySem.W.Fast.tw15146161703570920783 : True := trivial
theorem PySem.W.Fast.tw16893157893468422324 : True := trivial
theorem PySem.W.Fast.tw14284632007967075832 : True := trivial
theorem PySem.W.Fast.tw10832036133385836124 : True := trivial
theorem PySem.W.Fast.tw4014228194524966832 : True := trivial
theorem PySem.W.Fast.tw14307894131546071617 : True := trivial
theorem PySem.W.Fast.tw10581335673488593223 : True := trivial
theorem PySem.W.Fast.tw4388723346633685086 : True := trivial
theorem PySem.W.Fast.tw1403717916776068633 : True := trivial
theorem PySem.W.Fast.tw1719178009680800588 : True := trivial
theorem PySem.W.Fast.tw10022572831875564922 : True := trivial
theorem PySem.W.Fast.tw3532253105276822041 : True := trivial
theorem PySem.W.Fast.tw15049782195902867045 : True := trivial
theorem PySem.W.Fast.tw12069325477778372806 : True := trivial
theorem PySem.W.Fast.tw17513543016196846932 : True := trivial
theorem PySem.W.Fast.tw17976599177664398449 : True := trivial
theorem PySem.W.Fast.tw10891214988767274838 : True := trivial
theorem PySem.W.Fast.tw4468954023897432284 : True := trivial
theorem PySem.W.Fast.tw16237126182064213861 : True := trivial
theorem PySem.W.Fast.tw5573706328768524562 : True := trivial
theorem PySem.W.Fast.tw10102879211940522640 : True := trivial
theorem PySem.W.Fast.tw5974048285076676963 : True := trivial
theorem PySem.W.Fast.tw8868917915257708629 : True := trivial
theorem PySem.W.Fast.tw6590280077860643791 : True := trivial
theorem PySem.W.Fast.tw17307374909758416107 : True := trivial
theorem PySem.W.Fast.tw2932397579067208529 : True := trivial
theorem PySem.W.Fast.tw10449325070811952384 : True := trivial
theorem PySem.W.Fast.tw18217994084406330234 : True := trivial
theorem PySem.W.Fast.tw4913451314690963616 : True := trivial
theorem PySem.W.Fast.tw1445428324006098212 : True := trivial
theorem PySem.W.Fast.tw17092306278688718146 : True := trivial
theorem PySem.W.Fast.tw214107293169761075 : True := trivial
theorem PySem.W.Fast.tw1443860758231648122 : True := trivial
theorem PySem.W.Fast.tw3486079988281519418 : True := trivial
theorem PySem.W.Fast.tw7899748476618770098 : True := trivial
theorem PySem.W.Fast.tw4437064457125936867 : True := trivial
theorem PySem.W.Fast.tw3645832961064413239 : True := trivial
theorem PySem.W.Fast.tw11579099270805003758 : True := trivial
theorem PySem.W.Fast.tw2895918141642381581 : True := trivial
theorem PySem.W.Fast.tw17604527898536810592 : True := trivial
theorem PySem.W.Fast.tw5594696994289842519 : True := trivial
theorem PySem.W.Fast.tw18260947712254221980 : True := trivial
theorem PySem.W.Fast.tw15089974843760088545 : True := trivial
theorem PySem.W.Fast.tw2252404078912800928 : True := trivial
theorem PySem.W.Fast.tw15317195070836838859 : True := trivial
theorem PySem.W.Fast.tw15558870749178305764 : True := trivial
theorem PySem.W.Fast.tw4826347541327900827 : True := trivial
theorem PySem.W.Fast.tw1437735678608298585 : True := trivial
theorem PySem.W.Fast.tw1720136830543255709 : True := trivial
theorem PySem.W.Fast.tw13303561362517684346 : True := trivial
theorem PySem.W.Fast.tw15802599305655020709 : True := trivial
theorem PySem.W.Fast.tw11902559746928377163 : True := trivial
theorem PySem.W.Fast.tw7918933246174768756 : True := trivial
theorem PySem.W.Fast.tw6722462505365964303 : True := trivial
theorem PySem.W.Fast.tw8147457231003432975 : True := trivial
theorem PySem.W.Fast.tw14774098511786106015 : True := trivial
theorem PySem.W.Fast.tw16362665808992836246 : True := trivial
theorem PySem.W.Fast.tw595256553815030662 : True := trivial
theorem PySem.W.Fast.tw11639425972769531678 : True := trivial
theorem PySem.W.Fast.tw18328273270225660942 : True := trivial
theorem PySem.W.Fast.tw2088782956113869294 : True := trivial
theorem PySem.W.Fast.tw14929162118287718386 : True := trivial
theorem PySem.W.Fast.tw17986434710222737286 : True := trivial
theorem PySem.W.Fast.tw2885923678505920663 : True := trivial
theorem PySem.W.Fast.tw15626268093705174483 : True := trivial
theorem PySem.W.Fast.tw6070109414440388216 : True := trivial
theorem PySem.W.Fast.tw8324196344046198633 : True := trivial
theorem PySem.W.Fast.tw14601243121291907033 : True := trivial
theorem PySem.W.Fast.tw10145049828718202444 : True := trivial
theorem PySem.W.Fast.tw2250541464908524399 : True := trivial
theorem PySem.W.Fast.tw3072772271282183798 : True := trivial
theorem PySem.W.Fast.tw11752198980670363420 : True := trivial
theorem PySem.W.Fast.tw9978427443388899163 : True := trivial
theorem PySem.W.Fast.tw9886210206609791684 : True := trivial
theorem PySem.W.Fast.tw5360405821766192485 : True := trivial
theorem PySem.W.Fast.tw1990929968163115070 : True := trivial
theorem PySem.W.Fast.tw18234780591501404988 : True := trivial
theorem PySem.W.Fast.tw12747705947638283713 : True := trivial
theorem PySem.W.Fast.tw10409654076431940449 : True := trivial
theorem PySem.W.Fast.tw2197111066308332068 : True := trivial
theorem PySem.W.Fast.tw3964126365053217127 : True := trivial
theorem PySem.W.Fast.tw13107304263058314078 : True := trivial
theorem PySem.W.Fast.tw11381320926233063108 : True := trivial
theorem PySem.W.Fast.tw13596090117656492123 : True := trivial
theorem PySem.W.Fast.tw13069089569948348880 : True := trivial
theorem PySem.W.Fast.tw13854908728901790343 : True := trivial
theorem PySem.W.Fast.tw12349963039810757794 : True := trivial
theorem PySem.W.Fast.tw17468805176999150222 : True := trivial
theorem PySem.W.Fast.tw8686646074033876613 : True := trivial
theorem PySem.W.Fast.tw18306054929327817519 : True := trivial
theorem PySem.W.Fast.tw8452736720913618053 : True := trivial
theorem PySem.W.Fast.tw7788559606442273963 : True := trivial
theorem PySem.W.Fast.tw1744719369482827521 : True := trivial
theorem PySem.W.Fast.tw17997790804913906483 : True := trivial
theorem PySem.W.Fast.tw4051546047660637740 : True := trivial
theorem PySem.W.Fast.tw13734833581420215241 : True := trivial
theorem PySem.W.Fast.tw13154017139384373083 : True := trivial
theorem PySem.W.Fast.tw13093092626674393494 : True := trivial
theorem PySem.W.Fast.tw11887402313009466187 : True := trivial
theorem PySem.W.Fast.tw12121605520389743348 : True := trivial
theorem PySem.W.Fast.tw9163174190187399869 : True := trivial
theorem PySem.W.Fast.tw12219790679443761511 : True := trivial
theorem PySem.W.Fast.tw6209969165867850260 : True := trivial
theorem PySem.W.Fast.tw7479943509193773535 : True := trivial
theorem PySem.W.Fast.tw1182796654059566551 : True := trivial
theorem PySem.W.Fast.tw4739024086465535354 : True := trivial
theorem PySem.W.Fast.tw18183434656291691447 : True := trivial
theorem PySem.W.Fast.tw15336225902231447946 : True := trivial
theorem PySem.W.Fast.tw12991029993314473312 : True := trivial
theorem PySem.W.Fast.tw10153564851565926230 : True := trivial
theorem PySem.W.Fast.tw5503660855510263131 : True := trivial
theorem PySem.W.Fast.tw6433939886657324339 : True := trivial
theorem PySem.W.Fast.tw13881531284547941677 : True := trivial
theorem PySem.W.Fast.tw7157368801301033636 : True := trivial
theorem PySem.W.Fast.tw1418265524360478754 : True := trivial
theorem PySem.W.Fast.tw3755431384285279845 : True := trivial
theorem PySem.W.Fast.tw7549381837452675190 : True := trivial
theorem PySem.W.Fast.tw2884446925194004627 : True := trivial
theorem PySem.W.Fast.tw3566104149941545237 : True := trivial
theorem PySem.W.Fast.tw5867019774827456091 : True := trivial
theorem PySem.W.Fast.tw8072148474305716826 : True := trivial
theorem PySem.W.Fast.tw12511299535296430818 : True := trivial
theorem PySem.W.Fast.tw15387487241188654057 : True := trivial
theorem PySem.W.Fast.tw17425541224175993717 : True := trivial
theorem PySem.W.Fast.tw10179563829548895967 : True := trivial
theorem PySem.W.Fast.tw1207632054523047448 : True := trivial
theorem PySem.W.Fast.tw14211945378246245273 : True := trivial
theorem PySem.W.Fast.tw5533703832555243447 : True := trivial
theorem PySem.W.Fast.tw10104798633895886586 : True := trivial
theorem PySem.W.Fast.tw1056416692001762617 : True := trivial
theorem PySem.W.Fast.tw5177571646277453573 : True := trivial
theorem PySem.W.Fast.tw15152523849941305801 : True := trivial
theorem PySem.W.Fast.tw5639117590059754598 : True := trivial
theorem PySem.W.Fast.tw12860181171913513113 : True := trivial
theorem PySem.W.Fast.tw18258779935056727923 : True := trivial
theorem PySem.W.Fast.tw13957521280065515624 : True := trivial
theorem PySem.W.Fast.tw15546719050045544307 : True := trivial
theorem PySem.W.Fast.tw15841584324346973208 : True := trivial
theorem PySem.W.Fast.tw8349735043095586011 : True := trivial
theorem PySem.W.Fast.tw7401838859507477508 : True := trivial
theorem PySem.W.Fast.tw8844839998113859784 : True := trivial
theorem PySem.W.Fast.tw10991646584835710059 : True := trivial
theorem PySem.W.Fast.tw2226900716738919139 : True := trivial
theorem PySem.W.Fast.tw9660984879222149526 : True := trivial
theorem PySem.W.Fast.tw11834009359600942352 : True := trivial
theorem PySem.W.Fast.tw17999764109833104248 : True := trivial
theorem PySem.W.Fast.tw7712108426997745394 : True := trivial
theorem PySem.W.Fast.tw15028626825719407176 : True := trivial
theorem PySem.W.Fast.tw2085241429273090040 : True := trivial
theorem PySem.W.Fast.tw10424839556832808052 : True := trivial
theorem PySem.W.Fast.tw6845302548624430456 : True := trivial
theorem PySem.W.Fast.tw17820447665582127524 : True := trivial
theorem PySem.W.Fast.tw46517719221444330 : True := trivial
theorem PySem.W.Fast.tw14887491772052206758 : True := trivial
theorem PySem.W.Fast.tw11050084371700592611 : True := trivial
theorem PySem.W.Fast.tw3446397066387628506 : True := trivial
theorem PySem.W.Fast.tw14541916433344628249 : True := trivial
theorem PySem.W.Fast.tw13925853271047992141 : True := trivial
theorem PySem.W.Fast.tw11517397036454452938 : True := trivial
theorem PySem.W.Fast.tw12399195147300900862 : True := trivial
theorem PySem.W.Fast.tw7314845116425673193 : True := trivial
theorem PySem.W.Fast.tw7926830882927715646 : True := trivial
theorem PySem.W.Fast.tw17524901975298133522 : True := trivial
theorem PySem.W.Fast.tw3974972716306651559 : True := trivial
theorem PySem.W.Fast.tw9875260280686216946 : True := trivial
theorem PySem.W.Fast.tw5917379216349006952 : True := trivial
theorem PySem.W.Fast.tw7452921051193289595 : True := trivial
theorem PySem.W.Fast.tw18202072706741992220 : True := trivial
theorem PySem.W.Fast.tw4582192000467352498 : True := trivial
theorem PySem.W.Fast.tw16355904189978617020 : True := trivial
theorem PySem.W.Fast.tw12529783163198895205 : True := trivial
theorem PySem.W.Fast.tw10057767930458057626 : True := trivial
theorem PySem.W.Fast.tw9458566204611187334 : True := trivial
theorem PySem.W.Fast.tw11590052194991611442 : True := trivial
theorem PySem.W.Fast.tw17126972574446487436 : True := trivial
theorem PySem.W.Fast.tw17974362111400143718 : True := trivial
theorem PySem.W.Fast.tw4085209228507782956 : True := trivial
theorem PySem.W.Fast.tw4231647283263378553 : True := trivial
theorem PySem.W.Fast.tw13412940089473384592 : True := trivial
theorem PySem.W.Fast.tw4996274084179230347 : True := trivial
theorem PySem.W.Fast.tw5219578449119572287 : True := trivial
theorem PySem.W.Fast.tw3879401392679870510 : True := trivial
theorem PySem.W.Fast.tw13162584721198375832 : True := trivial
theorem PySem.W.Fast.tw9630585916668891941 : True := trivial
theorem PySem.W.Fast.tw3442543364420465578 : True := trivial
theorem PySem.W.Fast.tw2562585355041601840 : True := trivial
theorem PySem.W.Fast.tw2896350020161191705 : True := trivial
theorem PySem.W.Fast.tw2834832979646609121 : True := trivial
theorem PySem.W.Fast.tw12088492931493767808 : True := trivial
theorem PySem.W.Fast.tw17210306152492635894 : True := trivial
theorem PySem.W.Fast.tw16291555019742872142 : True := trivial
theorem PySem.W.Fast.tw9106247806525176316 : True := trivial
theorem PySem.W.Fast.tw14617403531415516442 : True := trivial
theorem PySem.W.Fast.tw3546449570939526535 : True := trivial
theorem PySem.W.Fast.tw16216185026171373787 : True := trivial
theorem PySem.W.Fast.tw5011263753980955897 : True := trivial
theorem PySem.W.Fast.tw13134833612598818175 : True := trivial
theorem PySem.W.Fast.tw9639903491780479017 : True := trivial
theorem PySem.W.Fast.tw5673037314656415442 : True := trivial
theorem PySem.W.Fast.tw12692626566341694779 : True := trivial
theorem PySem.W.Fast.tw12522727539986027227 : True := trivial
theorem PySem.W.Fast.tw9435557918709836686 : True := trivial
theorem PySem.W.Fast.tw15687106752551826638 : True := trivial
theorem PySem.W.Fast.tw12245509521832258471 : True := trivial
theorem PySem.W.Fast.tw16579563168195894814 : True := trivial
theorem PySem.W.Fast.tw3442988454435265127 : True := trivial
theorem PySem.W.Fast.tw43703179786026385 : True := trivial
theorem PySem.W.Fast.tw16690600702850191257 : True := trivial
theorem PySem.W.Fast.tw3156586214393795751 : True := trivial
theorem PySem.W.Fast.tw11013090652892675920 : True := trivial
theorem PySem.W.Fast.tw995676355278673090 : True := trivial
theorem PySem.W.Fast.tw15703042691050759979 : True := trivial
theorem PySem.W.Fast.tw5367403587924585046 : True := trivial
theorem PySem.W.Fast.tw4132797466317802427 : True := trivial
theorem PySem.W.Fast.tw12036446541542573999 : True := trivial
theorem PySem.W.Fast.tw16806932971318323418 : True := trivial
theorem PySem.W.Fast.tw9816726775808704990 : True := trivial
theorem PySem.W.Fast.tw12514690745965000249 : True := trivial
theorem PySem.W.Fast.tw10535022034772256161 : True := trivial
theorem PySem.W.Fast.tw10885926128904772296 : True := trivial
theorem PySem.W.Fast.tw10785393592030499863 : True := trivial
theorem PySem.W.Fast.tw10284520946502072622 : True := trivial
theorem PySem.W.Fast.tw4343996148929570576 : True := trivial
theorem PySem.W.Fast.tw17643838469944827669 : True := trivial
theorem PySem.W.Fast.tw13408223217224888600 : True := trivial
theorem PySem.W.Fast.tw14083350146991727460 : True := trivial
theorem PySem.W.Fast.tw15049650847298136122 : True := trivial
theorem PySem.W.Fast.tw15662021220289827319 : True := trivial
theorem PySem.W.Fast.tw15181104583173594734 : True := trivial
theorem PySem.W.Fast.tw102735038883618520 : True := trivial
theorem PySem.W.Fast.tw15345120971419559743 : True := trivial
theorem PySem.W.Fast.tw15304738762112027768 : True := trivial
theorem PySem.W.Fast.tw188837889108230892 : True := trivial
theorem PySem.W.Fast.tw11210750848381502007 : True := trivial
theorem PySem.W.Fast.tw5260796486401121243 : True := trivial
theorem PySem.W.Fast.tw10276483387057323847 : True := trivial
theorem PySem.W.Fast.tw13628725513402685512 : True := trivial
theorem PySem.W.Fast.tw13874444236571931320 : True := trivial
theorem PySem.W.Fast.tw16826418467504759267 : True := trivial
theorem PySem.W.Fast.tw13779620752069133558 : True := trivial
theorem PySem.W.Fast.tw17582646120820049419 : True := trivial
theorem PySem.W.Fast.tw11541963883054905627 : True := trivial
theorem PySem.W.Fast.tw3481327277350109225 : True := trivial
theorem PySem.W.Fast.tw6582061271947272569 : True := trivial
theorem PySem.W.Fast.tw11818864756021890250 : True := trivial
theorem PySem.W.Fast.tw1232574708669214526 : True := trivial
theorem PySem.W.Fast.tw12856976872338615651 : True := trivial
theorem PySem.W.Fast.tw11763787835219957817 : True := trivial
theorem PySem.W.Fast.tw3122689453116363904 : True := trivial
theorem PySem.W.Fast.tw3047018146730163135 : True := trivial
theorem PySem.W.Fast.tw15840392994994187271 : True := trivial
theorem PySem.W.Fast.tw2048771657858026905 : True := trivial
theorem PySem.W.Fast.tw17712140358223458136 : True := trivial
theorem PySem.W.Fast.tw375893265952637471 : True := trivial
theorem PySem.W.Fast.tw9213848404917560774 : True := trivial
theorem PySem.W.Fast.tw2475313472563351732 : True := trivial
theorem PySem.W.Fast.tw14084604659120091430 : True := trivial
theorem PySem.W.Fast.tw1630331983491551272 : True := trivial
theorem PySem.W.Fast.tw4347155687105249029 : True := trivial
theorem PySem.W.Fast.tw4002659509498235101 : True := trivial
theorem PySem.W.Fast.tw14220909968173576387 : True := trivial
theorem PySem.W.Fast.tw1619507989591359391 : True := trivial
theorem PySem.W.Fast.tw14881018479247172173 : True := trivial
theorem PySem.W.Fast.tw5101691559932060563 : True := trivial
theorem PySem.W.Fast.tw3114575421948532640 : True := trivial
theorem PySem.W.Fast.tw3840611549684692790 : True := trivial
theorem PySem.W.Fast.tw3584986658648351381 : True := trivial
theorem PySem.W.Fast.tw3639242115804066495 : True := trivial
theorem PySem.W.Fast.tw2886615580189869647 : True := trivial
theorem PySem.W.Fast.tw5373022932010841890 : True := trivial
theorem PySem.W.Fast.tw6663984516611909099 : True := trivial
theorem PySem.W.Fast.tw1733533515194519309 : True := trivial
theorem PySem.W.Fast.tw6481810807368721984 : True := trivial
theorem PySem.W.Fast.tw12225189374526715845 : True := trivial
theorem PySem.W.Fast.tw3978570593439033462 : True := trivial
theorem PySem.W.Fast.tw15367833843036112579 : True := trivial
theorem PySem.W.Fast.tw3266800338381104 : True := trivial
theorem PySem.W.Fast.tw6657446106480045953 : True := trivial
theorem PySem.W.Fast.tw13083653855046585728 : True := trivial
theorem PySem.W.Fast.tw2585880716944906788 : True := trivial
theorem PySem.W.Fast.tw11465283607462971669 : True := trivial
theorem PySem.W.Fast.tw18146756243656634285 : True := trivial
theorem PySem.W.Fast.tw15798130409152504298 : True := trivial
theorem PySem.W.Fast.tw16859760463578547986 : True := trivial
theorem PySem.W.Fast.tw5521709704101397567 : True := trivial
theorem PySem.W.Fast.tw8088208951886408541 : True := trivial
theorem PySem.W.Fast.tw13177723554144498060 : True := trivial
theorem PySem.W.Fast.tw13588050358848076139 : True := trivial
theorem PySem.W.Fast.tw17156672724069980103 : True := trivial
theorem PySem.W.Fast.tw16926449376768041790 : True := trivial
theorem PySem.W.Fast.tw3083595303406587763 : True := trivial
theorem PySem.W.Fast.tw1936980187763214296 : True := trivial
theorem PySem.W.Fast.tw9910660037178238694 : True := trivial
theorem PySem.W.Fast.tw15629549990936215817 : True := trivial
theorem PySem.W.Fast.tw12728158008363963193 : True := trivial
theorem PySem.W.Fast.tw3168609622649523411 : True := trivial
theorem PySem.W.Fast.tw1117232561653888276 : True := trivial
theorem PySem.W.Fast.tw12715310271721781187 : True := trivial
theorem PySem.W.Fast.tw6460810009492578705 : True := trivial
theorem PySem.W.Fast.tw1002388854510998746 : True := trivial
theorem PySem.W.Fast.tw16329739076139624999 : True := trivial
theorem PySem.W.Fast.tw15949515927936431203 : True := trivial
theorem PySem.W.Fast.tw15857486949475270818 : True := trivial
theorem PySem.W.Fast.tw5956231729380011686 : True := trivial
theorem PySem.W.Fast.tw17406290560255573592 : True := trivial
theorem PySem.W.Fast.tw4111796959255109770 : True := trivial
theorem PySem.W.Fast.tw5536797139861725038 : True := trivial
theorem PySem.W.Fast.tw6397720684070948616 : True := trivial
theorem PySem.W.Fast.tw7758956199664414125 : True := trivial
theorem PySem.W.Fast.tw12637762753903588800 : True := trivial
theorem PySem.W.Fast.tw17544286978342877918 : True := trivial
theorem PySem.W.Fast.tw16937279245344584 : True := trivial
theorem PySem.W.Fast.tw6488871325463757054 : True := trivial
theorem PySem.W.Fast.tw4693492931508196936 : True := trivial
theorem PySem.W.Fast.tw15247109301548682137 : True := trivial
theorem PySem.W.Fast.tw6334865220985455379 : True := trivial
theorem PySem.W.Fast.tw9418119165023072177 : True := trivial
theorem PySem.W.Fast.tw18187105147112731544 : True := trivial
theorem PySem.W.Fast.tw11445049505546075604 : True := trivial
theorem PySem.W.Fast.tw13214191703092954733 : True := trivial
theorem PySem.W.Fast.tw12451381732364121635 : True := trivial
theorem PySem.W.Fast.tw6587190363394281861 : True := trivial
theorem PySem.W.Fast.tw11926769512071149531 : True := trivial
theorem PySem.W.Fast.tw8564568905064544338 : True := trivial
theorem PySem.W.Fast.tw15988724630214346978 : True := trivial
theorem PySem.W.Fast.tw4321595100319083792 : True := trivial
theorem PySem.W.Fast.tw9234100443128392835 : True := trivial
theorem PySem.W.Fast.tw15769121248891418954 : True := trivial
theorem PySem.W.Fast.tw12183162583888233384 : True := trivial
theorem PySem.W.Fast.tw10961343315447370361 : True := trivial
theorem PySem.W.Fast.tw11539306667391271260 : True := trivial
theorem PySem.W.Fast.tw16564366931507859433 : True := trivial
theorem PySem.W.Fast.tw11787496003607299481 : True := trivial
theorem PySem.W.Fast.tw14474251961340439144 : True := trivial
theorem PySem.W.Fast.tw14429376674500391926 : True := trivial
theorem PySem.W.Fast.tw1885845585123291748 : True := trivial
theorem PySem.W.Fast.tw16929389848218381185 : True := trivial
theorem PySem.W.Fast.tw9616386968365384314 : True := trivial
theorem PySem.W.Fast.tw14847816688859763818 : True := trivial
theorem PySem.W.Fast.tw494088427274381337 : True := trivial
theorem PySem.W.Fast.tw3266334356894964908 : True := trivial
theorem PySem.W.Fast.tw383866513188307766 : True := trivial
theorem PySem.W.Fast.tw9208749438869523225 : True := trivial
theorem PySem.W.Fast.tw15833407587102912920 : True := trivial
theorem PySem.W.Fast.tw6788800286086283112 : True := trivial
theorem PySem.W.Fast.tw6340989506784224435 : True := trivial
theorem PySem.W.Fast.tw662687583447940343 : True := trivial
theorem PySem.W.Fast.tw9648859813469853101 : True := trivial
theorem PySem.W.Fast.tw5389518492836295175 : True := trivial
theorem PySem.W.Fast.tw1320200958515124591 : True := trivial
theorem PySem.W.Fast.tw121515752918799120 : True := trivial
theorem PySem.W.Fast.tw9565763865903991239 : True := trivial
theorem PySem.W.Fast.tw10980465199138502426 : True := trivial
theorem PySem.W.Fast.tw11963590905397385538 : True := trivial
theorem PySem.W.Fast.tw2516341516116518713 : True := trivial
theorem PySem.W.Fast.tw12906002801688109183 : True := trivial
theorem PySem.W.Fast.tw9398878467725839249 : True := trivial
theorem PySem.W.Fast.tw1251366780005805597 : True := trivial
theorem PySem.W.Fast.tw1672064182866274749 : True := trivial
theorem PySem.W.Fast.tw16994756450599026495 : True := trivial
theorem PySem.W.Fast.tw13368203018807777207 : True := trivial
theorem PySem.W.Fast.tw16097899136759984616 : True := trivial
theorem PySem.W.Fast.tw3387400321690496294 : True := trivial
theorem PySem.W.Fast.tw13254326982393952452 : True := trivial
theorem PySem.W.Fast.tw13005356346485604228 : True := trivial
theorem PySem.W.Fast.tw18205679454686003988 : True := trivial
theorem PySem.W.Fast.tw4728573957606587578 : True := trivial
theorem PySem.W.Fast.tw8045272769486630693 : True := trivial
theorem PySem.W.Fast.tw10423522070260647316 : True := trivial
theorem PySem.W.Fast.tw3475657665416632040 : True := trivial
theorem PySem.W.Fast.tw14024809208358357949 : True := trivial
theorem PySem.W.Fast.tw17786707317561446449 : True := trivial
theorem PySem.W.Fast.tw7458699670842118160 : True := trivial
theorem PySem.W.Fast.tw13312062499059612048 : True := trivial
theorem PySem.W.Fast.tw8753337343478639794 : True := trivial
theorem PySem.W.Fast.tw10099027181247373232 : True := trivial
theorem PySem.W.Fast.tw1339891398537927521 : True := trivial
theorem PySem.W.Fast.tw2992655762904819004 : True := trivial
theorem PySem.W.Fast.tw2266738161199979871 : True := trivial
theorem PySem.W.Fast.tw14520018936675659686 : True := trivial
theorem PySem.W.Fast.tw6719974369934961796 : True := trivial
theorem PySem.W.Fast.tw16477492198226566080 : True := trivial
theorem PySem.W.Fast.tw9335925804099682268 : True := trivial
theorem PySem.W.Fast.tw8915845518220455586 : True := trivial
theorem PySem.W.Fast.tw5132077861993080095 : True := trivial
theorem PySem.W.Fast.tw10901513643206491173 : True := trivial
theorem PySem.W.Fast.tw6479404386582844753 : True := trivial
theorem PySem.W.Fast.tw5267482308975315747 : True := trivial
theorem PySem.W.Fast.tw8039501310516064979 : True := trivial
theorem PySem.W.Fast.tw3381603099041669146 : True := trivial
theorem PySem.W.Fast.tw3558277091645394688 : True := trivial
theorem PySem.W.Fast.tw13290793582315040696 : True := trivial
theorem PySem.W.Fast.tw12397061021123368024 : True := trivial
theorem PySem.W.Fast.tw722976266306915942 : True := trivial
theorem PySem.W.Fast.tw15842380546921090796 : True := trivial
theorem PySem.W.Fast.tw17696775765015281482 : True := trivial
theorem PySem.W.Fast.tw17828871130231170001 : True := trivial
theorem PySem.W.Fast.tw5691026597606867083 : True := trivial
theorem PySem.W.Fast.tw3886290786680646679 : True := trivial
theorem PySem.W.Fast.tw2524584016276343602 : True := trivial
theorem PySem.W.Fast.tw15097900645597091293 : True := trivial
theorem PySem.W.Fast.tw4667060817967655520 : True := trivial
theorem PySem.W.Fast.tw16093559232511478260 : True := trivial
theorem PySem.W.Fast.tw1058401766267009022 : True := trivial
theorem PySem.W.Fast.tw2163759244544346350 : True := trivial
theorem PySem.W.Fast.tw13086520681573035141 : True := trivial
theorem PySem.W.Fast.tw2817988489557087006 : True := trivial
theorem PySem.W.Fast.tw13976290902679919170 : True := trivial
theorem PySem.W.Fast.tw13038061580290804203 : True := trivial
theorem PySem.W.Fast.tw6992389523185082536 : True := trivial
theorem PySem.W.Fast.tw3344251810140904810 : True := trivial
theorem PySem.W.Fast.tw2889319821146360528 : True := trivial
theorem PySem.W.Fast.tw4429377585765151715 : True := trivial
theorem PySem.W.Fast.tw10211887261920381262 : True := trivial
theorem PySem.W.Fast.tw11032939023464016986 : True := trivial
theorem PySem.W.Fast.tw10566450480394820214 : True := trivial
theorem PySem.W.Fast.tw11742523078712354387 : True := trivial
theorem PySem.W.Fast.tw11691028160115848837 : True := trivial
theorem PySem.W.Fast.tw7345392633075087954 : True := trivial
theorem PySem.W.Fast.tw13646518665154074503 : True := trivial
theorem PySem.W.Fast.tw7449690690919055755 : True := trivial
theorem PySem.W.Fast.tw1837364684729645848 : True := trivial
theorem PySem.W.Fast.tw10343908481970780181 : True := trivial
theorem PySem.W.Fast.tw11912083430985022589 : True := trivial
theorem PySem.W.Fast.tw7086877038902837814 : True := trivial
theorem PySem.W.Fast.tw1119793455023885939 : True := trivial
theorem PySem.W.Fast.tw1496256261769266500 : True := trivial
theorem PySem.W.Fast.tw10613246194141280781 : True := trivial
theorem PySem.W.Fast.tw2613773013311157045 : True := trivial
theorem PySem.W.Fast.tw3027431126920022532 : True := trivial
theorem PySem.W.Fast.tw13605971572633170959 : True := trivial
theorem PySem.W.Fast.tw4014816868639485741 : True := trivial
theorem PySem.W.Fast.tw535568568694595273 : True := trivial
theorem PySem.W.Fast.tw7668018871434962735 : True := trivial
theorem PySem.W.Fast.tw11933095540263773559 : True := trivial
theorem PySem.W.Fast.tw13547146606683986152 : True := trivial
theorem PySem.W.Fast.tw933350866194148640 : True := trivial
theorem PySem.W.Fast.tw18177869155236285883 : True := trivial
theorem PySem.W.Fast.tw4439062356503541563 : True := trivial
theorem PySem.W.Fast.tw16458584883410849453 : True := trivial
theorem PySem.W.Fast.tw10986162024858714188 : True := trivial
theorem PySem.W.Fast.tw16680729277234436298 : True := trivial
theorem PySem.W.Fast.tw523413498919365913 : True := trivial
theorem PySem.W.Fast.tw18043956453423610157 : True := trivial
theorem PySem.W.Fast.tw13263063209829481887 : True := trivial
theorem PySem.W.Fast.tw16249321909555361624 : True := trivial
theorem PySem.W.Fast.tw7949793021074144471 : True := trivial
theorem PySem.W.Fast.tw11124485650833070296 : True := trivial
theorem PySem.W.Fast.tw15156135309581840366 : True := trivial
theorem PySem.W.Fast.tw15010757815992277618 : True := trivial
theorem PySem.W.Fast.tw10102610982747656864 : True := trivial
theorem PySem.W.Fast.tw11408828145242798542 : True := trivial
theorem PySem.W.Fast.tw1438171863980223726 : True := trivial
theorem PySem.W.Fast.tw9414189541250411269 : True := trivial
theorem PySem.W.Fast.tw8119745040875979964 : True := trivial
theorem PySem.W.Fast.tw203936056342915272 : True := trivial
theorem PySem.W.Fast.tw16440900602022756443 : True := trivial
theorem PySem.W.Fast.tw5607236775480515390 : True := trivial
theorem PySem.W.Fast.tw5652551620776089706 : True := trivial
theorem PySem.W.Fast.tw692228475961082144 : True := trivial
theorem PySem.W.Fast.tw15145306722349582299 : True := trivial
theorem PySem.W.Fast.tw8929240057508797675 : True := trivial
theorem PySem.W.Fast.tw12341064885266736224 : True := trivial
theorem PySem.W.Fast.tw11689574063963700460 : True := trivial
theorem PySem.W.Fast.tw6933730462251558038 : True := trivial
theorem PySem.W.Fast.tw3281389741884976095 : True := trivial
theorem PySem.W.Fast.tw14239188183504846113 : True := trivial
theorem PySem.W.Fast.tw11230957269636751763 : True := trivial
theorem PySem.W.Fast.tw8243399208409167074 : True := trivial
theorem PySem.W.Fast.tw16495920195078570637 : True := trivial
theorem PySem.W.Fast.tw14792972834161185803 : True := trivial
theorem PySem.W.Fast.tw5211428286015899347 : True := trivial
theorem PySem.W.Fast.tw10513417144626773609 : True := trivial
theorem PySem.W.Fast.tw4431055326119344774 : True := trivial
theorem PySem.W.Fast.tw909413286350951915 : True := trivial
theorem PySem.W.Fast.tw16701252590261986467 : True := trivial
theorem PySem.W.Fast.tw6843336856465939020 : True := trivial
theorem PySem.W.Fast.tw17536930447213336257 : True := trivial
theorem PySem.W.Fast.tw10898669494167845688 : True := trivial
theorem PySem.W.Fast.tw15639772742694421141 : True := trivial
theorem PySem.W.Fast.tw17809618707018373673 : True := trivial
theorem PySem.W.Fast.tw2001111473499421575 : True := trivial
theorem PySem.W.Fast.tw15216657356587335714 : True := trivial
theorem PySem.W.Fast.tw15031478111906160024 : True := trivial
theorem PySem.W.Fast.tw15232947228681642191 : True := trivial
theorem PySem.W.Fast.tw16861495321224481087 : True := trivial
theorem PySem.W.Fast.tw14942584815681245945 : True := trivial
theorem PySem.W.Fast.tw6056558450035133106 : True := trivial
theorem PySem.W.Fast.tw6292419851273450499 : True := trivial
theorem PySem.W.Fast.tw14809493579172961650 : True := trivial
theorem PySem.W.Fast.tw14896890959770433420 : True := trivial
theorem PySem.W.Fast.tw15747957146475238757 : True := trivial
theorem PySem.W.Fast.tw9159335111337955040 : True := trivial
theorem PySem.W.Fast.tw3459946910971839668 : True := trivial
theorem PySem.W.Fast.tw12222906692680288964 : True := trivial
theorem PySem.W.Fast.tw6436569460188363765 : True := trivial
theorem PySem.W.Fast.tw10394234350165434355 : True := trivial
theorem PySem.W.Fast.tw8476193592701047741 : True := trivial
theorem PySem.W.Fast.tw12365850778936541191 : True := trivial
theorem PySem.W.Fast.tw5366686866254766769 : True := trivial
theorem PySem.W.Fast.tw6255140335903349463 : True := trivial
theorem PySem.W.Fast.tw13038306409231201488 : True := trivial
theorem PySem.W.Fast.tw11593898905743565504 : True := trivial
theorem PySem.W.Fast.tw7918603413517616037 : True := trivial
theorem PySem.W.Fast.tw16540572451598843852 : True := trivial
theorem PySem.W.Fast.tw9329409437325877867 : True := trivial
theorem PySem.W.Fast.tw13483548777789363424 : True := trivial
theorem PySem.W.Fast.tw687561322600370514 : True := trivial
theorem PySem.W.Fast.tw7544495014760907243 : True := trivial
theorem PySem.W.Fast.tw15676957765086824025 : True := trivial
theorem PySem.W.Fast.tw15011418477997696495 : True := trivial
theorem PySem.W.Fast.tw5237189925218741660 : True := trivial
theorem PySem.W.Fast.tw12996455785773794950 : True := trivial
theorem PySem.W.Fast.tw4790276913931010825 : True := trivial
theorem PySem.W.Fast.tw15373636339387170235 : True := trivial
theorem PySem.W.Fast.tw751336723269889058 : True := trivial
theorem PySem.W.Fast.tw1976400011800510458 : True := trivial
theorem PySem.W.Fast.tw14364730812387958145 : True := trivial
theorem PySem.W.Fast.tw12774899342778178974 : True := trivial
theorem PySem.W.Fast.tw15892261439107593745 : True := trivial
theorem PySem.W.Fast.tw6080042392717509704 : True := trivial
theorem PySem.W.Fast.tw14101641578909692698 : True := trivial
theorem PySem.W.Fast.tw16832439290604953895 : True := trivial
theorem PySem.W.Fast.tw11053088690958307479 : True := trivial
theorem PySem.W.Fast.tw17125566744110940181 : True := trivial
theorem PySem.W.Fast.tw18168698369465293352 : True := trivial
theorem PySem.W.Fast.tw798020952936387756 : True := trivial
theorem PySem.W.Fast.tw11199536628409427300 : True := trivial
theorem PySem.W.Fast.tw8191420764496300904 : True := trivial
theorem PySem.W.Fast.tw6877206564357781204 : True := trivial
theorem PySem.W.Fast.tw8393830566796201920 : True := trivial
theorem PySem.W.Fast.tw8394569946950257377 : True := trivial
theorem PySem.W.Fast.tw11979278453624166324 : True := trivial
theorem PySem.W.Fast.tw2989640927343189698 : True := trivial
theorem PySem.W.Fast.tw13282934561945621424 : True := trivial
theorem PySem.W.Fast.tw12023609203729629248 : True := trivial
theorem PySem.W.Fast.tw11876504306106428328 : True := trivial
theorem PySem.W.Fast.tw2206677372852740446 : True := trivial
theorem PySem.W.Fast.tw10939999602954309487 : True := trivial
theorem PySem.W.Fast.tw13412520236501054067 : True := trivial
theorem PySem.W.Fast.tw973367992954763045 : True := trivial
theorem PySem.W.Fast.tw11182007257728677497 : True := trivial
theorem PySem.W.Fast.tw5474210322577467784 : True := trivial
theorem PySem.W.Fast.tw16752000632263144251 : True := trivial
theorem PySem.W.Fast.tw8824142693954455365 : True := trivial
theorem PySem.W.Fast.tw4373924807649077574 : True := trivial
theorem PySem.W.Fast.tw15587109085720739902 : True := trivial
theorem PySem.W.Fast.tw18421620031034973768 : True := trivial
theorem PySem.W.Fast.tw176953653179367655 : True := trivial
theorem PySem.W.Fast.tw17444953472270008584 : True := trivial
theorem PySem.W.Fast.tw18261295088827973204 : True := trivial
theorem PySem.W.Fast.tw5977227316608862477 : True := trivial
theorem PySem.W.Fast.tw8757654710958716669 : True := trivial
theorem PySem.W.Fast.tw7022579219778879968 : True := trivial
theorem PySem.W.Fast.tw13347390584478973437 : True := trivial
theorem PySem.W.Fast.tw4617289424873631491 : True := trivial
theorem PySem.W.Fast.tw15281111261984094976 : True := trivial
theorem PySem.W.Fast.tw9686414522316864885 : True := trivial
theorem PySem.W.Fast.tw2871497056184476679 : True := trivial
theorem PySem.W.Fast.tw17303400398931678537 : True := trivial
theorem PySem.W.Fast.tw8155676222734346066 : True := trivial
theorem PySem.W.Fast.tw442891659787495020 : True := trivial
theorem PySem.W.Fast.tw11351744735095868453 : True := trivial
theorem PySem.W.Fast.tw9739357077517179229 : True := trivial
theorem PySem.W.Fast.tw2511887385400255228 : True := trivial
theorem PySem.W.Fast.tw447065727744777817 : True := trivial
theorem PySem.W.Fast.tw6325002221849766700 : True := trivial
theorem PySem.W.Fast.tw3552855939068481321 : True := trivial
theorem PySem.W.Fast.tw12750009022594827179 : True := trivial
theorem PySem.W.Fast.tw14135679530021417514 : True := trivial
theorem PySem.W.Fast.tw3952549596977277973 : True := trivial
theorem PySem.W.Fast.tw3354676035846408909 : True := trivial
theorem PySem.W.Fast.tw10550703285432261168 : True := trivial
theorem PySem.W.Fast.tw7400893305129554173 : True := trivial
theorem PySem.W.Fast.tw14643738456285976144 : True := trivial
theorem PySem.W.Fast.tw6477347990668079820 : True := trivial
theorem PySem.W.Fast.tw285994398791853807 : True := trivial
theorem PySem.W.Fast.tw2571497834594809591 : True := trivial
theorem PySem.W.Fast.tw7501391545264732340 : True := trivial
theorem PySem.W.Fast.tw12472105609070347226 : True := trivial
theorem PySem.W.Fast.tw10420288414840485698 : True := trivial
theorem PySem.W.Fast.tw877725494336934812 : True := trivial
theorem PySem.W.Fast.tw3453357517223756255 : True := trivial
theorem PySem.W.Fast.tw1073264119149833847 : True := trivial
theorem PySem.W.Fast.tw15218026411154379869 : True := trivial
theorem PySem.W.Fast.tw5696642026389564348 : True := trivial
theorem PySem.W.Fast.tw17546034506510110654 : True := trivial
theorem PySem.W.Fast.tw6566674933521275634 : True := trivial
theorem PySem.W.Fast.tw17156557517828458829 : True := trivial
theorem PySem.W.Fast.tw8918636607980730169 : True := trivial
theorem PySem.W.Fast.tw9907264843643653355 : True := trivial
theorem PySem.W.Fast.tw7370046520770390014 : True := trivial
theorem PySem.W.Fast.tw5797478830754580509 : True := trivial
theorem PySem.W.Fast.tw4379323978559354504 : True := trivial
theorem PySem.W.Fast.tw581051866364895184 : True := trivial
theorem PySem.W.Fast.tw14258255569475258291 : True := trivial
theorem PySem.W.Fast.tw11586099521874802979 : True := trivial
theorem PySem.W.Fast.tw4329874199669488389 : True := trivial
theorem PySem.W.Fast.tw13675654298983429048 : True := trivial
theorem PySem.W.Fast.tw2050715918821575420 : True := trivial
theorem PySem.W.Fast.tw14871014787823025527 : True := trivial
theorem PySem.W.Fast.tw16514400720265605485 : True := trivial
theorem PySem.W.Fast.tw5480693072726016215 : True := trivial
theorem PySem.W.Fast.tw10873834847300536735 : True := trivial
theorem PySem.W.Fast.tw6769824075514235120 : True := trivial
theorem PySem.W.Fast.tw2814551683813216855 : True := trivial
theorem PySem.W.Fast.tw14234177289108105837 : True := trivial
theorem PySem.W.Fast.tw4757959218589954539 : True := trivial
theorem PySem.W.Fast.tw15167516359089269001 : True := trivial
theorem PySem.W.Fast.tw12845925709732350080 : True := trivial
theorem PySem.W.Fast.tw6684190598798386656 : True := trivial
theorem PySem.W.Fast.tw16962790187119376627 : True := trivial
theorem PySem.W.Fast.tw12417623359397701700 : True := trivial
theorem PySem.W.Fast.tw541391176812582785 : True := trivial
theorem PySem.W.Fast.tw3961134251814144202 : True := trivial
theorem PySem.W.Fast.tw102893374833161286 : True := trivial
theorem PySem.W.Fast.tw8458939198016041856 : True := trivial
theorem PySem.W.Fast.tw17038858248502271210 : True := trivial
theorem PySem.W.Fast.tw10636884319110041910 : True := trivial
theorem PySem.W.Fast.tw7945182398130012123 : True := trivial
theorem PySem.W.Fast.tw16879057554643640512 : True := trivial
theorem PySem.W.Fast.tw3638449016284333307 : True := trivial
theorem PySem.W.Fast.tw9618191207880909514 : True := trivial
theorem PySem.W.Fast.tw14747386677993842402 : True := trivial
theorem PySem.W.Fast.tw12375668091079486193 : True := trivial
theorem PySem.W.Fast.tw6167659033883222245 : True := trivial
theorem PySem.W.Fast.tw5296228300157513916 : True := trivial
theorem PySem.W.Fast.tw13676436357959486895 : True := trivial
theorem PySem.W.Fast.tw4988916336338453288 : True := trivial
theorem PySem.W.Fast.tw5279983859572219216 : True := trivial
theorem PySem.W.Fast.tw11056907701523012325 : True := trivial
theorem PySem.W.Fast.tw17349308691637132831 : True := trivial
theorem PySem.W.Fast.tw18149585403149524912 : True := trivial
theorem PySem.W.Fast.tw10637825844963882916 : True := trivial
theorem PySem.W.Fast.tw11346824601317396681 : True := trivial
theorem PySem.W.Fast.tw12710594323754571296 : True := trivial
theorem PySem.W.Fast.tw8043648223104433457 : True := trivial
theorem PySem.W.Fast.tw8428409938394038373 : True := trivial
theorem PySem.W.Fast.tw13867845180745001650 : True := trivial
theorem PySem.W.Fast.tw14112501060954477401 : True := trivial
theorem PySem.W.Fast.tw12018322054475509209 : True := trivial
theorem PySem.W.Fast.tw15730021319249064403 : True := trivial
theorem PySem.W.Fast.tw11556060003450872030 : True := trivial
theorem PySem.W.Fast.tw18219181803772995513 : True := trivial
theorem PySem.W.Fast.tw10402150360361268738 : True := trivial
theorem PySem.W.Fast.tw3529348730687958746 : True := trivial
theorem PySem.W.Fast.tw5819199481612227824 : True := trivial
theorem PySem.W.Fast.tw4558065096319579020 : True := trivial
theorem PySem.W.Fast.tw251716283998926419 : True := trivial
theorem PySem.W.Fast.tw3454983769578680402 : True := trivial
theorem PySem.W.Fast.tw18199980687876422661 : True := trivial
theorem PySem.W.Fast.tw6389539025652130166 : True := trivial
theorem PySem.W.Fast.tw11614374526355592863 : True := trivial
theorem PySem.W.Fast.tw13352864951184341373 : True := trivial
theorem PySem.W.Fast.tw1731899305944484721 : True := trivial
theorem PySem.W.Fast.tw16885611052891185488 : True := trivial
theorem PySem.W.Fast.tw1218694815568070172 : True := trivial
theorem PySem.W.Fast.tw11727327568003122023 : True := trivial
theorem PySem.W.Fast.tw16789806702043476315 : True := trivial
theorem PySem.W.Fast.tw12467348919379744548 : True := trivial
theorem PySem.W.Fast.tw14684764196233561945 : True := trivial
theorem PySem.W.Fast.tw2818692671865321722 : True := trivial
theorem PySem.W.Fast.tw6070166037683885975 : True := trivial
theorem PySem.W.Fast.tw15889736073458573809 : True := trivial
theorem PySem.W.Fast.tw16551762074035598807 : True := trivial
theorem PySem.W.Fast.tw17292149304734075072 : True := trivial
theorem PySem.W.Fast.tw7043153449790985124 : True := trivial
theorem PySem.W.Fast.tw13393800029794027529 : True := trivial
theorem PySem.W.Fast.tw8261672645174334455 : True := trivial
theorem PySem.W.Fast.tw888671919718447288 : True := trivial
theorem PySem.W.Fast.tw11381697228656560865 : True := trivial
theorem PySem.W.Fast.tw10820440538991343362 : True := trivial
theorem PySem.W.Fast.tw17542266339018526572 : True := trivial
theorem PySem.W.Fast.tw9679656470452905815 : True := trivial
theorem PySem.W.Fast.tw8357667778253981000 : True := trivial
theorem PySem.W.Fast.tw9917237095938857369 : True := trivial
theorem PySem.W.Fast.tw2861613108627979577 : True := trivial
theorem PySem.W.Fast.tw5979347544524495964 : True := trivial
theorem PySem.W.Fast.tw9511029775283688049 : True := trivial
theorem PySem.W.Fast.tw2029153719852170040 : True := trivial
theorem PySem.W.Fast.tw14583647247994110620 : True := trivial
theorem PySem.W.Fast.tw8164059737902803745 : True := trivial
theorem PySem.W.Fast.tw5436116187674724136 : True := trivial
theorem PySem.W.Fast.tw7476444498005493203 : True := trivial
theorem PySem.W.Fast.tw6787959434048890121 : True := trivial
theorem PySem.W.Fast.tw11895805681112554613 : True := trivial
theorem PySem.W.Fast.tw3218288614198831802 : True := trivial
theorem PySem.W.Fast.tw1395283249833511654 : True := trivial
theorem PySem.W.Fast.tw17158180674748038778 : True := trivial
theorem PySem.W.Fast.tw2671268703080215735 : True := trivial
theorem PySem.W.Fast.tw4005688624665651282 : True := trivial
theorem PySem.W.Fast.tw7854993530458015235 : True := trivial
theorem PySem.W.Fast.tw11476656257164751428 : True := trivial
theorem PySem.W.Fast.tw7516284091396417369 : True := trivial
theorem PySem.W.Fast.tw9622359377835297024 : True := trivial
theorem PySem.W.Fast.tw14241209917123438837 : True := trivial
theorem PySem.W.Fast.tw4707866392885533452 : True := trivial
theorem PySem.W.Fast.tw1433941708120938477 : True := trivial
theorem PySem.W.Fast.tw16719077615970194506 : True := trivial
theorem PySem.W.Fast.tw18248319607659354539 : True := trivial
theorem PySem.W.Fast.tw8146209374409955135 : True := trivial
theorem PySem.W.Fast.tw3758954281802410535 : True := trivial
theorem PySem.W.Fast.tw7179192911834549508 : True := trivial
theorem PySem.W.Fast.tw7974112129506303000 : True := trivial
theorem PySem.W.Fast.tw10596306528229513963 : True := trivial
theorem PySem.W.Fast.tw15943627874758301724 : True := trivial
theorem PySem.W.Fast.tw15987321923824522106 : True := trivial
theorem PySem.W.Fast.tw670872920853378842 : True := trivial
theorem PySem.W.Fast.tw10846341700559735542 : True := trivial
theorem PySem.W.Fast.tw9193653145428657438 : True := trivial
theorem PySem.W.Fast.tw12270964751009867183 : True := trivial
theorem PySem.W.Fast.tw14581282458468720406 : True := trivial
theorem PySem.W.Fast.tw9953948273387525510 : True := trivial
theorem PySem.W.Fast.tw16706910855516939974 : True := trivial
theorem PySem.W.Fast.tw14155403947532883990 : True := trivial
theorem PySem.W.Fast.tw2198733668388639587 : True := trivial
theorem PySem.W.Fast.tw6091829953431123299 : True := trivial
theorem PySem.W.Fast.tw4440147330793200799 : True := trivial
theorem PySem.W.Fast.tw11431717005791798963 : True := trivial
theorem PySem.W.Fast.tw3877121059532089460 : True := trivial
theorem PySem.W.Fast.tw5808107075839496985 : True := trivial
theorem PySem.W.Fast.tw5904640283440105084 : True := trivial
theorem PySem.W.Fast.tw2264620211979753263 : True := trivial
theorem PySem.W.Fast.tw4054024231116049781 : True := trivial
theorem PySem.W.Fast.tw2515551422685814554 : True := trivial
theorem PySem.W.Fast.tw12857060507825876784 : True := trivial
theorem PySem.W.Fast.tw14874409800862268717 : True := trivial
theorem PySem.W.Fast.tw13848137081228012040 : True := trivial
theorem PySem.W.Fast.tw15930937681130311741 : True := trivial
theorem PySem.W.Fast.tw12412070276432777113 : True := trivial
theorem PySem.W.Fast.tw9635061172823187650 : True := trivial
theorem PySem.W.Fast.tw5288194806346106195 : True := trivial
theorem PySem.W.Fast.tw395469756151031437 : True := trivial
theorem PySem.W.Fast.tw7917559566123452946 : True := trivial
theorem PySem.W.Fast.tw13489224704961701210 : True := trivial
theorem PySem.W.Fast.tw1725012147273112571 : True := trivial
theorem PySem.W.Fast.tw9291886798004559563 : True := trivial
theorem PySem.W.Fast.tw14773174473173593954 : True := trivial
theorem PySem.W.Fast.tw16216740397036572964 : True := trivial
theorem PySem.W.Fast.tw3485998008196136462 : True := trivial
theorem PySem.W.Fast.tw10085986244858157740 : True := trivial
theorem PySem.W.Fast.tw5335166186166357778 : True := trivial
theorem PySem.W.Fast.tw16688848925860291233 : True := trivial
theorem PySem.W.Fast.tw913479441404273497 : True := trivial
theorem PySem.W.Fast.tw9976916633092586642 : True := trivial
theorem PySem.W.Fast.tw8719637251431188415 : True := trivial
theorem PySem.W.Fast.tw13385091603106711280 : True := trivial
theorem PySem.W.Fast.tw14317206454825232838 : True := trivial
theorem PySem.W.Fast.tw9075469258933531526 : True := trivial
theorem PySem.W.Fast.tw4945168468479424974 : True := trivial
theorem PySem.W.Fast.tw3380638305668878464 : True := trivial
theorem PySem.W.Fast.tw3855358869332222660 : True := trivial
theorem PySem.W.Fast.tw12536369515889449183 : True := trivial
theorem PySem.W.Fast.tw10214781452890789344 : True := trivial
theorem PySem.W.Fast.tw15538680519748194245 : True := trivial
theorem PySem.W.Fast.tw12450700537660419955 : True := trivial
theorem PySem.W.Fast.tw5001050422814433398 : True := trivial
theorem PySem.W.Fast.tw10335331872933958511 : True := trivial
theorem PySem.W.Fast.tw8182311077934758681 : True := trivial
theorem PySem.W.Fast.tw5814004178569162031 : True := trivial
theorem PySem.W.Fast.tw14485144089718812840 : True := trivial
theorem PySem.W.Fast.tw3644041928636646844 : True := trivial
theorem PySem.W.Fast.tw1587234419408349193 : True := trivial
theorem PySem.W.Fast.tw3117539070593801150 : True := trivial
theorem PySem.W.Fast.tw2786251090609528260 : True := trivial
theorem PySem.W.Fast.tw9039019311051763574 : True := trivial
theorem PySem.W.Fast.tw16961737968578535365 : True := trivial
theorem PySem.W.Fast.tw918785788912087871 : True := trivial
theorem PySem.W.Fast.tw11388803398116220074 : True := trivial
theorem PySem.W.Fast.tw17318173503315421586 : True := trivial
theorem PySem.W.Fast.tw9341175368282964200 : True := trivial
theorem PySem.W.Fast.tw18355571425359820606 : True := trivial
theorem PySem.W.Fast.tw5547760788181881625 : True := trivial
theorem PySem.W.Fast.tw3588882755650700667 : True := trivial
theorem PySem.W.Fast.tw17448147851359608570 : True := trivial
theorem PySem.W.Fast.tw3956254069929053277 : True := trivial
theorem PySem.W.Fast.tw3761677748922085124 : True := trivial
theorem PySem.W.Fast.tw14329018327727249029 : True := trivial
theorem PySem.W.Fast.tw18167285898041534339 : True := trivial
theorem PySem.W.Fast.tw13546004407259615915 : True := trivial
theorem PySem.W.Fast.tw11092775095393354468 : True := trivial
theorem PySem.W.Fast.tw14664880463909586494 : True := trivial
theorem PySem.W.Fast.tw7369779430127995661 : True := trivial
theorem PySem.W.Fast.tw9347479544954252534 : True := trivial
theorem PySem.W.Fast.tw17321299009331242377 : True := trivial
theorem PySem.W.Fast.tw1986507957848878290 : True := trivial
theorem PySem.W.Fast.tw220071681176385033 : True := trivial
theorem PySem.W.Fast.tw12057580650409334480 : True := trivial
theorem PySem.W.Fast.tw15833728210054081670 : True := trivial
theorem PySem.W.Fast.tw3237495562038979128 : True := trivial
theorem PySem.W.Fast.tw9488797155564804256 : True := trivial
theorem PySem.W.Fast.tw8135545744401722627 : True := trivial
theorem PySem.W.Fast.tw9779803014378523469 : True := trivial
theorem PySem.W.Fast.tw3289188325397280538 : True := trivial
theorem PySem.W.Fast.tw6222972386229018162 : True := trivial
theorem PySem.W.Fast.tw6121453784144390535 : True := trivial
theorem PySem.W.Fast.tw16471006015735065328 : True := trivial
theorem PySem.W.Fast.tw15118352266493391641 : True := trivial
theorem PySem.W.Fast.tw7728199308327999324 : True := trivial
theorem PySem.W.Fast.tw5540315934697177514 : True := trivial
theorem PySem.W.Fast.tw14692628596322529403 : True := trivial
theorem PySem.W.Fast.tw17050465692213949705 : True := trivial
theorem PySem.W.Fast.tw28888861120355610 : True := trivial
theorem PySem.W.Fast.tw7178021953603287801 : True := trivial
theorem PySem.W.Fast.tw10400877646006523642 : True := trivial
theorem PySem.W.Fast.tw12214972836126130565 : True := trivial
theorem PySem.W.Fast.tw6144691144674052085 : True := trivial
theorem PySem.W.Fast.tw11952312292599538831 : True := trivial
theorem PySem.W.Fast.tw2745808738605246472 : True := trivial
theorem PySem.W.Fast.tw2381021617378656291 : True := trivial
theorem PySem.W.Fast.tw15292032834474224994 : True := trivial
theorem PySem.W.Fast.tw3678131885734281152 : True := trivial
theorem PySem.W.Fast.tw15189508799530168569 : True := trivial
theorem PySem.W.Fast.tw3840066277491929207 : True := trivial
theorem PySem.W.Fast.tw13613329081685334838 : True := trivial
theorem PySem.W.Fast.tw10315528348429820611 : True := trivial
theorem PySem.W.Fast.tw11805153184110241667 : True := trivial
theorem PySem.W.Fast.tw62223756979329567 : True := trivial
theorem PySem.W.Fast.tw4517114150658462129 : True := trivial
theorem PySem.W.Fast.tw6010861687207274932 : True := trivial
theorem PySem.W.Fast.tw4856691609664858483 : True := trivial
theorem PySem.W.Fast.tw1190530836160362496 : True := trivial
theorem PySem.W.Fast.tw11831066349918341172 : True := trivial
theorem PySem.W.Fast.tw13205839768278229602 : True := trivial
theorem PySem.W.Fast.tw10693943492485962355 : True := trivial
theorem PySem.W.Fast.tw3725726894274912020 : True := trivial
theorem PySem.W.Fast.tw12630116975274540691 : True := trivial
theorem PySem.W.Fast.tw12479106571213340512 : True := trivial
theorem PySem.W.Fast.tw792321694386990620 : True := trivial
theorem PySem.W.Fast.tw6408972972675596275 : True := trivial
theorem PySem.W.Fast.tw11863370240075920476 : True := trivial
theorem PySem.W.Fast.tw14072595296471218172 : True := trivial
theorem PySem.W.Fast.tw17678306914516195993 : True := trivial
theorem PySem.W.Fast.tw10330737728864666485 : True := trivial
theorem PySem.W.Fast.tw2137911492496547625 : True := trivial
theorem PySem.W.Fast.tw4397145759436901299 : True := trivial
theorem PySem.W.Fast.tw2489495515309469995 : True := trivial
theorem PySem.W.Fast.tw7764172236808802536 : True := trivial
theorem PySem.W.Fast.tw6789876613920918781 : True := trivial
theorem PySem.W.Fast.tw5964280020411418397 : True := trivial
theorem PySem.W.Fast.tw16517413867816773955 : True := trivial
theorem PySem.W.Fast.tw3685834138620861165 : True := trivial
theorem PySem.W.Fast.tw6483869718154647222 : True := trivial
theorem PySem.W.Fast.tw6413365927167458969 : True := trivial
theorem PySem.W.Fast.tw1326854218408756252 : True := trivial
theorem PySem.W.Fast.tw3653374469911911118 : True := trivial
theorem PySem.W.Fast.tw5238481067732118689 : True := trivial
theorem PySem.W.Fast.tw1374008266751541918 : True := trivial
theorem PySem.W.Fast.tw6311542881968637112 : True := trivial
theorem PySem.W.Fast.tw12068638636560035818 : True := trivial
theorem PySem.W.Fast.tw1172088205456139329 : True := trivial
theorem PySem.W.Fast.tw3454712560869688535 : True := trivial
theorem PySem.W.Fast.tw1676274140487118093 : True := trivial
theorem PySem.W.Fast.tw7481821062002434863 : True := trivial
theorem PySem.W.Fast.tw17993236418271476145 : True := trivial
theorem PySem.W.Fast.tw14947614297315971959 : True := trivial
theorem PySem.W.Fast.tw5120277661638989642 : True := trivial
theorem PySem.W.Fast.tw17695227997650349480 : True := trivial
theorem PySem.W.Fast.tw1240973450227926878 : True := trivial
theorem PySem.W.Fast.tw6544484539094310064 : True := trivial
theorem PySem.W.Fast.tw4276354730085993553 : True := trivial
theorem PySem.W.Fast.tw7184772371027106196 : True := trivial
theorem PySem.W.Fast.tw5244215827942802806 : True := trivial
theorem PySem.W.Fast.tw2827405181835340959 : True := trivial
theorem PySem.W.Fast.tw16134813945709403262 : True := trivial
theorem PySem.W.Fast.tw483721709844817937 : True := trivial
theorem PySem.W.Fast.tw2853695519690182181 : True := trivial
theorem PySem.W.Fast.tw7045816868004116857 : True := trivial
theorem PySem.W.Fast.tw8105814767912529442 : True := trivial
theorem PySem.W.Fast.tw8435925962094831483 : True := trivial
theorem PySem.W.Fast.tw13665437486872645431 : True := trivial
theorem PySem.W.Fast.tw13916078260077777828 : True := trivial
theorem PySem.W.Fast.tw15063059448869023507 : True := trivial
theorem PySem.W.Fast.tw14402760909197557706 : True := trivial
theorem PySem.W.Fast.tw16028769952977565061 : True := trivial
theorem PySem.W.Fast.tw4815883732078534694 : True := trivial
theorem PySem.W.Fast.tw7960483960671951816 : True := trivial
theorem PySem.W.Fast.tw16288723120060438261 : True := trivial
theorem PySem.W.Fast.tw5725317204659255962 : True := trivial
theorem PySem.W.Fast.tw741812237582048321 : True := trivial
theorem PySem.W.Fast.tw4484318665258971641 : True := trivial
theorem PySem.W.Fast.tw10586148745973124197 : True := trivial
theorem PySem.W.Fast.tw6388097723572518763 : True := trivial
theorem PySem.W.Fast.tw15741823353807405736 : True := trivial
theorem PySem.W.Fast.tw11951594910444344658 : True := trivial
theorem PySem.W.Fast.tw6705080208364922660 : True := trivial
theorem PySem.W.Fast.tw7763055613543322385 : True := trivial
theorem PySem.W.Fast.tw10078543096293816028 : True := trivial
theorem PySem.W.Fast.tw13814148575016799872 : True := trivial
theorem PySem.W.Fast.tw7858942030905149084 : True := trivial
theorem PySem.W.Fast.tw110298356493368886 : True := trivial
theorem PySem.W.Fast.tw17211260667551732132 : True := trivial
theorem PySem.W.Fast.tw17738442089515890524 : True := trivial
theorem PySem.W.Fast.tw7978023260726505048 : True := trivial
theorem PySem.W.Fast.tw15081729286796146100 : True := trivial
theorem PySem.W.Fast.tw4298824535599435310 : True := trivial
theorem PySem.W.Fast.tw14578636218371604722 : True := trivial
theorem PySem.W.Fast.tw4308426345812242918 : True := trivial
theorem PySem.W.Fast.tw3413865382663800221 : True := trivial
theorem PySem.W.Fast.tw8402810042635086680 : True := trivial
theorem PySem.W.Fast.tw15394134097496582930 : True := trivial
theorem PySem.W.Fast.tw17376329408088446179 : True := trivial
theorem PySem.W.Fast.tw12189972448613153591 : True := trivial
theorem PySem.W.Fast.tw4835031198193769624 : True := trivial
theorem PySem.W.Fast.tw14600920409347124179 : True := trivial
theorem PySem.W.Fast.tw17263057349670777915 : True := trivial
theorem PySem.W.Fast.tw11062206752960292198 : True := trivial
theorem PySem.W.Fast.tw3214841369336392772 : True := trivial
theorem PySem.W.Fast.tw7696817093631949597 : True := trivial
theorem PySem.W.Fast.tw18120904827830642420 : True := trivial
theorem PySem.W.Fast.tw5544858273487776522 : True := trivial
theorem PySem.W.Fast.tw18275046984006183416 : True := trivial
theorem PySem.W.Fast.tw7608893555244566625 : True := trivial
theorem PySem.W.Fast.tw2414387795009386412 : True := trivial
theorem PySem.W.Fast.tw17316337520863880151 : True := trivial
theorem PySem.W.Fast.tw6639744316138332580 : True := trivial
theorem PySem.W.Fast.tw14859460037417612931 : True := trivial
theorem PySem.W.Fast.tw1303577821933215397 : True := trivial
theorem PySem.W.Fast.tw14265554903255485176 : True := trivial
theorem PySem.W.Fast.tw951313960692219022 : True := trivial
theorem PySem.W.Fast.tw1530097325283132387 : True := trivial
theorem PySem.W.Fast.tw8365453847199377507 : True := trivial
theorem PySem.W.Fast.tw8793831092939918159 : True := trivial
theorem PySem.W.Fast.tw11779558159400401151 : True := trivial
theorem PySem.W.Fast.tw2979307236184973802 : True := trivial
theorem PySem.W.Fast.tw15226829985591560972 : True := trivial
theorem PySem.W.Fast.tw17039837878215795780 : True := trivial
theorem PySem.W.Fast.tw12414650472557338665 : True := trivial
theorem PySem.W.Fast.tw4935696563045994520 : True := trivial
theorem PySem.W.Fast.tw18387949253610515146 : True := trivial
theorem PySem.W.Fast.tw12051574170395014532 : True := trivial
theorem PySem.W.Fast.tw345740099276812202 : True := trivial
theorem PySem.W.Fast.tw13076168379971472458 : True := trivial
theorem PySem.W.Fast.tw15574332051338341105 : True := trivial
theorem PySem.W.Fast.tw12593295287896744565 : True := trivial
theorem PySem.W.Fast.tw4742611170123293254 : True := trivial
theorem PySem.W.Fast.tw3360742510416495616 : True := trivial
theorem PySem.W.Fast.tw17369286711532570836 : True := trivial
theorem PySem.W.Fast.tw2718439410279970612 : True := trivial
theorem PySem.W.Fast.tw3945151947973214160 : True := trivial
theorem PySem.W.Fast.tw5950714228959453754 : True := trivial
theorem PySem.W.Fast.tw7467062231853791306 : True := trivial
theorem PySem.W.Fast.tw2107660673808525170 : True := trivial
theorem PySem.W.Fast.tw8811890069471038713 : True := trivial
theorem PySem.W.Fast.tw1777936705283237277 : True := trivial
theorem PySem.W.Fast.tw18155120947850751690 : True := trivial
theorem PySem.W.Fast.tw5459929079986513120 : True := trivial
theorem PySem.W.Fast.tw106629656909214643 : True := trivial
theorem PySem.W.Fast.tw11334534052654381213 : True := trivial
theorem PySem.W.Fast.tw6558644230007043564 : True := trivial
theorem PySem.W.Fast.tw7024680781549475728 : True := trivial
theorem PySem.W.Fast.tw7653017313732363780 : True := trivial
theorem PySem.W.Fast.tw16585097299720988024 : True := trivial
theorem PySem.W.Fast.tw14897818803389663091 : True := trivial
theorem PySem.W.Fast.tw4096166250487515600 : True := trivial
theorem PySem.W.Fast.tw10811243383070909745 : True := trivial
theorem PySem.W.Fast.tw1485564918808912573 : True := trivial
theorem PySem.W.Fast.tw13417912163016678231 : True := trivial
theorem PySem.W.Fast.tw8982033453469077177 : True := trivial
theorem PySem.W.Fast.tw14174590404628226268 : True := trivial
theorem PySem.W.Fast.tw3960590345423284079 : True := trivial
theorem PySem.W.Fast.tw5648529540968429002 : True := trivial
theorem PySem.W.Fast.tw2924736438282691680 : True := trivial
theorem PySem.W.Fast.tw1469764894471664869 : True := trivial
theorem PySem.W.Fast.tw8070382273710328495 : True := trivial
theorem PySem.W.Fast.tw1821558713000177854 : True := trivial
theorem PySem.W.Fast.tw15010902291581551665 : True := trivial
theorem PySem.W.Fast.tw17517135133028601281 : True := trivial
theorem PySem.W.Fast.tw5197793519527032303 : True := trivial
theorem PySem.W.Fast.tw4324045781651909004 : True := trivial
theorem PySem.W.Fast.tw11525862087875275744 : True := trivial
theorem PySem.W.Fast.tw6932797979513911398 : True := trivial
theorem PySem.W.Fast.tw1820553828784584705 : True := trivial
theorem PySem.W.Fast.tw11892979503743385326 : True := trivial
theorem PySem.W.Fast.tw7460409893829165479 : True := trivial
theorem PySem.W.Fast.tw12293801006162012362 : True := trivial
theorem PySem.W.Fast.tw17855203167225002248 : True := trivial
theorem PySem.W.Fast.tw2726484459793777800 : True := trivial
theorem PySem.W.Fast.tw6037141469040568462 : True := trivial
theorem PySem.W.Fast.tw6780257288632768388 : True := trivial
theorem PySem.W.Fast.tw4082713220026899372 : True := trivial
theorem PySem.W.Fast.tw17795532217174968742 : True := trivial
theorem PySem.W.Fast.tw777217813444305029 : True := trivial
theorem PySem.W.Fast.tw9137128356039677174 : True := trivial
theorem PySem.W.Fast.tw2562773600339377639 : True := trivial
theorem PySem.W.Fast.tw15119284848942777436 : True := trivial
theorem PySem.W.Fast.tw12140919728507888275 : True := trivial
theorem PySem.W.Fast.tw7892399150883969312 : True := trivial
theorem PySem.W.Fast.tw287513959618429981 : True := trivial
theorem PySem.W.Fast.tw13088246700833624713 : True := trivial
theorem PySem.W.Fast.tw17150259316842990110 : True := trivial
theorem PySem.W.Fast.tw596134175801326115 : True := trivial
theorem PySem.W.Fast.tw11567842498168694932 : True := trivial
theorem PySem.W.Fast.tw4075558646642672189 : True := trivial
theorem PySem.W.Fast.tw16441129120264762354 : True := trivial
theorem PySem.W.Fast.tw1229016204246345718 : True := trivial
theorem PySem.W.Fast.tw7201949388574494999 : True := trivial
theorem PySem.W.Fast.tw16788644278749459049 : True := trivial
theorem PySem.W.Fast.tw4278939877399349997 : True := trivial
theorem PySem.W.Fast.tw4344231016395608166 : True := trivial
theorem PySem.W.Fast.tw15815594341368251024 : True := trivial
theorem PySem.W.Fast.tw13418687624257580741 : True := trivial
theorem PySem.W.Fast.tw51944117796183407 : True := trivial
theorem PySem.W.Fast.tw6712350659869553075 : True := trivial
theorem PySem.W.Fast.tw9593594270861116397 : True := trivial
theorem PySem.W.Fast.tw355452793192502637 : True := trivial
theorem PySem.W.Fast.tw16633276711539455690 : True := trivial
theorem PySem.W.Fast.tw9766742448800580400 : True := trivial
theorem PySem.W.Fast.tw15082394972660837695 : True := trivial
theorem PySem.W.Fast.tw663594540100164173 : True := trivial
theorem PySem.W.Fast.tw17848464556413991793 : True := trivial
theorem PySem.W.Fast.tw15428308804357666529 : True := trivial
theorem PySem.W.Fast.tw5151218363912081690 : True := trivial
theorem PySem.W.Fast.tw5645433053994720801 : True := trivial
theorem PySem.W.Fast.tw5954557212451921212 : True := trivial
theorem PySem.W.Fast.tw6298694352198114981 : True := trivial
theorem PySem.W.Fast.tw8547406635692982313 : True := trivial
theorem PySem.W.Fast.tw15992572439174297925 : True := trivial
theorem PySem.W.Fast.tw14077552165896104637 : True := trivial
theorem PySem.W.Fast.tw7304009910437145215 : True := trivial
theorem PySem.W.Fast.tw7215613984613930001 : True := trivial
theorem PySem.W.Fast.tw3955764382873668477 : True := trivial
theorem PySem.W.Fast.tw10720259656675086071 : True := trivial
theorem PySem.W.Fast.tw6140965296053614299 : True := trivial
theorem PySem.W.Fast.tw12436864857357966479 : True := trivial
theorem PySem.W.Fast.tw3988139923155002310 : True := trivial
theorem PySem.W.Fast.tw10176961856914421936 : True := trivial
theorem PySem.W.Fast.tw11600074964491821825 : True := trivial
theorem PySem.W.Fast.tw12894469261641401851 : True := trivial
theorem PySem.W.Fast.tw11168546665875883663 : True := trivial
theorem PySem.W.Fast.tw14715302494044048954 : True := trivial
theorem PySem.W.Fast.tw15404522417337480918 : True := trivial
theorem PySem.W.Fast.tw14882818620022706102 : True := trivial
theorem PySem.W.Fast.tw15225656245691692025 : True := trivial
theorem PySem.W.Fast.tw14802931946296266665 : True := trivial
theorem PySem.W.Fast.tw5610887792822827119 : True := trivial
theorem PySem.W.Fast.tw14154014765176138874 : True := trivial
theorem PySem.W.Fast.tw11298249197829095344 : True := trivial
theorem PySem.W.Fast.tw17858050159923757603 : True := trivial
theorem PySem.W.Fast.tw219500417836680913 : True := trivial
theorem PySem.W.Fast.tw14453629236356234030 : True := trivial
theorem PySem.W.Fast.tw15747128204704343237 : True := trivial
theorem PySem.W.Fast.tw7137683867084896071 : True := trivial
theorem PySem.W.Fast.tw6846252448691239600 : True := trivial
theorem PySem.W.Fast.tw5839304293514981234 : True := trivial
theorem PySem.W.Fast.tw5721080992705653962 : True := trivial
theorem PySem.W.Fast.tw6674194393665880831 : True := trivial
theorem PySem.W.Fast.tw8765899094765825822 : True := trivial
theorem PySem.W.Fast.tw16603131552984247656 : True := trivial
theorem PySem.W.Fast.tw4354664455242641327 : True := trivial
theorem PySem.W.Fast.tw13695698374999526011 : True := trivial
theorem PySem.W.Fast.tw12618426758208264274 : True := trivial
theorem PySem.W.Fast.tw13446077839929726276 : True := trivial
theorem PySem.W.Fast.tw596707285002633589 : True := trivial
theorem PySem.W.Fast.tw7685021528208677840 : True := trivial
theorem PySem.W.Fast.tw11740753667934199617 : True := trivial
theorem PySem.W.Fast.tw1837617130692107489 : True := trivial
theorem PySem.W.Fast.tw8546159207733231763 : True := trivial
theorem PySem.W.Fast.tw15780609102586896156 : True := trivial
theorem PySem.W.Fast.tw10663051479816923809 : True := trivial
theorem PySem.W.Fast.tw13384278925018696408 : True := trivial
theorem PySem.W.Fast.tw15833544099639810958 : True := trivial
theorem PySem.W.Fast.tw8604082016894483114 : True := trivial
theorem PySem.W.Fast.tw7348659127621449118 : True := trivial
theorem PySem.W.Fast.tw13869611849414865219 : True := trivial
theorem PySem.W.Fast.tw464719171859630352 : True := trivial
theorem PySem.W.Fast.tw14729503800168224713 : True := trivial
theorem PySem.W.Fast.tw6351138823573700371 : True := trivial
theorem PySem.W.Fast.tw9793268067650128204 : True := trivial
theorem PySem.W.Fast.tw7719158563310806727 : True := trivial
theorem PySem.W.Fast.tw12412100764682334419 : True := trivial
theorem PySem.W.Fast.tw16677198777181216690 : True := trivial
theorem PySem.W.Fast.tw16057007808612928104 : True := trivial
theorem PySem.W.Fast.tw11489686300493173647 : True := trivial
theorem PySem.W.Fast.tw5503676510856524676 : True := trivial
theorem PySem.W.Fast.tw11931449094492193159 : True := trivial
theorem PySem.W.Fast.tw18244568389390594109 : True := trivial
theorem PySem.W.Fast.tw4311404185064876338 : True := trivial
theorem PySem.W.Fast.tw6216665960639482418 : True := trivial
theorem PySem.W.Fast.tw1939948606596869919 : True := trivial
theorem PySem.W.Fast.tw4970857152435478158 : True := trivial
theorem PySem.W.Fast.tw3982351144491719393 : True := trivial
theorem PySem.W.Fast.tw7164860951670491392 : True := trivial
theorem PySem.W.Fast.tw17474653332093753233 : True := trivial
theorem PySem.W.Fast.tw1125704339034548363 : True := trivial
theorem PySem.W.Fast.tw8975866575094743718 : True := trivial
theorem PySem.W.Fast.tw15272341371876397064 : True := trivial
theorem PySem.W.Fast.tw7445453451617552602 : True := trivial
theorem PySem.W.Fast.tw15807322588554489502 : True := trivial
theorem PySem.W.Fast.tw4475531065604586165 : True := trivial
theorem PySem.W.Fast.tw10083106153011801453 : True := trivial
theorem PySem.W.Fast.tw8787260732470508038 : True := trivial
theorem PySem.W.Fast.tw14432293539487698400 : True := trivial
theorem PySem.W.Fast.tw4553084721807399691 : True := trivial
theorem PySem.W.Fast.tw13926002166434710815 : True := trivial
theorem PySem.W.Fast.tw6776609577674652894 : True := trivial
theorem PySem.W.Fast.tw7715178041173220264 : True := trivial
theorem PySem.W.Fast.tw7402727897992919540 : True := trivial
theorem PySem.W.Fast.tw8528709137382606395 : True := trivial
theorem PySem.W.Fast.tw11317548693802527016 : True := trivial
theorem PySem.W.Fast.tw10067150200179402965 : True := trivial
theorem PySem.W.Fast.tw14051670972510197399 : True := trivial
theorem PySem.W.Fast.tw5245931240152649734 : True := trivial
theorem PySem.W.Fast.tw1909989123713564635 : True := trivial
theorem PySem.W.Fast.tw14965926472813802378 : True := trivial
theorem PySem.W.Fast.tw5632522644783238541 : True := trivial
theorem PySem.W.Fast.tw14899512930953754040 : True := trivial
theorem PySem.W.Fast.tw15655317783598401640 : True := trivial
theorem PySem.W.Fast.tw8576510053453104465 : True := trivial
theorem PySem.W.Fast.tw14314299041841795345 : True := trivial
theorem PySem.W.Fast.tw5338666910267950413 : True := trivial
theorem PySem.W.Fast.tw3008693461075347185 : True := trivial
theorem PySem.W.Fast.tw2568293334427027459 : True := trivial
theorem PySem.W.Fast.tw4465620658650910883 : True := trivial
theorem PySem.W.Fast.tw5441522764314775920 : True := trivial
theorem PySem.W.Fast.tw18416833411110033158 : True := trivial
theorem PySem.W.Fast.tw11389322079421126897 : True := trivial
theorem PySem.W.Fast.tw11688446979670009945 : True := trivial
theorem PySem.W.Fast.tw13834950308881949177 : True := trivial
theorem PySem.W.Fast.tw10464591730622087901 : True := trivial
theorem PySem.W.Fast.tw16205780944825557729 : True := trivial
theorem PySem.W.Fast.tw11007223828850941710 : True := trivial
theorem PySem.W.Fast.tw4308514114325207830 : True := trivial
theorem PySem.W.Fast.tw8974338880781012608 : True := trivial
theorem PySem.W.Fast.tw2172650929583305893 : True := trivial
theorem PySem.W.Fast.tw11611313289307345164 : True := trivial
theorem PySem.W.Fast.tw4659219506131009172 : True := trivial
theorem PySem.W.Fast.tw17307278178535641223 : True := trivial
theorem PySem.W.Fast.tw329582228806478226 : True := trivial
theorem PySem.W.Fast.tw1272371189683170327 : True := trivial
theorem PySem.W.Fast.tw9526051937230011352 : True := trivial
theorem PySem.W.Fast.tw1304338325172047254 : True := trivial
theorem PySem.W.Fast.tw9744860357236086435 : True := trivial
theorem PySem.W.Fast.tw5651555508617308778 : True := trivial
theorem PySem.W.Fast.tw12499873303791344965 : True := trivial
theorem PySem.W.Fast.tw5984448031626311490 : True := trivial
theorem PySem.W.Fast.tw17043573973475533510 : True := trivial
theorem PySem.W.Fast.tw18003349903487873335 : True := trivial
theorem PySem.W.Fast.tw5022286360740243704 : True := trivial
theorem PySem.W.Fast.tw5665592545216586583 : True := trivial
theorem PySem.W.Fast.tw16322314404169346802 : True := trivial
theorem PySem.W.Fast.tw16407989325959286179 : True := trivial
theorem PySem.W.Fast.tw17692664714575229001 : True := trivial
theorem PySem.W.Fast.tw1976761474210537987 : True := trivial
theorem PySem.W.Fast.tw4580707278201721636 : True := trivial
theorem PySem.W.Fast.tw9229977840222471952 : True := trivial
theorem PySem.W.Fast.tw18258135486641462996 : True := trivial
theorem PySem.W.Fast.tw5978485531529712439 : True := trivial
theorem PySem.W.Fast.tw7602948620870616452 : True := trivial
theorem PySem.W.Fast.tw4353572592358832827 : True := trivial
theorem PySem.W.Fast.tw9249631433848419023 : True := trivial
theorem PySem.W.Fast.tw5783616904405319568 : True := trivial
theorem PySem.W.Fast.tw12894894093069035823 : True := trivial
theorem PySem.W.Fast.tw3225672449978683817 : True := trivial
theorem PySem.W.Fast.tw13014871123405553507 : True := trivial
theorem PySem.W.Fast.tw15165835462202290434 : True := trivial
theorem PySem.W.Fast.tw13383182234141852726 : True := trivial
theorem PySem.W.Fast.tw17390738624022851281 : True := trivial
theorem PySem.W.Fast.tw14377119051057414310 : True := trivial
theorem PySem.W.Fast.tw6799834419719519120 : True := trivial
theorem PySem.W.Fast.tw13949904047356380710 : True := trivial
theorem PySem.W.Fast.tw12682692812462595214 : True := trivial
theorem PySem.W.Fast.tw14872851890077593887 : True := trivial
theorem PySem.W.Fast.tw3764422320846797808 : True := trivial
theorem PySem.W.Fast.tw14880606397042632844 : True := trivial
theorem PySem.W.Fast.tw18179424920318970243 : True := trivial
theorem PySem.W.Fast.tw10105025144215684144 : True := trivial
theorem PySem.W.Fast.tw14671080924011558605 : True := trivial
theorem PySem.W.Fast.tw16878775014571149738 : True := trivial
theorem PySem.W.Fast.tw15233178333395972862 : True := trivial
theorem PySem.W.Fast.tw14129195306011195531 : True := trivial
theorem PySem.W.Fast.tw15963374312860466028 : True := trivial
theorem PySem.W.Fast.tw4562367803261124259 : True := trivial
theorem PySem.W.Fast.tw1133849819008674761 : True := trivial
theorem PySem.W.Fast.tw3856149349192038793 : True := trivial
theorem PySem.W.Fast.tw1928133261417780458 : True := trivial
theorem PySem.W.Fast.tw2039202090085897115 : True := trivial
theorem PySem.W.Fast.tw1884209230991728447 : True := trivial
theorem PySem.W.Fast.tw4247399766178276829 : True := trivial
theorem PySem.W.Fast.tw13425316769715878058 : True := trivial
theorem PySem.W.Fast.tw10778420686780361563 : True := trivial
theorem PySem.W.Fast.tw6333821205856944500 : True := trivial
theorem PySem.W.Fast.tw2528738044017630220 : True := trivial
theorem PySem.W.Fast.tw10733667451827883834 : True := trivial
theorem PySem.W.Fast.tw9591468077848761837 : True := trivial
theorem PySem.W.Fast.tw17166829544862929764 : True := trivial
theorem PySem.W.Fast.tw13684888807922235730 : True := trivial
theorem PySem.W.Fast.tw8941326018346728321 : True := trivial
theorem PySem.W.Fast.tw13651001323116828400 : True := trivial
theorem PySem.W.Fast.tw11086316861617371819 : True := trivial
theorem PySem.W.Fast.tw10469297257966139594 : True := trivial
theorem PySem.W.Fast.tw4588492465989427102 : True := trivial
theorem PySem.W.Fast.tw9606453730384563477 : True := trivial
theorem PySem.W.Fast.tw13190930560186765443 : True := trivial
theorem PySem.W.Fast.tw9701093626386637654 : True := trivial
theorem PySem.W.Fast.tw14960035531245452338 : True := trivial
theorem PySem.W.Fast.tw11646193764979695843 : True := trivial
theorem PySem.W.Fast.tw12424854275715007822 : True := trivial
theorem PySem.W.Fast.tw7168385358359686364 : True := trivial
theorem PySem.W.Fast.tw9526840962338375622 : True := trivial
theorem PySem.W.Fast.tw7701587304061757399 : True := trivial
theorem PySem.W.Fast.tw10885205419307906391 : True := trivial
theorem PySem.W.Fast.tw5275948671543576879 : True := trivial
theorem PySem.W.Fast.tw1021001552484195235 : True := trivial
theorem PySem.W.Fast.tw2347709827469619718 : True := trivial
theorem PySem.W.Fast.tw14373752019597714571 : True := trivial
theorem PySem.W.Fast.tw9117499970316577454 : True := trivial
theorem PySem.W.Fast.tw13502826270349419319 : True := trivial
theorem PySem.W.Fast.tw14866184822830537039 : True := trivial
theorem PySem.W.Fast.tw12761193006647826791 : True := trivial
theorem PySem.W.Fast.tw5602309338674735018 : True := trivial
theorem PySem.W.Fast.tw16960136165211256343 : True := trivial
theorem PySem.W.Fast.tw15008844212684079577 : True := trivial
theorem PySem.W.Fast.tw11993811432812550539 : True := trivial
theorem PySem.W.Fast.tw15067606146038957258 : True := trivial
theorem PySem.W.Fast.tw403904786791178695 : True := trivial
theorem PySem.W.Fast.tw3207887198679451939 : True := trivial
theorem PySem.W.Fast.tw13045665285185830951 : True := trivial
theorem PySem.W.Fast.tw17711937554212883413 : True := trivial
theorem PySem.W.Fast.tw8890571163848353462 : True := trivial
theorem PySem.W.Fast.tw13508279159101712959 : True := trivial
theorem PySem.W.Fast.tw6206691117276397357 : True := trivial
theorem PySem.W.Fast.tw1159402104506263055 : True := trivial
theorem PySem.W.Fast.tw11010448454406085865 : True := trivial
theorem PySem.W.Fast.tw12322722877587332897 : True := trivial
theorem PySem.W.Fast.tw12522743657766428728 : True := trivial
theorem PySem.W.Fast.tw6463237670071666901 : True := trivial
theorem PySem.W.Fast.tw13450635151252177546 : True := trivial
theorem PySem.W.Fast.tw16696760898576539643 : True := trivial
theorem PySem.W.Fast.tw1777277194648605545 : True := trivial
theorem PySem.W.Fast.tw11957713272212750954 : True := trivial
theorem PySem.W.Fast.tw289528743161838015 : True := trivial
theorem PySem.W.Fast.tw2822928305669950648 : True := trivial
theorem PySem.W.Fast.tw18237310897724558045 : True := trivial
theorem PySem.W.Fast.tw3008109664675254294 : True := trivial
theorem PySem.W.Fast.tw18252647504235479236 : True := trivial
theorem PySem.W.Fast.tw2734292675419887341 : True := trivial
theorem PySem.W.Fast.tw13078602720482675568 : True := trivial
theorem PySem.W.Fast.tw13879162151558025485 : True := trivial
theorem PySem.W.Fast.tw10436194714113936747 : True := trivial
theorem PySem.W.Fast.tw17136296525599238688 : True := trivial
theorem PySem.W.Fast.tw17096404611289623674 : True := trivial
theorem PySem.W.Fast.tw5423037938132578387 : True := trivial
theorem PySem.W.Fast.tw16902410168739481822 : True := trivial
theorem PySem.W.Fast.tw731064601855806946 : True := trivial
theorem PySem.W.Fast.tw14844723039164636222 : True := trivial
theorem PySem.W.Fast.tw16707759005145570027 : True := trivial
theorem PySem.W.Fast.tw1260303114505587763 : True := trivial
theorem PySem.W.Fast.tw6530084717181928048 : True := trivial
theorem PySem.W.Fast.tw2931048130084961711 : True := trivial
theorem PySem.W.Fast.tw2699339651476746509 : True := trivial
theorem PySem.W.Fast.tw13190915148899405023 : True := trivial
theorem PySem.W.Fast.tw10690390726302239252 : True := trivial
theorem PySem.W.Fast.tw4238427142488065259 : True := trivial
theorem PySem.W.Fast.tw5373858345880619424 : True := trivial
theorem PySem.W.Fast.tw8852589766899064576 : True := trivial
theorem PySem.W.Fast.tw1834960496447280637 : True := trivial
theorem PySem.W.Fast.tw8582357951539450787 : True := trivial
theorem PySem.W.Fast.tw17853878255649515186 : True := trivial
theorem PySem.W.Fast.tw9813429486723107452 : True := trivial
theorem PySem.W.Fast.tw1971734673961584335 : True := trivial
theorem PySem.W.Fast.tw10956040373222878089 : True := trivial
theorem PySem.W.Fast.tw5112177363250395049 : True := trivial
theorem PySem.W.Fast.tw195036103448388218 : True := trivial
theorem PySem.W.Fast.tw14302685677022314501 : True := trivial
theorem PySem.W.Fast.tw18410097451981145857 : True := trivial
theorem PySem.W.Fast.tw2202428376469992182 : True := trivial
theorem PySem.W.Fast.tw12054132621245009709 : True := trivial
theorem PySem.W.Fast.tw3193611097441927834 : True := trivial
theorem PySem.W.Fast.tw5783103281687364946 : True := trivial
theorem PySem.W.Fast.tw10475208558724363223 : True := trivial
theorem PySem.W.Fast.tw8829479352842414407 : True := trivial
theorem PySem.W.Fast.tw584753229938583044 : True := trivial
theorem PySem.W.Fast.tw8790026560608568182 : True := trivial
theorem PySem.W.Fast.tw4721420198794292430 : True := trivial
theorem PySem.W.Fast.tw13092027532602336203 : True := trivial
theorem PySem.W.Fast.tw10297610244850886766 : True := trivial
theorem PySem.W.Fast.tw8899782089665502598 : True := trivial
theorem PySem.W.Fast.tw2339785541873151828 : True := trivial
theorem PySem.W.Fast.tw10299596141169200464 : True := trivial
theorem PySem.W.Fast.tw15419639824176067413 : True := trivial
theorem PySem.W.Fast.tw14113831663252220257 : True := trivial
theorem PySem.W.Fast.tw11779294096255775662 : True := trivial
theorem PySem.W.Fast.tw304556552997150940 : True := trivial
theorem PySem.W.Fast.tw11320460074524248149 : True := trivial
theorem PySem.W.Fast.tw7321478023078075722 : True := trivial
theorem PySem.W.Fast.tw9489173727616381848 : True := trivial
theorem PySem.W.Fast.tw10849916359612356038 : True := trivial
theorem PySem.W.Fast.tw2161526001012584004 : True := trivial
theorem PySem.W.Fast.tw15692152407828323369 : True := trivial
theorem PySem.W.Fast.tw11575015497832371422 : True := trivial
theorem PySem.W.Fast.tw16175869008630112309 : True := trivial
theorem PySem.W.Fast.tw6197085716849707437 : True := trivial
theorem PySem.W.Fast.tw15310037886450729828 : True := trivial
theorem PySem.W.Fast.tw4813994538454354242 : True := trivial
theorem PySem.W.Fast.tw6360473589035567178 : True := trivial
theorem PySem.W.Fast.tw2447125487911926876 : True := trivial
theorem PySem.W.Fast.tw16005262795766759992 : True := trivial
theorem PySem.W.Fast.tw14390326603731432191 : True := trivial
theorem PySem.W.Fast.tw12703125916647988561 : True := trivial
theorem PySem.W.Fast.tw9087305582582387667 : True := trivial
theorem PySem.W.Fast.tw11467867281725797969 : True := trivial
theorem PySem.W.Fast.tw13757829797859991804 : True := trivial
theorem PySem.W.Fast.tw17570486732901805856 : True := trivial
theorem PySem.W.Fast.tw16058644903224220209 : True := trivial
theorem PySem.W.Fast.tw7684785321561289140 : True := trivial
theorem PySem.W.Fast.tw10433500471451417493 : True := trivial
theorem PySem.W.Fast.tw2579189224984322367 : True := trivial
theorem PySem.W.Fast.tw4413109955991639405 : True := trivial
theorem PySem.W.Fast.tw8241670595737838551 : True := trivial
theorem PySem.W.Fast.tw13868209370200407742 : True := trivial
theorem PySem.W.Fast.tw6427169191518656970 : True := trivial
theorem PySem.W.Fast.tw6278920764516428817 : True := trivial
theorem PySem.W.Fast.tw14978005313804085186 : True := trivial
theorem PySem.W.Fast.tw1450392034034341110 : True := trivial
theorem PySem.W.Fast.tw9853998577994684237 : True := trivial
theorem PySem.W.Fast.tw3599309345670205720 : True := trivial
theorem PySem.W.Fast.tw14898736340154179536 : True := trivial
theorem PySem.W.Fast.tw17924913513791174540 : True := trivial
theorem PySem.W.Fast.tw8204837433186761488 : True := trivial
theorem PySem.W.Fast.tw6651844136567176996 : True := trivial
theorem PySem.W.Fast.tw15077393378999209061 : True := trivial
theorem PySem.W.Fast.tw9575070664442664325 : True := trivial
theorem PySem.W.Fast.tw4444430873745006959 : True := trivial
theorem PySem.W.Fast.tw9245361957412732091 : True := trivial
theorem PySem.W.Fast.tw16262865316254008864 : True := trivial
theorem PySem.W.Fast.tw7184597531002979845 : True := trivial
theorem PySem.W.Fast.tw3695903713393296294 : True := trivial
theorem PySem.W.Fast.tw2337047755756251329 : True := trivial
theorem PySem.W.Fast.tw3106477818785511434 : True := trivial
theorem PySem.W.Fast.tw3227974180077902983 : True := trivial
theorem PySem.W.Fast.tw12683699153618520155 : True := trivial
theorem PySem.W.Fast.tw1544179601801521977 : True := trivial
theorem PySem.W.Fast.tw6544665893726057755 : True := trivial
theorem PySem.W.Fast.tw2498971466042620952 : True := trivial
theorem PySem.W.Fast.tw13585576971277591820 : True := trivial
theorem PySem.W.Fast.tw16423346048368833956 : True := trivial
theorem PySem.W.Fast.tw10555161514501559608 : True := trivial
theorem PySem.W.Fast.tw5277476225224547483 : True := trivial
theorem PySem.W.Fast.tw12664670557977989658 : True := trivial
theorem PySem.W.Fast.tw314947704749108178 : True := trivial
theorem PySem.W.Fast.tw16032674494250624223 : True := trivial
theorem PySem.W.Fast.tw3519703169795955961 : True := trivial
theorem PySem.W.Fast.tw6236451997681554298 : True := trivial
theorem PySem.W.Fast.tw14909347179854079026 : True := trivial
theorem PySem.W.Fast.tw302530960461118969 : True := trivial
theorem PySem.W.Fast.tw12276056735854123689 : True := trivial
theorem PySem.W.Fast.tw2114928776111857607 : True := trivial
theorem PySem.W.Fast.tw1150194848149279447 : True := trivial
theorem PySem.W.Fast.tw12613681857199042301 : True := trivial
theorem PySem.W.Fast.tw11377333063021964815 : True := trivial
theorem PySem.W.Fast.tw12116468270854787054 : True := trivial
theorem PySem.W.Fast.tw258396939528078332 : True := trivial
theorem PySem.W.Fast.tw6501176993984941373 : True := trivial
theorem PySem.W.Fast.tw1734444533393597799 : True := trivial
theorem PySem.W.Fast.tw13255972739369678924 : True := trivial
theorem PySem.W.Fast.tw7035407739053289188 : True := trivial
theorem PySem.W.Fast.tw8550593967175343739 : True := trivial
theorem PySem.W.Fast.tw816103724554796543 : True := trivial
theorem PySem.W.Fast.tw215172456730444102 : True := trivial
theorem PySem.W.Fast.tw16698755352488652322 : True := trivial
theorem PySem.W.Fast.tw2642636972937113408 : True := trivial
theorem PySem.W.Fast.tw12739491265856132759 : True := trivial
theorem PySem.W.Fast.tw8233812519116115160 : True := trivial
theorem PySem.W.Fast.tw11551102471341803550 : True := trivial
theorem PySem.W.Fast.tw5862759048983977075 : True := trivial
theorem PySem.W.Fast.tw5438369161001479759 : True := trivial
theorem PySem.W.Fast.tw10878340180335807984 : True := trivial
theorem PySem.W.Fast.tw16870427997496332573 : True := trivial
theorem PySem.W.Fast.tw10863235482951117799 : True := trivial
theorem PySem.W.Fast.tw3362706022439257482 : True := trivial
theorem PySem.W.Fast.tw4728984546938002008 : True := trivial
theorem PySem.W.Fast.tw9100276736288521301 : True := trivial
theorem PySem.W.Fast.tw10604632262743248037 : True := trivial
theorem PySem.W.Fast.tw1728829786149448249 : True := trivial
theorem PySem.W.Fast.tw12993547905371906645 : True := trivial
theorem PySem.W.Fast.tw5508570699144535407 : True := trivial
theorem PySem.W.Fast.tw12769335163544138516 : True := trivial
theorem PySem.W.Fast.tw8403055522418783063 : True := trivial
theorem PySem.W.Fast.tw167255078503194855 : True := trivial
theorem PySem.W.Fast.tw1561151819920822804 : True := trivial
theorem PySem.W.Fast.tw3920097682783271109 : True := trivial
theorem PySem.W.Fast.tw6146401651632645467 : True := trivial
theorem PySem.W.Fast.tw13030168901958496757 : True := trivial
theorem PySem.W.Fast.tw17702971271259133396 : True := trivial
theorem PySem.W.Fast.tw16214490661280655598 : True := trivial
theorem PySem.W.Fast.tw2806931094273904190 : True := trivial
theorem PySem.W.Fast.tw5881896505130856739 : True := trivial
theorem PySem.W.Fast.tw8013289194705998043 : True := trivial
theorem PySem.W.Fast.tw13107260696691933954 : True := trivial
theorem PySem.W.Fast.tw7288580538769024976 : True := trivial
theorem PySem.W.Fast.tw10733891342005242032 : True := trivial
theorem PySem.W.Fast.tw16300900044597916766 : True := trivial
theorem PySem.W.Fast.tw4906703926702288924 : True := trivial
theorem PySem.W.Fast.tw859165664102439182 : True := trivial
theorem PySem.W.Fast.tw5023620882181725442 : True := trivial
theorem PySem.W.Fast.tw6771154858841291760 : True := trivial
theorem PySem.W.Fast.tw8940885533206899208 : True := trivial
theorem PySem.W.Fast.tw13182482231980051734 : True := trivial
theorem PySem.W.Fast.tw12308879746167671987 : True := trivial
theorem PySem.W.Fast.tw17366139054691256195 : True := trivial
theorem PySem.W.Fast.tw7115698509932801142 : True := trivial
theorem PySem.W.Fast.tw15646900275930899564 : True := trivial
theorem PySem.W.Fast.tw12062618451689983825 : True := trivial
theorem PySem.W.Fast.tw4613225295097903867 : True := trivial
theorem PySem.W.Fast.tw3559316942253589615 : True := trivial
theorem PySem.W.Fast.tw6959276343265199718 : True := trivial
theorem PySem.W.Fast.tw3133332020192834547 : True := trivial
theorem PySem.W.Fast.tw8863173162271230148 : True := trivial
theorem PySem.W.Fast.tw1620506414953774729 : True := trivial
theorem PySem.W.Fast.tw16440616556274442865 : True := trivial
theorem PySem.W.Fast.tw9509855385784733882 : True := trivial
theorem PySem.W.Fast.tw5676687857789620692 : True := trivial
theorem PySem.W.Fast.tw15429434973701576882 : True := trivial
theorem PySem.W.Fast.tw288709058111116483 : True := trivial
theorem PySem.W.Fast.tw13166144964161677917 : True := trivial
theorem PySem.W.Fast.tw791939815758316206 : True := trivial
theorem PySem.W.Fast.tw7094290355030120249 : True := trivial
theorem PySem.W.Fast.tw1471337425485298560 : True := trivial
theorem PySem.W.Fast.tw14040794129864048432 : True := trivial
theorem PySem.W.Fast.tw6034456113530759818 : True := trivial
theorem PySem.W.Fast.tw10958797601235814221 : True := trivial
theorem PySem.W.Fast.tw383619152001366035 : True := trivial
theorem PySem.W.Fast.tw492652302829749863 : True := trivial
theorem PySem.W.Fast.tw7526018236773270072 : True := trivial
theorem PySem.W.Fast.tw17964107482067927606 : True := trivial
theorem PySem.W.Fast.tw14680594445732799443 : True := trivial
theorem PySem.W.Fast.tw5436871169489670288 : True := trivial
theorem PySem.W.Fast.tw15986885698613749194 : True := trivial
theorem PySem.W.Fast.tw4529711232368020919 : True := trivial
theorem PySem.W.Fast.tw14095509329061321461 : True := trivial
theorem PySem.W.Fast.tw16179839468559246061 : True := trivial
theorem PySem.W.Fast.tw10358208878476191836 : True := trivial
theorem PySem.W.Fast.tw3958082152402338656 : True := trivial
theorem PySem.W.Fast.tw1134225499235923667 : True := trivial
theorem PySem.W.Fast.tw17150314122316619222 : True := trivial
theorem PySem.W.Fast.tw8475384717082674575 : True := trivial
theorem PySem.W.Fast.tw2626139621866646205 : True := trivial
theorem PySem.W.Fast.tw3921423721975912851 : True := trivial
theorem PySem.W.Fast.tw1052939679101592405 : True := trivial
theorem PySem.W.Fast.tw4971938200083141896 : True := trivial
theorem PySem.W.Fast.tw9465654580441692978 : True := trivial
theorem PySem.W.Fast.tw1083289846548105457 : True := trivial
theorem PySem.W.Fast.tw7613568183734435829 : True := trivial
theorem PySem.W.Fast.tw2033303213528094568 : True := trivial
theorem PySem.W.Fast.tw1174350280771805989 : True := trivial
theorem PySem.W.Fast.tw4516520739839685557 : True := trivial
theorem PySem.W.Fast.tw10007500492163894174 : True := trivial
theorem PySem.W.Fast.tw2550020449312424602 : True := trivial
theorem PySem.W.Fast.tw9251492402535024061 : True := trivial
theorem PySem.W.Fast.tw7381501728216356087 : True := trivial
theorem PySem.W.Fast.tw12135236085372172710 : True := trivial
theorem PySem.W.Fast.tw12484613710410948015 : True := trivial
theorem PySem.W.Fast.tw9874312880911913663 : True := trivial
theorem PySem.W.Fast.tw2107094298988926367 : True := trivial
theorem PySem.W.Fast.tw14684278345446600490 : True := trivial
theorem PySem.W.Fast.tw11090510037929092049 : True := trivial
theorem PySem.W.Fast.tw3370874850882893902 : True := trivial
theorem PySem.W.Fast.tw3372315294412839766 : True := trivial
theorem PySem.W.Fast.tw14162252264663378090 : True := trivial
theorem PySem.W.Fast.tw15746967179433322331 : True := trivial
theorem PySem.W.Fast.tw15104838944803117925 : True := trivial
theorem PySem.W.Fast.tw12514465095424294755 : True := trivial
theorem PySem.W.Fast.tw13547830550297902633 : True := trivial
theorem PySem.W.Fast.tw11208534064615103871 : True := trivial
theorem PySem.W.Fast.tw7464159417839319380 : True := trivial
theorem PySem.W.Fast.tw17431003126589550648 : True := trivial
theorem PySem.W.Fast.tw16629828107113190228 : True := trivial
theorem PySem.W.Fast.tw5600132394913230423 : True := trivial
theorem PySem.W.Fast.tw17175645077163757281 : True := trivial
theorem PySem.W.Fast.tw3204675170803100125 : True := trivial
theorem PySem.W.Fast.tw8434660883884658420 : True := trivial
theorem PySem.W.Fast.tw9165311828995311039 : True := trivial
theorem PySem.W.Fast.tw9539775570115745801 : True := trivial
theorem PySem.W.Fast.tw13742823024865300203 : True := trivial
theorem PySem.W.Fast.tw14864048539882695736 : True := trivial
theorem PySem.W.Fast.tw17600929841182645044 : True := trivial
theorem PySem.W.Fast.tw4417817091677477538 : True := trivial
theorem PySem.W.Fast.tw4207995813183530782 : True := trivial
theorem PySem.W.Fast.tw376282158237873543 : True := trivial
theorem PySem.W.Fast.tw11397933311466968484 : True := trivial
theorem PySem.W.Fast.tw11293633493958483121 : True := trivial
theorem PySem.W.Fast.tw4845173226626602172 : True := trivial
theorem PySem.W.Fast.tw16807493557102610825 : True := trivial
theorem PySem.W.Fast.tw18037687852564618664 : True := trivial
theorem PySem.W.Fast.tw2983724444282631321 : True := trivial
theorem PySem.W.Fast.tw3552305698220823644 : True := trivial
theorem PySem.W.Fast.tw4945439021685370560 : True := trivial
theorem PySem.W.Fast.tw3699187418212512678 : True := trivial
theorem PySem.W.Fast.tw11506853194125466009 : True := trivial
theorem PySem.W.Fast.tw16110670624233986199 : True := trivial
theorem PySem.W.Fast.tw1452040259282424577 : True := trivial
theorem PySem.W.Fast.tw5269072738190422589 : True := trivial
theorem PySem.W.Fast.tw17168747683918210214 : True := trivial
theorem PySem.W.Fast.tw15042636432499557146 : True := trivial
theorem PySem.W.Fast.tw6434963816678161073 : True := trivial
theorem PySem.W.Fast.tw16930371812103087816 : True := trivial
theorem PySem.W.Fast.tw4701910746263883271 : True := trivial
theorem PySem.W.Fast.tw8842042953298822056 : True := trivial
theorem PySem.W.Fast.tw5900930762962778170 : True := trivial
theorem PySem.W.Fast.tw15410086857728113053 : True := trivial
theorem PySem.W.Fast.tw8494036169655658767 : True := trivial
theorem PySem.W.Fast.tw16515337235109984693 : True := trivial
theorem PySem.W.Fast.tw8719259247720838418 : True := trivial
theorem PySem.W.Fast.tw10880854804627756189 : True := trivial
theorem PySem.W.Fast.tw17424720885118916361 : True := trivial
theorem PySem.W.Fast.tw17650768168604627101 : True := trivial
theorem PySem.W.Fast.tw2437682321235506884 : True := trivial
theorem PySem.W.Fast.tw16902184572611143934 : True := trivial
theorem PySem.W.Fast.tw10252765187885913581 : True := trivial
theorem PySem.W.Fast.tw17941944281765020225 : True := trivial
theorem PySem.W.Fast.tw8428444500579911996 : True := trivial
theorem PySem.W.Fast.tw2035329619261708745 : True := trivial
theorem PySem.W.Fast.tw2000448089449366463 : True := trivial
theorem PySem.W.Fast.tw1596885336441426073 : True := trivial
theorem PySem.W.Fast.tw3238065357588153144 : True := trivial
theorem PySem.W.Fast.tw4277889247580346420 : True := trivial
theorem PySem.W.Fast.tw14016689398243218511 : True := trivial
theorem PySem.W.Fast.tw10484241039249699988 : True := trivial
theorem PySem.W.Fast.tw14239668674804343950 : True := trivial
theorem PySem.W.Fast.tw1055919926072336194 : True := trivial
theorem PySem.W.Fast.tw2112567858523368128 : True := trivial
theorem PySem.W.Fast.tw2400658905865086649 : True := trivial
theorem PySem.W.Fast.tw2599727290928730163 : True := trivial
theorem PySem.W.Fast.tw2619861006261296554 : True := trivial
theorem PySem.W.Fast.tw11871106209927850988 : True := trivial
theorem PySem.W.Fast.tw1522262132757173233 : True := trivial
theorem PySem.W.Fast.tw10722771885214325712 : True := trivial
theorem PySem.W.Fast.tw8987140471488474850 : True := trivial
theorem PySem.W.Fast.tw10817747699052711585 : True := trivial
theorem PySem.W.Fast.tw11081070483443007145 : True := trivial
theorem PySem.W.Fast.tw4393614211488247147 : True := trivial
theorem PySem.W.Fast.tw3464794693733419567 : True := trivial
theorem PySem.W.Fast.tw8016759664004173912 : True := trivial
theorem PySem.W.Fast.tw4102839054738804783 : True := trivial
theorem PySem.W.Fast.tw8064416032051951353 : True := trivial
theorem PySem.W.Fast.tw1772380881911683491 : True := trivial
theorem PySem.W.Fast.tw5021501152501161638 : True := trivial
theorem PySem.W.Fast.tw11612528921365472329 : True := trivial
theorem PySem.W.Fast.tw13746724030049839644 : True := trivial
theorem PySem.W.Fast.tw7296607063089002335 : True := trivial
theorem PySem.W.Fast.tw329693983165157025 : True := trivial
theorem PySem.W.Fast.tw15496429293686160486 : True := trivial
theorem PySem.W.Fast.tw1961738983437242461 : True := trivial
theorem PySem.W.Fast.tw17954840805346333113 : True := trivial
theorem PySem.W.Fast.tw15792764599041798182 : True := trivial
theorem PySem.W.Fast.tw1472650909920507552 : True := trivial
theorem PySem.W.Fast.tw8709620123587619981 : True := trivial
theorem PySem.W.Fast.tw6327170738546096244 : True := trivial
theorem PySem.W.Fast.tw8007497853365480443 : True := trivial
theorem PySem.W.Fast.tw11601254626192604737 : True := trivial
theorem PySem.W.Fast.tw203011884540567404 : True := trivial
theorem PySem.W.Fast.tw10941072651467329814 : True := trivial
theorem PySem.W.Fast.tw10706868979131602316 : True := trivial
theorem PySem.W.Fast.tw10360940011703767154 : True := trivial
theorem PySem.W.Fast.tw18404547156219461440 : True := trivial
theorem PySem.W.Fast.tw6649444974108413995 : True := trivial
theorem PySem.W.Fast.tw14213815827767772614 : True := trivial
theorem PySem.W.Fast.tw9463327787612458427 : True := trivial
theorem PySem.W.Fast.tw210421825537737222 : True := trivial
theorem PySem.W.Fast.tw15534236321037769227 : True := trivial
theorem PySem.W.Fast.tw1387147588217138209 : True := trivial
theorem PySem.W.Fast.tw3694746685959339271 : True := trivial
theorem PySem.W.Fast.tw6663157823072833680 : True := trivial
theorem PySem.W.Fast.tw2947395024107435505 : True := trivial
theorem PySem.W.Fast.tw15349176667454267512 : True := trivial
theorem PySem.W.Fast.tw7014778164784055345 : True := trivial
theorem PySem.W.Fast.tw3217349560523119047 : True := trivial
theorem PySem.W.Fast.tw6435520947131402242 : True := trivial
theorem PySem.W.Fast.tw5605022104921170417 : True := trivial
theorem PySem.W.Fast.tw12490331201372785588 : True := trivial
theorem PySem.W.Fast.tw8416451244987097567 : True := trivial
theorem PySem.W.Fast.tw1967978150694996408 : True := trivial
theorem PySem.W.Fast.tw5030578094873816104 : True := trivial
theorem PySem.W.Fast.tw5065576799078530779 : True := trivial
theorem PySem.W.Fast.tw10235738924990125807 : True := trivial
theorem PySem.W.Fast.tw7606227127318209845 : True := trivial
theorem PySem.W.Fast.tw14203098480059962154 : True := trivial
theorem PySem.W.Fast.tw5847693349879710376 : True := trivial
theorem PySem.W.Fast.tw8450063436474279460 : True := trivial
theorem PySem.W.Fast.tw14016375851626926276 : True := trivial
theorem PySem.W.Fast.tw3190303949550830318 : True := trivial
theorem PySem.W.Fast.tw17663682194726063364 : True := trivial
theorem PySem.W.Fast.tw14127398672665998844 : True := trivial
theorem PySem.W.Fast.tw11374596530406500747 : True := trivial
theorem PySem.W.Fast.tw4429327941089278352 : True := trivial
theorem PySem.W.Fast.tw2450961549498928059 : True := trivial
theorem PySem.W.Fast.tw16488099550229647075 : True := trivial
theorem PySem.W.Fast.tw4517547467918402986 : True := trivial
theorem PySem.W.Fast.tw7112785667308559395 : True := trivial
theorem PySem.W.Fast.tw16433627105064114206 : True := trivial
theorem PySem.W.Fast.tw17216968763915034896 : True := trivial
theorem PySem.W.Fast.tw15306387949122772483 : True := trivial
theorem PySem.W.Fast.tw17239153544243552599 : True := trivial
theorem PySem.W.Fast.tw9876652217416991978 : True := trivial
theorem PySem.W.Fast.tw11715201493219581855 : True := trivial
theorem PySem.W.Fast.tw12884112796920304899 : True := trivial
theorem PySem.W.Fast.tw9867297643889952384 : True := trivial
theorem PySem.W.Fast.tw610410506373983023 : True := trivial
theorem PySem.W.Fast.tw9116062171725755626 : True := trivial
theorem PySem.W.Fast.tw4853102565992875205 : True := trivial
theorem PySem.W.Fast.tw9352288558820572376 : True := trivial
theorem PySem.W.Fast.tw17307926508211698521 : True := trivial
theorem PySem.W.Fast.tw5627908228753028896 : True := trivial
theorem PySem.W.Fast.tw6463542510879455043 : True := trivial
theorem PySem.W.Fast.tw5500137587039046313 : True := trivial
theorem PySem.W.Fast.tw12380401221951846787 : True := trivial
theorem PySem.W.Fast.tw187757866243602417 : True := trivial
theorem PySem.W.Fast.tw13560150235880126617 : True := trivial
theorem PySem.W.Fast.tw8409545486010114296 : True := trivial
theorem PySem.W.Fast.tw7508030215075346605 : True := trivial
theorem PySem.W.Fast.tw15286408631972781878 : True := trivial
theorem PySem.W.Fast.tw15689309720686222897 : True := trivial
theorem PySem.W.Fast.tw6306832318505046853 : True := trivial
theorem PySem.W.Fast.tw13362022813614404581 : True := trivial
theorem PySem.W.Fast.tw746292319827932966 : True := trivial
theorem PySem.W.Fast.tw18227552528757644797 : True := trivial
theorem PySem.W.Fast.tw263000490635527308 : True := trivial
theorem PySem.W.Fast.tw3374511666197425359 : True := trivial
theorem PySem.W.Fast.tw9853761080398701043 : True := trivial
theorem PySem.W.Fast.tw17250477790386486816 : True := trivial
theorem PySem.W.Fast.tw10993705365835151672 : True := trivial
theorem PySem.W.Fast.tw2226688786611268562 : True := trivial
theorem PySem.W.Fast.tw10860404900103651419 : True := trivial
theorem PySem.W.Fast.tw5914540414192289920 : True := trivial
theorem PySem.W.Fast.tw6012894264907265645 : True := trivial
theorem PySem.W.Fast.tw11226360679360886161 : True := trivial
theorem PySem.W.Fast.tw7682589263278448285 : True := trivial
theorem PySem.W.Fast.tw5657925471781073570 : True := trivial
theorem PySem.W.Fast.tw6353011106184204099 : True := trivial
theorem PySem.W.Fast.tw10795922962558351662 : True := trivial
theorem PySem.W.Fast.tw7872684884377872083 : True := trivial
theorem PySem.W.Fast.tw10475293138801013530 : True := trivial
theorem PySem.W.Fast.tw3332949201447966967 : True := trivial
theorem PySem.W.Fast.tw13270981197560992953 : True := trivial
theorem PySem.W.Fast.tw1215722309911370840 : True := trivial
theorem PySem.W.Fast.tw5840044310550307039 : True := trivial
theorem PySem.W.Fast.tw6418115503135981290 : True := trivial
theorem PySem.W.Fast.tw10270074685016698358 : True := trivial
theorem PySem.W.Fast.tw14672736464641989424 : True := trivial
theorem PySem.W.Fast.tw3273135395106027817 : True := trivial
theorem PySem.W.Fast.tw17012767224350754237 : True := trivial
theorem PySem.W.Fast.tw2831809333638424249 : True := trivial
theorem PySem.W.Fast.tw17768821745621939416 : True := trivial
theorem PySem.W.Fast.tw10565401659273743907 : True := trivial
theorem PySem.W.Fast.tw3317764520327337839 : True := trivial
theorem PySem.W.Fast.tw7818012493957573810 : True := trivial
theorem PySem.W.Fast.tw1250843704617059220 : True := trivial
theorem PySem.W.Fast.tw5170318407281084950 : True := trivial
theorem PySem.W.Fast.tw11325044572063973822 : True := trivial
theorem PySem.W.Fast.tw14567008983753142809 : True := trivial
theorem PySem.W.Fast.tw4371889629885642964 : True := trivial
theorem PySem.W.Fast.tw6984904990664117786 : True := trivial
theorem PySem.W.Fast.tw7468050393022335771 : True := trivial
theorem PySem.W.Fast.tw6224378557119444640 : True := trivial
theorem PySem.W.Fast.tw14109858709170951325 : True := trivial
theorem PySem.W.Fast.tw3213738719879919465 : True := trivial
theorem PySem.W.Fast.tw11715140557006293434 : True := trivial
theorem PySem.W.Fast.tw15768621674296619068 : True := trivial
theorem PySem.W.Fast.tw11698366385694790315 : True := trivial
theorem PySem.W.Fast.tw209142318985994521 : True := trivial
theorem PySem.W.Fast.tw2125738626974733273 : True := trivial
theorem PySem.W.Fast.tw4736239196213328222 : True := trivial
theorem PySem.W.Fast.tw17793290300091646814 : True := trivial
theorem PySem.W.Fast.tw7088560897047573067 : True := trivial
theorem PySem.W.Fast.tw1703894885592743780 : True := trivial
theorem PySem.W.Fast.tw12295390015246761844 : True := trivial
theorem PySem.W.Fast.tw11218123934182708176 : True := trivial
theorem PySem.W.Fast.tw14877853744760008558 : True := trivial
theorem PySem.W.Fast.tw15223587601590435131 : True := trivial
theorem PySem.W.Fast.tw12471968180192888516 : True := trivial
theorem PySem.W.Fast.tw6997140274366954435 : True := trivial
theorem PySem.W.Fast.tw16997678727530307526 : True := trivial
theorem PySem.W.Fast.tw8427367651557249318 : True := trivial
theorem PySem.W.Fast.tw7243762962573145507 : True := trivial
theorem PySem.W.Fast.tw7641817425193310052 : True := trivial
theorem PySem.W.Fast.tw16371565336009606786 : True := trivial
theorem PySem.W.Fast.tw7173751678987047459 : True := trivial
theorem PySem.W.Fast.tw2445826029854957921 : True := trivial
theorem PySem.W.Fast.tw12765649468714421234 : True := trivial
theorem PySem.W.Fast.tw14502416553457501958 : True := trivial
theorem PySem.W.Fast.tw4887467611296375119 : True := trivial
theorem PySem.W.Fast.tw3565983608328538114 : True := trivial
theorem PySem.W.Fast.tw18105866711046798593 : True := trivial
theorem PySem.W.Fast.tw506202183257258601 : True := trivial
theorem PySem.W.Fast.tw1995412099456423211 : True := trivial
theorem PySem.W.Fast.tw1094952962356358730 : True := trivial
theorem PySem.W.Fast.tw10574145436059884724 : True := trivial
theorem PySem.W.Fast.tw16943434722822985732 : True := trivial
theorem PySem.W.Fast.tw13155162985276414930 : True := trivial
theorem PySem.W.Fast.tw12166614985200180839 : True := trivial
theorem PySem.W.Fast.tw15454248451164740699 : True := trivial
theorem PySem.W.Fast.tw3203199552079353008 : True := trivial
theorem PySem.W.Fast.tw13258960294049652387 : True := trivial
theorem PySem.W.Fast.tw11323034864855811169 : True := trivial
theorem PySem.W.Fast.tw98557060696609210 : True := trivial
theorem PySem.W.Fast.tw6363510223816675163 : True := trivial
theorem PySem.W.Fast.tw16964316268498543670 : True := trivial
theorem PySem.W.Fast.tw13237711868924035860 : True := trivial
theorem PySem.W.Fast.tw18315235531061755079 : True := trivial
theorem PySem.W.Fast.tw12913208850651744933 : True := trivial
theorem PySem.W.Fast.tw4479082870493274239 : True := trivial
theorem PySem.W.Fast.tw13120976455591011818 : True := trivial
theorem PySem.W.Fast.tw5254802022360469402 : True := trivial
theorem PySem.W.Fast.tw7099009014214443331 : True := trivial
theorem PySem.W.Fast.tw17525022265164021454 : True := trivial
theorem PySem.W.Fast.tw2815985114395193098 : True := trivial
theorem PySem.W.Fast.tw15129989594150593671 : True := trivial
theorem PySem.W.Fast.tw12415621104641406074 : True := trivial
theorem PySem.W.Fast.tw17039259077676056837 : True := trivial
theorem PySem.W.Fast.tw10646305308359043362 : True := trivial
theorem PySem.W.Fast.tw772740492552729050 : True := trivial
theorem PySem.W.Fast.tw8780517179305583572 : True := trivial
theorem PySem.W.Fast.tw12257936699922184769 : True := trivial
theorem PySem.W.Fast.tw15134407139712498069 : True := trivial
theorem PySem.W.Fast.tw6042481828431244528 : True := trivial
theorem PySem.W.Fast.tw14731986040760266799 : True := trivial
theorem PySem.W.Fast.tw1095605493992183652 : True := trivial
theorem PySem.W.Fast.tw14083228758495074289 : True := trivial
theorem PySem.W.Fast.tw5219738208270022598 : True := trivial
theorem PySem.W.Fast.tw17251143585748391411 : True := trivial
theorem PySem.W.Fast.tw8360478623540539879 : True := trivial
theorem PySem.W.Fast.tw8344964524670008591 : True := trivial
theorem PySem.W.Fast.tw8093287387672645087 : True := trivial
theorem PySem.W.Fast.tw5114046255140766526 : True := trivial
theorem PySem.W.Fast.tw5755331017138709104 : True := trivial
theorem PySem.W.Fast.tw8903475917430108723 : True := trivial
theorem PySem.W.Fast.tw17318395215129440317 : True := trivial
theorem PySem.W.Fast.tw12871470148833118718 : True := trivial
theorem PySem.W.Fast.tw5046570424912337657 : True := trivial
theorem PySem.W.Fast.tw10488493117855543867 : True := trivial
theorem PySem.W.Fast.tw12884395930296053579 : True := trivial
theorem PySem.W.Fast.tw16201455652472254795 : True := trivial
theorem PySem.W.Fast.tw7328795839171126573 : True := trivial
theorem PySem.W.Fast.tw16141353846444108416 : True := trivial
theorem PySem.W.Fast.tw11626879202935187994 : True := trivial
theorem PySem.W.Fast.tw16617272918929004152 : True := trivial
theorem PySem.W.Fast.tw38533024999905800 : True := trivial
theorem PySem.W.Fast.tw16915821692082365538 : True := trivial
theorem PySem.W.Fast.tw16454389681690542999 : True := trivial
theorem PySem.W.Fast.tw9830009952095459218 : True := trivial
theorem PySem.W.Fast.tw665917272272248213 : True := trivial
theorem PySem.W.Fast.tw1222574744401979424 : True := trivial
theorem PySem.W.Fast.tw4691350660619839191 : True := trivial
theorem PySem.W.Fast.tw12789739251672690224 : True := trivial
theorem PySem.W.Fast.tw3912500226436009289 : True := trivial
theorem PySem.W.Fast.tw10622817644862478523 : True := trivial
theorem PySem.W.Fast.tw9050670690962451366 : True := trivial
theorem PySem.W.Fast.tw1952573041959105349 : True := trivial
theorem PySem.W.Fast.tw14782505531256707223 : True := trivial
theorem PySem.W.Fast.tw12852258061670894403 : True := trivial
theorem PySem.W.Fast.tw8367202175573584114 : True := trivial
theorem PySem.W.Fast.tw18367994859806312391 : True := trivial
theorem PySem.W.Fast.tw3735604096162411226 : True := trivial
theorem PySem.W.Fast.tw2650412118110001765 : True := trivial
theorem PySem.W.Fast.tw1736094668183706802 : True := trivial
theorem PySem.W.Fast.tw13416247650292592125 : True := trivial
theorem PySem.W.Fast.tw5445777154858803916 : True := trivial
theorem PySem.W.Fast.tw12336137100908157849 : True := trivial
theorem PySem.W.Fast.tw6027389028979650384 : True := trivial
theorem PySem.W.Fast.tw11556516458553903339 : True := trivial
theorem PySem.W.Fast.tw14005779747883079611 : True := trivial
theorem PySem.W.Fast.tw14277415798934795868 : True := trivial
theorem PySem.W.Fast.tw6442014421359020277 : True := trivial
theorem PySem.W.Fast.tw746534509999142463 : True := trivial
theorem PySem.W.Fast.tw14922138273852437166 : True := trivial
theorem PySem.W.Fast.tw15861407919141796091 : True := trivial
theorem PySem.W.Fast.tw8483294996134781160 : True := trivial
theorem PySem.W.Fast.tw1173588333715520246 : True := trivial
theorem PySem.W.Fast.tw10335915394238601924 : True := trivial
theorem PySem.W.Fast.tw15978468179376756096 : True := trivial
theorem PySem.W.Fast.tw7981910066826346794 : True := trivial
theorem PySem.W.Fast.tw6662178479912280135 : True := trivial
theorem PySem.W.Fast.tw11387873134864025967 : True := trivial
theorem PySem.W.Fast.tw10744083769311297060 : True := trivial
theorem PySem.W.Fast.tw570424846028671383 : True := trivial
theorem PySem.W.Fast.tw7006876280256148989 : True := trivial
theorem PySem.W.Fast.tw15485070745399023400 : True := trivial
theorem PySem.W.Fast.tw9960539081059627853 : True := trivial
theorem PySem.W.Fast.tw18121579387031168936 : True := trivial
theorem PySem.W.Fast.tw15361737297961933514 : True := trivial
theorem PySem.W.Fast.tw11064451041896408628 : True := trivial
theorem PySem.W.Fast.tw1166273753307681622 : True := trivial
theorem PySem.W.Fast.tw7184206426716101313 : True := trivial
theorem PySem.W.Fast.tw17389298628424100584 : True := trivial
theorem PySem.W.Fast.tw10807900242032826917 : True := trivial
theorem PySem.W.Fast.tw12212313345703369233 : True := trivial
theorem PySem.W.Fast.tw6334722218508266269 : True := trivial
theorem PySem.W.Fast.tw11450063141853492740 : True := trivial
theorem PySem.W.Fast.tw6373439567566253819 : True := trivial
theorem PySem.W.Fast.tw6716434287242927810 : True := trivial
theorem PySem.W.Fast.tw2533131515713932124 : True := trivial
theorem PySem.W.Fast.tw5072728447682343381 : True := trivial
theorem PySem.W.Fast.tw14619312296662421209 : True := trivial
theorem PySem.W.Fast.tw192959806350395529 : True := trivial
theorem PySem.W.Fast.tw4946595529168525708 : True := trivial
theorem PySem.W.Fast.tw3705518827871479742 : True := trivial
theorem PySem.W.Fast.tw12622484765886684228 : True := trivial
theorem PySem.W.Fast.tw1258419580073058311 : True := trivial
theorem PySem.W.Fast.tw12806869566726486962 : True := trivial
theorem PySem.W.Fast.tw15314207051729746775 : True := trivial
theorem PySem.W.Fast.tw1655334057641938982 : True := trivial
theorem PySem.W.Fast.tw7801384589287079155 : True := trivial
theorem PySem.W.Fast.tw17054790129177201046 : True := trivial
theorem PySem.W.Fast.tw1914394615069312627 : True := trivial
theorem PySem.W.Fast.tw17980351750698307311 : True := trivial
theorem PySem.W.Fast.tw15052967674073039858 : True := trivial
theorem PySem.W.Fast.tw5627177115556837316 : True := trivial
theorem PySem.W.Fast.tw14361459453362368107 : True := trivial
theorem PySem.W.Fast.tw8874174375697047725 : True := trivial
theorem PySem.W.Fast.tw2824328026714171716 : True := trivial
theorem PySem.W.Fast.tw15674503731765381458 : True := trivial
theorem PySem.W.Fast.tw3326960204589859051 : True := trivial
theorem PySem.W.Fast.tw3898535618739733032 : True := trivial
theorem PySem.W.Fast.tw5907479106996679329 : True := trivial
theorem PySem.W.Fast.tw9719864595435499725 : True := trivial
theorem PySem.W.Fast.tw10696020437929100313 : True := trivial
theorem PySem.W.Fast.tw16891016566675424811 : True := trivial
theorem PySem.W.Fast.tw9378463254278647167 : True := trivial
theorem PySem.W.Fast.tw8247063390250809720 : True := trivial
theorem PySem.W.Fast.tw2678363672946888814 : True := trivial
theorem PySem.W.Fast.tw6661844368990253854 : True := trivial
theorem PySem.W.Fast.tw14301538142534891507 : True := trivial
theorem PySem.W.Fast.tw17412907253981212358 : True := trivial
theorem PySem.W.Fast.tw15273690100065213309 : True := trivial
theorem PySem.W.Fast.tw11038514712373366119 : True := trivial
theorem PySem.W.Fast.tw11500676880187139273 : True := trivial
theorem PySem.W.Fast.tw7512073248383071006 : True := trivial
theorem PySem.W.Fast.tw18364034288349470485 : True := trivial
theorem PySem.W.Fast.tw18056229770461856031 : True := trivial
theorem PySem.W.Fast.tw8425963575027811353 : True := trivial
theorem PySem.W.Fast.tw12363617144225941564 : True := trivial
theorem PySem.W.Fast.tw11749019568416144363 : True := trivial
theorem PySem.W.Fast.tw15011377549872743239 : True := trivial
theorem PySem.W.Fast.tw4406370808894803324 : True := trivial
theorem PySem.W.Fast.tw5182287262238920934 : True := trivial
theorem PySem.W.Fast.tw14467592997200321194 : True := trivial
theorem PySem.W.Fast.tw9264957548462878630 : True := trivial
theorem PySem.W.Fast.tw18211464779624011128 : True := trivial
theorem PySem.W.Fast.tw158469237538397075 : True := trivial
theorem PySem.W.Fast.tw3867709352064418485 : True := trivial
theorem PySem.W.Fast.tw11772918125764310472 : True := trivial
theorem PySem.W.Fast.tw13085038277409171168 : True := trivial
theorem PySem.W.Fast.tw10248907699999633135 : True := trivial
theorem PySem.W.Fast.tw13558464524444434590 : True := trivial
theorem PySem.W.Fast.tw4474490716963774957 : True := trivial
theorem PySem.W.Fast.tw13574434784067719491 : True := trivial
theorem PySem.W.Fast.tw9405649636048057615 : True := trivial
theorem PySem.W.Fast.tw3746382717058625755 : True := trivial
theorem PySem.W.Fast.tw9461394853644397761 : True := trivial
theorem PySem.W.Fast.tw16334509469102703407 : True := trivial
theorem PySem.W.Fast.tw7392694147462580286 : True := trivial
theorem PySem.W.Fast.tw3909686918286430316 : True := trivial
theorem PySem.W.Fast.tw17084567273506266740 : True := trivial
theorem PySem.W.Fast.tw16376911042885962456 : True := trivial
theorem PySem.W.Fast.tw4041092378682295756 : True := trivial
theorem PySem.W.Fast.tw405513541302486034 : True := trivial
theorem PySem.W.Fast.tw12424443967917424595 : True := trivial
theorem PySem.W.Fast.tw14804901815262619078 : True := trivial
theorem PySem.W.Fast.tw13593812196317693003 : True := trivial
theorem PySem.W.Fast.tw7284697279319912217 : True := trivial
theorem PySem.W.Fast.tw16337288157208585133 : True := trivial
theorem PySem.W.Fast.tw18119588852119428923 : True := trivial
theorem PySem.W.Fast.tw2588015199708935620 : True := trivial
theorem PySem.W.Fast.tw3853737933537253292 : True := trivial
theorem PySem.W.Fast.tw8497813552669782849 : True := trivial
theorem PySem.W.Fast.tw9079952698897624367 : True := trivial
theorem PySem.W.Fast.tw11195139297677190698 : True := trivial
theorem PySem.W.Fast.tw8825184823453963009 : True := trivial
theorem PySem.W.Fast.tw4790038800690650130 : True := trivial
theorem PySem.W.Fast.tw5907251032943194296 : True := trivial
theorem PySem.W.Fast.tw3931114089928438600 : True := trivial
theorem PySem.W.Fast.tw2152680248974191347 : True := trivial
theorem PySem.W.Fast.tw12137630284399907729 : True := trivial
theorem PySem.W.Fast.tw8409681715563954601 : True := trivial
theorem PySem.W.Fast.tw13858402541973758031 : True := trivial
theorem PySem.W.Fast.tw2141291799933069694 : True := trivial
theorem PySem.W.Fast.tw9279322603242706392 : True := trivial
theorem PySem.W.Fast.tw3537970942333783079 : True := trivial
theorem PySem.W.Fast.tw8539375812275861824 : True := trivial
theorem PySem.W.Fast.tw16912146132042173829 : True := trivial
theorem PySem.W.Fast.tw18333142387125574998 : True := trivial
theorem PySem.W.Fast.tw426679172178242470 : True := trivial
theorem PySem.W.Fast.tw4023412580474792964 : True := trivial
theorem PySem.W.Fast.tw15907365057525505926 : True := trivial
theorem PySem.W.Fast.tw10235754870992359336 : True := trivial
theorem PySem.W.Fast.tw179745127654550749 : True := trivial
theorem PySem.W.Fast.tw8357187640137982267 : True := trivial
theorem PySem.W.Fast.tw3818685557694636415 : True := trivial
theorem PySem.W.Fast.tw9015115731707330947 : True := trivial
theorem PySem.W.Fast.tw17272225805502250755 : True := trivial
theorem PySem.W.Fast.tw13095230286075228173 : True := trivial
theorem PySem.W.Fast.tw1957968535749240676 : True := trivial
theorem PySem.W.Fast.tw13784833227584589501 : True := trivial
theorem PySem.W.Fast.tw11205776831495893183 : True := trivial
theorem PySem.W.Fast.tw14342415865943349469 : True := trivial
theorem PySem.W.Fast.tw17092095017647138947 : True := trivial
theorem PySem.W.Fast.tw11140941120647237772 : True := trivial
theorem PySem.W.Fast.tw7677148137147515733 : True := trivial
theorem PySem.W.Fast.tw1044505929921705740 : True := trivial
theorem PySem.W.Fast.tw10923673625078656514 : True := trivial
theorem PySem.W.Fast.tw6105308778317268202 : True := trivial
theorem PySem.W.Fast.tw17959807751464560713 : True := trivial
theorem PySem.W.Fast.tw15306425817606430959 : True := trivial
theorem PySem.W.Fast.tw14926208573263186846 : True := trivial
theorem PySem.W.Fast.tw3807105200730476003 : True := trivial
theorem PySem.W.Fast.tw6100951769689564045 : True := trivial
theorem PySem.W.Fast.tw17218569909441930926 : True := trivial
theorem PySem.W.Fast.tw3458027353109760045 : True := trivial
theorem PySem.W.Fast.tw884147954812519480 : True := trivial
theorem PySem.W.Fast.tw8778033166637632870 : True := trivial
theorem PySem.W.Fast.tw12480552973729344134 : True := trivial
theorem PySem.W.Fast.tw4826897681657371664 : True := trivial
theorem PySem.W.Fast.tw5309009386945795387 : True := trivial
theorem PySem.W.Fast.tw3898833009344815097 : True := trivial
theorem PySem.W.Fast.tw9549456389993568393 : True := trivial
theorem PySem.W.Fast.tw5914887811666472160 : True := trivial
theorem PySem.W.Fast.tw18399265667948693108 : True := trivial
theorem PySem.W.Fast.tw4699663438487872431 : True := trivial
theorem PySem.W.Fast.tw15415340411541051246 : True := trivial
theorem PySem.W.Fast.tw10624017405309057941 : True := trivial
theorem PySem.W.Fast.tw8788719963591229704 : True := trivial
theorem PySem.W.Fast.tw4825637776645925898 : True := trivial
theorem PySem.W.Fast.tw10156209789957123896 : True := trivial
theorem PySem.W.Fast.tw16264943928006119864 : True := trivial
theorem PySem.W.Fast.tw11949325679538411570 : True := trivial
theorem PySem.W.Fast.tw3647899835293453241 : True := trivial
theorem PySem.W.Fast.tw7324782024857852311 : True := trivial
theorem PySem.W.Fast.tw7244665585061750403 : True := trivial
theorem PySem.W.Fast.tw9250925052264689303 : True := trivial
theorem PySem.W.Fast.tw10063612481788993589 : True := trivial
theorem PySem.W.Fast.tw1759955790940438944 : True := trivial
theorem PySem.W.Fast.tw11212707661966803063 : True := trivial
theorem PySem.W.Fast.tw8378459396054756327 : True := trivial
theorem PySem.W.Fast.tw5987613579558177249 : True := trivial
theorem PySem.W.Fast.tw1293641466113716809 : True := trivial
theorem PySem.W.Fast.tw12729736811758692175 : True := trivial
theorem PySem.W.Fast.tw17099873477957711204 : True := trivial
theorem PySem.W.Fast.tw2625637631151314522 : True := trivial
theorem PySem.W.Fast.tw13489066182467221293 : True := trivial
theorem PySem.W.Fast.tw5393353543914470427 : True := trivial
theorem PySem.W.Fast.tw14506902469786299301 : True := trivial
theorem PySem.W.Fast.tw13903974326851769716 : True := trivial
theorem PySem.W.Fast.tw6228470126971431815 : True := trivial
theorem PySem.W.Fast.tw5191025618232975715 : True := trivial
theorem PySem.W.Fast.tw8297765430046346504 : True := trivial
theorem PySem.W.Fast.tw16392213694626892868 : True := trivial
theorem PySem.W.Fast.tw14032824492317847415 : True := trivial
theorem PySem.W.Fast.tw9885110912599274671 : True := trivial
theorem PySem.W.Fast.tw9383976874772646742 : True := trivial
theorem PySem.W.Fast.tw11500203029725811549 : True := trivial
theorem PySem.W.Fast.tw15766981813716161188 : True := trivial
theorem PySem.W.Fast.tw5634645440701699595 : True := trivial
theorem PySem.W.Fast.tw14371457651978516405 : True := trivial
theorem PySem.W.Fast.tw11174972557756948364 : True := trivial
theorem PySem.W.Fast.tw15112256370649077165 : True := trivial
theorem PySem.W.Fast.tw4487092754971077602 : True := trivial
theorem PySem.W.Fast.tw6614734566823571691 : True := trivial
theorem PySem.W.Fast.tw10116107737122222400 : True := trivial
theorem PySem.W.Fast.tw12933729713834217982 : True := trivial
theorem PySem.W.Fast.tw1015633916706067333 : True := trivial
theorem PySem.W.Fast.tw13584236850611959032 : True := trivial
theorem PySem.W.Fast.tw3124677277117887844 : True := trivial
theorem PySem.W.Fast.tw781161800962616885 : True := trivial
theorem PySem.W.Fast.tw15615625373910650886 : True := trivial
theorem PySem.W.Fast.tw3090516987771904388 : True := trivial
theorem PySem.W.Fast.tw17994403912068574917 : True := trivial
theorem PySem.W.Fast.tw3309251142505797276 : True := trivial
theorem PySem.W.Fast.tw1250291289384155492 : True := trivial
theorem PySem.W.Fast.tw12497192065572058663 : True := trivial
theorem PySem.W.Fast.tw13754047412213762833 : True := trivial
theorem PySem.W.Fast.tw2396475005735709831 : True := trivial
theorem PySem.W.Fast.tw16318181078334348560 : True := trivial
theorem PySem.W.Fast.tw6404033208627200094 : True := trivial
theorem PySem.W.Fast.tw4193438256176310086 : True := trivial
theorem PySem.W.Fast.tw3575643721004051813 : True := trivial
theorem PySem.W.Fast.tw8829907709549983618 : True := trivial
theorem PySem.W.Fast.tw7971907821627774287 : True := trivial
theorem PySem.W.Fast.tw17884359303763221115 : True := trivial
theorem PySem.W.Fast.tw6887337033338341877 : True := trivial
theorem PySem.W.Fast.tw1860178213787420522 : True := trivial
theorem PySem.W.Fast.tw1386110058131398151 : True := trivial
theorem PySem.W.Fast.tw7642520756551140831 : True := trivial
theorem PySem.W.Fast.tw16033037041691128175 : True := trivial
theorem PySem.W.Fast.tw2647250256891330348 : True := trivial
theorem PySem.W.Fast.tw18212465452814745738 : True := trivial
theorem PySem.W.Fast.tw17818094182240084759 : True := trivial
theorem PySem.W.Fast.tw12188694782435922869 : True := trivial
theorem PySem.W.Fast.tw9161392956416027339 : True := trivial
theorem PySem.W.Fast.tw17167751755513860409 : True := trivial
theorem PySem.W.Fast.tw5294281753227466227 : True := trivial
theorem PySem.W.Fast.tw15638479868961056200 : True := trivial
theorem PySem.W.Fast.tw16703531211544977287 : True := trivial
theorem PySem.W.Fast.tw11969425928013847598 : True := trivial
theorem PySem.W.Fast.tw6374909498853262534 : True := trivial
theorem PySem.W.Fast.tw951444180266652805 : True := trivial
theorem PySem.W.Fast.tw15386223078050874124 : True := trivial
theorem PySem.W.Fast.tw5812047519338763307 : True := trivial
theorem PySem.W.Fast.tw3186476937692037728 : True := trivial
theorem PySem.W.Fast.tw18148073193681555053 : True := trivial
theorem PySem.W.Fast.tw924592112472062535 : True := trivial
theorem PySem.W.Fast.tw5237039745120087409 : True := trivial
theorem PySem.W.Fast.tw6057031298025476932 : True := trivial
theorem PySem.W.Fast.tw11948956832439756607 : True := trivial
theorem PySem.W.Fast.tw1828989366421435777 : True := trivial
theorem PySem.W.Fast.tw6362277091149365623 : True := trivial
theorem PySem.W.Fast.tw6295672313411556005 : True := trivial
theorem PySem.W.Fast.tw8283204462658330763 : True := trivial
theorem PySem.W.Fast.tw13104647390641592436 : True := trivial
theorem PySem.W.Fast.tw2929223053287427750 : True := trivial
theorem PySem.W.Fast.tw1701930718100716720 : True := trivial
theorem PySem.W.Fast.tw15016476528984853319 : True := trivial
theorem PySem.W.Fast.tw7163782034358222321 : True := trivial
theorem PySem.W.Fast.tw16706386745682759951 : True := trivial
theorem PySem.W.Fast.tw6674673500720827840 : True := trivial
theorem PySem.W.Fast.tw10170961586765241952 : True := trivial
theorem PySem.W.Fast.tw14417488405441831609 : True := trivial
theorem PySem.W.Fast.tw6250307388518975949 : True := trivial
theorem PySem.W.Fast.tw16793751216774028547 : True := trivial
theorem PySem.W.Fast.tw4286821722492505516 : True := trivial
theorem PySem.W.Fast.tw14025063539700694030 : True := trivial
theorem PySem.W.Fast.tw474216622538104572 : True := trivial
theorem PySem.W.Fast.tw12446624136760627534 : True := trivial
theorem PySem.W.Fast.tw15486973731142944924 : True := trivial
theorem PySem.W.Fast.tw15155883457743696568 : True := trivial
theorem PySem.W.Fast.tw149324889515707051 : True := trivial
theorem PySem.W.Fast.tw222702155726805476 : True := trivial
theorem PySem.W.Fast.tw8500304082952456803 : True := trivial
theorem PySem.W.Fast.tw7279110229284986781 : True := trivial
theorem PySem.W.Fast.tw13756307939314052953 : True := trivial
theorem PySem.W.Fast.tw1007266885565094074 : True := trivial
theorem PySem.W.Fast.tw11433536949525122272 : True := trivial
theorem PySem.W.Fast.tw15502696119251588245 : True := trivial
theorem PySem.W.Fast.tw13241025222686898791 : True := trivial
theorem PySem.W.Fast.tw12350867003260220656 : True := trivial
theorem PySem.W.Fast.tw2058389848346394107 : True := trivial
theorem PySem.W.Fast.tw3593006772687658234 : True := trivial
theorem PySem.W.Fast.tw7053611588218712979 : True := trivial
theorem PySem.W.Fast.tw10686429089685713871 : True := trivial
theorem PySem.W.Fast.tw18429427780865353919 : True := trivial
theorem PySem.W.Fast.tw14834635811717162677 : True := trivial
theorem PySem.W.Fast.tw1418358219679093471 : True := trivial
theorem PySem.W.Fast.tw11968561565084898847 : True := trivial
theorem PySem.W.Fast.tw11104755713447056473 : True := trivial
theorem PySem.W.Fast.tw13921185180696265246 : True := trivial
theorem PySem.W.Fast.tw2569923533577584515 : True := trivial
theorem PySem.W.Fast.tw5235985308558323748 : True := trivial
theorem PySem.W.Fast.tw7781354171816344048 : True := trivial
theorem PySem.W.Fast.tw9269528015213885052 : True := trivial
theorem PySem.W.Fast.tw570965703403937983 : True := trivial
theorem PySem.W.Fast.tw13417262973607840429 : True := trivial
theorem PySem.W.Fast.tw9090618392239799697 : True := trivial
theorem PySem.W.Fast.tw12342348202052736790 : True := trivial
theorem PySem.W.Fast.tw17337438923174604135 : True := trivial
theorem PySem.W.Fast.tw7370888103558314002 : True := trivial
theorem PySem.W.Fast.tw10424717573174383289 : True := trivial
theorem PySem.W.Fast.tw17242877879339383 : True := trivial
theorem PySem.W.Fast.tw10265092490141662270 : True := trivial
theorem PySem.W.Fast.tw18427976305212964866 : True := trivial
theorem PySem.W.Fast.tw15852542419807544648 : True := trivial
theorem PySem.W.Fast.tw11865779512122423074 : True := trivial
theorem PySem.W.Fast.tw5015672489041750119 : True := trivial
theorem PySem.W.Fast.tw13251257808124795237 : True := trivial
theorem PySem.W.Fast.tw4518560872168089202 : True := trivial
theorem PySem.W.Fast.tw5905424499653232485 : True := trivial
theorem PySem.W.Fast.tw6748408195256641423 : True := trivial
theorem PySem.W.Fast.tw12939111995708605415 : True := trivial
theorem PySem.W.Fast.tw13304109557160150865 : True := trivial
theorem PySem.W.Fast.tw1362708072615882283 : True := trivial
theorem PySem.W.Fast.tw7975221267352335913 : True := trivial
theorem PySem.W.Fast.tw17205473308489802704 : True := trivial
theorem PySem.W.Fast.tw521554600760495311 : True := trivial
theorem PySem.W.Fast.tw164154551046026993 : True := trivial
theorem PySem.W.Fast.tw4289339032812608874 : True := trivial
theorem PySem.W.Fast.tw16917139646002208673 : True := trivial
theorem PySem.W.Fast.tw14436653722655753566 : True := trivial
theorem PySem.W.Fast.tw14676041885707156060 : True := trivial
theorem PySem.W.Fast.tw18087029413489278822 : True := trivial
theorem PySem.W.Fast.tw327168554825282217 : True := trivial
theorem PySem.W.Fast.tw5270859762152488617 : True := trivial
theorem PySem.W.Fast.tw11936537074759111337 : True := trivial
theorem PySem.W.Fast.tw11318792764235624517 : True := trivial
theorem PySem.W.Fast.tw6659199654545583660 : True := trivial
theorem PySem.W.Fast.tw17073958369477893427 : True := trivial
theorem PySem.W.Fast.tw9866852624358769067 : True := trivial
theorem PySem.W.Fast.tw8915127616403204426 : True := trivial
theorem PySem.W.Fast.tw15733716103587936122 : True := trivial
theorem PySem.W.Fast.tw13241971201034338155 : True := trivial
theorem PySem.W.Fast.tw12451067255271249926 : True := trivial
theorem PySem.W.Fast.tw15714659084812592081 : True := trivial
theorem PySem.W.Fast.tw15224360559304204715 : True := trivial
theorem PySem.W.Fast.tw730056015575311540 : True := trivial
theorem PySem.W.Fast.tw15076355822121529319 : True := trivial
theorem PySem.W.Fast.tw7318013811739825968 : True := trivial
theorem PySem.W.Fast.tw1610357659880777614 : True := trivial
theorem PySem.W.Fast.tw17811783895286981981 : True := trivial
theorem PySem.W.Fast.tw11252942017984295663 : True := trivial
theorem PySem.W.Fast.tw8929405649567339710 : True := trivial
theorem PySem.W.Fast.tw2116113838287086679 : True := trivial
theorem PySem.W.Fast.tw6755277233960969397 : True := trivial
theorem PySem.W.Fast.tw8780841521454705180 : True := trivial
theorem PySem.W.Fast.tw12812075410969875553 : True := trivial
theorem PySem.W.Fast.tw7136879573229765482 : True := trivial
theorem PySem.W.Fast.tw637093923970262555 : True := trivial
theorem PySem.W.Fast.tw15255257876809688462 : True := trivial
theorem PySem.W.Fast.tw6246825411896601699 : True := trivial
theorem PySem.W.Fast.tw12626588009631888665 : True := trivial
theorem PySem.W.Fast.tw173439135492597441 : True := trivial
theorem PySem.W.Fast.tw8245430619380328485 : True := trivial
theorem PySem.W.Fast.tw2506169317307246514 : True := trivial
theorem PySem.W.Fast.tw12883753357910273646 : True := trivial
theorem PySem.W.Fast.tw10441944076554109384 : True := trivial
theorem PySem.W.Fast.tw2019943267838654231 : True := trivial
theorem PySem.W.Fast.tw2882595583221292675 : True := trivial
theorem PySem.W.Fast.tw3767494376227858005 : True := trivial
theorem PySem.W.Fast.tw13348617202478935542 : True := trivial
theorem PySem.W.Fast.tw6328238628662787198 : True := trivial
theorem PySem.W.Fast.tw2886902280352830941 : True := trivial
theorem PySem.W.Fast.tw6937559039108002762 : True := trivial
theorem PySem.W.Fast.tw9739922512651818193 : True := trivial
theorem PySem.W.Fast.tw4881754909899232545 : True := trivial
theorem PySem.W.Fast.tw14489151802533549502 : True := trivial
theorem PySem.W.Fast.tw5091586903877139946 : True := trivial
theorem PySem.W.Fast.tw18152463452927821278 : True := trivial
theorem PySem.W.Fast.tw8703735842227071643 : True := trivial
theorem PySem.W.Fast.tw8941038995530022704 : True := trivial
theorem PySem.W.Fast.tw12036952578136231325 : True := trivial
theorem PySem.W.Fast.tw12847878620941054879 : True := trivial
theorem PySem.W.Fast.tw15767855952447894030 : True := trivial
theorem PySem.W.Fast.tw16779366093460741315 : True := trivial
theorem PySem.W.Fast.tw4600071797803213995 : True := trivial
theorem PySem.W.Fast.tw5826223869605615878 : True := trivial
theorem PySem.W.Fast.tw2913750030211743925 : True := trivial
theorem PySem.W.Fast.tw4273449572215621609 : True := trivial
theorem PySem.W.Fast.tw5664874286766807950 : True := trivial
theorem PySem.W.Fast.tw4018781539544171457 : True := trivial
theorem PySem.W.Fast.tw4400808258078698659 : True := trivial
theorem PySem.W.Fast.tw300990247709398245 : True := trivial
theorem PySem.W.Fast.tw14876281429121298398 : True := trivial
theorem PySem.W.Fast.tw18223102752192593928 : True := trivial
theorem PySem.W.Fast.tw6335875199612785687 : True := trivial
theorem PySem.W.Fast.tw3616141014163847310 : True := trivial
theorem PySem.W.Fast.tw6823868018261695617 : True := trivial
theorem PySem.W.Fast.tw2627546921493887981 : True := trivial
theorem PySem.W.Fast.tw16069401753051065755 : True := trivial
theorem PySem.W.Fast.tw4848469125746112430 : True := trivial
theorem PySem.W.Fast.tw4096326019607934564 : True := trivial
theorem PySem.W.Fast.tw7941859000449981375 : True := trivial
theorem PySem.W.Fast.tw17350425429549557684 : True := trivial
theorem PySem.W.Fast.tw17536421406743025487 : True := trivial
theorem PySem.W.Fast.tw6687631724755059548 : True := trivial
theorem PySem.W.Fast.tw10741913769116476263 : True := trivial
theorem PySem.W.Fast.tw3049372903005556442 : True := trivial
theorem PySem.W.Fast.tw8433768969214465121 : True := trivial
theorem PySem.W.Fast.tw9018316532650003723 : True := trivial
theorem PySem.W.Fast.tw9910717164392962754 : True := trivial
theorem PySem.W.Fast.tw7359204033640632101 : True := trivial
theorem PySem.W.Fast.tw15466295665228014051 : True := trivial
theorem PySem.W.Fast.tw8411929528149063204 : True := trivial
theorem PySem.W.Fast.tw2180029634160692377 : True := trivial
theorem PySem.W.Fast.tw2616872306266600451 : True := trivial
theorem PySem.W.Fast.tw13498205889671319707 : True := trivial
theorem PySem.W.Fast.tw7237680932141953822 : True := trivial
theorem PySem.W.Fast.tw14123198896875054907 : True := trivial
theorem PySem.W.Fast.tw13670571466635251432 : True := trivial
theorem PySem.W.Fast.tw7033564084069092604 : True := trivial
theorem PySem.W.Fast.tw15599992919049481081 : True := trivial
theorem PySem.W.Fast.tw10541468332022744963 : True := trivial
theorem PySem.W.Fast.tw8038196367241344510 : True := trivial
theorem PySem.W.Fast.tw11770543770726467076 : True := trivial
theorem PySem.W.Fast.tw1510846682417857392 : True := trivial
theorem PySem.W.Fast.tw4258233008332466358 : True := trivial
theorem PySem.W.Fast.tw15999750347245232774 : True := trivial
theorem PySem.W.Fast.tw1327159599294148898 : True := trivial
theorem PySem.W.Fast.tw3631533524154431481 : True := trivial
theorem PySem.W.Fast.tw62330205083453239 : True := trivial
theorem PySem.W.Fast.tw12868094756575000055 : True := trivial
theorem PySem.W.Fast.tw1135645132467521670 : True := trivial
theorem PySem.W.Fast.tw8612230892459755232 : True := trivial
theorem PySem.W.Fast.tw281427780172634407 : True := trivial
theorem PySem.W.Fast.tw10828009198461910497 : True := trivial
theorem PySem.W.Fast.tw984707669552484825 : True := trivial
theorem PySem.W.Fast.tw7510462957722390908 : True := trivial
theorem PySem.W.Fast.tw13351976805560576034 : True := trivial
theorem PySem.W.Fast.tw10296683558929835142 : True := trivial
theorem PySem.W.Fast.tw12663952158357981017 : True := trivial
theorem PySem.W.Fast.tw2844778390829694768 : True := trivial
theorem PySem.W.Fast.tw2679871345630831866 : True := trivial
theorem PySem.W.Fast.tw11366980821266774047 : True := trivial
theorem PySem.W.Fast.tw6061178987870278994 : True := trivial
theorem PySem.W.Fast.tw2893551860302610607 : True := trivial
theorem PySem.W.Fast.tw3105001044103663899 : True := trivial
theorem PySem.W.Fast.tw12329576509925887907 : True := trivial
theorem PySem.W.Fast.tw13496063070956277320 : True := trivial
theorem PySem.W.Fast.tw8956464847144987256 : True := trivial
theorem PySem.W.Fast.tw929656857390383284 : True := trivial
theorem PySem.W.Fast.tw9383858520586358926 : True := trivial
theorem PySem.W.Fast.tw15689901828859166163 : True := trivial
theorem PySem.W.Fast.tw17268579312946801845 : True := trivial
theorem PySem.W.Fast.tw6530053717673105125 : True := trivial
theorem PySem.W.Fast.tw9685533251192664714 : True := trivial
theorem PySem.W.Fast.tw6318118444706625047 : True := trivial
theorem PySem.W.Fast.tw6211434598860244025 : True := trivial
theorem PySem.W.Fast.tw12625319961179097629 : True := trivial
theorem PySem.W.Fast.tw3436195834091117867 : True := trivial
theorem PySem.W.Fast.tw3188109099713396504 : True := trivial
theorem PySem.W.Fast.tw3123630318998960166 : True := trivial
theorem PySem.W.Fast.tw8521554966490631847 : True := trivial
theorem PySem.W.Fast.tw4703981939939970552 : True := trivial
theorem PySem.W.Fast.tw9883800655597914129 : True := trivial
theorem PySem.W.Fast.tw9549790305361046165 : True := trivial
theorem PySem.W.Fast.tw12328725280724604612 : True := trivial
theorem PySem.W.Fast.tw10341087405797063430 : True := trivial
theorem PySem.W.Fast.tw6872829852437275571 : True := trivial
theorem PySem.W.Fast.tw7295153832827059584 : True := trivial
theorem PySem.W.Fast.tw12733829769506232254 : True := trivial
theorem PySem.W.Fast.tw5906437416490428565 : True := trivial
theorem PySem.W.Fast.tw18023377589602785345 : True := trivial
theorem PySem.W.Fast.tw15685801203678229582 : True := trivial
theorem PySem.W.Fast.tw13166225703697498721 : True := trivial
theorem PySem.W.Fast.tw7628873556475046181 : True := trivial
theorem PySem.W.Fast.tw9462388625941729533 : True := trivial
theorem PySem.W.Fast.tw5959231419069456116 : True := trivial
theorem PySem.W.Fast.tw9643390608817260762 : True := trivial
theorem PySem.W.Fast.tw4290664246775813015 : True := trivial
theorem PySem.W.Fast.tw3337704719812860209 : True := trivial
theorem PySem.W.Fast.tw944292048398196463 : True := trivial
theorem PySem.W.Fast.tw8475286674042169569 : True := trivial
theorem PySem.W.Fast.tw5062414353907602064 : True := trivial
theorem PySem.W.Fast.tw16526606107564947327 : True := trivial
theorem PySem.W.Fast.tw1943862451210038818 : True := trivial
theorem PySem.W.Fast.tw3265004491256964586 : True := trivial
theorem PySem.W.Fast.tw14853203830585884712 : True := trivial
theorem PySem.W.Fast.tw10483574495786655876 : True := trivial
theorem PySem.W.Fast.tw11807503231076285155 : True := trivial
theorem PySem.W.Fast.tw8086583378982684238 : True := trivial
theorem PySem.W.Fast.tw2052880984333352241 : True := trivial
theorem PySem.W.Fast.tw7086108239404843529 : True := trivial
theorem PySem.W.Fast.tw17512707717933221802 : True := trivial
theorem PySem.W.Fast.tw14133165634832463148 : True := trivial
theorem PySem.W.Fast.tw7648443243927787940 : True := trivial
theorem PySem.W.Fast.tw14796630239187888064 : True := trivial
theorem PySem.W.Fast.tw6666947103596549525 : True := trivial
theorem PySem.W.Fast.tw15433280697881629705 : True := trivial
theorem PySem.W.Fast.tw12296507811395451037 : True := trivial
theorem PySem.W.Fast.tw1802733628453122998 : True := trivial
theorem PySem.W.Fast.tw14393892692225605496 : True := trivial
theorem PySem.W.Fast.tw10577787325891429702 : True := trivial
theorem PySem.W.Fast.tw8347146982988165706 : True := trivial
theorem PySem.W.Fast.tw13468905546571794924 : True := trivial
theorem PySem.W.Fast.tw18413678946109333612 : True := trivial
theorem PySem.W.Fast.tw9180474414979414935 : True := trivial
theorem PySem.W.Fast.tw14383918708326402374 : True := trivial
theorem PySem.W.Fast.tw13042944674936166806 : True := trivial
theorem PySem.W.Fast.tw3232758047111678499 : True := trivial
theorem PySem.W.Fast.tw4973660597929871572 : True := trivial
theorem PySem.W.Fast.tw14785887696322012692 : True := trivial
theorem PySem.W.Fast.tw16594448705767044188 : True := trivial
theorem PySem.W.Fast.tw4736717353679707563 : True := trivial
theorem PySem.W.Fast.tw6959576767544221216 : True := trivial
theorem PySem.W.Fast.tw17463572749417549721 : True := trivial
theorem PySem.W.Fast.tw16045534343062477553 : True := trivial
theorem PySem.W.Fast.tw9315063354612488682 : True := trivial
theorem PySem.W.Fast.tw13303724710184575707 : True := trivial
theorem PySem.W.Fast.tw4165440361506924513 : True := trivial
theorem PySem.W.Fast.tw14808156987209460535 : True := trivial
theorem PySem.W.Fast.tw5469727881586140850 : True := trivial
theorem PySem.W.Fast.tw10112894015743545475 : True := trivial
theorem PySem.W.Fast.tw15664860204888135682 : True := trivial
theorem PySem.W.Fast.tw7057854646499368372 : True := trivial
theorem PySem.W.Fast.tw15954789846999416147 : True := trivial
theorem PySem.W.Fast.tw12949208892923307201 : True := trivial
theorem PySem.W.Fast.tw4489019240903054553 : True := trivial
theorem PySem.W.Fast.tw4917492337260592355 : True := trivial
theorem PySem.W.Fast.tw6449290167186693983 : True := trivial
theorem PySem.W.Fast.tw9267754134902430740 : True := trivial
theorem PySem.W.Fast.tw7764798022403847923 : True := trivial
theorem PySem.W.Fast.tw4054292744572560654 : True := trivial
theorem PySem.W.Fast.tw17403395578037020505 : True := trivial
theorem PySem.W.Fast.tw16122300357208895430 : True := trivial
theorem PySem.W.Fast.tw5880356279724461391 : True := trivial
theorem PySem.W.Fast.tw5295194227821828938 : True := trivial
theorem PySem.W.Fast.tw16044010143952781976 : True := trivial
theorem PySem.W.Fast.tw1035721145647664806 : True := trivial
theorem PySem.W.Fast.tw4111182050200565353 : True := trivial
theorem PySem.W.Fast.tw12432770636521948484 : True := trivial
theorem PySem.W.Fast.tw10898430738269706436 : True := trivial
theorem PySem.W.Fast.tw5329631212072033618 : True := trivial
theorem PySem.W.Fast.tw12135015757036529799 : True := trivial
theorem PySem.W.Fast.tw11818804191616533484 : True := trivial
theorem PySem.W.Fast.tw6888532026833872593 : True := trivial
theorem PySem.W.Fast.tw9008550346605569530 : True := trivial
theorem PySem.W.Fast.tw10677406436147544156 : True := trivial
theorem PySem.W.Fast.tw16122701046897450687 : True := trivial
theorem PySem.W.Fast.tw13784998674163434324 : True := trivial
theorem PySem.W.Fast.tw13155872981127629603 : True := trivial
theorem PySem.W.Fast.tw2339877304324947230 : True := trivial
theorem PySem.W.Fast.tw6169117384569843819 : True := trivial
theorem PySem.W.Fast.tw15915949380111144869 : True := trivial
theorem PySem.W.Fast.tw16441465854880411823 : True := trivial
theorem PySem.W.Fast.tw15436082031532105437 : True := trivial
theorem PySem.W.Fast.tw14727841704937988942 : True := trivial
theorem PySem.W.Fast.tw9734422687421654212 : True := trivial
theorem PySem.W.Fast.tw13669253622385033799 : True := trivial
theorem PySem.W.Fast.tw7915624232910211296 : True := trivial
theorem PySem.W.Fast.tw9580430142303189331 : True := trivial
theorem PySem.W.Fast.tw6824145278273500275 : True := trivial
theorem PySem.W.Fast.tw9781807870784491195 : True := trivial
theorem PySem.W.Fast.tw17438520477706454848 : True := trivial
theorem PySem.W.Fast.tw10365028345199620185 : True := trivial
theorem PySem.W.Fast.tw4135839934209941057 : True := trivial
theorem PySem.W.Fast.tw14972263445898545021 : True := trivial
theorem PySem.W.Fast.tw4923256377326159622 : True := trivial
theorem PySem.W.Fast.tw882171224227060893 : True := trivial
theorem PySem.W.Fast.tw16175617551821013708 : True := trivial
theorem PySem.W.Fast.tw14789186875458197983 : True := trivial
theorem PySem.W.Fast.tw15320489097009889481 : True := trivial
theorem PySem.W.Fast.tw1339572502984661022 : True := trivial
theorem PySem.W.Fast.tw12144331889338849320 : True := trivial
theorem PySem.W.Fast.tw10359312943839242006 : True := trivial
theorem PySem.W.Fast.tw6878822703963604097 : True := trivial
theorem PySem.W.Fast.tw18060029148324074060 : True := trivial
theorem PySem.W.Fast.tw8160459203882050810 : True := trivial
theorem PySem.W.Fast.tw8889653428820756485 : True := trivial
theorem PySem.W.Fast.tw8643697367428661871 : True := trivial
theorem PySem.W.Fast.tw6212048701998251083 : True := trivial
theorem PySem.W.Fast.tw15582487887890195566 : True := trivial
theorem PySem.W.Fast.tw8785270897791730367 : True := trivial
theorem PySem.W.Fast.tw10849463813307988135 : True := trivial
theorem PySem.W.Fast.tw5998634180136105849 : True := trivial
theorem PySem.W.Fast.tw9959837870143174808 : True := trivial
theorem PySem.W.Fast.tw17444409495929436643 : True := trivial
theorem PySem.W.Fast.tw603716538867821227 : True := trivial
theorem PySem.W.Fast.tw952898204216375782 : True := trivial
theorem PySem.W.Fast.tw10953320204690474352 : True := trivial
theorem PySem.W.Fast.tw13233011947798254353 : True := trivial
theorem PySem.W.Fast.tw7240046560105639894 : True := trivial
theorem PySem.W.Fast.tw4793347036330542821 : True := trivial
theorem PySem.W.Fast.tw778102648743369398 : True := trivial
theorem PySem.W.Fast.tw13785773363856883802 : True := trivial
theorem PySem.W.Fast.tw11344380260200950042 : True := trivial
theorem PySem.W.Fast.tw10904148933284926890 : True := trivial
theorem PySem.W.Fast.tw7525665823835210506 : True := trivial
theorem PySem.W.Fast.tw5154275939849466547 : True := trivial
theorem PySem.W.Fast.tw4845808958702733937 : True := trivial
theorem PySem.W.Fast.tw17207445842491638119 : True := trivial
theorem PySem.W.Fast.tw6042508855476668228 : True := trivial
theorem PySem.W.Fast.tw14855910792936756130 : True := trivial
theorem PySem.W.Fast.tw14765185324442281850 : True := trivial
theorem PySem.W.Fast.tw16352753942682363569 : True := trivial
theorem PySem.W.Fast.tw16580175187757189860 : True := trivial
theorem PySem.W.Fast.tw2437295328972478247 : True := trivial
theorem PySem.W.Fast.tw12057223889162114354 : True := trivial
theorem PySem.W.Fast.tw4868436646243686486 : True := trivial
theorem PySem.W.Fast.tw10424576643602017131 : True := trivial
theorem PySem.W.Fast.tw12721394205029397476 : True := trivial
theorem PySem.W.Fast.tw14801469534318067469 : True := trivial
theorem PySem.W.Fast.tw9633483680239556088 : True := trivial
theorem PySem.W.Fast.tw1849573332857135446 : True := trivial
theorem PySem.W.Fast.tw13104888910596284859 : True := trivial
theorem PySem.W.Fast.tw8126009589621023129 : True := trivial
theorem PySem.W.Fast.tw7756431510120253285 : True := trivial
theorem PySem.W.Fast.tw1330594701449944315 : True := trivial
theorem PySem.W.Fast.tw13933276146962168305 : True := trivial
theorem PySem.W.Fast.tw17212585782736748755 : True := trivial
theorem PySem.W.Fast.tw11484508464011402861 : True := trivial
theorem PySem.W.Fast.tw16916300454216686944 : True := trivial
theorem PySem.W.Fast.tw9064374804858605615 : True := trivial
theorem PySem.W.Fast.tw277240243595282314 : True := trivial
theorem PySem.W.Fast.tw6457000092418621865 : True := trivial
theorem PySem.W.Fast.tw18374487764165286826 : True := trivial
theorem PySem.W.Fast.tw9537337102525797387 : True := trivial
theorem PySem.W.Fast.tw8287655337482286070 : True := trivial
theorem PySem.W.Fast.tw9856136785772090858 : True := trivial
theorem PySem.W.Fast.tw525773363277273855 : True := trivial
theorem PySem.W.Fast.tw3505737751755053335 : True := trivial
theorem PySem.W.Fast.tw16587526342388519366 : True := trivial
theorem PySem.W.Fast.tw12471500836006368848 : True := trivial
theorem PySem.W.Fast.tw14788030576136208883 : True := trivial
theorem PySem.W.Fast.tw2587405322653777191 : True := trivial
theorem PySem.W.Fast.tw3068065916846415922 : True := trivial
theorem PySem.W.Fast.tw9234955006750694533 : True := trivial
theorem PySem.W.Fast.tw34326163301225650 : True := trivial
theorem PySem.W.Fast.tw10439115128126065568 : True := trivial
theorem PySem.W.Fast.tw5227014210962881261 : True := trivial
theorem PySem.W.Fast.tw5517272072471807067 : True := trivial
theorem PySem.W.Fast.tw2127286126581531794 : True := trivial
theorem PySem.W.Fast.tw1047072713392069478 : True := trivial
theorem PySem.W.Fast.tw10231826098374047353 : True := trivial
theorem PySem.W.Fast.tw4563553739369149729 : True := trivial
theorem PySem.W.Fast.tw6608193058977997882 : True := trivial
theorem PySem.W.Fast.tw1134203091582702375 : True := trivial
theorem PySem.W.Fast.tw10701684327573483418 : True := trivial
theorem PySem.W.Fast.tw1632615341053122576 : True := trivial
theorem PySem.W.Fast.tw14306251819686961518 : True := trivial
theorem PySem.W.Fast.tw13562203963084891445 : True := trivial
theorem PySem.W.Fast.tw13161332433519425825 : True := trivial
theorem PySem.W.Fast.tw11699745945976179939 : True := trivial
theorem PySem.W.Fast.tw3681662961065474962 : True := trivial
theorem PySem.W.Fast.tw2058588110243056069 : True := trivial
theorem PySem.W.Fast.tw16126848030679593801 : True := trivial
theorem PySem.W.Fast.tw10192782924048793150 : True := trivial
theorem PySem.W.Fast.tw13104068999742763899 : True := trivial
theorem PySem.W.Fast.tw10155845355383602779 : True := trivial
theorem PySem.W.Fast.tw2815451841830450103 : True := trivial
theorem PySem.W.Fast.tw5841380298200987897 : True := trivial
theorem PySem.W.Fast.tw7071261106191954045 : True := trivial
theorem PySem.W.Fast.tw669286101476437782 : True := trivial
theorem PySem.W.Fast.tw14357490952111284478 : True := trivial
theorem PySem.W.Fast.tw16116911720448129911 : True := trivial
theorem PySem.W.Fast.tw14658077103885331357 : True := trivial
theorem PySem.W.Fast.tw969607264628217602 : True := trivial
theorem PySem.W.Fast.tw3305031877923589187 : True := trivial
theorem PySem.W.Fast.tw8901732920889091613 : True := trivial
theorem PySem.W.Fast.tw4090713199216852393 : True := trivial
theorem PySem.W.Fast.tw16972568094716195038 : True := trivial
theorem PySem.W.Fast.tw2793411594705815230 : True := trivial
theorem PySem.W.Fast.tw15342713369736027783 : True := trivial
theorem PySem.W.Fast.tw3533447052203732168 : True := trivial
theorem PySem.W.Fast.tw7991509208526011545 : True := trivial
theorem PySem.W.Fast.tw14590619408524478100 : True := trivial
theorem PySem.W.Fast.tw11060566701627249049 : True := trivial
theorem PySem.W.Fast.tw15253085047010544444 : True := trivial
theorem PySem.W.Fast.tw14651497461884478174 : True := trivial
theorem PySem.W.Fast.tw8323792133292624645 : True := trivial
theorem PySem.W.Fast.tw9786544273291324886 : True := trivial
theorem PySem.W.Fast.tw431077861988246005 : True := trivial
theorem PySem.W.Fast.tw12106497093181102287 : True := trivial
theorem PySem.W.Fast.tw10863823536362109750 : True := trivial
theorem PySem.W.Fast.tw12525186758832173352 : True := trivial
theorem PySem.W.Fast.tw11093394025862522629 : True := trivial
theorem PySem.W.Fast.tw11880828009821285845 : True := trivial
theorem PySem.W.Fast.tw14819040290982624540 : True := trivial
theorem PySem.W.Fast.tw6484153963188394559 : True := trivial
theorem PySem.W.Fast.tw10817489031235218711 : True := trivial
theorem PySem.W.Fast.tw4919800148344638349 : True := trivial
theorem PySem.W.Fast.tw590187401359400828 : True := trivial
theorem PySem.W.Fast.tw17400532548854957838 : True := trivial
theorem PySem.W.Fast.tw2638545328963131705 : True := trivial
theorem PySem.W.Fast.tw18390551279391582575 : True := trivial
theorem PySem.W.Fast.tw14075190198817147866 : True := trivial
theorem PySem.W.Fast.tw11483988861119083525 : True := trivial
theorem PySem.W.Fast.tw17097603904460487596 : True := trivial
theorem PySem.W.Fast.tw13600218311710470107 : True := trivial
theorem PySem.W.Fast.tw2005057293396053928 : True := trivial
theorem PySem.W.Fast.tw2200357571922261142 : True := trivial
theorem PySem.W.Fast.tw9559815376150070627 : True := trivial
theorem PySem.W.Fast.tw7018231930977071887 : True := trivial
theorem PySem.W.Fast.tw12333495432413686923 : True := trivial
theorem PySem.W.Fast.tw9757346458284344332 : True := trivial
theorem PySem.W.Fast.tw366958582121048081 : True := trivial
theorem PySem.W.Fast.tw4970676791419021793 : True := trivial
theorem PySem.W.Fast.tw13732406914048455796 : True := trivial
theorem PySem.W.Fast.tw4792615362652068998 : True := trivial
theorem PySem.W.Fast.tw1462175388920172847 : True := trivial
theorem PySem.W.Fast.tw1623560710330683027 : True := trivial
theorem PySem.W.Fast.tw16795592114469247996 : True := trivial
theorem PySem.W.Fast.tw6811074590823495102 : True := trivial
theorem PySem.W.Fast.tw12473937511217355302 : True := trivial
theorem PySem.W.Fast.tw3365912779773056017 : True := trivial
theorem PySem.W.Fast.tw8855327512390461029 : True := trivial
theorem PySem.W.Fast.tw7337292832159361157 : True := trivial
theorem PySem.W.Fast.tw6879908105147210970 : True := trivial
theorem PySem.W.Fast.tw9737247866337732907 : True := trivial
theorem PySem.W.Fast.tw1358486199791471896 : True := trivial
theorem PySem.W.Fast.tw6251451797157189699 : True := trivial
theorem PySem.W.Fast.tw10214792038934732256 : True := trivial
theorem PySem.W.Fast.tw2136380454116335423 : True := trivial
theorem PySem.W.Fast.tw12889029224481368603 : True := trivial
theorem PySem.W.Fast.tw17688750434357698059 : True := trivial
theorem PySem.W.Fast.tw7773712477366747011 : True := trivial
theorem PySem.W.Fast.tw7512270630776265135 : True := trivial
theorem PySem.W.Fast.tw12740623253552397182 : True := trivial
theorem PySem.W.Fast.tw16267548386107786867 : True := trivial
theorem PySem.W.Fast.tw15554151532342429956 : True := trivial
theorem PySem.W.Fast.tw4716040241779989590 : True := trivial
theorem PySem.W.Fast.tw11407381003171049373 : True := trivial
theorem PySem.W.Fast.tw17274793717402447302 : True := trivial
theorem PySem.W.Fast.tw3665778762558335137 : True := trivial
theorem PySem.W.Fast.tw8547532585185753229 : True := trivial
theorem PySem.W.Fast.tw14863617117128682443 : True := trivial
theorem PySem.W.Fast.tw11741748135225198462 : True := trivial
theorem PySem.W.Fast.tw1232441646224031222 : True := trivial
theorem PySem.W.Fast.tw9518264938518080999 : True := trivial
theorem PySem.W.Fast.tw11554826686858149340 : True := trivial
theorem PySem.W.Fast.tw15038523753526386865 : True := trivial
theorem PySem.W.Fast.tw11354864292780961013 : True := trivial
theorem PySem.W.Fast.tw11588058741724825495 : True := trivial
theorem PySem.W.Fast.tw14962171160940017137 : True := trivial
theorem PySem.W.Fast.tw6747297835629009113 : True := trivial
theorem PySem.W.Fast.tw17731802636572297853 : True := trivial
theorem PySem.W.Fast.tw14418257338837867357 : True := trivial
theorem PySem.W.Fast.tw5158266381749196289 : True := trivial
theorem PySem.W.Fast.tw4682346185238042500 : True := trivial
theorem PySem.W.Fast.tw16420361901700145740 : True := trivial
theorem PySem.W.Fast.tw7845737531350604299 : True := trivial
theorem PySem.W.Fast.tw6840497439119434184 : True := trivial
theorem PySem.W.Fast.tw13761485939967246384 : True := trivial
theorem PySem.W.Fast.tw17020489040174366291 : True := trivial
theorem PySem.W.Fast.tw823300858866839058 : True := trivial
theorem PySem.W.Fast.tw11026233471049299002 : True := trivial
theorem PySem.W.Fast.tw3916994904733967783 : True := trivial
theorem PySem.W.Fast.tw16992383030563548656 : True := trivial
theorem PySem.W.Fast.tw123318808957617815 : True := trivial
theorem PySem.W.Fast.tw15088408997797795469 : True := trivial
theorem PySem.W.Fast.tw7983213795374273102 : True := trivial
theorem PySem.W.Fast.tw12865883036125080053 : True := trivial
theorem PySem.W.Fast.tw13709855804044598989 : True := trivial
theorem PySem.W.Fast.tw7103361899045735336 : True := trivial
theorem PySem.W.Fast.tw17297914059619318359 : True := trivial
theorem PySem.W.Fast.tw6662268909986256366 : True := trivial
theorem PySem.W.Fast.tw11065428142735709552 : True := trivial
theorem PySem.W.Fast.tw2592902055540989211 : True := trivial
theorem PySem.W.Fast.tw7276987039394493640 : True := trivial
theorem PySem.W.Fast.tw5846749281297825006 : True := trivial
theorem PySem.W.Fast.tw18169533496023036954 : True := trivial
theorem PySem.W.Fast.tw490273556380057666 : True := trivial
theorem PySem.W.Fast.tw17904398972507240134 : True := trivial
theorem PySem.W.Fast.tw936666722874176997 : True := trivial
theorem PySem.W.Fast.tw12546172367197464755 : True := trivial
theorem PySem.W.Fast.tw16413736357523143588 : True := trivial
theorem PySem.W.Fast.tw18033456918479375676 : True := trivial
theorem PySem.W.Fast.tw5273958917207813134 : True := trivial
theorem PySem.W.Fast.tw12954317231777488630 : True := trivial
theorem PySem.W.Fast.tw9344231070725796240 : True := trivial
theorem PySem.W.Fast.tw18432291711800399945 : True := trivial
theorem PySem.W.Fast.tw14981485371342066979 : True := trivial
theorem PySem.W.Fast.tw1328104319665740713 : True := trivial
theorem PySem.W.Fast.tw8665950250870286675 : True := trivial
theorem PySem.W.Fast.tw17363664278683975700 : True := trivial
theorem PySem.W.Fast.tw7013583490276678649 : True := trivial
theorem PySem.W.Fast.tw9383984829648327049 : True := trivial
theorem PySem.W.Fast.tw11026690252888943024 : True := trivial
theorem PySem.W.Fast.tw11958541340399097179 : True := trivial
theorem PySem.W.Fast.tw11188294973498058287 : True := trivial
theorem PySem.W.Fast.tw6931237992141827834 : True := trivial
theorem PySem.W.Fast.tw15865785055156812752 : True := trivial
theorem PySem.W.Fast.tw14127827760973776047 : True := trivial
theorem PySem.W.Fast.tw1929585654378192425 : True := trivial
theorem PySem.W.Fast.tw17201267200382086060 : True := trivial
theorem PySem.W.Fast.tw17683462827719814703 : True := trivial
theorem PySem.W.Fast.tw15120916177748731534 : True := trivial
theorem PySem.W.Fast.tw979495311185923 : True := trivial
theorem PySem.W.Fast.tw14934842827641202898 : True := trivial
theorem PySem.W.Fast.tw11400996423017615186 : True := trivial
theorem PySem.W.Fast.tw15687367294886441728 : True := trivial
theorem PySem.W.Fast.tw3566465618750570739 : True := trivial
theorem PySem.W.Fast.tw9209123383666464079 : True := trivial
theorem PySem.W.Fast.tw11732228446383849981 : True := trivial
theorem PySem.W.Fast.tw9535603753656876446 : True := trivial
theorem PySem.W.Fast.tw5789711171007853705 : True := trivial
theorem PySem.W.Fast.tw16034410248565953482 : True := trivial
theorem PySem.W.Fast.tw10497482890210677932 : True := trivial
theorem PySem.W.Fast.tw10296507032601350628 : True := trivial
theorem PySem.W.Fast.tw17267637959075742044 : True := trivial
theorem PySem.W.Fast.tw5765445069953828702 : True := trivial
theorem PySem.W.Fast.tw10700510584555763325 : True := trivial
theorem PySem.W.Fast.tw17528455796670740834 : True := trivial
theorem PySem.W.Fast.tw15092639401204102404 : True := trivial
theorem PySem.W.Fast.tw982557244904642719 : True := trivial
theorem PySem.W.Fast.tw5449607615342055809 : True := trivial
theorem PySem.W.Fast.tw5133078895514358900 : True := trivial
theorem PySem.W.Fast.tw10767552107314555727 : True := trivial
theorem PySem.W.Fast.tw18221437097142145705 : True := trivial
theorem PySem.W.Fast.tw9449280132161783192 : True := trivial
theorem PySem.W.Fast.tw9301959369439078199 : True := trivial
theorem PySem.W.Fast.tw1770875703483972540 : True := trivial
theorem PySem.W.Fast.tw10940121057673861309 : True := trivial
theorem PySem.W.Fast.tw827621691288271300 : True := trivial
theorem PySem.W.Fast.tw17436356777025105103 : True := trivial
theorem PySem.W.Fast.tw1299241546187457064 : True := trivial
theorem PySem.W.Fast.tw1489991770454072914 : True := trivial
theorem PySem.W.Fast.tw5692615767506824992 : True := trivial
theorem PySem.W.Fast.tw16924932139549187669 : True := trivial
theorem PySem.W.Fast.tw5711496193775292135 : True := trivial
theorem PySem.W.Fast.tw17486694913473189547 : True := trivial
theorem PySem.W.Fast.tw12305416470169999572 : True := trivial
theorem PySem.W.Fast.tw11445555310654429982 : True := trivial
theorem PySem.W.Fast.tw6785997554086031622 : True := trivial
theorem PySem.W.Fast.tw9318672610564491760 : True := trivial
theorem PySem.W.Fast.tw11641281556162082625 : True := trivial
theorem PySem.W.Fast.tw4633359109057987882 : True := trivial
theorem PySem.W.Fast.tw11565247560002699865 : True := trivial
theorem PySem.W.Fast.tw5135011940453547058 : True := trivial
theorem PySem.W.Fast.tw9110918067022008715 : True := trivial
theorem PySem.W.Fast.tw8388422868156966583 : True := trivial
theorem PySem.W.Fast.tw9754480750943709561 : True := trivial
theorem PySem.W.Fast.tw14666911948771157592 : True := trivial
theorem PySem.W.Fast.tw18436758836732798476 : True := trivial
theorem PySem.W.Fast.tw3992300944269208859 : True := trivial
theorem PySem.W.Fast.tw5659772149562573265 : True := trivial
theorem PySem.W.Fast.tw6895176585535501960 : True := trivial
theorem PySem.W.Fast.tw6360484286021056464 : True := trivial
theorem PySem.W.Fast.tw10873260840132882928 : True := trivial
theorem PySem.W.Fast.tw8114554373850253974 : True := trivial
theorem PySem.W.Fast.tw2522191676333177264 : True := trivial
theorem PySem.W.Fast.tw11306937658811841259 : True := trivial
theorem PySem.W.Fast.tw3901318580893112527 : True := trivial
theorem PySem.W.Fast.tw10240666205270552237 : True := trivial
theorem PySem.W.Fast.tw14820233937627899275 : True := trivial
theorem PySem.W.Fast.tw15878394819844059302 : True := trivial
theorem PySem.W.Fast.tw17169885818185994749 : True := trivial
theorem PySem.W.Fast.tw9939301081217691489 : True := trivial
theorem PySem.W.Fast.tw14171676482705281319 : True := trivial
theorem PySem.W.Fast.tw12159528540531978630 : True := trivial
theorem PySem.W.Fast.tw4218227427520552383 : True := trivial
theorem PySem.W.Fast.tw9860879949662109250 : True := trivial
theorem PySem.W.Fast.tw10963019235981803746 : True := trivial
theorem PySem.W.Fast.tw5392356934168843321 : True := trivial
theorem PySem.W.Fast.tw18205882398778728978 : True := trivial
theorem PySem.W.Fast.tw14216523320357991222 : True := trivial
theorem PySem.W.Fast.tw13665501254307551504 : True := trivial
theorem PySem.W.Fast.tw17142857200921910368 : True := trivial
theorem PySem.W.Fast.tw14417696001023753760 : True := trivial
theorem PySem.W.Fast.tw544493547426204630 : True := trivial
theorem PySem.W.Fast.tw7049624279346258408 : True := trivial
theorem PySem.W.Fast.tw6805617728374187818 : True := trivial
theorem PySem.W.Fast.tw13594353542134697691 : True := trivial
theorem PySem.W.Fast.tw12790318253948867493 : True := trivial
theorem PySem.W.Fast.tw2789983807123195436 : True := trivial
theorem PySem.W.Fast.tw14151961694891108199 : True := trivial
theorem PySem.W.Fast.tw6125707369940726794 : True := trivial
theorem PySem.W.Fast.tw7437675356759735259 : True := trivial
theorem PySem.W.Fast.tw7340159928320890459 : True := trivial
theorem PySem.W.Fast.tw1091735979386151455 : True := trivial
theorem PySem.W.Fast.tw15563861912517571506 : True := trivial
theorem PySem.W.Fast.tw8318130848241575301 : True := trivial
theorem PySem.W.Fast.tw11728327182827906267 : True := trivial
theorem PySem.W.Fast.tw6420239477858370509 : True := trivial
theorem PySem.W.Fast.tw3214271523695149155 : True := trivial
theorem PySem.W.Fast.tw13477851451367499603 : True := trivial
theorem PySem.W.Fast.tw11311633060505889015 : True := trivial
theorem PySem.W.Fast.tw5652613842918066939 : True := trivial
theorem PySem.W.Fast.tw3323225505874970696 : True := trivial
theorem PySem.W.Fast.tw8822222804237266461 : True := trivial
theorem PySem.W.Fast.tw12109334935493530031 : True := trivial
theorem PySem.W.Fast.tw5068692779356439353 : True := trivial
theorem PySem.W.Fast.tw11350596828449133556 : True := trivial
theorem PySem.W.Fast.tw291613094284964381 : True := trivial
theorem PySem.W.Fast.tw11483852578884080218 : True := trivial
theorem PySem.W.Fast.tw15293056141051420950 : True := trivial
theorem PySem.W.Fast.tw18265590633112118573 : True := trivial
theorem PySem.W.Fast.tw8142292182371646189 : True := trivial
theorem PySem.W.Fast.tw14782785139202551832 : True := trivial
theorem PySem.W.Fast.tw15506147961491836631 : True := trivial
theorem PySem.W.Fast.tw13828388535675293320 : True := trivial
theorem PySem.W.Fast.tw13855409695262929371 : True := trivial
theorem PySem.W.Fast.tw17584550968112877103 : True := trivial
theorem PySem.W.Fast.tw16550590907778195099 : True := trivial
theorem PySem.W.Fast.tw11877957520522051068 : True := trivial
theorem PySem.W.Fast.tw5983526908611579433 : True := trivial
theorem PySem.W.Fast.tw15616983352423918942 : True := trivial
theorem PySem.W.Fast.tw1834638089414019711 : True := trivial
theorem PySem.W.Fast.tw15951802016880862652 : True := trivial
theorem PySem.W.Fast.tw10652135238975473957 : True := trivial
theorem PySem.W.Fast.tw9772746520411640071 : True := trivial
theorem PySem.W.Fast.tw4268280342992793913 : True := trivial
theorem PySem.W.Fast.tw14213105708025482362 : True := trivial
theorem PySem.W.Fast.tw5394666904136693169 : True := trivial
theorem PySem.W.Fast.tw5831273304656074790 : True := trivial
theorem PySem.W.Fast.tw8335640329427300309 : True := trivial
theorem PySem.W.Fast.tw6750246361844236673 : True := trivial
theorem PySem.W.Fast.tw3943936659353814256 : True := trivial
theorem PySem.W.Fast.tw17815622171829386372 : True := trivial
theorem PySem.W.Fast.tw15779939943475663234 : True := trivial
theorem PySem.W.Fast.tw14691551378618399009 : True := trivial
theorem PySem.W.Fast.tw3918244558769500961 : True := trivial
theorem PySem.W.Fast.tw15616643092639626832 : True := trivial
theorem PySem.W.Fast.tw15109801028043352792 : True := trivial
theorem PySem.W.Fast.tw8509667974708932825 : True := trivial
theorem PySem.W.Fast.tw12275607790990482340 : True := trivial
theorem PySem.W.Fast.tw4033016580970607716 : True := trivial
theorem PySem.W.Fast.tw9726549022611360619 : True := trivial
theorem PySem.W.Fast.tw1055755568217366031 : True := trivial
theorem PySem.W.Fast.tw4729759715609841554 : True := trivial
theorem PySem.W.Fast.tw11942400203483895251 : True := trivial
theorem PySem.W.Fast.tw12264219783907671675 : True := trivial
theorem PySem.W.Fast.tw8289188092406872422 : True := trivial
theorem PySem.W.Fast.tw18401390300168799631 : True := trivial
theorem PySem.W.Fast.tw6341250086951705510 : True := trivial
theorem PySem.W.Fast.tw6204581733968070950 : True := trivial
theorem PySem.W.Fast.tw9842649263352072903 : True := trivial
theorem PySem.W.Fast.tw4873606422556468744 : True := trivial
theorem PySem.W.Fast.tw15314230207689846385 : True := trivial
theorem PySem.W.Fast.tw739460821147279676 : True := trivial
theorem PySem.W.Fast.tw8920273039915957542 : True := trivial
theorem PySem.W.Fast.tw290960489879336905 : True := trivial
theorem PySem.W.Fast.tw18039632625795331871 : True := trivial
theorem PySem.W.Fast.tw12419259068527506067 : True := trivial
theorem PySem.W.Fast.tw11044109439525281753 : True := trivial
theorem PySem.W.Fast.tw3884232583165012886 : True := trivial
theorem PySem.W.Fast.tw2539014080811991418 : True := trivial
theorem PySem.W.Fast.tw6903644542556088854 : True := trivial
theorem PySem.W.Fast.tw11710725234890072871 : True := trivial
theorem PySem.W.Fast.tw2590536862140888096 : True := trivial
theorem PySem.W.Fast.tw11365038384179334247 : True := trivial
theorem PySem.W.Fast.tw7906464210513960460 : True := trivial
theorem PySem.W.Fast.tw1206236760416262613 : True := trivial
theorem PySem.W.Fast.tw6700557765005579936 : True := trivial
theorem PySem.W.Fast.tw5010356721650395530 : True := trivial
theorem PySem.W.Fast.tw8192326395216170258 : True := trivial
theorem PySem.W.Fast.tw8076740223755923206 : True := trivial
theorem PySem.W.Fast.tw3309910456177347543 : True := trivial
theorem PySem.W.Fast.tw10640837454554794676 : True := trivial
theorem PySem.W.Fast.tw2139543835572486358 : True := trivial
theorem PySem.W.Fast.tw13928945927190543434 : True := trivial
theorem PySem.W.Fast.tw11086128851314430703 : True := trivial
theorem PySem.W.Fast.tw8016533798349296999 : True := trivial
theorem PySem.W.Fast.tw10311955472107942329 : True := trivial
theorem PySem.W.Fast.tw931842841090490905 : True := trivial
theorem PySem.W.Fast.tw16063651604191088679 : True := trivial
theorem PySem.W.Fast.tw8591021431316036156 : True := trivial
theorem PySem.W.Fast.tw3532595800936575450 : True := trivial
theorem PySem.W.Fast.tw17344337292874624298 : True := trivial
theorem PySem.W.Fast.tw3937964430111505029 : True := trivial
theorem PySem.W.Fast.tw2382168198052849154 : True := trivial
theorem PySem.W.Fast.tw465691506984707712 : True := trivial
theorem PySem.W.Fast.tw13371254399000148205 : True := trivial
theorem PySem.W.Fast.tw15539784025336987469 : True := trivial
theorem PySem.W.Fast.tw9313007288366202950 : True := trivial
theorem PySem.W.Fast.tw4990068591987790760 : True := trivial
theorem PySem.W.Fast.tw16210418233833906198 : True := trivial
theorem PySem.W.Fast.tw6942613021918346578 : True := trivial
theorem PySem.W.Fast.tw13598080244987044128 : True := trivial
theorem PySem.W.Fast.tw16113918956059074315 : True := trivial
theorem PySem.W.Fast.tw974949644815157475 : True := trivial
theorem PySem.W.Fast.tw6969505473884072211 : True := trivial
theorem PySem.W.Fast.tw15424906699176000762 : True := trivial
theorem PySem.W.Fast.tw6613316497550995431 : True := trivial
theorem PySem.W.Fast.tw4062402560546392627 : True := trivial
theorem PySem.W.Fast.tw3210797466903301258 : True := trivial
theorem PySem.W.Fast.tw14637855362007162939 : True := trivial
theorem PySem.W.Fast.tw4732725063718726328 : True := trivial
theorem PySem.W.Fast.tw16756511833334815085 : True := trivial
theorem PySem.W.Fast.tw1897127262136530208 : True := trivial
theorem PySem.W.Fast.tw4538070928655185761 : True := trivial
theorem PySem.W.Fast.tw12984595704610280936 : True := trivial
theorem PySem.W.Fast.tw102681223169731286 : True := trivial
theorem PySem.W.Fast.tw5622481111160218239 : True := trivial
theorem PySem.W.Fast.tw1899350426463357866 : True := trivial
theorem PySem.W.Fast.tw657084535218079752 : True := trivial
theorem PySem.W.Fast.tw17713018167520121731 : True := trivial
theorem PySem.W.Fast.tw10260093497549243562 : True := trivial
theorem PySem.W.Fast.tw13175412786479733717 : True := trivial
theorem PySem.W.Fast.tw1878252256750786729 : True := trivial
theorem PySem.W.Fast.tw7019042350109998611 : True := trivial
theorem PySem.W.Fast.tw1195323972919554786 : True := trivial
theorem PySem.W.Fast.tw17911452487334386505 : True := trivial
theorem PySem.W.Fast.tw7785547070469309832 : True := trivial
theorem PySem.W.Fast.tw13115143791773611626 : True := trivial
theorem PySem.W.Fast.tw10118174936409805329 : True := trivial
theorem PySem.W.Fast.tw11277727309898431871 : True := trivial
theorem PySem.W.Fast.tw11751008776062679726 : True := trivial
theorem PySem.W.Fast.tw13191699132336403373 : True := trivial
theorem PySem.W.Fast.tw9410414237307137104 : True := trivial
theorem PySem.W.Fast.tw15870077278763577401 : True := trivial
theorem PySem.W.Fast.tw11825542173655857612 : True := trivial
theorem PySem.W.Fast.tw11076259539358415848 : True := trivial
theorem PySem.W.Fast.tw6109417401813625214 : True := trivial
theorem PySem.W.Fast.tw3575574448493044595 : True := trivial
theorem PySem.W.Fast.tw8295202641428749167 : True := trivial
theorem PySem.W.Fast.tw5133090360688621713 : True := trivial
theorem PySem.W.Fast.tw13481869095850720427 : True := trivial
theorem PySem.W.Fast.tw11363190796656897985 : True := trivial
theorem PySem.W.Fast.tw16155220006219340516 : True := trivial
theorem PySem.W.Fast.tw15306270358242485530 : True := trivial
theorem PySem.W.Fast.tw8540691043049144592 : True := trivial
theorem PySem.W.Fast.tw8263831542838182436 : True := trivial
theorem PySem.W.Fast.tw9478482251450213177 : True := trivial
theorem PySem.W.Fast.tw657259804386655922 : True := trivial
theorem PySem.W.Fast.tw10211080078987599747 : True := trivial
theorem PySem.W.Fast.tw13436443122054242074 : True := trivial
theorem PySem.W.Fast.tw7582125432037852639 : True := trivial
theorem PySem.W.Fast.tw9701747176504288484 : True := trivial
theorem PySem.W.Fast.tw10701065923846296664 : True := trivial
theorem PySem.W.Fast.tw3048055754605204964 : True := trivial
theorem PySem.W.Fast.tw9394438269379886432 : True := trivial
theorem PySem.W.Fast.tw9154804335408963929 : True := trivial
theorem PySem.W.Fast.tw12234473483748449313 : True := trivial
theorem PySem.W.Fast.tw16785829897453068902 : True := trivial
theorem PySem.W.Fast.tw9944446568214173016 : True := trivial
theorem PySem.W.Fast.tw16020089353273242296 : True := trivial
theorem PySem.W.Fast.tw10790975803421551142 : True := trivial
theorem PySem.W.Fast.tw10111286235762228462 : True := trivial
theorem PySem.W.Fast.tw5947810966866538277 : True := trivial
theorem PySem.W.Fast.tw8487557895585888177 : True := trivial
theorem PySem.W.Fast.tw4961700770421223218 : True := trivial
theorem PySem.W.Fast.tw10116342880781160398 : True := trivial
theorem PySem.W.Fast.tw5184954116890748833 : True := trivial
theorem PySem.W.Fast.tw13928370285682256861 : True := trivial
theorem PySem.W.Fast.tw189130347334480132 : True := trivial
theorem PySem.W.Fast.tw16904050858514713849 : True := trivial
theorem PySem.W.Fast.tw7733500644025792445 : True := trivial
theorem PySem.W.Fast.tw9745111384534119860 : True := trivial
theorem PySem.W.Fast.tw14506421312946018809 : True := trivial
theorem PySem.W.Fast.tw17831314484789029555 : True := trivial
theorem PySem.W.Fast.tw3154459167671817016 : True := trivial
theorem PySem.W.Fast.tw12668127200155471862 : True := trivial
theorem PySem.W.Fast.tw17172562907393106391 : True := trivial
theorem PySem.W.Fast.tw12356239050977097447 : True := trivial
theorem PySem.W.Fast.tw14056968203442149764 : True := trivial
theorem PySem.W.Fast.tw2892848195165454354 : True := trivial
theorem PySem.W.Fast.tw16738717623419576856 : True := trivial
theorem PySem.W.Fast.tw12787243793029183918 : True := trivial
theorem PySem.W.Fast.tw16929743097352792114 : True := trivial
theorem PySem.W.Fast.tw5153325143126968047 : True := trivial
theorem PySem.W.Fast.tw8398665332567404220 : True := trivial
theorem PySem.W.Fast.tw17566529146496636196 : True := trivial
theorem PySem.W.Fast.tw8694692520251254571 : True := trivial
theorem PySem.W.Fast.tw4344923112542651833 : True := trivial
theorem PySem.W.Fast.tw14356781819463667682 : True := trivial
theorem PySem.W.Fast.tw1607507477902869879 : True := trivial
theorem PySem.W.Fast.tw6475591816454791505 : True := trivial
theorem PySem.W.Fast.tw16366905408066690834 : True := trivial
theorem PySem.W.Fast.tw7182805482902783679 : True := trivial
theorem PySem.W.Fast.tw2947103171479138646 : True := trivial
theorem PySem.W.Fast.tw6072473089934436061 : True := trivial
theorem PySem.W.Fast.tw1387024586661871671 : True := trivial
theorem PySem.W.Fast.tw13290929469500958838 : True := trivial
theorem PySem.W.Fast.tw10868346168272956003 : True := trivial
theorem PySem.W.Fast.tw14904399732122992675 : True := trivial
theorem PySem.W.Fast.tw11375788589969297948 : True := trivial
theorem PySem.W.Fast.tw5864522481316369802 : True := trivial
theorem PySem.W.Fast.tw13366308185687540402 : True := trivial
theorem PySem.W.Fast.tw2025445272057011633 : True := trivial
theorem PySem.W.Fast.tw16936406814036931644 : True := trivial
theorem PySem.W.Fast.tw17135435893512054997 : True := trivial
theorem PySem.W.Fast.tw1001802119765024131 : True := trivial
theorem PySem.W.Fast.tw17869196996316442552 : True := trivial
theorem PySem.W.Fast.tw11324700107542439996 : True := trivial
theorem PySem.W.Fast.tw11706912653231284711 : True := trivial
theorem PySem.W.Fast.tw13544974145648293719 : True := trivial
theorem PySem.W.Fast.tw14452293386817688220 : True := trivial
theorem PySem.W.Fast.tw13597482556429341085 : True := trivial
theorem PySem.W.Fast.tw8395649728001036174 : True := trivial
theorem PySem.W.Fast.tw12496400111947715436 : True := trivial
theorem PySem.W.Fast.tw7687345969864438355 : True := trivial
theorem PySem.W.Fast.tw497042689674876956 : True := trivial
theorem PySem.W.Fast.tw1591738336650634263 : True := trivial
theorem PySem.W.Fast.tw323487903472154258 : True := trivial
theorem PySem.W.Fast.tw16051790457438306374 : True := trivial
theorem PySem.W.Fast.tw15458183613814398982 : True := trivial
theorem PySem.W.Fast.tw2716454215017045310 : True := trivial
theorem PySem.W.Fast.tw10491970126235093085 : True := trivial
theorem PySem.W.Fast.tw13456497638856014384 : True := trivial
theorem PySem.W.Fast.tw11779179219508284012 : True := trivial
theorem PySem.W.Fast.tw6608732604103985010 : True := trivial
theorem PySem.W.Fast.tw5207372035368130974 : True := trivial
theorem PySem.W.Fast.tw7731972551678698271 : True := trivial
theorem PySem.W.Fast.tw4744490313413037679 : True := trivial
theorem PySem.W.Fast.tw13999713152115952409 : True := trivial
theorem PySem.W.Fast.tw14213653696742228962 : True := trivial
theorem PySem.W.Fast.tw3100531041240250510 : True := trivial
theorem PySem.W.Fast.tw13086313334516455133 : True := trivial
theorem PySem.W.Fast.tw4473975364149934795 : True := trivial
theorem PySem.W.Fast.tw7966005639178137128 : True := trivial
theorem PySem.W.Fast.tw5171461677204725833 : True := trivial
theorem PySem.W.Fast.tw4183155123376094565 : True := trivial
theorem PySem.W.Fast.tw13451586772672197072 : True := trivial
theorem PySem.W.Fast.tw2447240846840727401 : True := trivial
theorem PySem.W.Fast.tw306613511582286193 : True := trivial
theorem PySem.W.Fast.tw14378314597375579559 : True := trivial
set_option maxRecDepth 100000 in
set_option maxHeartbeats 0 in
theorem PySem.Challenge.cw_asofhall_k15_whole_seen_from_holds : PySem.Challenge.rw_asofhall_k15_whole_seen_from.Holds := by
  w_on; o_law; k_head; (case hw => w_witness2)
  k_fill
  refine Ash.walk (l := PySem.Challenge.rw_asofhall_k15_whole_seen_from) rfl rfl (fun w h Y => PySem.W.kIn_of Y) ?F
  case F =>
    intro w mg fa h KX G hmg
    refine' Ash.all_mk KX G hmg ?law0 ?law1 ?law2 ?law3
      ⟨(PySem.W.mg_of KX G ?h_M_0), (Ash.exc_mk ?h_M_1_0 ?h_M_1_1 ?h_M_1_2 ?h_M_1_3 ?h_M_1_4 ?h_M_1_5 ?h_M_1_6 ?h_M_1_7), ?h_M_2, ?h_M_3, ?h_M_4, (Ash.exm_me ?h_M_5_0 ?h_M_5_1 ?h_M_5_2 ?h_M_5_3)⟩
      { len := (PySem.W.mg_none_of KX G ?h_B_len), int := (PySem.W.mg_none_of KX G ?h_B_int), bool := (PySem.W.mg_none_of KX G ?h_B_bool), str := (PySem.W.mg_none_of KX G ?h_B_str), list := (PySem.W.mg_none_of KX G ?h_B_list), tuple := (PySem.W.mg_none_of KX G ?h_B_tuple), dict := (PySem.W.mg_none_of KX G ?h_B_dict), isinstance := (PySem.W.mg_none_of KX G ?h_B_isinstance), all := (PySem.W.mg_none_of KX G ?h_B_all), range := (PySem.W.mg_none_of KX G ?h_B_range), enumerate := (PySem.W.mg_none_of KX G ?h_B_enumerate), sorted := (PySem.W.mg_none_of KX G ?h_B_sorted), min := (PySem.W.mg_none_of KX G ?h_B_min), max := (PySem.W.mg_none_of KX G ?h_B_max), set := (PySem.W.mg_none_of KX G ?h_B_set), sum := (PySem.W.mg_none_of KX G ?h_B_sum), abs := (PySem.W.mg_none_of KX G ?h_B_abs) }
      ⟨(Ash.ex_str KX G ?h_Cs_0), (Ash.ex_int KX G ?h_Cs_1), (Ash.ex_int KX G ?h_Cs_2), (Ash.ex_int KX G ?h_Cs_3), (Ash.ex_int KX G ?h_Cs_4), (Ash.ex_int KX G ?h_Cs_5), (Ash.ex_int KX G ?h_Cs_6), (Ash.ex_int KX G ?h_Cs_7)⟩
      ⟨⟨?h_TW_0_0, ?h_TW_0_1, ?h_TW_0_2, ?h_TW_0_3⟩, ?h_TW_1, ?h_TW_2, (PySem.W.mg_of KX G ?h_TW_3)⟩
      ⟨?h_wi_0, ?h_wi_1, ?h_wi_2, ?h_wi_3⟩
      ?h_mkW
      ?h_kW
      (PySem.W.mg_of KX G ?h_nm0)
      ⟨?h_cl0_0, ?h_cl0_1, ?h_cl0_2, ?h_cl0_3⟩
      ⟨?h_b0_0, ?h_b0_1, ?h_b0_2, ?h_b0_3⟩
      ?h_ic0
      ?h_ti0
      ?h_sf0
      ?h_at0
      ?h_rt0
      ?h_si0
      ?h_or0
      ?h_ro0
      ?h_la0
      ?h_ea0
      ?h_n0_0
      ?h_n0_1
      ?h_n0_2
      ?h_n0_3
      ?h_n0_4
      ?h_n0_5
      ?h_n0_6
      ?h_n0_7
      ?h_n0_8
      ?h_n0_9
      ?h_s0_0
      ?h_s0_1
      ?h_s0_2
      ?h_s0_3
      ?h_s0_4
      ?h_s0_5
      ?h_s0_6
      (PySem.W.mg_of KX G ?h_nm1)
      ⟨?h_cl1_0, ?h_cl1_1, ?h_cl1_2, ?h_cl1_3⟩
      ⟨?h_b1_0, ?h_b1_1, ?h_b1_2, ?h_b1_3⟩
      ?h_ic1
      ?h_ti1
      ?h_sf1
      ?h_at1
      ?h_rt1
      ?h_si1
      ?h_or1
      ?h_ro1
      ?h_la1
      ?h_ea1
      ?h_n1_0
      ?h_n1_1
      ?h_n1_2
      ?h_n1_3
      ?h_n1_4
      ?h_n1_5
      ?h_n1_6
      ?h_n1_7
      ?h_n1_8
      ?h_n1_9
      ?h_s1_0
      ?h_s1_1
      ?h_s1_2
      ?h_s1_3
      ?h_s1_4
      ?h_s1_5
      ?h_s1_6
      (PySem.W.mg_of KX G ?h_nm2)
      ⟨?h_cl2_0, ?h_cl2_1, ?h_cl2_2, ?h_cl2_3⟩
      ⟨?h_b2_0, ?h_b2_1, ?h_b2_2, ?h_b2_3⟩
      ?h_ic2
      ?h_ti2
      ?h_sf2
      ?h_at2
      ?h_rt2
      ?h_si2
      ?h_or2
      ?h_ro2
      ?h_la2
      ?h_ea2
      ?h_n2_0
      ?h_n2_1
      ?h_n2_2
      ?h_n2_3
      ?h_n2_4
      ?h_n2_5
      ?h_n2_6
      ?h_n2_7
      ?h_n2_8
      ?h_n2_9
      ?h_s2_0
      ?h_s2_1
      ?h_s2_2
      ?h_s2_3
      ?h_s2_4
      ?h_s2_5
      ?h_s2_6
      (PySem.W.mg_of KX G ?h_nm3)
      ⟨?h_cl3_0, ?h_cl3_1, ?h_cl3_2, ?h_cl3_3⟩
      ⟨?h_b3_0, ?h_b3_1, ?h_b3_2, ?h_b3_3⟩
      ?h_ic3
      ?h_ti3
      ?h_sf3
      ?h_at3
      ?h_rt3
      ?h_si3
      ?h_or3
      ?h_ro3
      ?h_la3
      ?h_ea3
      ?h_n3_0
      ?h_n3_1
      ?h_n3_2
      ?h_n3_3
      ?h_n3_4
      ?h_n3_5
      ?h_n3_6
      ?h_n3_7
      ?h_n3_8
      ?h_n3_9
      ?h_s3_0
      ?h_s3_1
      ?h_s3_2
      ?h_s3_3
      ?h_s3_4
      ?h_s3_5
      ?h_s3_6
      (PySem.W.mg_of KX G ?h_nm4)
      ⟨?h_cl4_0, ?h_cl4_1, ?h_cl4_2, ?h_cl4_3⟩
      ⟨?h_b4_0, ?h_b4_1, ?h_b4_2, ?h_b4_3⟩
      ?h_ic4
      ?h_ti4
      ?h_sf4
      ?h_at4
      ?h_rt4
      ?h_si4
      ?h_or4
      ?h_ro4
      ?h_la4
      ?h_ea4
      ?h_n4_0
      ?h_n4_1
      ?h_n4_2
      ?h_n4_3
      ?h_n4_4
      ?h_n4_5
      ?h_n4_6
      ?h_n4_7
      ?h_n4_8
      ?h_n4_9
      ?h_s4_0
      ?h_s4_1
      ?h_s4_2
      ?h_s4_3
      ?h_s4_4
      ?h_s4_5
      ?h_s4_6
      (PySem.W.mg_of KX G ?h_nm5)
      ⟨?h_cl5_0, ?h_cl5_1, ?h_cl5_2, ?h_cl5_3⟩
      ⟨?h_b5_0, ?h_b5_1, ?h_b5_2, ?h_b5_3⟩
      ?h_ic5
      ?h_ti5
      ?h_sf5
      ?h_at5
      ?h_rt5
      ?h_si5
      ?h_or5
      ?h_ro5
      ?h_la5
      ?h_ea5
      ?h_n5_0
      ?h_n5_1
      ?h_n5_2
      ?h_n5_3
      ?h_n5_4
      ?h_n5_5
      ?h_n5_6
      ?h_n5_7
      ?h_n5_8
      ?h_n5_9
      ?h_s5_0
      ?h_s5_1
      ?h_s5_2
      ?h_s5_3
      ?h_s5_4
      ?h_s5_5
      ?h_s5_6
      (PySem.W.mg_of KX G ?h_nm6)
      ⟨?h_cl6_0, ?h_cl6_1, ?h_cl6_2, ?h_cl6_3⟩
      ⟨?h_b6_0, ?h_b6_1, ?h_b6_2, ?h_b6_3⟩
      ?h_ic6
      ?h_ti6
      ?h_sf6
      ?h_at6
      ?h_rt6
      ?h_si6
      ?h_or6
      ?h_ro6
      ?h_la6
      ?h_ea6
      ?h_n6_0
      ?h_n6_1
      ?h_n6_2
      ?h_n6_3
      ?h_n6_4
      ?h_n6_5
      ?h_n6_6
      ?h_n6_7
      ?h_n6_8
      ?h_n6_9
      ?h_s6_0
      ?h_s6_1
      ?h_s6_2
      ?h_s6_3
      ?h_s6_4
      ?h_s6_5
      ?h_s6_6
      ?h_su0
      ?h_rs0
      ?h_nq0
      ?h_eq0
      ?h_ob0
      ?h_su1
      ?h_rs1
      ?h_nq1
      ?h_eq1
      ?h_ob1
      ?h_su2
      ?h_rs2
      ?h_nq2
      ?h_eq2
      ?h_ob2
      ?h_su3
      ?h_rs3
      ?h_nq3
      ?h_eq3
      ?h_ob3
      ?h_su4
      ?h_rs4
      ?h_nq4
      ?h_eq4
      ?h_ob4
      ?h_su5
      ?h_rs5
      ?h_nq5
      ?h_eq5
      ?h_ob5
      ?h_su6
      ?h_rs6
      ?h_nq6
      ?h_eq6
      ?h_ob6
      ?h_anq0
      ?h_aeq0
      ?h_aob0
      ?h_ta0_0
      ?h_ta0_1
      ?h_ta0_2
      ?h_ta0_3
      ?h_ta0_4
      ?h_ta0_5
      ?h_ta0_6
      ?h_anq1
      ?h_aeq1
      ?h_aob1
      ?h_ta1_0
      ?h_ta1_1
      ?h_ta1_2
      ?h_ta1_3
      ?h_ta1_4
      ?h_ta1_5
      ?h_ta1_6
      ?h_anq2
      ?h_aeq2
      ?h_aob2
      ?h_ta2_0
      ?h_ta2_1
      ?h_ta2_2
      ?h_ta2_3
      ?h_ta2_4
      ?h_ta2_5
      ?h_ta2_6
      ?h_anq3
      ?h_aeq3
      ?h_aob3
      ?h_ta3_0
      ?h_ta3_1
      ?h_ta3_2
      ?h_ta3_3
      ?h_ta3_4
      ?h_ta3_5
      ?h_ta3_6
      ?h_i3
      ?h_i4
      ?h_mk0
      ?h_kp0
      ?h_mk1
      ?h_kp1
      ?h_mk2
      ?h_kp2
      ?h_mk3
      ?h_kp3
      ?h_mk4
      ?h_kp4
      ?h_mk5
      ?h_kp5
      ?h_mk6
      ?h_kp6
      ?h_i1
      ?h_i2
      (PySem.W.mg_of KX G ?h_anm0)
      ⟨?h_acl0_0, ?h_acl0_1, ?h_acl0_2, ?h_acl0_3⟩
      ⟨?h_ab0_0, ?h_ab0_1, ?h_ab0_2, ?h_ab0_3⟩
      ?h_aic0
      ?h_ati0
      ?h_an0_0
      ?h_an0_1
      ?h_an0_2
      ?h_an0_3
      ?h_an0_4
      ?h_as0_0
      ?h_as0_1
      ?h_as0_2
      ?h_as0_3
      ?h_at0_0
      ?h_at0_1
      ?h_at0_2
      ?h_at0_3
      ?h_at0_4
      ?h_at0_5
      ?h_at0_6
      ?h_amk0
      ?h_akp0
      (PySem.W.mg_of KX G ?h_anm1)
      ⟨?h_acl1_0, ?h_acl1_1, ?h_acl1_2, ?h_acl1_3⟩
      ⟨?h_ab1_0, ?h_ab1_1, ?h_ab1_2, ?h_ab1_3⟩
      ?h_aic1
      ?h_ati1
      ?h_an1_0
      ?h_an1_1
      ?h_an1_2
      ?h_an1_3
      ?h_an1_4
      ?h_as1_0
      ?h_as1_1
      ?h_as1_2
      ?h_as1_3
      ?h_at1_0
      ?h_at1_1
      ?h_at1_2
      ?h_at1_3
      ?h_at1_4
      ?h_at1_5
      ?h_at1_6
      ?h_amk1
      ?h_akp1
      (PySem.W.mg_of KX G ?h_anm2)
      ⟨?h_acl2_0, ?h_acl2_1, ?h_acl2_2, ?h_acl2_3⟩
      ⟨?h_ab2_0, ?h_ab2_1, ?h_ab2_2, ?h_ab2_3⟩
      ?h_aic2
      ?h_ati2
      ?h_an2_0
      ?h_an2_1
      ?h_an2_2
      ?h_an2_3
      ?h_an2_4
      ?h_as2_0
      ?h_as2_1
      ?h_as2_2
      ?h_as2_3
      ?h_at2_0
      ?h_at2_1
      ?h_at2_2
      ?h_at2_3
      ?h_at2_4
      ?h_at2_5
      ?h_at2_6
      ?h_amk2
      ?h_akp2
      (PySem.W.mg_of KX G ?h_anm3)
      ⟨?h_acl3_0, ?h_acl3_1, ?h_acl3_2, ?h_acl3_3⟩
      ⟨?h_ab3_0, ?h_ab3_1, ?h_ab3_2, ?h_ab3_3⟩
      ?h_aic3
      ?h_ati3
      ?h_an3_0
      ?h_an3_1
      ?h_an3_2
      ?h_an3_3
      ?h_an3_4
      ?h_as3_0
      ?h_as3_1
      ?h_as3_2
      ?h_as3_3
      ?h_at3_0
      ?h_at3_1
      ?h_at3_2
      ?h_at3_3
      ?h_at3_4
      ?h_at3_5
      ?h_at3_6
      ?h_amk3
      ?h_akp3
      (Ash.d1 KX G ?h_d_is_integer_0 ?h_d_is_integer_1 ?h_d_is_integer_2 ?h_d_is_integer_3)
      (Ash.d1 KX G ?h_d_is_natural_0 ?h_d_is_natural_1 ?h_d_is_natural_2 ?h_d_is_natural_3)
      (Ash.d1 KX G ?h_d_is_name_0 ?h_d_is_name_1 ?h_d_is_name_2 ?h_d_is_name_3)
      (Ash.d1 KX G ?h_d_are_integers_0 ?h_d_are_integers_1 ?h_d_are_integers_2 ?h_d_are_integers_3)
      (Ash.d1 KX G ?h_d_is_row_0 ?h_d_is_row_1 ?h_d_is_row_2 ?h_d_is_row_3)
      (Ash.d1 KX G ?h_d_are_rows_0 ?h_d_are_rows_1 ?h_d_are_rows_2 ?h_d_are_rows_3)
      (Ash.d1 KX G ?h_d_first_twice_0 ?h_d_first_twice_1 ?h_d_first_twice_2 ?h_d_first_twice_3)
      (Ash.d1 KX G ?h_d_is_rows_0 ?h_d_is_rows_1 ?h_d_is_rows_2 ?h_d_is_rows_3)
      (Ash.d1 KX G ?h_d_is_term_0 ?h_d_is_term_1 ?h_d_is_term_2 ?h_d_is_term_3)
      (Ash.d1 KX G ?h_d_is_look_0 ?h_d_is_look_1 ?h_d_is_look_2 ?h_d_is_look_3)
      (Ash.d1 KX G ?h_d_checked_stream_0 ?h_d_checked_stream_1 ?h_d_checked_stream_2 ?h_d_checked_stream_3)
      (Ash.d1 KX G ?h_d_checked_term_0 ?h_d_checked_term_1 ?h_d_checked_term_2 ?h_d_checked_term_3)
      (Ash.d1 KX G ?h_d_sizes_0 ?h_d_sizes_1 ?h_d_sizes_2 ?h_d_sizes_3)
      (Ash.d1 KX G ?h_d_shifted_0 ?h_d_shifted_1 ?h_d_shifted_2 ?h_d_shifted_3)
      (Ash.d1 KX G ?h_d_last_row_0 ?h_d_last_row_1 ?h_d_last_row_2 ?h_d_last_row_3)
      (Ash.d1 KX G ?h_d_next_row_0 ?h_d_next_row_1 ?h_d_next_row_2 ?h_d_next_row_3)
      (Ash.d1 KX G ?h_d_moved_0 ?h_d_moved_1 ?h_d_moved_2 ?h_d_moved_3)
      (Ash.d1 KX G ?h_d_looked_0 ?h_d_looked_1 ?h_d_looked_2 ?h_d_looked_3)
      (Ash.d1 KX G ?h_d_followed_either_0 ?h_d_followed_either_1 ?h_d_followed_either_2 ?h_d_followed_either_3)
      (Ash.d1 KX G ?h_d_followed_both_0 ?h_d_followed_both_1 ?h_d_followed_both_2 ?h_d_followed_both_3)
      (Ash.d1 KX G ?h_d_followed_0 ?h_d_followed_1 ?h_d_followed_2 ?h_d_followed_3)
      (Ash.d1 KX G ?h_d_is_amount_0 ?h_d_is_amount_1 ?h_d_is_amount_2 ?h_d_is_amount_3)
      (Ash.d1 KX G ?h_d_told_between_0 ?h_d_told_between_1 ?h_d_told_between_2 ?h_d_told_between_3)
      (Ash.d1 KX G ?h_d_is_question_0 ?h_d_is_question_1 ?h_d_is_question_2 ?h_d_is_question_3)
      (Ash.d1 KX G ?h_d_check_0 ?h_d_check_1 ?h_d_check_2 ?h_d_check_3)
      (Ash.d1 KX G ?h_d_answered_0 ?h_d_answered_1 ?h_d_answered_2 ?h_d_answered_3)
      (Ash.d1 KX G ?h_d_value_0 ?h_d_value_1 ?h_d_value_2 ?h_d_value_3)
      (Ash.d1 KX G ?h_d__law_pool_0 ?h_d__law_pool_1 ?h_d__law_pool_2 ?h_d__law_pool_3)
      (Ash.d1 KX G ?h_d__law_draw_0 ?h_d__law_draw_1 ?h_d__law_draw_2 ?h_d__law_draw_3)
      (Ash.d1 KX G ?h_d__law_names_0 ?h_d__law_names_1 ?h_d__law_names_2 ?h_d__law_names_3)
      (Ash.d1 KX G ?h_d__law_moment_0 ?h_d__law_moment_1 ?h_d__law_moment_2 ?h_d__law_moment_3)
      (Ash.d1 KX G ?h_d__law_rows_0 ?h_d__law_rows_1 ?h_d__law_rows_2 ?h_d__law_rows_3)
      (Ash.d1 KX G ?h_d__law_term_0 ?h_d__law_term_1 ?h_d__law_term_2 ?h_d__law_term_3)
      (Ash.d1 KX G ?h_d__law_built_0 ?h_d__law_built_1 ?h_d__law_built_2 ?h_d__law_built_3)
      (Ash.d1 KX G ?h_d_support_0 ?h_d_support_1 ?h_d_support_2 ?h_d_support_3)
      (Ash.d1 KX G ?h_d__law_question_0 ?h_d__law_question_1 ?h_d__law_question_2 ?h_d__law_question_3)
      (Ash.d1 KX G ?h_d__law_asked_0 ?h_d__law_asked_1 ?h_d__law_asked_2 ?h_d__law_asked_3)
      (Ash.d1 KX G ?h_d__law_same_0 ?h_d__law_same_1 ?h_d__law_same_2 ?h_d__law_same_3)
      (Ash.d1 KX G ?h_d_term_from_0 ?h_d_term_from_1 ?h_d_term_from_2 ?h_d_term_from_3)
      (Ash.d1 KX G ?h_d_amount_from_0 ?h_d_amount_from_1 ?h_d_amount_from_2 ?h_d_amount_from_3)
      (Ash.d1 KX G ?h_d_seen_from_0 ?h_d_seen_from_1 ?h_d_seen_from_2 ?h_d_seen_from_3)
      (Ash.d1 KX G ?h_d__law_deep_0 ?h_d__law_deep_1 ?h_d__law_deep_2 ?h_d__law_deep_3)
      (Ash.d1 KX G ?h_d__law_size_0 ?h_d__law_size_1 ?h_d__law_size_2 ?h_d__law_size_3)
      (Ash.dm ?h_m_WI_0 ?h_m_WI_1 ?h_m_WI_2 ?h_m_WI_3 ?h_m_WI_4)
      (Ash.dm ?h_m_WR_0 ?h_m_WR_1 ?h_m_WR_2 ?h_m_WR_3 ?h_m_WR_4)
      (Ash.dm ?h_m_NI_0 ?h_m_NI_1 ?h_m_NI_2 ?h_m_NI_3 ?h_m_NI_4)
      (Ash.dm ?h_m_LI_0 ?h_m_LI_1 ?h_m_LI_2 ?h_m_LI_3 ?h_m_LI_4)
      (Ash.dm ?h_m_XI_0 ?h_m_XI_1 ?h_m_XI_2 ?h_m_XI_3 ?h_m_XI_4)
      (Ash.dm ?h_m_SI_0 ?h_m_SI_1 ?h_m_SI_2 ?h_m_SI_3 ?h_m_SI_4)
      (Ash.dm ?h_m_EI_0 ?h_m_EI_1 ?h_m_EI_2 ?h_m_EI_3 ?h_m_EI_4)
      (Ash.dm ?h_m_JI_0 ?h_m_JI_1 ?h_m_JI_2 ?h_m_JI_3 ?h_m_JI_4)
      (Ash.dm ?h_m_KI_0 ?h_m_KI_1 ?h_m_KI_2 ?h_m_KI_3 ?h_m_KI_4)
      (Ash.dm ?h_m_nuI_0 ?h_m_nuI_1 ?h_m_nuI_2 ?h_m_nuI_3 ?h_m_nuI_4)
      (Ash.dm ?h_m_coI_0 ?h_m_coI_1 ?h_m_coI_2 ?h_m_coI_3 ?h_m_coI_4)
      (Ash.dm ?h_m_toI_0 ?h_m_toI_1 ?h_m_toI_2 ?h_m_toI_3 ?h_m_toI_4)
      (Ash.dm ?h_m_gaI_0 ?h_m_gaI_1 ?h_m_gaI_2 ?h_m_gaI_3 ?h_m_gaI_4)
      (Ash.dq ?h_m_add_0 ?h_m_add_1 ?h_m_add_2 ?h_m_add_3 ?h_m_add_4)
      (Ash.dq ?h_m_ior_0 ?h_m_ior_1 ?h_m_ior_2 ?h_m_ior_3 ?h_m_ior_4)
      (Ash.dq ?h_m_lat_0 ?h_m_lat_1 ?h_m_lat_2 ?h_m_lat_3 ?h_m_lat_4)
      (Ash.dq ?h_m_ear_0 ?h_m_ear_1 ?h_m_ear_2 ?h_m_ear_3 ?h_m_ear_4)
      (Ash.dq ?h_m_sub_0 ?h_m_sub_1 ?h_m_sub_2 ?h_m_sub_3 ?h_m_sub_4)
      (Ash.dq ?h_m_teq_0 ?h_m_teq_1 ?h_m_teq_2 ?h_m_teq_3 ?h_m_teq_4)
      (Ash.dq ?h_m_aeq_0 ?h_m_aeq_1 ?h_m_aeq_2 ?h_m_aeq_3 ?h_m_aeq_4)
    (case h_M_0 => k_is)
    (case h_Cs_0 => k_is)
    (case h_Cs_1 => k_is)
    (case h_Cs_2 => k_is)
    (case h_Cs_3 => k_is)
    (case h_Cs_4 => k_is)
    (case h_Cs_5 => k_is)
    (case h_Cs_6 => k_is)
    (case h_Cs_7 => k_is)
    (case h_TW_3 => k_is)
    (case h_nm0 => k_is)
    (case h_nm1 => k_is)
    (case h_nm2 => k_is)
    (case h_nm3 => k_is)
    (case h_nm4 => k_is)
    (case h_nm5 => k_is)
    (case h_nm6 => k_is)
    (case h_anm0 => k_is)
    (case h_anm1 => k_is)
    (case h_anm2 => k_is)
    (case h_anm3 => k_is)
    (case law0 => k_is)
    (case law1 => k_is)
    (case law2 => k_is)
    (case law3 => k_is)
    (case h_M_1_0 => k_is)
    (case h_M_1_1 => k_is)
    (case h_M_1_3 => k_is)
    (case h_M_1_4 => k_is)
    (case h_M_1_5 => k_is)
    (case h_M_1_7 => k_is)
    (case h_M_2 => k_is)
    (case h_M_3 => k_is)
    (case h_M_4 => k_is)
    (case h_M_5_0 => k_is)
    (case h_M_5_1 => k_is)
    (case h_M_5_2 => k_is)
    (case h_M_5_3 => k_is)
    (case h_B_len => k_is)
    (case h_B_int => k_is)
    (case h_B_bool => k_is)
    (case h_B_str => k_is)
    (case h_B_list => k_is)
    (case h_B_tuple => k_is)
    (case h_B_dict => k_is)
    (case h_B_isinstance => k_is)
    (case h_B_all => k_is)
    (case h_B_range => k_is)
    (case h_B_enumerate => k_is)
    (case h_B_sorted => k_is)
    (case h_B_min => k_is)
    (case h_B_max => k_is)
    (case h_B_set => k_is)
    (case h_B_sum => k_is)
    (case h_B_abs => k_is)
    (case h_TW_0_0 => k_is)
    (case h_TW_0_1 => k_is)
    (case h_TW_0_2 => k_is)
    (case h_TW_0_3 => k_is)
    (case h_TW_1 => delta L2.NoAttr; k_is)
    (case h_TW_2 => delta L2.NoAttr; k_is)
    (case h_wi_0 => k_is)
    (case h_wi_1 => k_is)
    (case h_wi_2 => k_is)
    (case h_wi_3 => k_is)
    (case h_mkW => k_is)
    (case h_kW => k_is)
    (case h_cl0_0 => k_is)
    (case h_cl0_1 => k_is)
    (case h_cl0_2 => k_is)
    (case h_cl0_3 => k_is)
    (case h_b0_0 => k_is)
    (case h_b0_1 => k_is)
    (case h_b0_2 => k_is)
    (case h_b0_3 => k_is)
    (case h_ic0 => k_is)
    (case h_ti0 => k_is)
    (case h_sf0 => k_is)
    (case h_at0 => k_is)
    (case h_rt0 => k_is)
    (case h_si0 => k_is)
    (case h_or0 => k_is)
    (case h_ro0 => k_is)
    (case h_la0 => k_is)
    (case h_ea0 => k_is)
    (case h_n0_0 => delta L2.NoAttr; k_is)
    (case h_n0_1 => delta L2.NoAttr; k_is)
    (case h_n0_2 => delta L2.NoAttr; k_is)
    (case h_n0_3 => delta L2.NoAttr; k_is)
    (case h_n0_4 => delta L2.NoAttr; k_is)
    (case h_n0_5 => delta L2.NoAttr; k_is)
    (case h_n0_6 => delta L2.NoAttr; k_is)
    (case h_n0_7 => delta L2.NoAttr; k_is)
    (case h_n0_8 => delta L2.NoAttr; k_is)
    (case h_n0_9 => delta L2.NoAttr; k_is)
    (case h_s0_0 => k_is)
    (case h_s0_1 => k_is)
    (case h_s0_2 => k_is)
    (case h_s0_3 => k_is)
    (case h_s0_4 => k_is)
    (case h_s0_5 => k_is)
    (case h_s0_6 => k_is)
    (case h_cl1_0 => k_is)
    (case h_cl1_1 => k_is)
    (case h_cl1_2 => k_is)
    (case h_cl1_3 => k_is)
    (case h_b1_0 => k_is)
    (case h_b1_1 => k_is)
    (case h_b1_2 => k_is)
    (case h_b1_3 => k_is)
    (case h_ic1 => k_is)
    (case h_ti1 => k_is)
    (case h_sf1 => k_is)
    (case h_at1 => k_is)
    (case h_rt1 => k_is)
    (case h_si1 => k_is)
    (case h_or1 => k_is)
    (case h_ro1 => k_is)
    (case h_la1 => k_is)
    (case h_ea1 => k_is)
    (case h_n1_0 => delta L2.NoAttr; k_is)
    (case h_n1_1 => delta L2.NoAttr; k_is)
    (case h_n1_2 => delta L2.NoAttr; k_is)
    (case h_n1_3 => delta L2.NoAttr; k_is)
    (case h_n1_4 => delta L2.NoAttr; k_is)
    (case h_n1_5 => delta L2.NoAttr; k_is)
    (case h_n1_6 => delta L2.NoAttr; k_is)
    (case h_n1_7 => delta L2.NoAttr; k_is)
    (case h_n1_8 => delta L2.NoAttr; k_is)
    (case h_n1_9 => delta L2.NoAttr; k_is)
    (case h_s1_0 => k_is)
    (case h_s1_1 => k_is)
    (case h_s1_2 => k_is)
    (case h_s1_3 => k_is)
    (case h_s1_4 => k_is)
    (case h_s1_5 => k_is)
    (case h_s1_6 => k_is)
    (case h_cl2_0 => k_is)
    (case h_cl2_1 => k_is)
    (case h_cl2_2 => k_is)
    (case h_cl2_3 => k_is)
    (case h_b2_0 => k_is)
    (case h_b2_1 => k_is)
    (case h_b2_2 => k_is)
    (case h_b2_3 => k_is)
    (case h_ic2 => k_is)
    (case h_ti2 => k_is)
    (case h_sf2 => k_is)
    (case h_at2 => k_is)
    (case h_rt2 => k_is)
    (case h_si2 => k_is)
    (case h_or2 => k_is)
    (case h_ro2 => k_is)
    (case h_la2 => k_is)
    (case h_ea2 => k_is)
    (case h_n2_0 => delta L2.NoAttr; k_is)
    (case h_n2_1 => delta L2.NoAttr; k_is)
    (case h_n2_2 => delta L2.NoAttr; k_is)
    (case h_n2_3 => delta L2.NoAttr; k_is)
    (case h_n2_4 => delta L2.NoAttr; k_is)
    (case h_n2_5 => delta L2.NoAttr; k_is)
    (case h_n2_6 => delta L2.NoAttr; k_is)
    (case h_n2_7 => delta L2.NoAttr; k_is)
    (case h_n2_8 => delta L2.NoAttr; k_is)
    (case h_n2_9 => delta L2.NoAttr; k_is)
    (case h_s2_0 => k_is)
    (case h_s2_1 => k_is)
    (case h_s2_2 => k_is)
    (case h_s2_3 => k_is)
    (case h_s2_4 => k_is)
    (case h_s2_5 => k_is)
    (case h_s2_6 => k_is)
    (case h_cl3_0 => k_is)
    (case h_cl3_1 => k_is)
    (case h_cl3_2 => k_is)
    (case h_cl3_3 => k_is)
    (case h_b3_0 => k_is)
    (case h_b3_1 => k_is)
    (case h_b3_2 => k_is)
    (case h_b3_3 => k_is)
    (case h_ic3 => k_is)
    (case h_ti3 => k_is)
    (case h_sf3 => k_is)
    (case h_at3 => k_is)
    (case h_rt3 => k_is)
    (case h_si3 => k_is)
    (case h_or3 => k_is)
    (case h_ro3 => k_is)
    (case h_la3 => k_is)
    (case h_ea3 => k_is)
    (case h_n3_0 => delta L2.NoAttr; k_is)
    (case h_n3_1 => delta L2.NoAttr; k_is)
    (case h_n3_2 => delta L2.NoAttr; k_is)
    (case h_n3_3 => delta L2.NoAttr; k_is)
    (case h_n3_4 => delta L2.NoAttr; k_is)
    (case h_n3_5 => delta L2.NoAttr; k_is)
    (case h_n3_6 => delta L2.NoAttr; k_is)
    (case h_n3_7 => delta L2.NoAttr; k_is)
    (case h_n3_8 => delta L2.NoAttr; k_is)
    (case h_n3_9 => delta L2.NoAttr; k_is)
    (case h_s3_0 => k_is)
    (case h_s3_1 => k_is)
    (case h_s3_2 => k_is)
    (case h_s3_3 => k_is)
    (case h_s3_4 => k_is)
    (case h_s3_5 => k_is)
    (case h_s3_6 => k_is)
    (case h_cl4_0 => k_is)
    (case h_cl4_1 => k_is)
    (case h_cl4_2 => k_is)
    (case h_cl4_3 => k_is)
    (case h_b4_0 => k_is)
    (case h_b4_1 => k_is)
    (case h_b4_2 => k_is)
    (case h_b4_3 => k_is)
    (case h_ic4 => k_is)
    (case h_ti4 => k_is)
    (case h_sf4 => k_is)
    (case h_at4 => k_is)
    (case h_rt4 => k_is)
    (case h_si4 => k_is)
    (case h_or4 => k_is)
    (case h_ro4 => k_is)
    (case h_la4 => k_is)
    (case h_ea4 => k_is)
    (case h_n4_0 => delta L2.NoAttr; k_is)
    (case h_n4_1 => delta L2.NoAttr; k_is)
    (case h_n4_2 => delta L2.NoAttr; k_is)
    (case h_n4_3 => delta L2.NoAttr; k_is)
    (case h_n4_4 => delta L2.NoAttr; k_is)
    (case h_n4_5 => delta L2.NoAttr; k_is)
    (case h_n4_6 => delta L2.NoAttr; k_is)
    (case h_n4_7 => delta L2.NoAttr; k_is)
    (case h_n4_8 => delta L2.NoAttr; k_is)
    (case h_n4_9 => delta L2.NoAttr; k_is)
    (case h_s4_0 => k_is)
    (case h_s4_1 => k_is)
    (case h_s4_2 => k_is)
    (case h_s4_3 => k_is)
    (case h_s4_4 => k_is)
    (case h_s4_5 => k_is)
    (case h_s4_6 => k_is)
    (case h_cl5_0 => k_is)
    (case h_cl5_1 => k_is)
    (case h_cl5_2 => k_is)
    (case h_cl5_3 => k_is)
    (case h_b5_0 => k_is)
    (case h_b5_1 => k_is)
    (case h_b5_2 => k_is)
    (case h_b5_3 => k_is)
    (case h_ic5 => k_is)
    (case h_ti5 => k_is)
    (case h_sf5 => k_is)
    (case h_at5 => k_is)
    (case h_rt5 => k_is)
    (case h_si5 => k_is)
    (case h_or5 => k_is)
    (case h_ro5 => k_is)
    (case h_la5 => k_is)
    (case h_ea5 => k_is)
    (case h_n5_0 => delta L2.NoAttr; k_is)
    (case h_n5_1 => delta L2.NoAttr; k_is)
    (case h_n5_2 => delta L2.NoAttr; k_is)
    (case h_n5_3 => delta L2.NoAttr; k_is)
    (case h_n5_4 => delta L2.NoAttr; k_is)
    (case h_n5_5 => delta L2.NoAttr; k_is)
    (case h_n5_6 => delta L2.NoAttr; k_is)
    (case h_n5_7 => delta L2.NoAttr; k_is)
    (case h_n5_8 => delta L2.NoAttr; k_is)
    (case h_n5_9 => delta L2.NoAttr; k_is)
    (case h_s5_0 => k_is)
    (case h_s5_1 => k_is)
    (case h_s5_2 => k_is)
    (case h_s5_3 => k_is)
    (case h_s5_4 => k_is)
    (case h_s5_5 => k_is)
    (case h_s5_6 => k_is)
    (case h_cl6_0 => k_is)
    (case h_cl6_1 => k_is)
    (case h_cl6_2 => k_is)
    (case h_cl6_3 => k_is)
    (case h_b6_0 => k_is)
    (case h_b6_1 => k_is)
    (case h_b6_2 => k_is)
    (case h_b6_3 => k_is)
    (case h_ic6 => k_is)
    (case h_ti6 => k_is)
    (case h_sf6 => k_is)
    (case h_at6 => k_is)
    (case h_rt6 => k_is)
    (case h_si6 => k_is)
    (case h_or6 => k_is)
    (case h_ro6 => k_is)
    (case h_la6 => k_is)
    (case h_ea6 => k_is)
    (case h_n6_0 => delta L2.NoAttr; k_is)
    (case h_n6_1 => delta L2.NoAttr; k_is)
    (case h_n6_2 => delta L2.NoAttr; k_is)
    (case h_n6_3 => delta L2.NoAttr; k_is)
    (case h_n6_4 => delta L2.NoAttr; k_is)
    (case h_n6_5 => delta L2.NoAttr; k_is)
    (case h_n6_6 => delta L2.NoAttr; k_is)
    (case h_n6_7 => delta L2.NoAttr; k_is)
    (case h_n6_8 => delta L2.NoAttr; k_is)
    (case h_n6_9 => delta L2.NoAttr; k_is)
    (case h_s6_0 => k_is)
    (case h_s6_1 => k_is)
    (case h_s6_2 => k_is)
    (case h_s6_3 => k_is)
    (case h_s6_4 => k_is)
    (case h_s6_5 => k_is)
    (case h_s6_6 => k_is)
    (case h_su0 => k_is)
    (case h_rs0 => k_is)
    (case h_nq0 => k_is)
    (case h_eq0 => k_is)
    (case h_ob0 => k_is)
    (case h_su1 => k_is)
    (case h_rs1 => k_is)
    (case h_nq1 => k_is)
    (case h_eq1 => k_is)
    (case h_ob1 => k_is)
    (case h_su2 => k_is)
    (case h_rs2 => k_is)
    (case h_nq2 => k_is)
    (case h_eq2 => k_is)
    (case h_ob2 => k_is)
    (case h_su3 => k_is)
    (case h_rs3 => k_is)
    (case h_nq3 => k_is)
    (case h_eq3 => k_is)
    (case h_ob3 => k_is)
    (case h_su4 => k_is)
    (case h_rs4 => k_is)
    (case h_nq4 => k_is)
    (case h_eq4 => k_is)
    (case h_ob4 => k_is)
    (case h_su5 => k_is)
    (case h_rs5 => k_is)
    (case h_nq5 => k_is)
    (case h_eq5 => k_is)
    (case h_ob5 => k_is)
    (case h_su6 => k_is)
    (case h_rs6 => k_is)
    (case h_nq6 => k_is)
    (case h_eq6 => k_is)
    (case h_ob6 => k_is)
    (case h_anq0 => k_is)
    (case h_aeq0 => k_is)
    (case h_aob0 => k_is)
    (case h_ta0_0 => k_is)
    (case h_ta0_1 => k_is)
    (case h_ta0_2 => k_is)
    (case h_ta0_3 => k_is)
    (case h_ta0_4 => k_is)
    (case h_ta0_5 => k_is)
    (case h_ta0_6 => k_is)
    (case h_anq1 => k_is)
    (case h_aeq1 => k_is)
    (case h_aob1 => k_is)
    (case h_ta1_0 => k_is)
    (case h_ta1_1 => k_is)
    (case h_ta1_2 => k_is)
    (case h_ta1_3 => k_is)
    (case h_ta1_4 => k_is)
    (case h_ta1_5 => k_is)
    (case h_ta1_6 => k_is)
    (case h_anq2 => k_is)
    (case h_aeq2 => k_is)
    (case h_aob2 => k_is)
    (case h_ta2_0 => k_is)
    (case h_ta2_1 => k_is)
    (case h_ta2_2 => k_is)
    (case h_ta2_3 => k_is)
    (case h_ta2_4 => k_is)
    (case h_ta2_5 => k_is)
    (case h_ta2_6 => k_is)
    (case h_anq3 => k_is)
    (case h_aeq3 => k_is)
    (case h_aob3 => k_is)
    (case h_ta3_0 => k_is)
    (case h_ta3_1 => k_is)
    (case h_ta3_2 => k_is)
    (case h_ta3_3 => k_is)
    (case h_ta3_4 => k_is)
    (case h_ta3_5 => k_is)
    (case h_ta3_6 => k_is)
    (case h_i3 => k_is)
    (case h_i4 => k_is)
    (case h_mk0 => k_is)
    (case h_kp0 => k_is)
    (case h_mk1 => k_is)
    (case h_kp1 => k_is)
    (case h_mk2 => k_is)
    (case h_kp2 => k_is)
    (case h_mk3 => k_is)
    (case h_kp3 => k_is)
    (case h_mk4 => k_is)
    (case h_kp4 => k_is)
    (case h_mk5 => k_is)
    (case h_kp5 => k_is)
    (case h_mk6 => k_is)
    (case h_kp6 => k_is)
    (case h_i1 => k_is)
    (case h_i2 => k_is)
    (case h_acl0_0 => k_is)
    (case h_acl0_1 => k_is)
    (case h_acl0_2 => k_is)
    (case h_acl0_3 => k_is)
    (case h_ab0_0 => k_is)
    (case h_ab0_1 => k_is)
    (case h_ab0_2 => k_is)
    (case h_ab0_3 => k_is)
    (case h_aic0 => k_is)
    (case h_ati0 => k_is)
    (case h_an0_0 => delta L2.NoAttr; k_is)
    (case h_an0_1 => delta L2.NoAttr; k_is)
    (case h_an0_2 => delta L2.NoAttr; k_is)
    (case h_an0_3 => delta L2.NoAttr; k_is)
    (case h_an0_4 => delta L2.NoAttr; k_is)
    (case h_as0_0 => k_is)
    (case h_as0_1 => k_is)
    (case h_as0_2 => k_is)
    (case h_as0_3 => k_is)
    (case h_at0_0 => k_is)
    (case h_at0_1 => k_is)
    (case h_at0_2 => k_is)
    (case h_at0_3 => k_is)
    (case h_at0_4 => k_is)
    (case h_at0_5 => k_is)
    (case h_at0_6 => k_is)
    (case h_amk0 => k_is)
    (case h_akp0 => k_is)
    (case h_acl1_0 => k_is)
    (case h_acl1_1 => k_is)
    (case h_acl1_2 => k_is)
    (case h_acl1_3 => k_is)
    (case h_ab1_0 => k_is)
    (case h_ab1_1 => k_is)
    (case h_ab1_2 => k_is)
    (case h_ab1_3 => k_is)
    (case h_aic1 => k_is)
    (case h_ati1 => k_is)
    (case h_an1_0 => delta L2.NoAttr; k_is)
    (case h_an1_1 => delta L2.NoAttr; k_is)
    (case h_an1_2 => delta L2.NoAttr; k_is)
    (case h_an1_3 => delta L2.NoAttr; k_is)
    (case h_an1_4 => delta L2.NoAttr; k_is)
    (case h_as1_0 => k_is)
    (case h_as1_1 => k_is)
    (case h_as1_2 => k_is)
    (case h_as1_3 => k_is)
    (case h_at1_0 => k_is)
    (case h_at1_1 => k_is)
    (case h_at1_2 => k_is)
    (case h_at1_3 => k_is)
    (case h_at1_4 => k_is)
    (case h_at1_5 => k_is)
    (case h_at1_6 => k_is)
    (case h_amk1 => k_is)
    (case h_akp1 => k_is)
    (case h_acl2_0 => k_is)
    (case h_acl2_1 => k_is)
    (case h_acl2_2 => k_is)
    (case h_acl2_3 => k_is)
    (case h_ab2_0 => k_is)
    (case h_ab2_1 => k_is)
    (case h_ab2_2 => k_is)
    (case h_ab2_3 => k_is)
    (case h_aic2 => k_is)
    (case h_ati2 => k_is)
    (case h_an2_0 => delta L2.NoAttr; k_is)
    (case h_an2_1 => delta L2.NoAttr; k_is)
    (case h_an2_2 => delta L2.NoAttr; k_is)
    (case h_an2_3 => delta L2.NoAttr; k_is)
    (case h_an2_4 => delta L2.NoAttr; k_is)
    (case h_as2_0 => k_is)
    (case h_as2_1 => k_is)
    (case h_as2_2 => k_is)
    (case h_as2_3 => k_is)
    (case h_at2_0 => k_is)
    (case h_at2_1 => k_is)
    (case h_at2_2 => k_is)
    (case h_at2_3 => k_is)
    (case h_at2_4 => k_is)
    (case h_at2_5 => k_is)
    (case h_at2_6 => k_is)
    (case h_amk2 => k_is)
    (case h_akp2 => k_is)
    (case h_acl3_0 => k_is)
    (case h_acl3_1 => k_is)
    (case h_acl3_2 => k_is)
    (case h_acl3_3 => k_is)
    (case h_ab3_0 => k_is)
    (case h_ab3_1 => k_is)
    (case h_ab3_2 => k_is)
    (case h_ab3_3 => k_is)
    (case h_aic3 => k_is)
    (case h_ati3 => k_is)
    (case h_an3_0 => delta L2.NoAttr; k_is)
    (case h_an3_1 => delta L2.NoAttr; k_is)
    (case h_an3_2 => delta L2.NoAttr; k_is)
    (case h_an3_3 => delta L2.NoAttr; k_is)
    (case h_an3_4 => delta L2.NoAttr; k_is)
    (case h_as3_0 => k_is)
    (case h_as3_1 => k_is)
    (case h_as3_2 => k_is)
    (case h_as3_3 => k_is)
    (case h_at3_0 => k_is)
    (case h_at3_1 => k_is)
    (case h_at3_2 => k_is)
    (case h_at3_3 => k_is)
    (case h_at3_4 => k_is)
    (case h_at3_5 => k_is)
    (case h_at3_6 => k_is)
    (case h_amk3 => k_is)
    (case h_akp3 => k_is)
    (case h_d_is_integer_0 => k_is)
    (case h_d_is_integer_1 => k_is)
    (case h_d_is_integer_2 => k_is)
    (case h_d_is_integer_3 => k_is)
    (case h_d_is_natural_0 => k_is)
    (case h_d_is_natural_1 => k_is)
    (case h_d_is_natural_2 => k_is)
    (case h_d_is_natural_3 => k_is)
    (case h_d_is_name_0 => k_is)
    (case h_d_is_name_1 => k_is)
    (case h_d_is_name_2 => k_is)
    (case h_d_is_name_3 => k_is)
    (case h_d_are_integers_0 => k_is)
    (case h_d_are_integers_1 => k_is)
    (case h_d_are_integers_2 => k_is)
    (case h_d_are_integers_3 => k_is)
    (case h_d_is_row_0 => k_is)
    (case h_d_is_row_1 => k_is)
    (case h_d_is_row_2 => k_is)
    (case h_d_is_row_3 => k_is)
    (case h_d_are_rows_0 => k_is)
    (case h_d_are_rows_1 => k_is)
    (case h_d_are_rows_2 => k_is)
    (case h_d_are_rows_3 => k_is)
    (case h_d_first_twice_0 => k_is)
    (case h_d_first_twice_1 => k_is)
    (case h_d_first_twice_2 => k_is)
    (case h_d_first_twice_3 => k_is)
    (case h_d_is_rows_0 => k_is)
    (case h_d_is_rows_1 => k_is)
    (case h_d_is_rows_2 => k_is)
    (case h_d_is_rows_3 => k_is)
    (case h_d_is_term_0 => k_is)
    (case h_d_is_term_1 => k_is)
    (case h_d_is_term_2 => k_is)
    (case h_d_is_term_3 => k_is)
    (case h_d_is_look_0 => k_is)
    (case h_d_is_look_1 => k_is)
    (case h_d_is_look_2 => k_is)
    (case h_d_is_look_3 => k_is)
    (case h_d_checked_stream_0 => k_is)
    (case h_d_checked_stream_1 => k_is)
    (case h_d_checked_stream_2 => k_is)
    (case h_d_checked_stream_3 => k_is)
    (case h_d_checked_term_0 => k_is)
    (case h_d_checked_term_1 => k_is)
    (case h_d_checked_term_2 => k_is)
    (case h_d_checked_term_3 => k_is)
    (case h_d_sizes_0 => k_is)
    (case h_d_sizes_1 => k_is)
    (case h_d_sizes_2 => k_is)
    (case h_d_sizes_3 => k_is)
    (case h_d_shifted_0 => k_is)
    (case h_d_shifted_1 => k_is)
    (case h_d_shifted_2 => k_is)
    (case h_d_shifted_3 => k_is)
    (case h_d_last_row_0 => k_is)
    (case h_d_last_row_1 => k_is)
    (case h_d_last_row_2 => k_is)
    (case h_d_last_row_3 => k_is)
    (case h_d_next_row_0 => k_is)
    (case h_d_next_row_1 => k_is)
    (case h_d_next_row_2 => k_is)
    (case h_d_next_row_3 => k_is)
    (case h_d_moved_0 => k_is)
    (case h_d_moved_1 => k_is)
    (case h_d_moved_2 => k_is)
    (case h_d_moved_3 => k_is)
    (case h_d_looked_0 => k_is)
    (case h_d_looked_1 => k_is)
    (case h_d_looked_2 => k_is)
    (case h_d_looked_3 => k_is)
    (case h_d_followed_either_0 => k_is)
    (case h_d_followed_either_1 => k_is)
    (case h_d_followed_either_2 => k_is)
    (case h_d_followed_either_3 => k_is)
    (case h_d_followed_both_0 => k_is)
    (case h_d_followed_both_1 => k_is)
    (case h_d_followed_both_2 => k_is)
    (case h_d_followed_both_3 => k_is)
    (case h_d_followed_0 => k_is)
    (case h_d_followed_1 => k_is)
    (case h_d_followed_2 => k_is)
    (case h_d_followed_3 => k_is)
    (case h_d_is_amount_0 => k_is)
    (case h_d_is_amount_1 => k_is)
    (case h_d_is_amount_2 => k_is)
    (case h_d_is_amount_3 => k_is)
    (case h_d_told_between_0 => k_is)
    (case h_d_told_between_1 => k_is)
    (case h_d_told_between_2 => k_is)
    (case h_d_told_between_3 => k_is)
    (case h_d_is_question_0 => k_is)
    (case h_d_is_question_1 => k_is)
    (case h_d_is_question_2 => k_is)
    (case h_d_is_question_3 => k_is)
    (case h_d_check_0 => k_is)
    (case h_d_check_1 => k_is)
    (case h_d_check_2 => k_is)
    (case h_d_check_3 => k_is)
    (case h_d_answered_0 => k_is)
    (case h_d_answered_1 => k_is)
    (case h_d_answered_2 => k_is)
    (case h_d_answered_3 => k_is)
    (case h_d_value_0 => k_is)
    (case h_d_value_1 => k_is)
    (case h_d_value_2 => k_is)
    (case h_d_value_3 => k_is)
    (case h_d__law_pool_0 => k_is)
    (case h_d__law_pool_1 => k_is)
    (case h_d__law_pool_2 => k_is)
    (case h_d__law_pool_3 => k_is)
    (case h_d__law_draw_0 => k_is)
    (case h_d__law_draw_1 => k_is)
    (case h_d__law_draw_2 => k_is)
    (case h_d__law_draw_3 => k_is)
    (case h_d__law_names_0 => k_is)
    (case h_d__law_names_1 => k_is)
    (case h_d__law_names_2 => k_is)
    (case h_d__law_names_3 => k_is)
    (case h_d__law_moment_0 => k_is)
    (case h_d__law_moment_1 => k_is)
    (case h_d__law_moment_2 => k_is)
    (case h_d__law_moment_3 => k_is)
    (case h_d__law_rows_0 => k_is)
    (case h_d__law_rows_1 => k_is)
    (case h_d__law_rows_2 => k_is)
    (case h_d__law_rows_3 => k_is)
    (case h_d__law_term_0 => k_is)
    (case h_d__law_term_1 => k_is)
    (case h_d__law_term_2 => k_is)
    (case h_d__law_term_3 => k_is)
    (case h_d__law_built_0 => k_is)
    (case h_d__law_built_1 => k_is)
    (case h_d__law_built_2 => k_is)
    (case h_d__law_built_3 => k_is)
    (case h_d_support_0 => k_is)
    (case h_d_support_1 => k_is)
    (case h_d_support_2 => k_is)
    (case h_d_support_3 => k_is)
    (case h_d__law_question_0 => k_is)
    (case h_d__law_question_1 => k_is)
    (case h_d__law_question_2 => k_is)
    (case h_d__law_question_3 => k_is)
    (case h_d__law_asked_0 => k_is)
    (case h_d__law_asked_1 => k_is)
    (case h_d__law_asked_2 => k_is)
    (case h_d__law_asked_3 => k_is)
    (case h_d__law_same_0 => k_is)
    (case h_d__law_same_1 => k_is)
    (case h_d__law_same_2 => k_is)
    (case h_d__law_same_3 => k_is)
    (case h_d_term_from_0 => k_is)
    (case h_d_term_from_1 => k_is)
    (case h_d_term_from_2 => k_is)
    (case h_d_term_from_3 => k_is)
    (case h_d_amount_from_0 => k_is)
    (case h_d_amount_from_1 => k_is)
    (case h_d_amount_from_2 => k_is)
    (case h_d_amount_from_3 => k_is)
    (case h_d_seen_from_0 => k_is)
    (case h_d_seen_from_1 => k_is)
    (case h_d_seen_from_2 => k_is)
    (case h_d_seen_from_3 => k_is)
    (case h_d__law_deep_0 => k_is)
    (case h_d__law_deep_1 => k_is)
    (case h_d__law_deep_2 => k_is)
    (case h_d__law_deep_3 => k_is)
    (case h_d__law_size_0 => k_is)
    (case h_d__law_size_1 => k_is)
    (case h_d__law_size_2 => k_is)
    (case h_d__law_size_3 => k_is)
    (case h_m_WI_0 => k_is)
    (case h_m_WI_1 => k_is)
    (case h_m_WI_2 => k_is)
    (case h_m_WI_3 => k_is)
    (case h_m_WI_4 => k_is)
    (case h_m_WR_0 => k_is)
    (case h_m_WR_1 => k_is)
    (case h_m_WR_2 => k_is)
    (case h_m_WR_3 => k_is)
    (case h_m_WR_4 => k_is)
    (case h_m_NI_0 => k_is)
    (case h_m_NI_1 => k_is)
    (case h_m_NI_2 => k_is)
    (case h_m_NI_3 => k_is)
    (case h_m_NI_4 => k_is)
    (case h_m_LI_0 => k_is)
    (case h_m_LI_1 => k_is)
    (case h_m_LI_2 => k_is)
    (case h_m_LI_3 => k_is)
    (case h_m_LI_4 => k_is)
    (case h_m_XI_0 => k_is)
    (case h_m_XI_1 => k_is)
    (case h_m_XI_2 => k_is)
    (case h_m_XI_3 => k_is)
    (case h_m_XI_4 => k_is)
    (case h_m_SI_0 => k_is)
    (case h_m_SI_1 => k_is)
    (case h_m_SI_2 => k_is)
    (case h_m_SI_3 => k_is)
    (case h_m_SI_4 => k_is)
    (case h_m_EI_0 => k_is)
    (case h_m_EI_1 => k_is)
    (case h_m_EI_2 => k_is)
    (case h_m_EI_3 => k_is)
    (case h_m_EI_4 => k_is)
    (case h_m_JI_0 => k_is)
    (case h_m_JI_1 => k_is)
    (case h_m_JI_2 => k_is)
    (case h_m_JI_3 => k_is)
    (case h_m_JI_4 => k_is)
    (case h_m_KI_0 => k_is)
    (case h_m_KI_1 => k_is)
    (case h_m_KI_2 => k_is)
    (case h_m_KI_3 => k_is)
    (case h_m_KI_4 => k_is)
    (case h_m_nuI_0 => k_is)
    (case h_m_nuI_1 => k_is)
    (case h_m_nuI_2 => k_is)
    (case h_m_nuI_3 => k_is)
    (case h_m_nuI_4 => k_is)
    (case h_m_coI_0 => k_is)
    (case h_m_coI_1 => k_is)
    (case h_m_coI_2 => k_is)
    (case h_m_coI_3 => k_is)
    (case h_m_coI_4 => k_is)
    (case h_m_toI_0 => k_is)
    (case h_m_toI_1 => k_is)
    (case h_m_toI_2 => k_is)
    (case h_m_toI_3 => k_is)
    (case h_m_toI_4 => k_is)
    (case h_m_gaI_0 => k_is)
    (case h_m_gaI_1 => k_is)
    (case h_m_gaI_2 => k_is)
    (case h_m_gaI_3 => k_is)
    (case h_m_gaI_4 => k_is)
    (case h_m_add_0 => k_is)
    (case h_m_add_1 => k_is)
    (case h_m_add_2 => k_is)
    (case h_m_add_3 => k_is)
    (case h_m_add_4 => k_is)
    (case h_m_ior_0 => k_is)
    (case h_m_ior_1 => k_is)
    (case h_m_ior_2 => k_is)
    (case h_m_ior_3 => k_is)
    (case h_m_ior_4 => k_is)
    (case h_m_lat_0 => k_is)
    (case h_m_lat_1 => k_is)
    (case h_m_lat_2 => k_is)
    (case h_m_lat_3 => k_is)
    (case h_m_lat_4 => k_is)
    (case h_m_ear_0 => k_is)
    (case h_m_ear_1 => k_is)
    (case h_m_ear_2 => k_is)
    (case h_m_ear_3 => k_is)
    (case h_m_ear_4 => k_is)
    (case h_m_sub_0 => k_is)
    (case h_m_sub_1 => k_is)
    (case h_m_sub_2 => k_is)
    (case h_m_sub_3 => k_is)
    (case h_m_sub_4 => k_is)
    (case h_m_teq_0 => k_is)
    (case h_m_teq_1 => k_is)
    (case h_m_teq_2 => k_is)
    (case h_m_teq_3 => k_is)
    (case h_m_teq_4 => k_is)
    (case h_m_aeq_0 => k_is)
    (case h_m_aeq_1 => k_is)
    (case h_m_aeq_2 => k_is)
    (case h_m_aeq_3 => k_is)
    (case h_m_aeq_4 => k_is)
    (case h_M_1_2 => first | rfl | decide +kernel)
    (case h_M_1_6 => first | rfl | decide +kernel)

