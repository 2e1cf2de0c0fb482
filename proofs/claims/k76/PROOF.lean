import PyProof.Rows.All
import Wide.All
import OpenK.AllK
import Wide.FinOn
import PyProof.EqAt
import PyProof.EqKinds
import PyProof.TupleCall
import KE.KExcSuper
import HandS.ForMost
import HandS.ForExc
import HandS.ExcInit
import HandS.IsInst
import HandS.Wide
import HandS.Star
import HandS.CallSlots
import HandS.DictComp
import HandS.OwnEq
import HandS.Codes
import HandS.Defaults
import HandS.Walk
import PySem.Challenge.RW_asofhall_k76_forms_told
import HandS.More
import HandS.TupAny
import HandS.SortOrd
import HandS.SetFor
import PyProof.SeqRoads2
import PyProof.Rows.JoinGen
import KE.KExcIs
import HandS.ExcIs
import HandS.ExcOwn
import KE.KEqDict
import HandS.Deep
import PyProof.InstNe
import OpenK.KOwn
import OpenK.KOps
import HandS.Sort
import HandS.SlotsOwn
set_option Elab.async false
set_option linter.all false
set_option maxRecDepth 100000
set_option maxHeartbeats 4000000
namespace PySem
namespace BadX
open PySem.W PySem.Calls PyProof.Rows PySem.HandSPX
/-- super().__init__(text); self.fl = par -/
def shape (tx par fl : Str) (p0 p1 p2 p3 p4 p5 p6 p7 p8 p9 : Pos) (j : Nat) : List Stmt :=
  [.Expr (.Call (.Attribute (.Call (.Name "super" p0) [] [] p1) "__init__" p2) [.Constant (.str tx) j p3] [] p4) p5,
   .Assign [.Attribute (.Name "self" p6) fl p7] (.Name par p8) p9]
def sco (par : Str) : Scope := { kind := .function, names := [(PySem.Str.ofString "self", .local), (par, .local), (PySem.Str.ofString "__class__", .free), (PySem.Str.ofString "super", .globalImplicit)], isGenerator := false, isCoroutine := false, more := [] }
/-- what the written part says of an own error's class at C, its __init__ at fI, whose one field is fl -/
structure Txt (P : Program) (K : Frag) (mg : Str → Option Value) (par fl : Str) (C fI : Addr) : Prop where
  cls : ∃ nm q N bs bm sn sub ab col dd k0 k1 k2 k3 k5, K.lookup C = some (excClassObj nm q C N bs bm true sn sub ab col dd k0 k1 k2 k3 k5 "ValueError.__new__") ∧ refsVE bm = true
  sa : findIn K (.ref C) "__setattr__" = some (some (.builtin "object.__setattr__"))
  ga : findIn K (.ref C) "__getattribute__" = some (some (.builtin "BaseException.__getattribute__"))
  gg : findIn K (.ref C) "__getattr__" = some none
  noN : findIn K (.ref C) fl = some none
  iC : findIn K (.ref C) "__init__" = some (some (.ref fI))
  tC : typeIn K (.ref fI) = some (.type "function")
  kC : keepIn K (.ref C) = true
  exC : subIn K (.ref C) (.type "BaseException") = some true
  veC : subIn K (.ref C) (.type "ValueError") = some true
  slf : mroIn K C (.ref C) = some true
  tyC : typeIn K (.ref C) = some (.type "type")
  hdC : hasDictIn K C = true
  te : exmOne K (.ref C) (.ref C) = some true
  along : ks_superIn K C C "__init__" = some (some (.builtin "ValueError.__init__"))
  opq : nsIn K cStatics "thirdparty.any" = some none
  sup : mg "super" = none
  top : (P.main.scope.names.lookup ("super" : Str)).isSome = false
  fn : ∃ (oc : Value) (od : Option Addr) (qual tx : Str) (doc pm : Value) (an : Option Addr) (cda cc : Addr) (ct : Value) (osl : Array (Option Value)) (pa : Arguments) (p0 p1 p2 p3 p4 p5 p6 p7 p8 p9 : Pos) (j : Nat) (a0 : Arg),
    K.lookup fI = some ⟨oc, od, .func (ksFn "__init__" qual pa (shape tx par fl p0 p1 p2 p3 p4 p5 p6 p7 p8 p9 j) (sco par) .none .none doc pm an (.ref cda) ct cc), osl⟩ ∧ codeIn K (.ref cda) qual = true ∧
    (pa.posonlyargs ++ pa.args).head? = some a0 ∧ a0.arg = "self" ∧
    (∀ (s : Shared) (u v : Value), BindsTo s (ksFn "__init__" qual pa (shape tx par fl p0 p1 p2 p3 p4 p5 p6 p7 p8 p9 j) (sco par) .none .none doc pm an (.ref cda) ct cc) ⟨[u, v], []⟩ [("self", u), (par, v)]) ∧
    (∃ ccl cdd vs ccs file tf, K.lookup cda = some ⟨ccl, cdd, .fields vs, ccs⟩ ∧ vs[2]? = some (.str file tf) ∧ ((P.main.file : Str) == file) = true) ∧
    (p2.endLine == p4.line) = true ∧
    (∃ cl cld csl, K.lookup cc = some ⟨cl, cld, .cell (some (.ref C)), csl⟩)
/-- what __init__ leaves of a fresh exception at x -/
structure Left (fl : Str) (h h' : Heap) (x C dx t1 : Addr) (v : Value) : Prop where
  keep : ∀ b o, b ≠ x → h.get? b = some o → h'.get? b = some o
  obj : h'.get? x = some { cls := .ref C, dict := some dx, data := .fields #[.ref t1, .none, .none, .none, .bool false, .none] }
  dbig : h.objs.size ≤ dx
  dne : dx ≠ x
  ns : h'.Ns1 dx (fun y => if y = fl then some v else none)
section
variable {prog : Program} {w : World} {A : Around} {E : Value → Shared → Prop} {R : Result → Shared → Prop} {s : Shared} {K : Frag} {mg mb : Str → Option Value} {C fI : Addr} {par fl : Str}
/-- the wrapper of ValueError.__init__, bound to x, called -/
theorem call_bound {h : Heap} {g : Array GenState} {d : Drawn} {t : Nat} {os : OsState} {u x t0 : Addr} {rest : List Value} {Q : Value → Shared → Prop} {nm q : Str} {N : Addr} {bs bm : List Value} {sn : List Str} {sub : List Value} {ab : Bool} {col : Option Bool} {dd : Option Addr} {k0 k1 k2 k3 k5 : Option Value}
    (hC : h.get? C = some (excClassObj nm q C N bs bm true sn sub ab col dd k0 k1 k2 k3 k5 "ValueError.__new__")) (hx : h.get? x = some (excO C t0)) (hu : h.get? u = some (kxs_mw "ValueError.__init__" x)) (hr : rest.length ≤ sizeLine)
    (hq : ∀ h', (∀ b o, b ≠ x → h.get? b = some o → h'.get? b = some o) → h'.get? x = some (excO C h.objs.size) → Q .none ⟨h', g, d, t, os⟩) :
    wpAny (model prog w) A (call (.ref u) rest) Q E ⟨h, g, d, t, os⟩ := by
  have FB := F.excBase_ValueError
  refine wpAny_call (codeAny_of_tree ?_)
  show wpAny _ A.in1 (callAny (.ref u) ⟨rest, []⟩) _ _ _
  simp only [callAny]
  refine wpAny_bind (wpAny_load hu ?_)
  have c1 : (Value.type "method-wrapper" == Value.type "method" || Value.type "method-wrapper" == Value.type "builtin_function_or_method" || Value.type "method-wrapper" == Value.type "method-wrapper") = true := by decide
  simp only [kxs_mw, c1, if_true]
  refine KFB.if_so (by decide) (wpAny_bind (check_bound_init FB.toExcCallFacts hC hx rfl (wpAny_bind (wpAny_pure (wpAny_pure ⟨plainId_quiet FB.init.plain _, codeAny_builtin FB.initEntry ?_⟩)))))
  exact exc_init_tree (cls := .ref C) (t0 := t0) (dv := none) (c2 := .none) (c3 := .none) (b4 := .bool false) hx hr fun h' k e' _ => hq h' k e'
theorem init_ok {x t0 : Addr} {v : Value} (T : Txt prog K mg par fl C fI) (X : K.In s.heap) (G : s.heap.Ns mainGlobals mg) (B : s.heap.Ns builtinsNs mb) (hb : mb "super" = some (.type "super")) (hlim : s.heap.NoLimit)
    (hx : s.heap.get? x = some (excO C t0)) (hnx : K.lookup x = none) (hroom : A.depth < recursionLimit) (hp1 : (par == ("__debug__" : Str)) = false) (hp2 : ¬ par = "self")
    (hloc : (sco par).names.lookup par = some .local) (hks : (sco par).names.lookup ("super" : Str) = some .globalImplicit) (hkc : (sco par).names.lookup ("__class__" : Str) = some .free)
    (hq : ∀ h' tk t1 dx, Left fl s.heap h' x C dx t1 v → R (.ok (.ret .none)) { s with heap := h', toks := tk }) :
    codeAny (model prog w) A (.call (.ref fI) ⟨[.ref x, v], []⟩) R s := by
  obtain ⟨oc, od, qual, tx, doc, pm, an, cda, cc, ct, osl, pa, p0, p1, p2, p3, p4, p5, p6, p7, p8, p9, j, a0, ho, hcd, ha0, ha1, hbd, ⟨ccl, cdd, vs, ccs, file, tf, hcode, hvs, hfile⟩, hpe, ⟨cl, cld, csl, hcell⟩⟩ := T.fn
  obtain ⟨nm, q, N, bs, bm, sn, sub, ab, col, dd, k0, k1, k2, k3, k5, hC, hbm⟩ := T.cls
  have hcl : clsIn K C = some { name := nm, bases := bs, mro := .ref C :: bm, ns := N, qualname := q, hasDict := true, slotNames := sn, subclasses := sub, abstract := ab, collection := col, hasDel := false } := by unfold clsIn; rw [hC] <;> rfl
  refine ks_codeAny_call_defAt (binds := [("self", .ref x), (par, v)]) hroom (X _ _ ho) rfl hlim (codeRec_of X hcd) rfl (hbd s (.ref x) v) ?_ ?_ (fun h₁ hns hk₁ => ?_)
  · intro y hy
    have : y ∈ [(PySem.Str.ofString "self", NameKind.local), (par, .local), (PySem.Str.ofString "__class__", .free), (PySem.Str.ofString "super", .globalImplicit)] := hy
    simp only [List.mem_cons, List.not_mem_nil, or_false] at this
    rcases this with rfl | rfl | rfl | rfl <;> (intro z; cases z)
  · intro y hy
    simp only [List.mem_cons, List.not_mem_nil, or_false] at hy
    rcases hy with rfl | rfl
    · exact (by rfl : (sco par).names.lookup ("self" : Str) = some .local)
    · exact hloc
  have hself : ([(("self" : Str), Value.ref x), (par, v)] : List (Str × Value)).reverse.lookup ("self" : Str) = some (Value.ref x) := by
    show List.lookup ("self" : Str) [(par, v), (("self" : Str), Value.ref x)] = _
    have e1 : (("self" : Str) == par) = false := by simpa using fun z => hp2 z.symm
    simp [List.lookup, e1]
  have hpar : ([(("self" : Str), Value.ref x), (par, v)] : List (Str × Value)).reverse.lookup par = some v := by
    show List.lookup par [(par, v), (("self" : Str), Value.ref x)] = _
    simp [List.lookup]
  have X₁ : K.In h₁ := X.keeps hk₁
  have hx₁ := hk₁ _ _ hx
  refine ks_wpAt_execs_cons (ks_wpAt_Expr_any (ks_wpAt_MethodCall (pl := ?pl) ?_ ?he))
  case he =>
    rw [arm_eval_Call]
    unfold methodCall methodCallPos
    rw [hpe]
    with_unfolding_all rfl
  refine ks_wpAt_super_base (hks := hks) (hkc := hkc) (by decide +kernel) rfl (X₁ _ _ ho) rfl ha0 rfl (X₁ _ _ hcode) rfl hvs hfile T.top ?_
  refine ks_loadName_global rfl hks (loadGlobal_builtin (G.keeps hk₁) T.sup (B.keeps hk₁) hb ⟨rfl, ?_⟩)
  refine wpAny_loadName_free rfl hkc rfl ⟨_, X₁ _ _ hcell, rfl⟩ ?_
  rw [ha1]
  refine wpAny_loadName_local rfl rfl hns hself ?_
  refine ks_wpAny_isType_cls (X₁ _ _ hC) rfl ⟨rfl, ?_⟩
  refine ks_wpAny_call_super (X₁ _ _ hC) rfl hx₁ rfl (fun c e => by cases e) (looks_mroIn X₁ T.slf) (fun h₂ e₂ k₂ => ?_)
  have X₂ : K.In h₂ := X₁.keeps k₂
  have hx₂ := k₂ _ _ hx₁
  have I₂ : InstAt h₂ x (excO C t0) C none := ⟨hx₂, rfl, rfl, trivial⟩
  have hal := T.along
  unfold ks_superIn at hal
  rw [hcl] at hal
  refine kxs_getMethod kxs_ValueError e₂ (looks_opaque X₂ T.opq) (l₀ := .ref C :: bm) ?_ rfl X₂ hal (I₂.type.andThen (looks_subIn X₂ T.veC)) (ks_ne X₂ I₂ hcl) (by decide +kernel) ?_
  · exact fun A Q E s k q => wpAny_bind ((looks_clsIn X₂ hcl) A _ E s k (wpAny_pure q))
  have hu : (h₂.push (kxs_mw "ValueError.__init__" x)).get? h₂.objs.size = some (kxs_mw "ValueError.__init__" x) := Heap.get?_push_at rfl rfl
  have k₃ : ∀ b o, h₂.get? b = some o → (h₂.push (kxs_mw "ValueError.__init__" x)).get? b = some o := fun b o e => Heap.get?_push_of_some _ e
  let H₃ := h₂.push (kxs_mw "ValueError.__init__" x)
  refine kxs_callWith1 (i := "ValueError.__init__") (x := x) (u := h₂.objs.size) (h₀ := Att.noObjs H₃) (L := h₂.objs.size + 7) (news := [(h₂.objs.size, kxs_mw "ValueError.__init__" x)]) (fun q hq => ?_) (List.Mem.head _) ?_
  · rcases List.mem_cons.mp hq with rfl | hq
    · exact ⟨hu, by show h₂.objs.size ≠ h₂.objs.size + 7; omega, Att.noObjs_get _ _⟩
    · cases hq
  refine wpAny_items_cons (Constant_str ?_)
  refine wpAny_items_nil ⟨hu, ?_⟩
  have X₃ : K.In (h₂.push (kxs_mw "ValueError.__init__" x)) := X₂.keeps k₃
  refine call_bound (X₃ _ _ hC) (k₃ _ _ hx₂) hu (by rw [sizeLine_eq]; exact (by decide : 1 ≤ 16777216)) fun h₄ k₄ e₄ => ?_
  -- self.fl = par
  have k14 : ∀ b o, b ≠ x → h₁.get? b = some o → h₄.get? b = some o := fun b o hb e => k₄ b o hb (k₃ b o (k₂ b o e))
  have xL : s.heap.objs.size ≠ x := Nat.ne_of_gt (Heap.lt_size hx)
  obtain ⟨oL, es, ep, hL, hr⟩ := hns
  have hns₄ : h₄.Ns s.heap.objs.size (fun y => ([(("self" : Str), Value.ref x), (par, v)] : List (Str × Value)).reverse.lookup y) := ⟨oL, es, ep, k14 _ _ xL hL, hr⟩
  have X₄ : K.In h₄ := fun a o e => k₄ a o (fun z => by rw [z, hnx] at e; cases e) (X₃ a o e)
  refine wpAt_of_wpAny (wpAny_execs_cons (plainObj_wpAny_Assign_Attribute ?_))
  refine wpAny_Name (wpAny_loadName_local rfl hloc hns₄ hpar ?_) hp1
  refine wpAny_Name (wpAny_loadName_local rfl rfl hns₄ hself ?_) (by decide)
  refine set_plain X₄ (ox := excO C h₂.objs.size.succ) (od := none) ⟨?_, rfl, rfl, trivial⟩ T.sa ?_
  · show h₄.get? x = some (excO C h₂.objs.size.succ)
    rw [e₄, Heap.size_push]
  have e₄' : h₄.get? x = some (excO C h₂.objs.size.succ) := by
    rw [e₄, Heap.size_push]
  refine exc_osa X₄ e₄' hcl (show refsVE (.ref C :: bm) = true from hbm) rfl T.noN (fun h₅ tk₅ dx k₅ dn dne hx₅ hn₅ => ?_)
  have z1 : s.heap.objs.size < h₄.objs.size := Heap.lt_size (k14 _ _ xL hL)
  refine wpAny_execs_nil (hq h₅ tk₅ _ dx ⟨fun b o hb e => k₅ b o hb (k14 b o hb (hk₁ b o e)), hx₅, Nat.le_of_lt (Nat.lt_of_lt_of_le z1 dn), dne, hn₅⟩)
theorem one_le (v : Value) : [v].length ≤ sizeLine := by
  rw [sizeLine_eq]
  exact (by decide : 1 ≤ 16777216)
/-- a made error -/
structure Made (fl : Str) (h h' : Heap) (e C d : Addr) (v : Value) : Prop where
  keep : ∀ b o, h.get? b = some o → h'.get? b = some o
  new : h.objs.size ≤ e
  obj : ∃ oe vs, h'.get? e = some oe ∧ oe.cls = .ref C ∧ oe.dict = some d ∧ oe.data = .fields vs ∧ vs[1]? = some .none ∧ vs[2]? = some .none ∧ 4 < vs.size
  dbig : h.objs.size ≤ d
  dne : d ≠ e
  ns : h'.Ns1 d (fun y => if y = fl then some v else none)
/-- the names of such an __init__ -/
structure Par (par : Str) : Prop where
  p1 : (par == ("__debug__" : Str)) = false
  p2 : ¬ par = "self"
  p3 : (sco par).names.lookup par = some .local
  p4 : (sco par).names.lookup ("super" : Str) = some .globalImplicit
  p5 : (sco par).names.lookup ("__class__" : Str) = some .free
theorem made_ok {v : Value} (T : Txt prog K mg par fl C fI) (p : Par par) (X : K.In s.heap) (G : s.heap.Ns mainGlobals mg) (B : s.heap.Ns builtinsNs mb) (hb : mb "super" = some (.type "super")) (hlim : s.heap.NoLimit) (hroom : A.depth + 1 < recursionLimit)
    (hq : ∀ h' tk e d, Made fl s.heap h' e C d v → R (.ok (.ret (.ref e))) { s with heap := h', toks := tk }) :
    codeAny (model prog w) A (.call (.ref C) ⟨[v], []⟩) R s := by
  obtain ⟨nm, q, N, bs, bm, sn, sub, ab, col, dd, k0, k1, k2, k3, k5, hC, hbm⟩ := T.cls
  obtain ⟨hp, g, dr, tk, os⟩ := s
  let hp2 := (hp.push (kdv_tup [v])).push (excO C hp.objs.size)
  have k : ∀ b o, hp.get? b = some o → hp2.get? b = some o := fun b o e => Heap.get?_push_of_some _ (Heap.get?_push_of_some _ e)
  have hget : hp2.get? (hp.objs.size + 1) = some (excO C hp.objs.size) := by
    show ((hp.push (kdv_tup [v])).push (excO C hp.objs.size)).get? (hp.objs.size + 1) = _
    heap_get
  have hsz : hp2.objs.size = hp.objs.size + 2 := by
    show ((hp.push (kdv_tup [v])).push (excO C hp.objs.size)).objs.size = _
    rw [Heap.size_push, Heap.size_push]
  have hnx : K.lookup (hp.objs.size + 1) = none := by
    cases e : K.lookup (hp.objs.size + 1) with
    | none => rfl
    | some o => exact absurd (Nat.lt_of_succ_lt (Heap.lt_size (show hp.get? _ = some o from X _ _ e))) (Nat.lt_irrefl _)
  refine call_own F.excBase_ValueError (fun Y => refsVE_contains Y bm hbm) (X _ _ hC) (looks_findIn X T.iC) (fun self => bind_fn X self T.tC) (one_le v) ?_
  refine init_ok (s := ⟨hp2, g, dr, tk, os⟩) T (X.keeps k) (G.keeps k) (B.keeps k) hb (hlim.keeps k) hget hnx (show A.depth + 1 < recursionLimit from hroom) p.p1 p.p2 p.p3 p.p4 p.p5 fun h' tk' t1 dx ⟨k', hx, dn, dne, hns⟩ => ?_
  have old : ∀ b o, hp.get? b = some o → h'.get? b = some o := fun b o e => k' b o (Nat.ne_of_lt (Nat.lt_succ_of_lt (Heap.lt_size e))) (k b o e)
  have dn' : hp2.objs.size ≤ dx := dn
  rw [hsz] at dn'
  exact ⟨rfl, hq h' tk' (hp.objs.size + 1) dx ⟨old, Nat.le_succ _, ⟨_, _, hx, rfl, rfl, rfl, rfl, rfl, (show 4 < 6 by decide)⟩, (by show hp.objs.size ≤ dx; omega), dne, hns⟩⟩
end
end BadX
end PySem
namespace L2
open PySem PySem.Spec PyProof.Rows
theorem relO_one {v : V} {v' : Value} (r : RelV v v') (fl f : Str) : RelO (List.lookup f [(fl, v)]) (if f = fl then some v' else none) := by
  by_cases hw : f = fl
  · subst hw
    rw [if_pos rfl]
    have q : List.lookup f [(f, v)] = some v := by simp [List.lookup]
    rw [q]
    exact r
  · rw [if_neg hw]
    have qw : (f == fl) = false := by simpa using hw
    have q2 : List.lookup f [(fl, v)] = none := by simp [List.lookup, qw]
    rw [q2]
    trivial
section
variable {X : Cx} {C fI : Addr}
/-- Cls(e), an own error with the one field fl -/
def tMkB (fl : Str) (C : Addr) (ta : TA) : St → Hp → XK → Prop := fun σ H Q => ta σ H fun vs H1 => ∃ v, vs = [v] ∧ ∀ d, H1 d = none → Q (.ref C) (some d) (upd H1 d (.xd [(fl, v)]))
theorem pmk_bad {x par fl : Str} {a : Expr} {ta : TA} {p pos : Pos} {k : Nat} (T : PySem.BadX.Txt X.prog X.K X.mg par fl C fI) (pr : PySem.BadX.Par par) (hm : X.mg x = some (.ref C)) (hr : Room k X.A) (ha : PA X [a] ta) (hg : Gl X x)
    (hdb : (x == ("__debug__" : Str)) = false := by decide)
    (he : starEach (a :: []) X.env = (false, eval a X.env) :: starEach [] X.env := by rfl) (hpl : (backTo pos (starEach [] X.env)).any (·.1) = false := by rfl) :
    PMk X (.Call (.Name x p) [a] [] pos) (tMkB fl C ta) := by
  intro pins s σ H Q I h
  refine wpAny_Call_Name_kw (ld_glob I hg hm ?_ hdb)
  refine PySem.W.callWith_K (h₀ := X.base) I.ok.mod.kin T.kC (thn (ha.run pos pins s σ H _ I h) fun us s1 hh => ?_) he hpl
  obtain ⟨vs, H1, I1, r1, v, ev, q1⟩ := hh
  subst ev
  refine ⟨I1.kIn, ?_⟩
  cases r1 with
  | cons rv rn =>
    rename_i v' us'
    cases rn
    show wpAny _ _ (call (.ref C) [v']) _ _ _
    have hlim := I1.nolimit
    obtain ⟨mb, hb1, hb2⟩ := I1.mod.blt
    have Gn : s1.heap.Ns mainGlobals X.mg := I1.mod.glob.keeps I1.bk
    have Bn : s1.heap.Ns builtinsNs mb := hb1.keeps I1.bk
    have hbs : mb "super" = some (.type "super") := (hb2 _ (by decide +kernel)).trans (by first | boot_by_name | rfl | kernel_rfl)
    obtain ⟨hp, g, dr, tk, os⟩ := s1
    refine wpAny_call (PySem.BadX.made_ok T pr I1.kIn Gn Bn hbs hlim (by have := hr.dp; omega) fun h' tk' e d M => ?_)
    show MkP X pins σ Q (.ref e) ⟨h', g, dr, tk', os⟩
    obtain ⟨oe, fv, hoe, hc, hd, hdat, h1, _⟩ := M.obj
    have hns := M.ns
    obtain ⟨G', g1, g2⟩ := restrict h' fun b => decide (b ≠ e)
    have gk : ∀ b, b ≠ e → G'.get? b = h'.get? b := fun b hb => g1 b (decide_eq_true hb)
    have ge : G'.get? e = none := g2 e (by simp)
    have old : ∀ b o, hp.get? b = some o → G'.get? b = some o := fun b o q => (gk b (Nat.ne_of_lt (Nat.lt_of_lt_of_le (Heap.lt_size q) M.new))).trans (M.keep b o q)
    have ob : ObjOk X.prog X.w (upd H1 d (.xd [(fl, v)])) G' d (.xd [(fl, v)]) :=
      ⟨_, hns.at (fun o q => (gk d M.dne).trans q), fun f => relO_one rv fl f⟩
    have J : Inv X pins σ (upd H1 d (.xd [(fl, v)])) ⟨G', g, dr, tk', os⟩ := I1.laid (t' := tk') old M.dbig ob
    refine ⟨e, oe, fv, ⟨G', g, dr, tk', os⟩, _, .ref C, some d, rfl, J, fun b o q => ?_, ge, hoe, ⟨hc, hd⟩, hdat, h1, ?_, rfl, I1.bare, raises_own T.exC T.tyC, q1 d (I1.hok.fresh M.dbig)⟩
    · by_cases hb : b = e
      · have q' : G'.get? b = some o := q
        rw [hb, ge] at q'; cases q'
      · exact (gk b hb).symm.trans q
    · rw [upd_ne (Ne.symm M.dne)]
      exact I1.hok.fresh M.new
/-- raise Cls(e) -/
def tRaiseB (fl : Str) (C : Addr) (W : WX) (ta : TA) : TS := fun _ σ H => tMkB fl C ta σ H fun cls d H' => W cls d σ H'
theorem ps_raiseB {x par fl : Str} {a : Expr} {ta : TA} {W : WX} {p pos pos2 : Pos} {k : Nat} (hc : X.calm = true) (T : PySem.BadX.Txt X.prog X.K X.mg par fl C fI) (pr : PySem.BadX.Par par) (hm : X.mg x = some (.ref C)) (hr : Room k X.A) (tk : Takes X W) (ha : PA X [a] ta) (hg : Gl X x)
    (hdb : (x == ("__debug__" : Str)) = false := by decide)
    (he : starEach (a :: []) X.env = (false, eval a X.env) :: starEach [] X.env := by rfl) (hpl : (backTo pos (starEach [] X.env)).any (·.1) = false := by rfl) :
    PS X (.Raise (some (.Call (.Name x p) [a] [] pos)) none pos2) (tRaiseB fl C W ta) := ps_raise hc tk (pmk_bad T pr hm hr ha hg hdb he hpl)
end
end L2

set_option Elab.async false
set_option linter.all false
set_option maxRecDepth 100000
set_option maxHeartbeats 4000000
namespace Ash
open PySem PySem.Spec PyProof.Rows L2
abbrev topS (i : Nat) : Stmt := PySem.Challenge.pw_asofhall_k76_forms_told.main.body.getD i (.Pass ⟨0, 0, 0, 0⟩)
/-- a def of the top by its name, with its promise -/
structure Cal (P : Program) (w : World) (K : PySem.W.Frag) (mg : Str → Option Value) (base : Heap) (CX : CXT) (x : Str) (k : Nat) (ps : List Str) (sp : Sp) : Prop where
  ex : ∃ f fd, mg x = some (.ref f) ∧ PySem.W.keepIn K (.ref f) = true ∧ Binds K fd ps [] ∧ FnOk P w K mg base CX k f fd ps sp
section
variable {X : Cx} {CX : CXT} {k j : Nat} {ps : List Str} {sp : Sp} {E : XK} {x : Str} {p pos : Pos} {e : Expr} {es : List Expr} {t : TA}
theorem pe_cal (G : Cal X.prog X.w X.K X.mg X.base CX x k ps sp) (hr : Room k X.A) (hx : Passes CX X E) (ha : PA X (e :: es) t) (hg : Gl X x := by rfl)
    (hdb : (x == ("__debug__" : Str)) = false := by decide) (he : starEach (e :: es) X.env = (false, eval e X.env) :: starEach es X.env := by rfl) (hpl : (backTo pos (starEach es X.env)).any (·.1) = false := by rfl) :
    PE X (.Call (.Name x p) (e :: es) [] pos) (tCall sp [] E t) := by
  obtain ⟨f, fd, hm, hk, hb, F⟩ := G.ex
  exact pe_call F hr hg hm hk hb .nil hx ha hdb he hpl
theorem pe_calS {E : L2.St → XK} (G : Cal X.prog X.w X.K X.mg X.base CX x k ps sp) (hr : Room k X.A) (hx : ∀ σ, PassesAt CX X σ (E σ)) (ha : PA X (e :: es) t) (hg : Gl X x := by rfl)
    (hdb : (x == ("__debug__" : Str)) = false := by decide) (he : starEach (e :: es) X.env = (false, eval e X.env) :: starEach es X.env := by rfl) (hpl : (backTo pos (starEach es X.env)).any (·.1) = false := by rfl) :
    PE X (.Call (.Name x p) (e :: es) [] pos) (tCallSD sp [] E t) := by
  obtain ⟨f, fd, hm, hk, hb, F⟩ := G.ex
  exact pe_callSD F hr hg hm hk hb .nil hx ha hdb he hpl
/-- a class by its name, with its __init__'s promise -/
structure Mak (P : Program) (w : World) (K : PySem.W.Frag) (mg : Str → Option Value) (base : Heap) (CX : CXT) (x : Str) (C : Addr) (k : Nat) (ps : List Str) (sp : Sp) : Prop where
  ex : ∃ f fd, Mk K C f ∧ mg x = some (.ref C) ∧ Binds K fd ps [] ∧ FnOk P w K mg base CX k f fd ps sp
theorem pe_mak {C : Addr} (G : Mak X.prog X.w X.K X.mg X.base CX x C k ps sp) (hr : Room (k + 1) X.A) (hx : Passes CX X E) (ha : PA X (e :: es) t) (hg : Gl X x := by rfl)
    (hdb : (x == ("__debug__" : Str)) = false := by decide) (he : starEach (e :: es) X.env = (false, eval e X.env) :: starEach es X.env := by rfl) (hpl : (backTo pos (starEach es X.env)).any (·.1) = false := by rfl) :
    PE X (.Call (.Name x p) (e :: es) [] pos) (tMake C sp [] E t) := by
  obtain ⟨f, fd, M, hm, hb, F⟩ := G.ex
  exact pe_make M F hr hg hm hb .nil hx ha hdb he hpl
/-- int(n) of an int -/
theorem call_intI : CallR X (.type "int") (fun xs H Q => ∃ i, xs = [.int i] ∧ Q (.int i) H) := by
  intro pins s σ H xs us Q I r h
  exact call_int1 pins s σ H xs us Q I r (.inl h)
end
/-- what is wanted of an exception at any slots of the def -/
def WEl (X : Cx) (W : WX) : XK := fun cls d H => ∀ σ : L2.St, σ.length = X.N.length → W cls d σ H
theorem passW {X : Cx} {W : WX} (tk : Takes X W) : Passes (L2.CX X.prog X.w) X (WEl X W) := fun _ σ _ _ e s' I c => tk e s' (XE.of_call I (fun cls d H' h => h σ I.len) c)
theorem passE {X : Cx} {E : XK} (tk : Takes X (fun cls d _ H => E cls d H)) : Passes (L2.CX X.prog X.w) X E := passes_call tk fun _ _ _ _ h => h
/-- a method of a class, with its promise -/
structure Met (P : Program) (w : World) (K : PySem.W.Frag) (mg : Str → Option Value) (base : Heap) (CX : CXT) (C : Addr) (m : Str) (k : Nat) (ps : List Str) (sp : Sp) : Prop where
  ex : ∃ f fd, Meth K C m f ∧ Binds K fd ps [] ∧ FnOk P w K mg base CX k f fd ps sp
/-- a dict comprehension over a walk: as lc_it -/
theorem dc_it {J : It} {n : Nat} {W0 : Hp → Prop} {Y : Nat → Hp → V → Hp → Prop} (wk : Walk J n W0 Y) {g : TG} {tt : TT} {tk tv : TE} {vs : List Nat} {σ : L2.St} {H1 : Hp} {D : Addr} {Qd : Hp → Prop} (Pv : Nat → Hp → Prop) (h0 : Pv 0 (upd H1 D (.dK []))) (hG : ∀ i H, i ≤ n → Pv i H → W0 H)
    (hs : ∀ i x H H', i < n → Pv i H → Y i H x H' → g x (wipe σ vs) H' fun σ2 H2 => wipe σ2 vs = wipe σ vs ∧ tt σ2 H2 fun b H3 =>
      if b = true then tk σ2 H3 fun y H4 => tv σ2 H4 fun z H5 => ∃ kvs k, y = kV k ∧ H5 D = some (.dK kvs) ∧ kvs.length < sizeLine ∧ Pv (i + 1) (upd H5 D (.dK (putK kvs k z))) else Pv (i + 1) H3) (hd : ∀ H, Pv n H → Qd H) :
    ∃ W : Nat → Nat → Hp → Prop, (∃ m, W 0 m (upd H1 D (.dK []))) ∧ ∀ i m H, W i m H →
      (J.stop i H ∧ Qd H) ∨ (J.go i H ∧ ∃ Nx : Hp → Prop, (∀ H', Nx H' → ∃ m', m' < m ∧ W (i + 1) m' H') ∧ ∀ x H', J.yld i H x H' → g x (wipe σ vs) H' fun σ2 H2 => wipe σ2 vs = wipe σ vs ∧ tt σ2 H2 fun b H3 =>
        if b = true then tk σ2 H3 fun y H4 => tv σ2 H4 fun z H5 => ∃ kvs k, y = kV k ∧ H5 D = some (.dK kvs) ∧ kvs.length < sizeLine ∧ Nx (upd H5 D (.dK (putK kvs k z))) else Nx H3) := by
  refine ⟨fun i m H => (m + i = n) ∧ Pv i H, ⟨n, rfl, h0⟩, ?_⟩
  rintro i m H ⟨hm, pv⟩
  by_cases c : i < n
  · refine .inr ⟨wk.goes i H c (hG i H (by omega) pv), Pv (i + 1), fun H' pv' => ⟨m - 1, by omega, by omega, pv'⟩, fun x H' y => ?_⟩
    exact hs i x H H' c pv (wk.yields i H x H' c (hG i H (by omega) pv) y)
  · have : i = n := by omega
    subst this
    exact .inl ⟨wk.stops H (hG _ H (Nat.le_refl _) pv), hd H pv⟩
/-- the built-in names that the top leaves alone -/
structure Blt (mg : Str → Option Value) : Prop where
  len : mg "len" = none
  int : mg "int" = none
  bool : mg "bool" = none
  str : mg "str" = none
  list : mg "list" = none
  tuple : mg "tuple" = none
  dict : mg "dict" = none
  isinstance : mg "isinstance" = none
  all : mg "all" = none
  range : mg "range" = none
  enumerate : mg "enumerate" = none
  sorted : mg "sorted" = none
  min : mg "min" = none
  max : mg "max" = none
  set : mg "set" = none
  sum : mg "sum" = none
  abs : mg "abs" = none
/-- data without depth -/
def flatD : PyData → Bool
  | .none => true
  | .bool _ => true
  | .int _ => true
  | .str x => PyData.strOk x
  | _ => false
theorem flat_lay : ∀ {ds : List PyData}, ds.all flatD = true → PyData.canLayAll0 ds = true ∧ PyData.depthAll ds ≤ 1
  | [], _ => by simp [PyData.canLayAll0, PyData.depthAll]
  | d :: ds, h => by
    rw [List.all_cons, Bool.and_eq_true] at h
    obtain ⟨h1, h2⟩ := flat_lay h.2
    cases d with
    | none => simp [PyData.canLayAll0, PyData.depthAll, PyData.canLay0, PyData.depth, h1, h2]
    | bool b => simp [PyData.canLayAll0, PyData.depthAll, PyData.canLay0, PyData.depth, h1, h2]
    | int b => simp [PyData.canLayAll0, PyData.depthAll, PyData.canLay0, PyData.depth, h1, h2]
    | str b =>
      have hb : PyData.strOk b = true := h.1
      simp [PyData.canLayAll0, PyData.depthAll, PyData.canLay0, PyData.depth, h1, h2, hb]
    | _ => exact absurd h.1 (by simp [flatD])
theorem shaped_flat {ds : List PyData} (h : ds.all flatD = true) : SeqAt.shaped (.tuple ds) = true := by
  obtain ⟨h1, h2⟩ := flat_lay h
  unfold SeqAt.shaped
  simp [PyData.canLay0, PyData.depth, h1]
  omega
/-- all but p stands -/
def But (p : Addr) (H H' : Hp) : Prop := ∀ b o, H b = some o → b ≠ p → H' b = some o
theorem But.refl (p : Addr) (H : Hp) : But p H H := fun _ _ h _ => h
theorem But.trans {p : Addr} {H H1 H2 : Hp} (a : But p H H1) (b : But p H1 H2) : But p H H2 := fun c o h n => b c o (a c o h n) n
theorem But.upd {p : Addr} {H H' : Hp} {o : HO} (a : But p H H') : But p H (L2.upd H' p o) := fun c u h n => by rw [upd_ne n]; exact a c u h n
theorem But.new {p q : Addr} {H H' : Hp} {o : HO} (a : But p H H') (h : H' q = none) (hp : H q = none ∨ q ≠ p := by first | exact .inl ‹_› | exact .inr ‹_›) : But p H (L2.upd H' q o) := fun c u hc n => by
  rw [upd_ne]
  · exact a c u hc n
  · intro z
    subst z
    rw [a c u hc n] at h
    cases h
theorem But.at {p q : Addr} {H H' : Hp} {o : HO} (a : But p H H') (h : H q = none) : But p H (L2.upd H' q o) := fun c u hc n => by
  rw [upd_ne (ne_of_none hc h)]
  exact a c u hc n
theorem sameAt {q : Addr} {H H' : Hp} {o : HO} (a : Same H H') (h : H q = none) : Same H (L2.upd H' q o) := fun c u hc => by
  rw [upd_ne (ne_of_none hc h)]
  exact a c u hc
theorem But.same {p : Addr} {H H' : Hp} (a : Same H H') : But p H H' := fun c o h _ => a c o h
theorem Same.new {q : Addr} {H H' : Hp} {o : HO} (a : Same H H') (h : H' q = none) : Same H (upd H' q o) := fun c u hc => by
  rw [upd_ne (ne_of_none (a c u hc) h)]
  exact a c u hc
theorem But.seq {K : PySem.W.Frag} {p a : Addr} {H H' : Hp} {xs : List V} (e : But p H H') (hn : ∀ o, H p = some o → ∀ ys, o ≠ .lst ys → True) (h : H a = some (.lst xs)) (n : a ≠ p) : SqL K H' a xs := .of (e _ _ h n)
end Ash

set_option Elab.async false
set_option linter.all false
set_option maxRecDepth 100000
set_option maxHeartbeats 4000000
namespace Ash
open PySem PySem.Spec PyProof.Rows L2
open C8 (pss_cut)
/-- a stream of drawn numbers -/
def StAt (H : Hp) (p : Addr) : Prop := ∃ (c f n : Int), H p = some (.lst [.int c, .int f, .int n]) ∧ 0 ≤ c
theorem StAt.same {H H' : Hp} {p : Addr} (h : StAt H p) (e : Same H H') : StAt H' p := by
  obtain ⟨c, f, n, h1, h2⟩ := h
  exact ⟨c, f, n, e _ _ h1, h2⟩
theorem StAt.off {H : Hp} {p q : Addr} {o : HO} (h : StAt H p) (hp : q ≠ p) : StAt (L2.upd H q o) p := by
  obtain ⟨c, f, n, h1, h2⟩ := h
  exact ⟨c, f, n, by rw [upd_ne hp.symm]; exact h1, h2⟩
/-- from H0 to H nothing that was tracked has changed but the stream -/
structure Pl (H0 H : Hp) (p : Addr) : Prop where
  now : StAt H p
  op : H0 p ≠ none
  but : But p H0 H
section
variable {H0 H H1 : Hp} {p q : Addr} {o : HO}
theorem StAt.ne (h : StAt H p) : H p ≠ none := by
  obtain ⟨c, f, n, h1, h2⟩ := h
  rw [h1]
  exact Option.some_ne_none _
theorem Pl.refl (h : StAt H p) : Pl H H p := ⟨h, h.ne, But.refl p H⟩
theorem Pl.at (h : Pl H0 H p) (hq : H0 q = none) : Pl H0 (L2.upd H q o) p :=
  ⟨h.now.off (fun z => h.op (z ▸ hq)), h.op, h.but.at hq⟩
theorem Pl.keep (h : Pl H0 H p) {b : Addr} {u : HO} (e : H0 b = some u) (n : b ≠ p) : H b = some u := h.but b u e n
theorem Pl.free (h : Pl H0 H p) (hq : H q = none) : H0 q = none := by
  cases e : H0 q with
  | none => rfl
  | some u =>
    by_cases hp : q = p
    · exact absurd (hp ▸ hq) h.now.ne
    · rw [h.but q u e hp] at hq
      cases hq
theorem Pl.trans (a : Pl H0 H p) (b : Pl H H1 p) : Pl H0 H1 p := ⟨b.now, a.op, a.but.trans b.but⟩
/-- a new thing -/
theorem Pl.new (h : Pl H0 H p) (hq : H q = none) : Pl H0 (L2.upd H q o) p := h.at (h.free hq)
theorem Pl.same (h : Pl H0 H p) (e : Same H H1) : Pl H0 H1 p := ⟨h.now.same e, h.op, fun b u hb n => e b u (h.but b u hb n)⟩
end
theorem none_of {H H' : Hp} {q : Addr} (s : Same H H') (h : H' q = none) : H q = none := by
  cases e : H q with
  | none => rfl
  | some o => rw [s _ _ e] at h; cases h
theorem list_take {α : Type} {l : List α} {i : Nat} {x : α} (h : l[i]? = some x) : l.take (i + 1) = l.take i ++ [x] := by
  rw [List.take_add_one, h]
  rfl
theorem iteP {P Q : Prop} {b : Bool} (h : b = true) (p : P) : if b = true then P else Q := by
  rw [if_pos h]
  exact p
theorem iteN {P Q : Prop} {b : Bool} (h : b = false) (q : Q) : if b = true then P else Q := by
  rw [if_neg (by rw [h]; exact Bool.false_ne_true)]
  exact q
def spStream (K : PySem.W.Frag) : Sp := fun vs H Q _ => ∃ (a : Addr) (ns : List Int) (k : Nat), vs = [.ref a, .int k] ∧ k ≤ 3 ∧ SqL K H a (ns.map V.int) ∧ ns.length ≤ 63 ∧ ∀ p H', H p = none → StAt H' p → Same H H' → Q (.ref p) H'
def spDraw : Sp := fun vs H Q _ => ∃ (p : Addr) (many : Int), vs = [.ref p, .int many] ∧ StAt H p ∧ 0 < many ∧ many < 2 ^ 200 ∧ ∀ (d : Int) H', 0 ≤ d → d < many → Pl H H' p → Q (.int d) H'
section
variable {P : Program} {w : World} {K : PySem.W.Frag} {mg : Str → Option Value} {base : Heap}
abbrev s_l_stream : Stmt := topS 13
theorem sc_l_stream : FnScope ["script", "k", "cell"] ["script", "k"] (defScope s_l_stream) := ⟨rfl, rfl, rfl, by decide +kernel, rfl, by decide +kernel, by decide +kernel⟩
theorem ok_stream {f : Addr} {fd : FuncData} (F : Fun K "_law_stream" "_law_stream" s_l_stream f fd) (B : Blt mg) : FnOk P w K mg base CX0 1 f fd ["script", "k"] (spStream K) := by
  refine F.ok sc_l_stream (fun vs H Q E h => ?_) (fun cdv A outer s H vs Q E hr h => ?_)
  · obtain ⟨a, ns, k, rfl, _⟩ := h
    rfl
  · obtain ⟨a, ns, k, rfl, hk, hS, hn, q⟩ := h
    refine ⟨_, (pss_cons (ps_set (i := 2) sc_l_stream.nd rfl (Or.inl rfl) pe_int)
    (pss_cut (ps_if (pt_cmpR op_lt (pv 1) (pe_callB call_len_seq (by rfl) B.len (by decide +kernel) (pa_cons (pv 0) pa_nil)) (nomark _))
      (pss_one (ps_set (i := 2) sc_l_stream.nd rfl (Or.inl rfl) (pe_callB call_abs (by rfl) B.abs (by decide +kernel) (pa_cons (pe_ix ix_list (pv 0) (pv 1) (fun _ _ => rfl)) pa_nil))))
      pss_nil)
    (pss_one (ps_ret (pe_lst (pa_cons (pv 2) (pa_cons (pe_callTy call_int1 (by rfl) B.int (by decide +kernel) (pa_cons (pe_cmpR op_ge (pv 2) (pe_op op_pow pe_int pe_int) (nomark _)) pa_nil)) (pa_cons (pe_op op_mul pe_int (pv 1)) pa_nil)))))))), ?_⟩
    refine ⟨fun σ H1 => H1 = H ∧ ∃ c : Int, σ = [some (.ref a), some (.int k), some (.int c)] ∧ 0 ≤ c, ?_, ?_⟩
    · refine ⟨_, rfl, _, rfl, _, _, rfl, .inl hS, _, _, rfl, rfl, _, rfl, ?_⟩
      refine ite2 (fun c => ?_) (fun c => ⟨rfl, 0, rfl, by decide⟩)
      have c' : (k : Int) < (ns.map V.int).length := of_decide_eq_true c
      have hj : k < ns.length := by rw [List.length_map] at c'; omega
      refine ⟨_, rfl, _, rfl, _, _, _, V.int ns[k], rfl, rfl, hS, atI_nat (by rw [List.getElem?_map, List.getElem?_eq_getElem hj]; rfl), _, rfl, rfl, _, rfl, ?_⟩
      split <;> omega
    · rintro σ H1 ⟨rfl, c, rfl, hc⟩
      refine ⟨_, rfl, _, rfl, _, _, rfl, rfl, ⟨by decide, by decide, by decide⟩, _, _, rfl, rfl, .inr ⟨_, rfl, _, rfl, _, _, rfl, rfl, .inl ⟨by decide, by decide⟩, (by show 3 ≤ sizeLine; decide), fun p hp => ?_⟩⟩
      exact q p _ hp ⟨_, _, _, upd_same, hc⟩ (sameAt (Same.refl _) hp)
abbrev s_l_draw : Stmt := topS 14
theorem sc_l_draw : FnScope ["stream", "many", "digit", "mixed"] ["stream", "many"] (defScope s_l_draw) := ⟨rfl, rfl, rfl, by decide +kernel, rfl, by decide +kernel, by decide +kernel⟩
theorem ok_draw {f : Addr} {fd : FuncData} (F : Fun K "_law_draw" "_law_draw" s_l_draw f fd) (B : Blt mg) : FnOk P w K mg base CX0 1 f fd ["stream", "many"] spDraw := by
  refine F.ok sc_l_draw (fun vs H Q E h => ?_) (fun cdv A outer s H vs Q E hr h => ?_)
  · obtain ⟨p, many, rfl, _⟩ := h
    rfl
  · obtain ⟨p, many, rfl, hPP, hm, hm2, kk⟩ := h
    obtain ⟨c, fl, n, hp, hc⟩ := id hPP
    refine ⟨_, (pss_cons (ps_asg (pe_op op_add (pe_ix ix_list (pv 0) pe_int (fun _ _ => rfl)) pe_int) (pg_sub (pv 0) pe_int set_list))
    (pss_cons (ps_if (PW.pt (pw_and (pt_cmpR op_eq (pe_ix ix_list (pv 0) pe_int (fun _ _ => rfl)) pe_int (nomark _)) (pw_and1 (pt_cmpR op_gt (pe_ix ix_list (pv 0) pe_int (fun _ _ => rfl)) pe_int (nomark _)))))
      (pss_cons (ps_set (i := 2) sc_l_draw.nd rfl (Or.inl rfl) (pe_op op_mod (pe_callTy call_intI (by rfl) B.int (by decide +kernel) (pa_cons (pe_ix ix_list (pv 0) pe_int (fun _ _ => rfl)) pa_nil)) (pv 1)))
      (pss_cons (ps_asg (pe_op op_fdivW (pe_callTy call_intI (by rfl) B.int (by decide +kernel) (pa_cons (pe_ix ix_list (pv 0) pe_int (fun _ _ => rfl)) pa_nil)) (pv 1)) (pg_sub (pv 0) pe_int set_list))
      (pss_one (ps_ret (pv 2)))))
      pss_nil)
    (pss_cons (ps_set (i := 3) sc_l_draw.nd rfl (Or.inl rfl) (pe_op op_mod (pe_callTy call_intI (by rfl) B.int (by decide +kernel) (pa_cons (pe_op op_mul (pe_op op_add (pe_op op_add (pe_ix ix_list (pv 0) pe_int (fun _ _ => rfl)) (pe_op op_mul pe_int (pe_ix ix_list (pv 0) pe_int (fun _ _ => rfl)))) pe_int) pe_int) pa_nil)) pe_int))
    (pss_cons (ps_set (i := 3) sc_l_draw.nd rfl (Or.inl rfl) (pe_op op_mod (pe_callTy call_intI (by rfl) B.int (by decide +kernel) (pa_cons (pe_op op_mul (pv 3) (pe_op op_add (pe_op op_fdiv (pv 3) pe_int) pe_int)) pa_nil)) pe_int))
    (pss_cons (ps_set (i := 3) sc_l_draw.nd rfl (Or.inl rfl) (pe_op op_mod (pe_callTy call_intI (by rfl) B.int (by decide +kernel) (pa_cons (pe_op op_mul (pv 3) (pe_op op_add (pe_op op_fdiv (pv 3) pe_int) pe_int)) pa_nil)) pe_int))
    (pss_one (ps_ret (pe_op op_mod (pe_callTy call_intI (by rfl) B.int (by decide +kernel) (pa_cons (pe_op op_fdiv (pv 3) pe_int) pa_nil)) (pv 1))))))))), ?_⟩
    refine ⟨_, rfl, _, _, _, _, rfl, rfl, SqL.of hp, rfl, _, _, rfl, rfl, _, rfl, _, _, _, _, rfl, rfl, hp, rfl, ?_⟩
    generalize eH : upd H p (.lst _) = H1
    have hp1 : H1 p = some (.lst [.int c, .int fl, .int (n + 1)]) := by rw [← eH]; exact upd_same
    have hb1 : But p H H1 := by rw [← eH]; exact (But.refl p H).upd
    clear eH
    refine ⟨_, rfl, _, _, _, _, rfl, rfl, SqL.of hp1, rfl, rfl, _, rfl, ?_⟩
    refine ite2 (fun c1 => ⟨_, rfl, _, _, _, _, rfl, rfl, SqL.of hp1, rfl, _, _, rfl, rfl, _, rfl, ?_⟩) (fun c1 => iteF ?_)
    · refine ite2 (fun c2 => ?_) (fun c2 => ?_)
      · refine ⟨_, rfl, _, _, _, _, rfl, rfl, SqL.of hp1, rfl, _, rfl, _, rfl, _, _, rfl, rfl, hm, _, rfl, _, _, _, _, rfl, rfl, SqL.of hp1, rfl, _, rfl, _, rfl, _, _, rfl, rfl, wide_div (b := 200) hm (by omega) (by decide) (by decide), _, rfl, _, _, _, _, rfl, rfl, hp1, rfl, _, rfl, ?_⟩
        exact kk _ _ (Int.emod_nonneg _ (by omega)) (Int.emod_lt_of_pos _ hm) ⟨⟨_, _, _, upd_same, Int.ediv_nonneg hc (Int.le_of_lt hm)⟩, hPP.ne, hb1.upd⟩
      · skip
        refine ⟨_, rfl, _, _, _, _, rfl, rfl, SqL.of hp1, rfl, _, rfl, _, _, _, _, rfl, rfl, SqL.of hp1, rfl, _, _, rfl, rfl, .inl ⟨by decide, by decide⟩, _, _, rfl, rfl, _, _, rfl, rfl, _, _, rfl, rfl, .inr ⟨by decide, by decide⟩, _, rfl, _, _, rfl, rfl, (by show (0 : Int) < 2147483647; decide), ?_⟩
        generalize ea : (c + 7919 * (n + 1) + 1) * 48271 % 2147483647 = a
        have a0 : 0 ≤ a := by rw [← ea]; exact Int.emod_nonneg _ (by decide)
        have a1 : a < 2147483647 := by rw [← ea]; exact Int.emod_lt_of_pos _ (by decide)
        refine ⟨_, rfl, _, rfl, _, _, rfl, rfl, ⟨by decide, by decide⟩, _, _, rfl, rfl, _, _, rfl, rfl, .inl ⟨by omega, by omega⟩, _, rfl, _, _, rfl, rfl, (by show (0 : Int) < 2147483647; decide), ?_⟩
        generalize eb : a * (a / 1009 + 69621) % 2147483647 = b
        have b0 : 0 ≤ b := by rw [← eb]; exact Int.emod_nonneg _ (by decide)
        have b1 : b < 2147483647 := by rw [← eb]; exact Int.emod_lt_of_pos _ (by decide)
        refine ⟨_, rfl, _, rfl, _, _, rfl, rfl, ⟨by decide, by decide⟩, _, _, rfl, rfl, _, _, rfl, rfl, .inl ⟨by omega, by omega⟩, _, rfl, _, _, rfl, rfl, (by show (0 : Int) < 2147483399; decide), ?_⟩
        refine ⟨_, rfl, _, _, rfl, rfl, ⟨by decide, by decide⟩, _, rfl, _, rfl, _, _, rfl, rfl, hm, ?_⟩
        exact kk _ _ (Int.emod_nonneg _ (by omega)) (Int.emod_lt_of_pos _ hm) ⟨⟨_, _, _, hp1, hc⟩, hPP.ne, hb1⟩
    · skip
      refine ⟨_, rfl, _, _, _, _, rfl, rfl, SqL.of hp1, rfl, _, rfl, _, _, _, _, rfl, rfl, SqL.of hp1, rfl, _, _, rfl, rfl, .inl ⟨by decide, by decide⟩, _, _, rfl, rfl, _, _, rfl, rfl, _, _, rfl, rfl, .inr ⟨by decide, by decide⟩, _, rfl, _, _, rfl, rfl, (by show (0 : Int) < 2147483647; decide), ?_⟩
      generalize ea : (c + 7919 * (n + 1) + 1) * 48271 % 2147483647 = a
      have a0 : 0 ≤ a := by rw [← ea]; exact Int.emod_nonneg _ (by decide)
      have a1 : a < 2147483647 := by rw [← ea]; exact Int.emod_lt_of_pos _ (by decide)
      refine ⟨_, rfl, _, rfl, _, _, rfl, rfl, ⟨by decide, by decide⟩, _, _, rfl, rfl, _, _, rfl, rfl, .inl ⟨by omega, by omega⟩, _, rfl, _, _, rfl, rfl, (by show (0 : Int) < 2147483647; decide), ?_⟩
      generalize eb : a * (a / 1009 + 69621) % 2147483647 = b
      have b0 : 0 ≤ b := by rw [← eb]; exact Int.emod_nonneg _ (by decide)
      have b1 : b < 2147483647 := by rw [← eb]; exact Int.emod_lt_of_pos _ (by decide)
      refine ⟨_, rfl, _, rfl, _, _, rfl, rfl, ⟨by decide, by decide⟩, _, _, rfl, rfl, _, _, rfl, rfl, .inl ⟨by omega, by omega⟩, _, rfl, _, _, rfl, rfl, (by show (0 : Int) < 2147483399; decide), ?_⟩
      refine ⟨_, rfl, _, _, rfl, rfl, ⟨by decide, by decide⟩, _, rfl, _, rfl, _, _, rfl, rfl, hm, ?_⟩
      exact kk _ _ (Int.emod_nonneg _ (by omega)) (Int.emod_lt_of_pos _ hm) ⟨⟨_, _, _, hp1, hc⟩, hPP.ne, hb1⟩
end
end Ash

set_option Elab.async false
set_option linter.all false
set_option maxRecDepth 100000
set_option maxHeartbeats 4000000
set_option pp.maxSteps 1500
namespace Ash
open PySem PySem.Spec PyProof.Rows L2
open C8 (pss_cut)
/-! ### the law's draws -/
def flds (w : Str) : List Str := if w = "row" then ["id", "stream", "key", "moment", "amount", "arrival"] else if w = "fix" then ["id", "moment", "amount", "arrival"] else ["id", "arrival"]
theorem flds_len (w : Str) : (flds w).length ≤ 6 := by unfold flds; split; · decide
                                                       split <;> decide
def spFields : Sp := fun vs H Q _ => ∃ w : Str, vs = [.str w] ∧ ∀ l H', H l = none → H' l = some (.lst ((flds w).map V.str)) → Same H H' → Q (.ref l) H'
def spOrder : Sp := fun vs H Q _ => ∃ (p a : Addr) (xs : List Str), vs = [.ref p, .ref a] ∧ StAt H p ∧ a ≠ p ∧ H a = some (.lst (xs.map V.str)) ∧ xs.length ≤ 6 ∧
  ∀ l (ys : List Str) H', H l = none → H' l = some (.lst (ys.map V.str)) → ys.Perm xs → Pl H H' p → Q (.ref l) H'
/-- the signs of a text -/
def okC (c : Nat) : Bool := decide (32 ≤ c) && decide (c ≤ 126)
def okS (z : Str) : Bool := z.cps.toList.all okC
section
variable {P : Program} {w : World} {K : PySem.W.Frag} {mg : Str → Option Value} {base : Heap}
abbrev s_l_fields : Stmt := topS 15
theorem sc_l_fields : FnScope ["word"] ["word"] (defScope s_l_fields) := ⟨rfl, rfl, rfl, by decide +kernel, rfl, by decide +kernel, by decide +kernel⟩
theorem ok_fields {f : Addr} {fd : FuncData} (F : Fun K "_law_fields" "_law_fields" s_l_fields f fd) (B : Blt mg) : FnOk P w K mg base CX0 1 f fd ["word"] spFields := by
  refine F.ok sc_l_fields (fun vs H Q E h => ?_) (fun cdv A outer s H vs Q E hr h => ?_)
  · obtain ⟨w, rfl, _⟩ := h
    rfl
  · obtain ⟨z, rfl, q⟩ := h
    refine ⟨_, (pss_cons (ps_if (pt_cmpR op_eq (pv 0) pe_str (nomark _))
      (pss_one (ps_ret (pe_lst (pa_cons pe_str (pa_cons pe_str (pa_cons pe_str (pa_cons pe_str (pa_cons pe_str (pa_cons pe_str pa_nil)))))))))
      pss_nil)
    (pss_cons (ps_if (pt_cmpR op_eq (pv 0) pe_str (nomark _))
      (pss_one (ps_ret (pe_lst (pa_cons pe_str (pa_cons pe_str (pa_cons pe_str (pa_cons pe_str pa_nil)))))))
      pss_nil)
    (pss_one (ps_ret (pe_lst (pa_cons pe_str (pa_cons pe_str pa_nil))))))), ?_⟩
    refine ⟨_, rfl, rfl, _, rfl, ?_⟩
    refine ite2 (fun c => ?_) (fun c => ?_)
    · have e : z = "row" := V.str.inj (of_decide_eq_true c)
      subst e
      exact ⟨(by show 6 ≤ sizeLine; decide), fun l hl => q l _ hl upd_same (sameAt (Same.refl _) hl)⟩
    · have e1 : ¬ z = "row" := fun e => c (by rw [e]; exact decide_eq_true rfl)
      refine ⟨_, rfl, rfl, _, rfl, ?_⟩
      refine ite2 (fun c => ?_) (fun c => ?_)
      · have e : z = "fix" := V.str.inj (of_decide_eq_true c)
        subst e
        exact ⟨(by show 4 ≤ sizeLine; decide), fun l hl => q l _ hl upd_same (sameAt (Same.refl _) hl)⟩
      · have e2 : ¬ z = "fix" := fun e => c (by rw [e]; exact decide_eq_true rfl)
        refine ⟨(by show 2 ≤ sizeLine; decide), fun l hl => q l _ hl ?_ (sameAt (Same.refl _) hl)⟩
        rw [upd_same]
        unfold flds
        rw [if_neg e1, if_neg e2]
        rfl
def CDraw (P : Program) (w : World) (K : PySem.W.Frag) (mg : Str → Option Value) (base : Heap) : Prop := Cal P w K mg base CX0 "_law_draw" 1 ["stream", "many"] spDraw
structure G1 (P : Program) (w : World) (K : PySem.W.Frag) (mg : Str → Option Value) (base : Heap) : Prop where
  law_draw : CDraw P w K mg base
abbrev s_l_order : Stmt := topS 16
theorem sc_l_order : FnScope ["stream", "items", "found", "item"] ["stream", "items"] (defScope s_l_order) := ⟨rfl, rfl, rfl, by decide +kernel, rfl, by decide +kernel, by decide +kernel⟩
theorem ok_order {f : Addr} {fd : FuncData} (F : Fun K "_law_order" "_law_order" s_l_order f fd) (B : Blt mg) (G : G1 P w K mg base) : FnOk P w K mg base CX0 2 f fd ["stream", "items"] spOrder := by
  refine F.ok sc_l_order (fun vs H Q E h => ?_) (fun cdv A outer s H vs Q E hr h => ?_)
  · obtain ⟨p, a, xs, rfl, _⟩ := h
    rfl
  · obtain ⟨p, a, xs, rfl, hP, hap, ha, hx, q⟩ := h
    refine ⟨_, (pss_cons (ps_set (i := 2) sc_l_order.nd rfl (Or.inl rfl) (pe_lst pa_nil))
    (pss_cons (ps_for PassesOwn.never rfl (pi_list (pv 1)) (pg_name (i := 3) sc_l_order.nd rfl (Or.inl rfl))
      (pss_one (ps_expr (pe_bm PySem.F.plainAttrs_list PySem.F.slot_list_insert PySem.F.type_list_insert mt_insert (pv 2) (pa_cons (pe_cal G.law_draw (hr.mono (by decide)) pass0 (pa_cons (pv 0) (pa_cons (pe_op op_add (pe_callB call_len (by rfl) B.len (by decide +kernel) (pa_cons (pv 2) pa_nil)) pe_int) pa_nil))) (pa_cons (pv 3) pa_nil))))))
    (pss_one (ps_ret (pv 2))))), ?_⟩
    refine ⟨(by show 0 ≤ sizeLine; decide), fun l hl => ?_⟩
    have hlp : l ≠ p := fun z => hP.ne (z ▸ hl)
    have hla : l ≠ a := fun z => by rw [z, ha] at hl; cases hl
    have P0 := (Pl.refl hP).new (o := .lst []) hl
    have ha0 : upd H l (.lst []) a = some (.lst (xs.map V.str)) := by rw [upd_ne hla.symm]; exact ha
    refine ⟨_, rfl, a, rfl, ⟨_, SqL.of ha0⟩, ?_⟩
    refine for_it (walk_list (K := K) (a := a) (xs := xs.map V.str)) (fun i σ H1 => (∃ x3, σ = [some (.ref p), some (.ref a), some (.ref l), x3]) ∧ Pl H H1 p ∧ ∃ ys : List Str, H1 l = some (.lst (ys.map V.str)) ∧ ys.Perm (xs.take i)) ⟨⟨_, rfl⟩, P0, [], upd_same, .nil⟩ (fun i σ H1 _ hv => SqL.of (hv.2.1.keep ha hap)) ?_ ?_
    · rintro i y σ H1 _ hi ⟨⟨x3, rfl⟩, P1, ys, hl1, hp⟩ ⟨rfl, hy⟩
      rw [List.getElem?_map] at hy
      obtain ⟨z, hz, rfl⟩ := Option.map_eq_some_iff.mp hy
      have yl : ys.length ≤ 6 := by
        have := hp.length_eq
        rw [List.length_take] at this
        omega
      refine ⟨_, rfl, .inl ⟨rfl, _, SqL.of hl1⟩, _, rfl, _, rfl, _, _, rfl, .inl ⟨_, SqL.of hl1, rfl⟩, _, _, rfl, rfl, p, _, rfl, P1.now, (by omega), Int.lt_of_le_of_lt (show ((ys.map V.str).length : Int) + 1 ≤ 7 by rw [List.length_map]; omega) (by decide), fun d H2 d0 d1 P2 => ?_⟩
      rw [List.length_map] at d1
      have hl2 := P2.keep hl1 hlp
      refine ⟨_, rfl, l, _, d, _, rfl, rfl, hl2, (by rw [List.length_map]; exact small1000 (by omega)), d0, Int.lt_of_lt_of_le d1 (by omega), ⟨_, rfl⟩, (P1.trans P2).at hl, ys.take d.toNat ++ [z] ++ ys.drop d.toNat, ?_, ?_⟩
      · rw [upd_same, List.map_append, List.map_append, List.map_take, List.map_drop]
        rfl
      · rw [list_take hz, List.append_assoc]
        refine List.perm_middle.trans ?_
        show (z :: (ys.take d.toNat ++ ys.drop d.toNat)).Perm _
        rw [List.take_append_drop]
        exact (List.Perm.cons z hp).trans (List.perm_append_singleton z _).symm
    · rintro σ H1 ⟨⟨x3, rfl⟩, P1, ys, hl1, hp⟩
      rw [List.length_map, List.take_length] at hp
      exact ⟨_, rfl, q l ys H1 hl hl1 hp P1⟩
def spMark : Sp := fun vs H Q _ => ∃ (p : Addr) (sg : Str) (most : Int), vs = [.ref p, .str sg, .int most] ∧ StAt H p ∧ okS sg = true ∧ 1 ≤ sg.length ∧ sg.length ≤ 200 ∧ 1 ≤ most ∧ most ≤ 6 ∧
  ∀ (z : Str) H', 1 ≤ z.length → z.length ≤ 6 → okS z = true → Pl H H' p → Q (.str z) H'
def spSigns : Sp := fun vs H Q _ => vs = [] ∧ ∀ sg : Str, okS sg = true → 1 ≤ sg.length → sg.length ≤ 200 → Q (.str sg) H
theorem okS_app {a b : Str} : okS (a ++ b) = (okS a && okS b) := by
  show ((a ++ b).cps.toList.all okC) = _
  rw [show (a ++ b).cps.toList = a.cps.toList ++ b.cps.toList from Array.toList_append .., List.all_append]
  rfl
theorem len_app (a b : Str) : (a ++ b).length = a.length + b.length := by
  show (a.cps ++ b.cps).size = _
  rw [Array.size_append]
  rfl
abbrev s_l_mark : Stmt := topS 17
theorem sc_l_mark : FnScope ["stream", "signs", "most", "text", "k"] ["stream", "signs", "most"] (defScope s_l_mark) := ⟨rfl, rfl, rfl, by decide +kernel, rfl, by decide +kernel, by decide +kernel⟩
theorem ok_mark {f : Addr} {fd : FuncData} (F : Fun K "_law_mark" "_law_mark" s_l_mark f fd) (B : Blt mg) (G : G1 P w K mg base) : FnOk P w K mg base CX0 2 f fd ["stream", "signs", "most"] spMark := by
  refine F.ok sc_l_mark (fun vs H Q E h => ?_) (fun cdv A outer s H vs Q E hr h => ?_)
  · obtain ⟨p, sg, most, rfl, _⟩ := h
    rfl
  · obtain ⟨p, sg, most, rfl, hP, ok, s1, s2, m1, m6, q⟩ := h
    refine ⟨_, (pss_cons (ps_set (i := 3) sc_l_mark.nd rfl (Or.inl rfl) pe_str)
    (pss_cons (ps_for PassesOwn.never rfl (pi_range1 (by rfl) B.range (pa_cons (pe_op op_add pe_int (pe_cal G.law_draw (hr.mono (by decide)) pass0 (pa_cons (pv 0) (pa_cons (pv 2) pa_nil)))) pa_nil)) (pg_name (i := 4) sc_l_mark.nd rfl (Or.inl rfl))
      (pss_one (ps_set (i := 3) sc_l_mark.nd rfl (Or.inl rfl) (pe_op op_add_str (pv 3) (pe_ix ix_str (pv 1) (pe_cal G.law_draw (hr.mono (by decide)) pass0 (pa_cons (pv 0) (pa_cons (pe_callB call_len_str (by rfl) B.len (by decide +kernel) (pa_cons (pv 1) pa_nil)) pa_nil))) (fun _ _ => rfl))))))
    (pss_one (ps_ret (pv 3))))), ?_⟩
    have sl : sg.length ≤ sizeLine := by rw [sizeLine_eq]; omega
    refine ⟨_, rfl, _, rfl, p, most, rfl, hP, (by omega), Int.lt_of_le_of_lt m6 (by decide), fun d H1 d0 d1 P1 => ?_⟩
    refine ⟨_, _, rfl, rfl, _, rfl, (by omega), (by omega), for_range (n := (1 + d).toNat) (fun i σ H2 => (∃ (z : Str) (x4 : Option V), σ = [some (.ref p), some (.str sg), some (.int most), some (.str z), x4] ∧ z.length = i ∧ okS z = true) ∧ Pl H H2 p) ⟨⟨_, _, rfl, rfl, rfl⟩, P1⟩ ?_ ?_⟩
    · rintro i σ H2 hi ⟨⟨z, x4, rfl, zl, zo⟩, P2⟩
      refine ⟨_, rfl, _, rfl, _, rfl, _, rfl, _, rfl, sl, p, _, rfl, P2.now, (by omega), Int.lt_of_le_of_lt (show (sg.length : Int) ≤ 200 by omega) (by decide), fun e H3 e0 e1 P3 => ?_⟩
      obtain ⟨j, rfl⟩ : ∃ j : Nat, e = (j : Int) := ⟨e.toNat, by omega⟩
      have hj : j < sg.cps.size := by have : j < sg.length := by omega
                                      exact this
      have hc : sg.cps.toList[j]? = some sg.cps[j] := by rw [Array.getElem?_toList]; exact Array.getElem?_eq_getElem hj
      have oc : okC sg.cps[j] = true := List.all_eq_true.mp ok _ (List.mem_of_getElem? hc)
      refine ⟨sg, j, sg.cps[j], rfl, rfl, sl, atI_nat hc, z, _, rfl, rfl, (by rw [sizeLine_eq, zl]; show i + 1 ≤ _; omega), ⟨_, _, rfl, (by rw [len_app, zl]; rfl), ?_⟩, P2.trans P3⟩
      rw [okS_app, zo]
      show (okC sg.cps[j] && true) = true
      rw [oc]
      rfl
    · rintro σ H2 ⟨⟨z, x4, rfl, zl, zo⟩, P2⟩
      exact ⟨_, rfl, q z H2 (by omega) (by omega) zo P2⟩
abbrev s_l_signs : Stmt := topS 18
theorem sc_l_signs : FnScope ["low"] [] (defScope s_l_signs) := ⟨rfl, rfl, rfl, by decide +kernel, rfl, by decide +kernel, by decide +kernel⟩
theorem ok_signs {f : Addr} {fd : FuncData} (F : Fun K "_law_signs" "_law_signs" s_l_signs f fd) (B : Blt mg) : FnOk P w K mg base CX0 1 f fd [] spSigns := by
  refine F.ok sc_l_signs (fun vs H Q E h => ?_) (fun cdv A outer s H vs Q E hr h => ?_)
  · obtain ⟨rfl, _⟩ := h
    rfl
  · obtain ⟨rfl, q⟩ := h
    refine ⟨_, (pss_cons (ps_set (i := 0) sc_l_signs.nd rfl (Or.inl rfl) pe_str)
    (pss_one (ps_ret (pe_op op_add_str (pv 0) pe_str)))), ?_⟩
    exact ⟨_, rfl, _, _, rfl, rfl, (by decide +kernel), q _ (by decide +kernel) (by decide +kernel) (by decide +kernel)⟩
end
end Ash

set_option Elab.async false
set_option linter.all false
set_option maxRecDepth 100000
set_option maxHeartbeats 4000000
set_option pp.maxSteps 1500
namespace Ash
open PySem PySem.Spec PyProof.Rows L2
open C8 (pss_cut)
/-! ### pieces of shapes, good ones and odd ones -/
/-- all stands, but lists and dicts, which stay what they are -/
def Ev (H H' : Hp) : Prop := ∀ b o, H b = some o → H' b = some o ∨ (∃ xs ys, o = .lst xs ∧ H' b = some (.lst ys)) ∨ ∃ ks ls, o = .dK ks ∧ H' b = some (.dK ls)
theorem Ev.refl (H : Hp) : Ev H H := fun _ _ h => .inl h
theorem Ev.trans {H H1 H2 : Hp} (a : Ev H H1) (b : Ev H1 H2) : Ev H H2 := fun c o h => by
  rcases a c o h with h1 | ⟨xs, ys, e, h1⟩ | ⟨xs, ys, e, h1⟩
  · exact b c o h1
  · rcases b c _ h1 with h2 | ⟨_, zs, _, h2⟩ | ⟨_, _, q, _⟩
    · exact .inr (.inl ⟨xs, ys, e, h2⟩)
    · exact .inr (.inl ⟨xs, zs, e, h2⟩)
    · cases q
  · rcases b c _ h1 with h2 | ⟨_, _, q, _⟩ | ⟨_, zs, _, h2⟩
    · exact .inr (.inr ⟨xs, ys, e, h2⟩)
    · cases q
    · exact .inr (.inr ⟨xs, zs, e, h2⟩)
theorem Ev.same {H H' : Hp} (s : Same H H') : Ev H H' := fun b o h => .inl (s b o h)
theorem Ev.updL {H H' : Hp} {a : Addr} {xs ys : List V} (e : Ev H H') (h : H' a = some (.lst xs)) : Ev H (upd H' a (.lst ys)) := e.trans fun b o hb => by
  by_cases q : b = a
  · rw [q, h] at hb
    exact .inr (.inl ⟨xs, ys, (Option.some.inj hb).symm, by rw [q, upd_same]⟩)
  · exact .inl (by rw [upd_ne q]; exact hb)
theorem Ev.updD {H H' : Hp} {a : Addr} {xs ys : List (Key × V)} (e : Ev H H') (h : H' a = some (.dK xs)) : Ev H (upd H' a (.dK ys)) := e.trans fun b o hb => by
  by_cases q : b = a
  · rw [q, h] at hb
    exact .inr (.inr ⟨xs, ys, (Option.some.inj hb).symm, by rw [q, upd_same]⟩)
  · exact .inl (by rw [upd_ne q]; exact hb)
theorem Ev.new {H H' : Hp} {a : Addr} {o : HO} (e : Ev H H') (h : H' a = none) : Ev H (upd H' a o) := e.trans (Ev.same fun b u hb => by rw [upd_ne (ne_of_none hb h)]; exact hb)
theorem Ev.ne {H H' : Hp} {a : Addr} (e : Ev H H') (h : H' a = none) : H a = none := by
  cases q : H a with
  | none => rfl
  | some o =>
    rcases e a o q with h1 | ⟨_, _, _, h1⟩ | ⟨_, _, _, h1⟩ <;> rw [h1] at h <;> cases h
theorem Ev.tup {H H' : Hp} {a : Addr} {xs : List V} (e : Ev H H') (h : H a = some (.tup xs)) : H' a = some (.tup xs) := by
  rcases e a _ h with h1 | ⟨_, _, q, _⟩ | ⟨_, _, q, _⟩
  · exact h1
  · cases q
  · cases q
theorem Ev.pl {H H' : Hp} {p : Addr} (h0 : StAt H p) (h : Pl H H' p) : Ev H H' := fun b o hb => by
  by_cases q : b = p
  · obtain ⟨c, f, n, h1, _⟩ := h0
    obtain ⟨c', f', n', h2, _⟩ := h.now
    rw [q, h1] at hb
    exact .inr (.inl ⟨_, _, (Option.some.inj hb).symm, by rw [q, h2]⟩)
  · exact .inl (h.keep hb q)
theorem tyx_ev {K : PySem.W.Frag} {H H' : Hp} {v : V} {t : Value} (h : TyX K H v t) (s : Ev H H') : TyX K H' v t := by
  have k : ∀ {b o}, H b = some o → (∀ xs, o ≠ .lst xs) → (∀ xs, o ≠ .dK xs) → H' b = some o := fun {b o} hb n m => by
    rcases s b o hb with h1 | ⟨xs, _, q, _⟩ | ⟨xs, _, q, _⟩
    · exact h1
    · exact absurd q (n xs)
    · exact absurd q (m xs)
  cases h with
  | base b =>
    refine .base ?_
    cases b with
    | non => exact .non
    | bl x => exact .bl x
    | int x => exact .int x
    | str x => exact .str x
    | flt x => exact .flt x
    | lst e =>
      rcases s _ _ e with h1 | ⟨_, _, _, h1⟩ | ⟨_, _, q, _⟩
      · exact .lst h1
      · exact .lst h1
      · cases q
    | frz e => exact .frz (k e (fun _ z => by cases z) (fun _ z => by cases z))
    | tup e => exact .tup (k e (fun _ z => by cases z) (fun _ z => by cases z))
    | dK e =>
      rcases s _ _ e with h1 | ⟨_, _, q, _⟩ | ⟨_, _, _, h1⟩
      · exact .dK h1
      · cases q
      · exact .dK h1
    | dT e => exact .dT (k e (fun _ z => by cases z) (fun _ z => by cases z))
    | ins e c a b d f => exact .ins (k e (fun _ z => by cases z) (fun _ z => by cases z)) c a b d f
  | byt b => exact .byt b
  | set e => exact .set (k e (fun _ z => by cases z) (fun _ z => by cases z))
  | kList e c => exact .kList e c
  | kTuple e c => exact .kTuple e c
  | kDict e c => exact .kDict e c
  | fTuple e => exact .fTuple (k e (fun _ z => by cases z) (fun _ z => by cases z))
  | fDict e => exact .fDict (k e (fun _ z => by cases z) (fun _ z => by cases z))
/-- a piece: no tuple; a tuple of another length; a pair whose second is no string; a pair of None and a string; a pair of strings -/
inductive Pc
  | no | len | snd (w : Str) | fst (s : Str) | pr (w s : Str)
/-- a text that may be compared -/
def okT (s : Str) : Prop := s.length ≤ 100 ∧ PyData.strOk s = true
def PcAt (K : PySem.W.Frag) (H : Hp) (v : V) : Pc → Prop
  | .no => ∃ t, TyX K H v t ∧ PySem.W.kitOne K t (.type "tuple") = some false
  | .len => ∃ a xs, v = .ref a ∧ H a = some (.tup xs) ∧ xs.length ≠ 2
  | .snd w => ∃ a y t, v = .ref a ∧ H a = some (.tup [.str w, y]) ∧ TyX K H y t ∧ PySem.W.kitOne K t (.type "str") = some false
  | .fst s => ∃ a, v = .ref a ∧ H a = some (.tup [.non, .str s])
  | .pr w s => ∃ a, v = .ref a ∧ H a = some (.tup [.str w, .str s]) ∧ okT s
theorem PcAt.ev {K : PySem.W.Frag} {H H' : Hp} {v : V} {p : Pc} (h : PcAt K H v p) (e : Ev H H') : PcAt K H' v p := by
  cases p with
  | no => obtain ⟨t, h1, h2⟩ := h; exact ⟨t, tyx_ev h1 e, h2⟩
  | len => obtain ⟨a, xs, h1, h2, h3⟩ := h; exact ⟨a, xs, h1, e.tup h2, h3⟩
  | snd w => obtain ⟨a, y, t, h1, h2, h3, h4⟩ := h; exact ⟨a, y, t, h1, e.tup h2, tyx_ev h3 e, h4⟩
  | fst s => obtain ⟨a, h1, h2⟩ := h; exact ⟨a, h1, e.tup h2⟩
  | pr w s => obtain ⟨a, h1, h2, h3⟩ := h; exact ⟨a, h1, e.tup h2, h3⟩
/-- pieces in a row -/
inductive PcsAt (K : PySem.W.Frag) (H : Hp) : List V → List Pc → Prop
  | nil : PcsAt K H [] []
  | cons {v : V} {p : Pc} {us : List V} {ps : List Pc} : PcAt K H v p → PcsAt K H us ps → PcsAt K H (v :: us) (p :: ps)
namespace PcsAt
variable {K : PySem.W.Frag} {H H' : Hp}
theorem ev : ∀ {us : List V} {ps : List Pc}, PcsAt K H us ps → Ev H H' → PcsAt K H' us ps
  | _, _, .nil, _ => .nil
  | _, _, .cons h t, e => .cons (h.ev e) (t.ev e)
theorem len : ∀ {us : List V} {ps : List Pc}, PcsAt K H us ps → us.length = ps.length
  | _, _, .nil => rfl
  | _, _, .cons _ t => by rw [List.length_cons, List.length_cons, t.len]
theorem app : ∀ {us vs : List V} {ps qs : List Pc}, PcsAt K H us ps → PcsAt K H vs qs → PcsAt K H (us ++ vs) (ps ++ qs)
  | _, _, _, _, .nil, b => b
  | _, _, _, _, .cons h t, b => .cons h (t.app b)
theorem take : ∀ {us : List V} {ps : List Pc} (n : Nat), PcsAt K H us ps → PcsAt K H (us.take n) (ps.take n)
  | _, _, 0, _ => .nil
  | _, _, _ + 1, .nil => .nil
  | _, _, n + 1, .cons h t => .cons h (t.take n)
theorem drop : ∀ {us : List V} {ps : List Pc} (n : Nat), PcsAt K H us ps → PcsAt K H (us.drop n) (ps.drop n)
  | _, _, 0, h => h
  | _, _, _ + 1, .nil => .nil
  | _, _, n + 1, .cons _ t => t.drop n
theorem get : ∀ {us : List V} {ps : List Pc} {i : Nat} {v : V}, PcsAt K H us ps → us[i]? = some v → ∃ p, ps[i]? = some p ∧ PcAt K H v p
  | _, _, _, _, .nil, h => by simp at h
  | _, _, 0, _, .cons h _, e => by
    cases Option.some.inj (show some _ = some _ from e)
    exact ⟨_, rfl, h⟩
  | _, _, i + 1, _, .cons _ t, e => t.get (i := i) e
theorem one {v : V} {p : Pc} (h : PcAt K H v p) : PcsAt K H [v] [p] := .cons h .nil
theorem rep {v : V} {p : Pc} (h : PcAt K H v p) : ∀ n : Nat, PcsAt K H (List.replicate n v) (List.replicate n p)
  | 0 => .nil
  | n + 1 => .cons h (rep h n)
end PcsAt
/-- a text of a mark -/
def mkB (z : Str) : Bool := decide (1 ≤ z.length) && decide (z.length ≤ 6) && okS z
/-- the fields of pieces that are all good -/
def pcF : Pc → Option (List Str)
  | .pr w s => if w = "field" then some [s] else if w = "mark" ∧ mkB s = true then some [] else none
  | _ => none
def pcsF : List Pc → Option (List Str)
  | [] => some []
  | p :: ps => match pcF p, pcsF ps with
    | some a, some b => some (a ++ b)
    | _, _ => none
/-- a shape: a row of pieces, or something else -/
inductive Sh
  | row (ps : List Pc) | no
def Sh.good (w : Str) : Sh → Prop
  | .row ps => 1 ≤ ps.length ∧ ps.length ≤ 15 ∧ ∃ fs, pcsF ps = some fs ∧ fs.Perm (flds w)
  | .no => False
def ShAt (K : PySem.W.Frag) (H : Hp) (v : V) : Sh → Prop
  | .row ps => ∃ a us, v = .ref a ∧ (H a = some (.lst us) ∨ H a = some (.tup us)) ∧ PcsAt K H us ps ∧ ps.length ≤ 20
  | .no => ∃ t, TyX K H v t ∧ PySem.W.kitAny K t [.type "list", .type "tuple"] = some false
end Ash

set_option Elab.async false
set_option linter.all false
set_option maxRecDepth 100000
set_option maxHeartbeats 4000000
set_option pp.maxSteps 1500
namespace Ash
open PySem PySem.Spec PyProof.Rows L2
open C8 (pss_cut)
theorem pcsF_app : ∀ {ps qs : List Pc} {a b : List Str}, pcsF ps = some a → pcsF qs = some b → pcsF (ps ++ qs) = some (a ++ b)
  | [], qs, a, b, h, g => by
    cases Option.some.inj (show some [] = some a from h)
    exact g
  | p :: ps, qs, a, b, h, g => by
    unfold pcsF at h
    show pcsF (p :: (ps ++ qs)) = _
    unfold pcsF
    cases e1 : pcF p with
    | none => rw [e1] at h; cases h
    | some x =>
      rw [e1] at h
      cases e2 : pcsF ps with
      | none => rw [e2] at h; cases h
      | some y =>
        rw [e2] at h
        cases h
        rw [pcsF_app e2 g, List.append_assoc]
theorem pcsF_mark {z : Str} (h1 : 1 ≤ z.length) (h2 : z.length ≤ 6) (h3 : okS z = true) : pcsF [.pr "mark" z] = some [] := by
  have h : mkB z = true := by
    unfold mkB
    rw [h3, decide_eq_true h1, decide_eq_true h2]
    rfl
  have e : pcF (.pr "mark" z) = some [] := by
    show (if ("mark" : Str) = "field" then some [z] else if ("mark" : Str) = "mark" ∧ mkB z = true then some [] else none) = some []
    rw [if_neg (by decide), if_pos ⟨rfl, h⟩]
  unfold pcsF
  rw [e]
  rfl
theorem pcsF_field (s : Str) : pcsF [.pr "field" s] = some [s] := by
  have e : pcF (.pr "field" s) = some [s] := by
    show (if ("field" : Str) = "field" then some [s] else if ("field" : Str) = "mark" ∧ mkB s = true then some [] else none) = some [s]
    rw [if_pos rfl]
  unfold pcsF
  rw [e]
  rfl
theorem okS_ok {z : Str} (h : okS z = true) : PyData.strOk z = true := by
  unfold PyData.strOk
  rw [← Array.all_toList, List.all_eq_true]
  intro c hc
  have := List.all_eq_true.mp h c hc
  unfold okC at this
  simp only [Bool.and_eq_true, decide_eq_true_eq] at this ⊢
  omega
theorem put_pc {K : PySem.W.Frag} {H H1 : Hp} {p l t : Addr} {us : List V} {ps : List Pc} {w s : Str} (hP : Pl H H1 p) (hl0 : H l = none) (hl : H1 l = some (.lst us)) (hs : PcsAt K H1 us ps) (ht : H1 t = none) (h100 : okT s) :
    upd (upd H1 t (.tup [.str w, .str s])) l (.lst (us ++ [.ref t])) l = some (.lst (us ++ [.ref t])) ∧ PcsAt K (upd (upd H1 t (.tup [.str w, .str s])) l (.lst (us ++ [.ref t]))) (us ++ [.ref t]) (ps ++ [.pr w s]) ∧ Pl H (upd (upd H1 t (.tup [.str w, .str s])) l (.lst (us ++ [.ref t]))) p := by
  have tl : t ≠ l := fun z => by rw [z, hl] at ht; cases ht
  have e : Ev H1 (upd (upd H1 t (.tup [.str w, .str s])) l (.lst (us ++ [.ref t]))) := ((Ev.refl H1).new ht).updL (xs := us) (by rw [upd_ne tl.symm]; exact hl)
  exact ⟨upd_same, (hs.ev e).app (.one ⟨t, rfl, by rw [upd_ne tl]; exact upd_same, h100⟩), (hP.new ht).at hl0⟩
theorem fl8 {w : Str} : ∀ z : Str, z ∈ flds w → okT z := fun z hz => by
  unfold flds at hz
  split at hz
  · simp only [List.mem_cons, List.not_mem_nil, or_false] at hz
    rcases hz with rfl | rfl | rfl | rfl | rfl | rfl <;> exact ⟨by decide +kernel, by decide +kernel⟩
  · split at hz <;> simp only [List.mem_cons, List.not_mem_nil, or_false] at hz
    · rcases hz with rfl | rfl | rfl | rfl <;> exact ⟨by decide +kernel, by decide +kernel⟩
    · rcases hz with rfl | rfl <;> exact ⟨by decide +kernel, by decide +kernel⟩
def spShape (K : PySem.W.Frag) : Sp := fun vs H Q _ => ∃ (p : Addr) (w sg : Str) (often most : Int), vs = [.ref p, .str w, .str sg, .int often, .int most] ∧ StAt H p ∧ okS sg = true ∧ 1 ≤ sg.length ∧ sg.length ≤ 200 ∧ 1 ≤ most ∧ most ≤ 6 ∧
  ∀ l (us : List V) (ps : List Pc) H', H l = none → H' l = some (.lst us) → PcsAt K H' us ps → ps.length ≤ 13 → (∃ fs, pcsF ps = some fs ∧ fs.Perm (flds w)) → Pl H H' p → Q (.ref l) H'
section
variable {P : Program} {w : World} {K : PySem.W.Frag} {mg : Str → Option Value} {base : Heap}
structure G2 (P : Program) (w : World) (K : PySem.W.Frag) (mg : Str → Option Value) (base : Heap) : Prop extends G1 P w K mg base where
  law_fields : Cal P w K mg base CX0 "_law_fields" 1 ["word"] spFields
  law_order : Cal P w K mg base CX0 "_law_order" 2 ["stream", "items"] spOrder
  law_mark : Cal P w K mg base CX0 "_law_mark" 2 ["stream", "signs", "most"] spMark
abbrev s_l_shape : Stmt := topS 19
theorem sc_l_shape : FnScope ["stream", "word", "signs", "often", "most", "pieces", "field"] ["stream", "word", "signs", "often", "most"] (defScope s_l_shape) := ⟨rfl, rfl, rfl, by decide +kernel, rfl, by decide +kernel, by decide +kernel⟩
theorem ok_lshape {f : Addr} {fd : FuncData} (F : Fun K "_law_shape" "_law_shape" s_l_shape f fd) (B : Blt mg) (G : G2 P w K mg base) : FnOk P w K mg base CX0 3 f fd ["stream", "word", "signs", "often", "most"] (spShape K) := by
  refine F.ok sc_l_shape (fun vs H Q E h => ?_) (fun cdv A outer s H vs Q E hr h => ?_)
  · obtain ⟨p, z, sg, often, most, rfl, _⟩ := h
    rfl
  · obtain ⟨p, z, sg, often, most, rfl, hP, ok, s1, s2, m1, m6, q⟩ := h
    refine ⟨_, (pss_cons (ps_set (i := 5) sc_l_shape.nd rfl (Or.inl rfl) (pe_lst pa_nil))
    (pss_cons (ps_for PassesOwn.never rfl (pi_list (pe_cal G.law_order (hr.mono (by decide)) pass0 (pa_cons (pv 0) (pa_cons (pe_cal G.law_fields (hr.mono (by decide)) pass0 (pa_cons (pv 1) pa_nil)) pa_nil)))) (pg_name (i := 6) sc_l_shape.nd rfl (Or.inl rfl))
      (pss_cut (ps_if (pt_cmpR op_lt (pe_cal G.law_draw (hr.mono (by decide)) pass0 (pa_cons (pv 0) (pa_cons pe_int pa_nil))) (pv 3) (nomark _))
        (pss_one (ps_expr (pe_bm PySem.F.plainAttrs_list PySem.F.slot_list_append PySem.F.type_list_append mt_append (pv 5) (pa_cons (pe_tup (pa_cons pe_str (pa_cons (pe_cal G.law_mark (hr.mono (by decide)) pass0 (pa_cons (pv 0) (pa_cons (pv 2) (pa_cons (pv 4) pa_nil)))) pa_nil))) pa_nil))))
        pss_nil)
      (pss_one (ps_expr (pe_bm PySem.F.plainAttrs_list PySem.F.slot_list_append PySem.F.type_list_append mt_append (pv 5) (pa_cons (pe_tup (pa_cons pe_str (pa_cons (pv 6) pa_nil))) pa_nil))))))
    (pss_cut (ps_if (pt_cmpR op_lt (pe_cal G.law_draw (hr.mono (by decide)) pass0 (pa_cons (pv 0) (pa_cons pe_int pa_nil))) (pv 3) (nomark _))
      (pss_one (ps_expr (pe_bm PySem.F.plainAttrs_list PySem.F.slot_list_append PySem.F.type_list_append mt_append (pv 5) (pa_cons (pe_tup (pa_cons pe_str (pa_cons (pe_cal G.law_mark (hr.mono (by decide)) pass0 (pa_cons (pv 0) (pa_cons (pv 2) (pa_cons (pv 4) pa_nil)))) pa_nil))) pa_nil))))
      pss_nil)
    (pss_one (ps_ret (pv 5)))))), ?_⟩
    refine ⟨(by show 0 ≤ sizeLine; decide), fun l hl => ?_⟩
    have P0 := (Pl.refl hP).new (o := .lst []) hl
    refine ⟨_, rfl, _, rfl, z, rfl, fun a H1 ha0 ha s1 => ⟨p, a, flds z, rfl, P0.now.same s1, fun e => (P0.now.ne (e ▸ ha0)), ha, flds_len z, fun o ys H2 ho0 ho hp P2 => ⟨o, rfl, ⟨_, SqL.of ho⟩, ?_⟩⟩⟩
    have hlp : l ≠ p := fun e => hP.ne (e ▸ hl)
    have hop : o ≠ p := fun e => (P0.now.same s1).ne (e ▸ ho0)
    have P02 : Pl H H2 p := (P0.same s1).trans P2
    have hl2 : H2 l = some (.lst []) := P2.keep (s1 _ _ upd_same) hlp
    have yl : ys.length ≤ 6 := by rw [hp.length_eq]; exact flds_len z
    refine for_it (walk_list (K := K) (a := o) (xs := ys.map V.str)) (fun i σ H3 => (∃ x6, σ = [some (.ref p), some (.str z), some (.str sg), some (.int often), some (.int most), some (.ref l), x6]) ∧ Pl H H3 p ∧ H3 o = some (.lst (ys.map V.str)) ∧ ∃ us ps, H3 l = some (.lst us) ∧ PcsAt K H3 us ps ∧ pcsF ps = some (ys.take i) ∧ ps.length ≤ 2 * i) ⟨⟨_, rfl⟩, P02, ho, [], [], hl2, .nil, rfl, by decide⟩ (fun i σ H3 _ hv => SqL.of hv.2.2.1) ?_ ?_
    · rintro i y σ H3 _ hi ⟨⟨x6, rfl⟩, P3, ho3, us, ps, hl3, hps, hf, hn⟩ ⟨rfl, hy⟩
      rw [List.length_map] at hi
      rw [List.getElem?_map] at hy
      obtain ⟨fl, hz, rfl⟩ := Option.map_eq_some_iff.mp hy
      have hol : o ≠ l := fun e => by rw [e] at ho0; rw [s1 _ _ upd_same] at ho0; cases ho0
      refine ⟨fun σ H4 => σ = [some (.ref p), some (.str z), some (.str sg), some (.int often), some (.int most), some (.ref l), some (.str fl)] ∧ Pl H H4 p ∧ H4 o = some (.lst (ys.map V.str)) ∧ ∃ us ps, H4 l = some (.lst us) ∧ PcsAt K H4 us ps ∧ pcsF ps = some (ys.take i) ∧ ps.length ≤ 2 * i + 1, ?_, ?_⟩
      · refine ⟨_, rfl, p, 4, rfl, P3.now, (by decide), (by decide), fun d H4 d0 d4 P4 => ?_⟩
        have hps4 := hps.ev (Ev.pl P3.now P4)
        have hl4 := P4.keep hl3 hlp
        refine ⟨_, rfl, _, _, rfl, rfl, _, rfl, ite2 (fun c => ?_) (fun c => ⟨rfl, P3.trans P4, P4.keep ho3 hop, us, ps, hl4, hps4, hf, by omega⟩)⟩
        refine ⟨_, rfl, .inl ⟨rfl, _, SqL.of hl4⟩, _, rfl, _, rfl, _, rfl, p, sg, most, rfl, P4.now, ok, by omega, s2, m1, m6, fun mz H5 z1 z6 zo P5 => ⟨(by show 2 ≤ sizeLine; decide), fun t ht => ?_⟩⟩
        have hl5 := P5.keep hl4 hlp
        obtain ⟨e1, e2, e3⟩ := put_pc (w := "mark") (s := mz) ((P3.trans P4).trans P5) hl hl5 (hps4.ev (Ev.pl P4.now P5)) ht ⟨by omega, okS_ok zo⟩
        have tl : t ≠ l := fun e => by rw [e, hl5] at ht; cases ht
        have to : t ≠ o := fun e => by rw [e, (P4.trans P5).keep ho3 hop] at ht; cases ht
        refine ⟨l, us, _, rfl, rfl, by rw [upd_ne tl.symm]; exact hl5, by rw [hps4.len]; exact small1000 (by omega), rfl, e3, by rw [upd_ne hol, upd_ne to.symm]; exact (P4.trans P5).keep ho3 hop, _, _, e1, e2, ?_, by rw [List.length_append]; show _ + 1 ≤ _; omega⟩
        have := pcsF_app hf (pcsF_mark z1 z6 zo)
        rw [List.append_nil] at this
        exact this
      · rintro σ H4 ⟨rfl, P4, ho4, us, ps, hl4, hps4, hf, hn⟩
        refine ⟨_, rfl, .inl ⟨rfl, _, SqL.of hl4⟩, _, rfl, (by show 2 ≤ sizeLine; decide), fun t ht => ?_⟩
        obtain ⟨e1, e2, e3⟩ := put_pc (w := "field") (s := fl) P4 hl hl4 hps4 ht (fl8 fl (hp.mem_iff.mp (List.mem_of_getElem? hz)))
        have tl : t ≠ l := fun e => by rw [e, hl4] at ht; cases ht
        have to : t ≠ o := fun e => by rw [e, ho4] at ht; cases ht
        refine ⟨l, us, _, rfl, rfl, by rw [upd_ne tl.symm]; exact hl4, by rw [hps4.len]; exact small1000 (by omega), ⟨_, rfl⟩, e3, by rw [upd_ne hol, upd_ne to.symm]; exact ho4, _, _, e1, e2, ?_, by rw [List.length_append]; show _ + 1 ≤ _; omega⟩
        rw [list_take hz]
        exact pcsF_app hf (pcsF_field fl)
    · rintro σ H3 ⟨⟨x6, rfl⟩, P3, ho3, us, ps, hl3, hps, hf, hn⟩
      rw [List.length_map] at hn
      rw [List.length_map, List.take_length] at hf
      refine ⟨fun σ H4 => (∃ x6, σ = [some (.ref p), some (.str z), some (.str sg), some (.int often), some (.int most), some (.ref l), x6]) ∧ Pl H H4 p ∧ ∃ us ps, H4 l = some (.lst us) ∧ PcsAt K H4 us ps ∧ pcsF ps = some ys ∧ ps.length ≤ 13, ?_, ?_⟩
      · refine ⟨_, rfl, p, 4, rfl, P3.now, (by decide), (by decide), fun d H4 d0 d4 P4 => ?_⟩
        have hps4 := hps.ev (Ev.pl P3.now P4)
        have hl4 := P4.keep hl3 hlp
        refine ⟨_, rfl, _, _, rfl, rfl, _, rfl, ite2 (fun c => ?_) (fun c => ⟨⟨_, rfl⟩, P3.trans P4, us, ps, hl4, hps4, hf, by omega⟩)⟩
        refine ⟨_, rfl, .inl ⟨rfl, _, SqL.of hl4⟩, _, rfl, _, rfl, _, rfl, p, sg, most, rfl, P4.now, ok, by omega, s2, m1, m6, fun mz H5 z1 z6 zo P5 => ⟨(by show 2 ≤ sizeLine; decide), fun t ht => ?_⟩⟩
        have hl5 := P5.keep hl4 hlp
        obtain ⟨e1, e2, e3⟩ := put_pc (w := "mark") (s := mz) ((P3.trans P4).trans P5) hl hl5 (hps4.ev (Ev.pl P4.now P5)) ht ⟨by omega, okS_ok zo⟩
        have tl : t ≠ l := fun e => by rw [e, hl5] at ht; cases ht
        refine ⟨l, us, _, rfl, rfl, by rw [upd_ne tl.symm]; exact hl5, by rw [hps4.len]; exact small1000 (by omega), ⟨_, rfl⟩, e3, _, _, e1, e2, ?_, by rw [List.length_append]; show _ + 1 ≤ _; omega⟩
        have := pcsF_app hf (pcsF_mark z1 z6 zo)
        rw [List.append_nil] at this
        exact this
      · rintro σ H4 ⟨⟨x6, rfl⟩, P4, us, ps, hl4, hps4, hf, hn⟩
        exact ⟨_, rfl, q l us ps H4 hl hl4 hps4 hn ⟨ys, hf, hp⟩ P4⟩
end
end Ash

set_option Elab.async false
set_option linter.all false
set_option maxRecDepth 100000
set_option maxHeartbeats 4000000
set_option pp.maxSteps 1500
namespace Ash
open PySem PySem.Spec PyProof.Rows L2
open C8 (pss_cut)
/-! ### odd pieces -/
def Alls (K : PySem.W.Frag) (H : Hp) (us : List V) : Prop := ∀ v, v ∈ us → ∃ p, PcAt K H v p
theorem Alls.ev {K : PySem.W.Frag} {H H' : Hp} {us : List V} (h : Alls K H us) (e : Ev H H') : Alls K H' us := fun v hv => by
  obtain ⟨p, hp⟩ := h v hv
  exact ⟨p, hp.ev e⟩
theorem Alls.nil {K : PySem.W.Frag} {H : Hp} : Alls K H [] := fun v hv => by cases hv
theorem Alls.cons {K : PySem.W.Frag} {H : Hp} {v : V} {us : List V} {p : Pc} (h : PcAt K H v p) (t : Alls K H us) : Alls K H (v :: us) := fun x hx => by
  rcases List.mem_cons.mp hx with rfl | hx
  · exact ⟨p, h⟩
  · exact t x hx
theorem Alls.snoc {K : PySem.W.Frag} {H H' : Hp} {v : V} {us : List V} {p : Pc} (t : Alls K H us) (e : Ev H H') (h : PcAt K H' v p) : Alls K H' (us ++ [v]) := fun x hx => by
  rcases List.mem_append.mp hx with hx | hx
  · obtain ⟨q, hq⟩ := t x hx
    exact ⟨q, hq.ev e⟩
  · rw [List.mem_singleton.mp hx]
    exact ⟨p, h⟩
def spOdd (K : PySem.W.Frag) : Sp := fun vs H Q _ => ∃ (p : Addr), vs = [.ref p] ∧ StAt H p ∧ ∀ v pc H', PcAt K H' v pc → Pl H H' p → Q v H'
section
variable {P : Program} {w : World} {K : PySem.W.Frag} {mg : Str → Option Value} {base : Heap}
abbrev s_l_odd : Stmt := topS 20
theorem sc_l_odd : FnScope ["stream", "odd"] ["stream"] (defScope s_l_odd) := ⟨rfl, rfl, rfl, by decide +kernel, rfl, by decide +kernel, by decide +kernel⟩
theorem ok_lodd {f : Addr} {fd : FuncData} (F : Fun K "_law_odd" "_law_odd" s_l_odd f fd) (B : Blt mg) (G : G1 P w K mg base) : FnOk P w K mg base CX0 2 f fd ["stream"] (spOdd K) := by
  refine F.ok sc_l_odd (fun vs H Q E h => ?_) (fun cdv A outer s H vs Q E hr h => ?_)
  · obtain ⟨p, rfl, _⟩ := h
    rfl
  · obtain ⟨p, rfl, hP, q⟩ := h
    refine ⟨_, (pss_cons (ps_set (i := 1) sc_l_odd.nd rfl (Or.inl rfl) (pe_lst (pa_cons pe_non (pa_cons pe_bl (pa_cons pe_int (pa_cons pe_str (pa_cons (pe_tup (pa_cons pe_str (pa_cons pe_str pa_nil))) (pa_cons (pe_tup (pa_cons pe_str (pa_cons pe_str pa_nil))) (pa_cons (pe_tup (pa_cons pe_str (pa_cons pe_str pa_nil))) (pa_cons (pe_tup (pa_cons pe_str (pa_cons pe_str pa_nil))) (pa_cons (pe_tup (pa_cons pe_str (pa_cons pe_int pa_nil))) pa_nil)))))))))))
    (pss_cons (ps_set (i := 1) sc_l_odd.nd rfl (Or.inl rfl) (pe_op op_cat (pv 1) (pe_lst (pa_cons (pe_lst (pa_cons pe_str (pa_cons pe_str pa_nil))) (pa_cons (pe_tup (pa_cons pe_str (pa_cons pe_str (pa_cons pe_str pa_nil)))) (pa_cons (pe_tup (pa_cons pe_str (pa_cons pe_non pa_nil))) (pa_cons (pe_tup (pa_cons pe_str (pa_cons (pe_lst (pa_cons pe_str pa_nil)) pa_nil))) (pa_cons (pe_tup (pa_cons pe_str pa_nil)) (pa_cons (pe_tup pa_nil) (pa_cons (pe_tup (pa_cons pe_str (pa_cons pe_str pa_nil))) pa_nil))))))))))
    (pss_cons (ps_set (i := 1) sc_l_odd.nd rfl (Or.inl rfl) (pe_op op_cat (pv 1) (pe_lst (pa_cons (pe_tup (pa_cons pe_non (pa_cons pe_str pa_nil))) (pa_cons (pe_disp (pps_cons pe_str pe_str pps_nil) (by rfl) (by rfl) (fun z => by cases z) (by decide)) (pa_cons (pe_tup (pa_cons pe_str (pa_cons pe_str pa_nil))) (pa_cons (pe_tup (pa_cons pe_str (pa_cons pe_str pa_nil))) (pa_cons (pe_tup (pa_cons pe_str (pa_cons pe_non pa_nil))) (pa_cons (pe_tup (pa_cons pe_str (pa_cons pe_str pa_nil))) pa_nil)))))))))
    (pss_one (ps_ret (pe_ix ix_list (pv 1) (pe_cal G.law_draw (hr.mono (by decide)) pass0 (pa_cons (pv 0) (pa_cons pe_int pa_nil))) (fun _ _ => rfl))))))), ?_⟩
    have S0 : Same H H := Same.refl H
    have a1 := show Alls K _ [.non] from (Alls.nil (K := K) (H := H)).snoc (v := .non) (p := .no) (Ev.refl _) ⟨_, .base (.non), kit_ty (by decide +kernel)⟩
    have a2 := show Alls K _ [.non, .bl true] from a1.snoc (v := .bl true) (p := .no) (Ev.refl _) ⟨_, .base (.bl _), kit_ty (by decide +kernel)⟩
    have a3 := show Alls K _ [.non, .bl true, .int 3] from a2.snoc (v := .int 3) (p := .no) (Ev.refl _) ⟨_, .base (.int _), kit_ty (by decide +kernel)⟩
    have a4 := show Alls K _ [.non, .bl true, .int 3, .str "id"] from a3.snoc (v := .str "id") (p := .no) (Ev.refl _) ⟨_, .base (.str _), kit_ty (by decide +kernel)⟩
    refine ⟨(by show 2 ≤ sizeLine; decide), fun t5 ht5 => ?_⟩
    have e5 := (Ev.refl _).new (o := .tup [.str "field", .str "when"]) ht5
    have w5 := sameAt (o := .tup [.str "field", .str "when"]) (Same.refl _) ht5
    have S5 := S0.trans w5
    have a5 := show Alls K _ [.non, .bl true, .int 3, .str "id", .ref t5] from a4.snoc (v := .ref t5) (p := .pr "field" "when") e5 ⟨_, rfl, upd_same, by decide +kernel, by decide +kernel⟩
    refine ⟨(by show 2 ≤ sizeLine; decide), fun t6 ht6 => ?_⟩
    have e6 := (Ev.refl _).new (o := .tup [.str "mark", .str ""]) ht6
    have w6 := sameAt (o := .tup [.str "mark", .str ""]) (Same.refl _) ht6
    have S6 := S5.trans w6
    have a6 := show Alls K _ [.non, .bl true, .int 3, .str "id", .ref t5, .ref t6] from a5.snoc (v := .ref t6) (p := .pr "mark" "") e6 ⟨_, rfl, upd_same, by decide +kernel, by decide +kernel⟩
    refine ⟨(by show 2 ≤ sizeLine; decide), fun t7 ht7 => ?_⟩
    have e7 := (Ev.refl _).new (o := .tup [.str "mark", .str "aaaaaaa"]) ht7
    have w7 := sameAt (o := .tup [.str "mark", .str "aaaaaaa"]) (Same.refl _) ht7
    have S7 := S6.trans w7
    have a7 := show Alls K _ [.non, .bl true, .int 3, .str "id", .ref t5, .ref t6, .ref t7] from a6.snoc (v := .ref t7) (p := .pr "mark" "aaaaaaa") e7 ⟨_, rfl, upd_same, by decide +kernel, by decide +kernel⟩
    refine ⟨(by show 2 ≤ sizeLine; decide), fun t8 ht8 => ?_⟩
    have e8 := (Ev.refl _).new (o := .tup [.str "mark", .str "a\n"]) ht8
    have w8 := sameAt (o := .tup [.str "mark", .str "a\n"]) (Same.refl _) ht8
    have S8 := S7.trans w8
    have a8 := show Alls K _ [.non, .bl true, .int 3, .str "id", .ref t5, .ref t6, .ref t7, .ref t8] from a7.snoc (v := .ref t8) (p := .pr "mark" "a\n") e8 ⟨_, rfl, upd_same, by decide +kernel, by decide +kernel⟩
    refine ⟨(by show 2 ≤ sizeLine; decide), fun t9 ht9 => ?_⟩
    have e9 := (Ev.refl _).new (o := .tup [.str "mark", .int 5]) ht9
    have w9 := sameAt (o := .tup [.str "mark", .int 5]) (Same.refl _) ht9
    have S9 := S8.trans w9
    have a9 := show Alls K _ [.non, .bl true, .int 3, .str "id", .ref t5, .ref t6, .ref t7, .ref t8, .ref t9] from a8.snoc (v := .ref t9) (p := .snd "mark") e9 ⟨_, _, _, rfl, upd_same, .base (.int _), kit_ty (by decide +kernel)⟩
    refine ⟨(by show 9 ≤ sizeLine; decide), fun l1 hl1 => ?_⟩
    have A1 := a9.ev ((Ev.refl _).new (o := .lst [.non, .bl true, .int 3, .str "id", .ref t5, .ref t6, .ref t7, .ref t8, .ref t9]) hl1)
    have T1 := S9.trans (sameAt (o := .lst [.non, .bl true, .int 3, .str "id", .ref t5, .ref t6, .ref t7, .ref t8, .ref t9]) (Same.refl _) hl1)
    generalize hH : upd (upd _ t9 _) l1 (.lst _) = H1 at A1 T1 ⊢
    have L1 : H1 l1 = some (.lst [.non, .bl true, .int 3, .str "id", .ref t5, .ref t6, .ref t7, .ref t8, .ref t9]) := by rw [← hH]; exact upd_same
    clear hH
    refine ⟨_, rfl, ?_⟩
    refine ⟨(by show 2 ≤ sizeLine; decide), fun t10 ht10 => ?_⟩
    have e10 := (Ev.refl _).new (o := .lst [.str "mark", .str "a"]) ht10
    have w10 := sameAt (o := .lst [.str "mark", .str "a"]) (Same.refl _) ht10
    have S10 := (Same.refl H1).trans w10
    have a10 := show Alls K _ [.non, .bl true, .int 3, .str "id", .ref t5, .ref t6, .ref t7, .ref t8, .ref t9, .ref t10] from A1.snoc (v := .ref t10) (p := .no) e10 ⟨_, .base (.lst upd_same), kit_ty (by decide +kernel)⟩
    refine ⟨(by show 3 ≤ sizeLine; decide), fun t11 ht11 => ?_⟩
    have e11 := (Ev.refl _).new (o := .tup [.str "mark", .str "a", .str "b"]) ht11
    have w11 := sameAt (o := .tup [.str "mark", .str "a", .str "b"]) (Same.refl _) ht11
    have S11 := S10.trans w11
    have a11 := show Alls K _ [.non, .bl true, .int 3, .str "id", .ref t5, .ref t6, .ref t7, .ref t8, .ref t9, .ref t10, .ref t11] from a10.snoc (v := .ref t11) (p := .len) e11 ⟨_, _, rfl, upd_same, by decide⟩
    refine ⟨(by show 2 ≤ sizeLine; decide), fun t12 ht12 => ?_⟩
    have e12 := (Ev.refl _).new (o := .tup [.str "field", .non]) ht12
    have w12 := sameAt (o := .tup [.str "field", .non]) (Same.refl _) ht12
    have S12 := S11.trans w12
    have a12 := show Alls K _ [.non, .bl true, .int 3, .str "id", .ref t5, .ref t6, .ref t7, .ref t8, .ref t9, .ref t10, .ref t11, .ref t12] from a11.snoc (v := .ref t12) (p := .snd "field") e12 ⟨_, _, _, rfl, upd_same, .base (.non), kit_ty (by decide +kernel)⟩
    refine ⟨(by show 1 ≤ sizeLine; decide), fun t13 ht13 => ?_⟩
    have e13 := (Ev.refl _).new (o := .lst [.str "id"]) ht13
    have w13 := sameAt (o := .lst [.str "id"]) (Same.refl _) ht13
    have S13 := S12.trans w13
    have a13 := a12.ev e13
    refine ⟨(by show 2 ≤ sizeLine; decide), fun t14 ht14 => ?_⟩
    have e14 := (Ev.refl _).new (o := .tup [.str "field", .ref t13]) ht14
    have w14 := sameAt (o := .tup [.str "field", .ref t13]) (Same.refl _) ht14
    have S14 := S13.trans w14
    have a14 := show Alls K _ [.non, .bl true, .int 3, .str "id", .ref t5, .ref t6, .ref t7, .ref t8, .ref t9, .ref t10, .ref t11, .ref t12, .ref t14] from a13.snoc (v := .ref t14) (p := .snd "field") e14 ⟨_, _, _, rfl, upd_same, .base (.lst (w14 _ _ upd_same)), kit_ty (by decide +kernel)⟩
    refine ⟨(by show 1 ≤ sizeLine; decide), fun t15 ht15 => ?_⟩
    have e15 := (Ev.refl _).new (o := .tup [.str "field"]) ht15
    have w15 := sameAt (o := .tup [.str "field"]) (Same.refl _) ht15
    have S15 := S14.trans w15
    have a15 := show Alls K _ [.non, .bl true, .int 3, .str "id", .ref t5, .ref t6, .ref t7, .ref t8, .ref t9, .ref t10, .ref t11, .ref t12, .ref t14, .ref t15] from a14.snoc (v := .ref t15) (p := .len) e15 ⟨_, _, rfl, upd_same, by decide⟩
    refine ⟨(by show 0 ≤ sizeLine; decide), fun t16 ht16 => ?_⟩
    have e16 := (Ev.refl _).new (o := .tup []) ht16
    have w16 := sameAt (o := .tup []) (Same.refl _) ht16
    have S16 := S15.trans w16
    have a16 := show Alls K _ [.non, .bl true, .int 3, .str "id", .ref t5, .ref t6, .ref t7, .ref t8, .ref t9, .ref t10, .ref t11, .ref t12, .ref t14, .ref t15, .ref t16] from a15.snoc (v := .ref t16) (p := .len) e16 ⟨_, _, rfl, upd_same, by decide⟩
    refine ⟨(by show 2 ≤ sizeLine; decide), fun t17 ht17 => ?_⟩
    have e17 := (Ev.refl _).new (o := .tup [.str "Mark", .str "a"]) ht17
    have w17 := sameAt (o := .tup [.str "Mark", .str "a"]) (Same.refl _) ht17
    have S17 := S16.trans w17
    have a17 := show Alls K _ [.non, .bl true, .int 3, .str "id", .ref t5, .ref t6, .ref t7, .ref t8, .ref t9, .ref t10, .ref t11, .ref t12, .ref t14, .ref t15, .ref t16, .ref t17] from a16.snoc (v := .ref t17) (p := .pr "Mark" "a") e17 ⟨_, rfl, upd_same, by decide +kernel, by decide +kernel⟩
    refine ⟨(by show 7 ≤ sizeLine; decide), fun m2 hm2 => ?_⟩
    have R2 := S17.trans (sameAt (o := .lst [.ref t10, .ref t11, .ref t12, .ref t14, .ref t15, .ref t16, .ref t17]) (Same.refl _) hm2)
    refine ⟨l1, m2, _, _, rfl, rfl, R2 _ _ L1, upd_same, (by show 16 ≤ sizeLine; decide), fun l2 hl2 => ?_⟩
    have A2 := (a17.ev ((Ev.refl _).new (o := .lst [.ref t10, .ref t11, .ref t12, .ref t14, .ref t15, .ref t16, .ref t17]) hm2)).ev ((Ev.refl _).new (o := .lst ([.non, .bl true, .int 3, .str "id", .ref t5, .ref t6, .ref t7, .ref t8, .ref t9] ++ [.ref t10, .ref t11, .ref t12, .ref t14, .ref t15, .ref t16, .ref t17])) hl2)
    have T2 := T1.trans (R2.trans (sameAt (o := .lst ([.non, .bl true, .int 3, .str "id", .ref t5, .ref t6, .ref t7, .ref t8, .ref t9] ++ [.ref t10, .ref t11, .ref t12, .ref t14, .ref t15, .ref t16, .ref t17])) (Same.refl _) hl2))
    generalize hH : upd (upd (upd _ t17 _) m2 _) l2 (.lst _) = H2 at A2 T2 ⊢
    have L2 : H2 l2 = some (.lst ([.non, .bl true, .int 3, .str "id", .ref t5, .ref t6, .ref t7, .ref t8, .ref t9] ++ [.ref t10, .ref t11, .ref t12, .ref t14, .ref t15, .ref t16, .ref t17])) := by rw [← hH]; exact upd_same
    clear hH
    refine ⟨_, rfl, ?_⟩
    refine ⟨(by show 2 ≤ sizeLine; decide), fun t18 ht18 => ?_⟩
    have e18 := (Ev.refl _).new (o := .tup [.non, .str "a"]) ht18
    have w18 := sameAt (o := .tup [.non, .str "a"]) (Same.refl _) ht18
    have S18 := (Same.refl H2).trans w18
    have a18 := show Alls K _ [.non, .bl true, .int 3, .str "id", .ref t5, .ref t6, .ref t7, .ref t8, .ref t9, .ref t10, .ref t11, .ref t12, .ref t14, .ref t15, .ref t16, .ref t17, .ref t18] from A2.snoc (v := .ref t18) (p := .fst "a") e18 ⟨_, rfl, upd_same⟩
    refine fun t19 ht19 => ⟨upd_same, [(.inr "mark", .str "a")], rfl, (by decide), ?_⟩
    have e19 := ((Ev.refl _).new (o := .dK []) ht19).updD (ys := mergeK [] [(.inr "mark", .str "a")]) upd_same
    have w19 := sameAt (o := .dK (mergeK [] [(.inr "mark", .str "a")])) (sameAt (o := .dK []) (Same.refl _) ht19) ht19
    have S19 := S18.trans w19
    have a19 := show Alls K _ [.non, .bl true, .int 3, .str "id", .ref t5, .ref t6, .ref t7, .ref t8, .ref t9, .ref t10, .ref t11, .ref t12, .ref t14, .ref t15, .ref t16, .ref t17, .ref t18, .ref t19] from a18.snoc (v := .ref t19) (p := .no) e19 ⟨_, .base (.dK upd_same), kit_ty (by decide +kernel)⟩
    refine ⟨(by show 2 ≤ sizeLine; decide), fun t20 ht20 => ?_⟩
    have e20 := (Ev.refl _).new (o := .tup [.str "field", .str "stream"]) ht20
    have w20 := sameAt (o := .tup [.str "field", .str "stream"]) (Same.refl _) ht20
    have S20 := S19.trans w20
    have a20 := show Alls K _ [.non, .bl true, .int 3, .str "id", .ref t5, .ref t6, .ref t7, .ref t8, .ref t9, .ref t10, .ref t11, .ref t12, .ref t14, .ref t15, .ref t16, .ref t17, .ref t18, .ref t19, .ref t20] from a19.snoc (v := .ref t20) (p := .pr "field" "stream") e20 ⟨_, rfl, upd_same, by decide +kernel, by decide +kernel⟩
    refine ⟨(by show 2 ≤ sizeLine; decide), fun t21 ht21 => ?_⟩
    have e21 := (Ev.refl _).new (o := .tup [.str "field", .str "id"]) ht21
    have w21 := sameAt (o := .tup [.str "field", .str "id"]) (Same.refl _) ht21
    have S21 := S20.trans w21
    have a21 := show Alls K _ [.non, .bl true, .int 3, .str "id", .ref t5, .ref t6, .ref t7, .ref t8, .ref t9, .ref t10, .ref t11, .ref t12, .ref t14, .ref t15, .ref t16, .ref t17, .ref t18, .ref t19, .ref t20, .ref t21] from a20.snoc (v := .ref t21) (p := .pr "field" "id") e21 ⟨_, rfl, upd_same, by decide +kernel, by decide +kernel⟩
    refine ⟨(by show 2 ≤ sizeLine; decide), fun t22 ht22 => ?_⟩
    have e22 := (Ev.refl _).new (o := .tup [.str "mark", .non]) ht22
    have w22 := sameAt (o := .tup [.str "mark", .non]) (Same.refl _) ht22
    have S22 := S21.trans w22
    have a22 := show Alls K _ [.non, .bl true, .int 3, .str "id", .ref t5, .ref t6, .ref t7, .ref t8, .ref t9, .ref t10, .ref t11, .ref t12, .ref t14, .ref t15, .ref t16, .ref t17, .ref t18, .ref t19, .ref t20, .ref t21, .ref t22] from a21.snoc (v := .ref t22) (p := .snd "mark") e22 ⟨_, _, _, rfl, upd_same, .base (.non), kit_ty (by decide +kernel)⟩
    refine ⟨(by show 2 ≤ sizeLine; decide), fun t23 ht23 => ?_⟩
    have e23 := (Ev.refl _).new (o := .tup [.str "mark", .str "\t"]) ht23
    have w23 := sameAt (o := .tup [.str "mark", .str "\t"]) (Same.refl _) ht23
    have S23 := S22.trans w23
    have a23 := show Alls K _ [.non, .bl true, .int 3, .str "id", .ref t5, .ref t6, .ref t7, .ref t8, .ref t9, .ref t10, .ref t11, .ref t12, .ref t14, .ref t15, .ref t16, .ref t17, .ref t18, .ref t19, .ref t20, .ref t21, .ref t22, .ref t23] from a22.snoc (v := .ref t23) (p := .pr "mark" "\t") e23 ⟨_, rfl, upd_same, by decide +kernel, by decide +kernel⟩
    refine ⟨(by show 6 ≤ sizeLine; decide), fun m3 hm3 => ?_⟩
    have l3n0 := hm3
    have R3 := S23.trans (sameAt (o := .lst [.ref t18, .ref t19, .ref t20, .ref t21, .ref t22, .ref t23]) (Same.refl _) hm3)
    refine ⟨l2, m3, _, _, rfl, rfl, R3 _ _ L2, upd_same, (by show 22 ≤ sizeLine; decide), fun l3 hl3 => ?_⟩
    have l3n : H l3 = none := none_of (T2.trans (R3)) hl3
    have A3 := (a23.ev ((Ev.refl _).new (o := .lst [.ref t18, .ref t19, .ref t20, .ref t21, .ref t22, .ref t23]) hm3)).ev ((Ev.refl _).new (o := .lst ([.non, .bl true, .int 3, .str "id", .ref t5, .ref t6, .ref t7, .ref t8, .ref t9, .ref t10, .ref t11, .ref t12, .ref t14, .ref t15, .ref t16, .ref t17] ++ [.ref t18, .ref t19, .ref t20, .ref t21, .ref t22, .ref t23])) hl3)
    have T3 := T2.trans (R3.trans (sameAt (o := .lst ([.non, .bl true, .int 3, .str "id", .ref t5, .ref t6, .ref t7, .ref t8, .ref t9, .ref t10, .ref t11, .ref t12, .ref t14, .ref t15, .ref t16, .ref t17] ++ [.ref t18, .ref t19, .ref t20, .ref t21, .ref t22, .ref t23])) (Same.refl _) hl3))
    have P3 := (Pl.refl hP).same T3
    refine ⟨_, rfl, _, rfl, p, 22, rfl, P3.now, (by decide), (by decide), fun d H4 d0 d22 P4 => ?_⟩
    have hl0 : H l3 = none := l3n
    have hlp : l3 ≠ p := fun z => hP.ne (z ▸ hl0)
    have L4 := P4.keep upd_same hlp
    obtain ⟨j, rfl⟩ : ∃ j : Nat, d = (j : Int) := ⟨d.toNat, by omega⟩
    have hj : j < 22 := by omega
    obtain ⟨v, hv⟩ : ∃ v, ([.non, .bl true, .int 3, .str "id", .ref t5, .ref t6, .ref t7, .ref t8, .ref t9, .ref t10, .ref t11, .ref t12, .ref t14, .ref t15, .ref t16, .ref t17] ++ [.ref t18, .ref t19, .ref t20, .ref t21, .ref t22, .ref t23] : List V)[j]? = some v := ⟨_, List.getElem?_eq_getElem (show j < ([.non, .bl true, .int 3, .str "id", .ref t5, .ref t6, .ref t7, .ref t8, .ref t9, .ref t10, .ref t11, .ref t12, .ref t14, .ref t15, .ref t16, .ref t17] ++ [.ref t18, .ref t19, .ref t20, .ref t21, .ref t22, .ref t23] : List V).length from hj)⟩
    obtain ⟨pc, hpc⟩ := A3 v (List.mem_of_getElem? hv)
    exact ⟨_, _, _, v, rfl, rfl, SqL.of L4, atI_nat hv, q v pc H4 (hpc.ev (Ev.pl P3.now P4)) (P3.trans P4)⟩
end
end Ash

set_option Elab.async false
set_option linter.all false
set_option maxRecDepth 100000
set_option maxHeartbeats 4000000
set_option pp.maxSteps 1500
namespace Ash
open PySem PySem.Spec PyProof.Rows L2
open C8 (pss_cut)
/-! ### spoiled shapes -/
theorem cut_take {xs : List V} {k : Nat} (h : k ≤ xs.length) : cutV xs none (some (k : Int)) = xs.take k := by
  unfold cutV
  rw [HT.sIx_none, HT.sIx_nat, List.drop_zero, Nat.sub_zero, Nat.min_eq_left h]
theorem cut_drop {xs : List V} {k : Nat} (h : k ≤ xs.length) : cutV xs (some (k : Int)) none = xs.drop k := by
  unfold cutV
  rw [HT.sIx_none, HT.sIx_nat, Nat.min_eq_left h]
  exact List.take_of_length_le (by rw [List.length_drop]; exact Nat.le_refl _)
theorem PcsAt.set {K : PySem.W.Frag} {H : Hp} {v : V} {p : Pc} (h : PcAt K H v p) : ∀ {us : List V} {ps : List Pc} (n : Nat), PcsAt K H us ps → PcsAt K H (us.set n v) (ps.set n p)
  | _, _, _, .nil => .nil
  | _, _, 0, .cons _ t => .cons h t
  | _, _, n + 1, .cons g t => .cons g (PcsAt.set h n t)
/-- a shape, good or not -/
def ShA (K : PySem.W.Frag) (H : Hp) (v : V) : Sh → Prop
  | .row ps => ∃ a us, v = .ref a ∧ (H a = some (.lst us) ∨ H a = some (.tup us)) ∧ PcsAt K H us ps ∧ ps.length ≤ 20
  | .no => ∃ t, TyX K H v t ∧ PySem.W.kitOne K t (.type "list") = some false ∧ PySem.W.kitOne K t (.type "tuple") = some false
def spSpoiled (K : PySem.W.Frag) : Sp := fun vs H Q _ => ∃ (p a : Addr) (us : List V) (ps : List Pc), vs = [.ref p, .ref a] ∧ StAt H p ∧ a ≠ p ∧ H a = some (.lst us) ∧ PcsAt K H us ps ∧ 1 ≤ ps.length ∧ ps.length ≤ 13 ∧
  ∀ v sh H', ShA K H' v sh → (∀ b, v = .ref b → H b = none) → Pl H H' p → Q v H'
section
variable {P : Program} {w : World} {K : PySem.W.Frag} {mg : Str → Option Value} {base : Heap}
structure G3 (P : Program) (w : World) (K : PySem.W.Frag) (mg : Str → Option Value) (base : Heap) : Prop extends G1 P w K mg base where
  law_odd : Cal P w K mg base CX0 "_law_odd" 2 ["stream"] (spOdd K)
abbrev s_l_spoiled : Stmt := topS 21
theorem sc_l_spoiled : FnScope ["stream", "pieces", "row", "choice", "place", "more"] ["stream", "pieces"] (defScope s_l_spoiled) := ⟨rfl, rfl, rfl, by decide +kernel, rfl, by decide +kernel, by decide +kernel⟩
theorem ok_spoiled {f : Addr} {fd : FuncData} (F : Fun K "_law_spoiled" "_law_spoiled" s_l_spoiled f fd) (B : Blt mg) (G : G3 P w K mg base) : FnOk P w K mg base CX0 3 f fd ["stream", "pieces"] (spSpoiled K) := by
  refine F.ok sc_l_spoiled (fun vs H Q E h => ?_) (fun cdv A outer s H vs Q E hr h => ?_)
  · obtain ⟨p, a, us, ps, rfl, _⟩ := h
    rfl
  · obtain ⟨p, a, us, ps, rfl, hP, hap, ha, hps, n1, n13, q⟩ := h
    have hu := hu_of hr
    refine ⟨_, (pss_cons (ps_set (i := 2) sc_l_spoiled.nd rfl (Or.inl rfl) (pe_callTy call_list_of (by rfl) B.list (by decide +kernel) (pa_cons (pv 1) pa_nil)))
    (pss_cons (ps_set (i := 3) sc_l_spoiled.nd rfl (Or.inl rfl) (pe_cal G.law_draw (hr.mono (by decide)) pass0 (pa_cons (pv 0) (pa_cons pe_int pa_nil))))
    (pss_cons (ps_set (i := 4) sc_l_spoiled.nd rfl (Or.inl rfl) (pe_cal G.law_draw (hr.mono (by decide)) pass0 (pa_cons (pv 0) (pa_cons (pe_callB call_len (by rfl) B.len (by decide +kernel) (pa_cons (pv 2) pa_nil)) pa_nil))))
    (pss_cons (ps_if (pt_cmpR op_eq (pv 3) pe_int (nomark _))
      (pss_one (ps_ret (pe_ix ix_list (pe_lst (pa_cons pe_non (pa_cons pe_str (pa_cons pe_dnewK (pa_cons pe_int (pa_cons (pe_tup pa_nil) pa_nil)))))) (pe_cal G.law_draw (hr.mono (by decide)) pass0 (pa_cons (pv 0) (pa_cons pe_int pa_nil))) (fun _ _ => rfl))))
      pss_nil)
    (pss_cons (ps_if (pt_cmpR op_eq (pv 3) pe_int (nomark _))
      (pss_one (ps_ret (pe_op op_cat (pe_slice sl_list (pv 2) po_none (po_some (pv 4))) (pe_slice sl_list (pv 2) (po_some (pe_op op_add (pv 4) pe_int)) po_none))))
      pss_nil)
    (pss_cons (ps_if (pt_cmpR op_eq (pv 3) pe_int (nomark _))
      (pss_one (ps_ret (pe_op op_cat (pe_op op_cat (pe_slice sl_list (pv 2) po_none (po_some (pv 4))) (pe_lst (pa_cons (pe_ix ix_list (pv 2) (pv 4) (fun _ _ => rfl)) pa_nil))) (pe_slice sl_list (pv 2) (po_some (pv 4)) po_none))))
      pss_nil)
    (pss_cons (ps_if (pt_cmpR op_eq (pv 3) pe_int (nomark _))
      (pss_one (ps_asg (pe_cal G.law_odd (hr.mono (by decide)) pass0 (pa_cons (pv 0) pa_nil)) (pg_sub (pv 2) (pv 4) set_list)))
      pss_nil)
    (pss_cons (ps_if (pt_cmpR op_eq (pv 3) pe_int (nomark _))
      (pss_one (ps_expr (pe_bm PySem.F.plainAttrs_list PySem.F.slot_list_insert PySem.F.type_list_insert mt_insert (pv 2) (pa_cons (pv 4) (pa_cons (pe_cal G.law_odd (hr.mono (by decide)) pass0 (pa_cons (pv 0) pa_nil)) pa_nil)))))
      pss_nil)
    (pss_cons (ps_if (pt_cmpR op_eq (pv 3) pe_int (nomark _))
      (pss_cons (ps_set (i := 5) sc_l_spoiled.nd rfl (Or.inl rfl) (pe_op op_sub (pe_op op_add pe_int (pe_cal G.law_draw (hr.mono (by decide)) pass0 (pa_cons (pv 0) (pa_cons pe_int pa_nil)))) (pe_callB call_len (by rfl) B.len (by decide +kernel) (pa_cons (pv 2) pa_nil))))
      (pss_one (ps_set (i := 2) sc_l_spoiled.nd rfl (Or.inl rfl) (pe_op op_cat (pe_op op_cat (pe_slice sl_list (pv 2) po_none (po_some (pv 4))) (pe_op op_rep (pe_lst (pa_cons (pe_tup (pa_cons pe_str (pa_cons pe_str pa_nil))) pa_nil)) (pv 5))) (pe_slice sl_list (pv 2) (po_some (pv 4)) po_none)))))
      pss_nil)
    (pss_one (ps_ret (pv 2)))))))))))), ?_⟩
    have ul := hps.len
    refine ⟨_, rfl, a, us, rfl, .inl (SqL.of ha), fun l hl => ?_⟩
    have hlp : l ≠ p := fun z => hP.ne (z ▸ hl)
    have P0 := (Pl.refl hP).new (o := .lst us) hl
    have r0 := hps.ev ((Ev.refl H).new (o := .lst us) hl)
    refine ⟨_, rfl, p, 6, rfl, P0.now, (by decide), (by decide), fun ch H1 c0 c6 P1 => ?_⟩
    have r1 := r0.ev (Ev.pl P0.now P1)
    have hl1 : H1 l = some (.lst us) := P1.keep upd_same hlp
    have P01 := P0.trans P1
    refine ⟨_, rfl, _, rfl, _, _, rfl, .inl ⟨_, SqL.of hl1, rfl⟩, p, _, rfl, P01.now, (by omega), Int.lt_of_le_of_lt (show (us.length : Int) ≤ 13 by omega) (by decide), fun pl H2 p0 pn P2 => ?_⟩
    have r2 := r1.ev (Ev.pl P01.now P2)
    have hl2 : H2 l = some (.lst us) := P2.keep hl1 hlp
    have P02 := P01.trans P2
    obtain ⟨k, rfl⟩ : ∃ k : Nat, pl = (k : Int) := ⟨pl.toNat, by omega⟩
    have hk : k < us.length := by omega
    clear r0 r1 hl1 P1 P2 P01 P0 pn p0
    rcases (show ch = 0 ∨ ch = 1 ∨ ch = 2 ∨ ch = 3 ∨ ch = 4 ∨ ch = 5 by omega) with rfl | rfl | rfl | rfl | rfl | rfl
    · refine ⟨_, rfl, rfl, _, rfl, iteP (decide_eq_true rfl) ?_⟩
      refine fun d1 hd1 => ⟨(by show 0 ≤ sizeLine; decide), fun t1 ht1 => ⟨(by show 5 ≤ sizeLine; decide), fun l1 hl1 => ?_⟩⟩
      have s1 := sameAt (o := .dK []) (Same.refl H2) hd1
      have s2 := s1.trans (sameAt (o := .tup []) (Same.refl _) ht1)
      have s3 := s2.trans (sameAt (o := .lst [.non, .str "id", .ref d1, .int 7, .ref t1]) (Same.refl _) hl1)
      have w1 := (sameAt (o := .lst [.non, .str "id", .ref d1, .int 7, .ref t1]) (Same.refl _) hl1) _ _ (upd_same (a := t1) (o := HO.tup []))
      have w2 := ((sameAt (o := .tup []) (Same.refl _) ht1).trans (sameAt (o := .lst [.non, .str "id", .ref d1, .int 7, .ref t1]) (Same.refl _) hl1)) _ _ (upd_same (H := H2) (a := d1))
      have lp : l1 ≠ p := fun z => (P02.same s2).now.ne (z ▸ hl1)
      refine ⟨_, rfl, p, 5, rfl, (P02.same s3).now, (by decide), (by decide), fun d H3 d0 d5 P3 => ?_⟩
      have L3 := P3.keep upd_same lp
      have e3 := Ev.pl (P02.same s3).now P3
      have PP := (P02.same s3).trans P3
      rcases (show d = 0 ∨ d = 1 ∨ d = 2 ∨ d = 3 ∨ d = 4 by omega) with rfl | rfl | rfl | rfl | rfl
      · exact ⟨_, _, _, .non, rfl, rfl, SqL.of L3, rfl, q _ .no H3 ⟨_, .base .non, kit_ty (by decide +kernel), kit_ty (by decide +kernel)⟩ (fun b e => by cases e) PP⟩
      · exact ⟨_, _, _, .str "id", rfl, rfl, SqL.of L3, rfl, q _ .no H3 ⟨_, .base (.str _), kit_ty (by decide +kernel), kit_ty (by decide +kernel)⟩ (fun b e => by cases e) PP⟩
      · exact ⟨_, _, _, .ref d1, rfl, rfl, SqL.of L3, rfl, q _ .no H3 ⟨_, tyx_ev (.base (.dK w2)) e3, kit_ty (by decide +kernel), kit_ty (by decide +kernel)⟩ (fun b e => by cases e; exact P02.free hd1) PP⟩
      · exact ⟨_, _, _, .int 7, rfl, rfl, SqL.of L3, rfl, q _ .no H3 ⟨_, .base (.int _), kit_ty (by decide +kernel), kit_ty (by decide +kernel)⟩ (fun b e => by cases e) PP⟩
      · exact ⟨_, _, _, .ref t1, rfl, rfl, SqL.of L3, rfl, q _ (.row []) H3 ⟨t1, [], rfl, .inr (e3.tup w1), .nil, by decide⟩ (fun b e => by cases e; exact (P02.same s1).free ht1) PP⟩
    · refine ⟨_, rfl, rfl, _, rfl, iteN (decide_eq_false fun z => absurd (V.int.inj z) (by decide)) ⟨_, rfl, rfl, _, rfl, iteP (decide_eq_true rfl) ?_⟩⟩
      refine ⟨_, rfl, _, rfl, _, rfl, l, _, rfl, SqL.of hl2, fun x1 hx1 => ?_⟩
      refine ⟨_, rfl, _, rfl, _, _, rfl, rfl, _, rfl, l, _, rfl, SqL.of ((sameAt (Same.refl _) hx1) _ _ hl2), fun x2 hx2 => ?_⟩
      refine ⟨x1, x2, _, _, rfl, rfl, (sameAt (Same.refl _) hx2) _ _ upd_same, upd_same, ?_, fun x3 hx3 => ?_⟩
      · have h1 := cutV_length us none (some (k : Int))
        have h2 := cutV_length us (some ((k : Int) + 1)) none
        exact Nat.le_of_lt (small1000 (by omega))
      · have S := ((sameAt (o := .lst (cutV us none (some (k : Int)))) (Same.refl H2) hx1).trans (sameAt (o := .lst (cutV us (some ((k : Int) + 1)) none)) (Same.refl _) hx2))
        have c1 : cutV us none (some (k : Int)) = us.take k := cut_take (by omega)
        have c2 : cutV us (some ((k : Int) + 1)) none = us.drop (k + 1) := cut_drop (k := k + 1) (by omega)
        refine q (.ref x3) (.row (ps.take k ++ ps.drop (k + 1))) _ ⟨x3, _, rfl, .inl upd_same, ?_, by rw [List.length_append, List.length_take, List.length_drop]; omega⟩ (fun b e => by cases e; exact (P02.same S).free hx3) ((P02.same S).same (sameAt (Same.refl _) hx3))
        have ga : PcsAt K H2 (cutV us none (some (k : Int))) (ps.take k) := by rw [c1]; exact r2.take k
        have gb : PcsAt K H2 (cutV us (some ((k : Int) + 1)) none) (ps.drop (k + 1)) := by rw [c2]; exact r2.drop (k + 1)
        exact (ga.app gb).ev (Ev.same (S.trans (sameAt (Same.refl _) hx3)))
    · refine ⟨_, rfl, rfl, _, rfl, iteN (decide_eq_false fun z => absurd (V.int.inj z) (by decide)) ⟨_, rfl, rfl, _, rfl, iteN (decide_eq_false fun z => absurd (V.int.inj z) (by decide)) ⟨_, rfl, rfl, _, rfl, iteP (decide_eq_true rfl) ?_⟩⟩⟩
      have hv : us[k]? = some us[k] := List.getElem?_eq_getElem hk
      generalize us[k] = v at hv
      refine ⟨_, rfl, _, rfl, _, rfl, l, _, rfl, SqL.of hl2, fun x1 hx1 => ?_⟩
      have S1 := sameAt (o := .lst (cutV us none (some (k : Int)))) (Same.refl H2) hx1
      refine ⟨_, rfl, _, rfl, _, _, _, v, rfl, rfl, SqL.of (S1 _ _ hl2), atI_nat hv, (by show 1 ≤ sizeLine; decide), fun x2 hx2 => ?_⟩
      have S2 := sameAt (o := .lst [v]) (Same.refl _) hx2
      have c1 : cutV us none (some (k : Int)) = us.take k := cut_take (by omega)
      refine ⟨x1, x2, _, _, rfl, rfl, S2 _ _ upd_same, upd_same, (by rw [c1, List.length_take]; exact Nat.le_of_lt (small1000 (show min k us.length + 1 ≤ 1000 by omega))), fun x3 hx3 => ?_⟩
      have S3 := (S1.trans S2).trans (sameAt (o := .lst (cutV us none (some (k : Int)) ++ [v])) (Same.refl _) hx3)
      refine ⟨_, rfl, _, rfl, _, rfl, l, _, rfl, SqL.of (S3 _ _ hl2), fun x4 hx4 => ?_⟩
      have S4 := sameAt (o := .lst (cutV us (some (k : Int)) none)) (Same.refl _) hx4
      have c2 : cutV us (some (k : Int)) none = us.drop k := cut_drop (by omega)
      refine ⟨x3, x4, _, _, rfl, rfl, S4 _ _ upd_same, upd_same, (by rw [c1, c2, List.length_append, List.length_take, List.length_drop]; exact Nat.le_of_lt (small1000 (show min k us.length + 1 + (us.length - k) ≤ 1000 by omega))), fun x5 hx5 => ?_⟩
      obtain ⟨pv, hpv, hpc⟩ := r2.get hv
      refine q (.ref x5) (.row ((ps.take k ++ [pv]) ++ ps.drop k)) _ ⟨x5, _, rfl, .inl upd_same, ?_, by rw [List.length_append, List.length_append, List.length_take, List.length_drop]; show min k ps.length + 1 + _ ≤ _; omega⟩ (fun b e => by cases e; exact (P02.same (S3.trans S4)).free hx5) ((P02.same (S3.trans S4)).same (sameAt (Same.refl _) hx5))
      have ga : PcsAt K H2 (cutV us none (some (k : Int))) (ps.take k) := by rw [c1]; exact r2.take k
      have gb : PcsAt K H2 (cutV us (some (k : Int)) none) (ps.drop k) := by rw [c2]; exact r2.drop k
      exact ((ga.app (.one hpc)).app gb).ev (Ev.same ((S3.trans S4).trans (sameAt (Same.refl _) hx5)))
    · refine ⟨_, rfl, rfl, _, rfl, iteN (decide_eq_false fun z => absurd (V.int.inj z) (by decide)) ⟨_, rfl, rfl, _, rfl, iteN (decide_eq_false fun z => absurd (V.int.inj z) (by decide)) ⟨_, rfl, rfl, _, rfl, iteN (decide_eq_false fun z => absurd (V.int.inj z) (by decide)) ⟨_, rfl, rfl, _, rfl, iteP (decide_eq_true rfl) ?_⟩⟩⟩⟩
      refine ⟨_, rfl, p, rfl, P02.now, fun v pc H3 hpc P3 => ?_⟩
      have hl3 := P3.keep hl2 hlp
      refine ⟨_, rfl, _, rfl, l, us, k, k, rfl, rfl, hl3, (by unfold ixN; rw [if_pos (by omega), if_pos (by omega), Int.toNat_natCast]), ?_⟩
      refine ⟨_, rfl, rfl, _, rfl, iteN (decide_eq_false fun z => absurd (V.int.inj z) (by decide)) ⟨_, rfl, rfl, _, rfl, iteN (decide_eq_false fun z => absurd (V.int.inj z) (by decide)) ⟨_, rfl, ?_⟩⟩⟩
      have e3 := (Ev.pl P02.now P3).trans ((Ev.refl H3).updL (ys := us.set k v) hl3)
      refine q (.ref l) (.row (ps.set k pc)) _ ⟨l, _, rfl, .inl upd_same, PcsAt.set (hpc.ev ((Ev.refl H3).updL hl3)) k (r2.ev e3), by rw [List.length_set]; omega⟩ (fun b e => by cases e; exact hl) ((P02.trans P3).at hl)
    · refine ⟨_, rfl, rfl, _, rfl, iteN (decide_eq_false fun z => absurd (V.int.inj z) (by decide)) ⟨_, rfl, rfl, _, rfl, iteN (decide_eq_false fun z => absurd (V.int.inj z) (by decide)) ⟨_, rfl, rfl, _, rfl, iteN (decide_eq_false fun z => absurd (V.int.inj z) (by decide)) ⟨_, rfl, rfl, _, rfl, iteN (decide_eq_false fun z => absurd (V.int.inj z) (by decide)) ⟨_, rfl, rfl, _, rfl, iteP (decide_eq_true rfl) ?_⟩⟩⟩⟩⟩
      refine ⟨_, rfl, .inl ⟨rfl, _, SqL.of hl2⟩, _, rfl, _, rfl, p, rfl, P02.now, fun v pc H3 hpc P3 => ?_⟩
      have hl3 := P3.keep hl2 hlp
      refine ⟨l, us, k, v, rfl, rfl, hl3, small1000 (by omega), (by omega), Int.lt_of_le_of_lt (show (k : Int) ≤ 13 by omega) (by decide), ?_⟩
      refine ⟨_, rfl, rfl, _, rfl, iteN (decide_eq_false fun z => absurd (V.int.inj z) (by decide)) ⟨_, rfl, ?_⟩⟩
      have e3 := (Ev.pl P02.now P3).trans ((Ev.refl H3).updL (ys := us.take k ++ [v] ++ us.drop k) hl3)
      refine q (.ref l) (.row (ps.take k ++ [pc] ++ ps.drop k)) _ ⟨l, _, rfl, .inl upd_same, (((r2.ev e3).take k).app (.one (hpc.ev ((Ev.refl H3).updL hl3)))).app ((r2.ev e3).drop k), by rw [List.length_append, List.length_append, List.length_take, List.length_drop]; show min k ps.length + 1 + _ ≤ _; omega⟩ (fun b e => by cases e; exact hl) ((P02.trans P3).at hl)
    · refine ⟨_, rfl, rfl, _, rfl, iteN (decide_eq_false fun z => absurd (V.int.inj z) (by decide)) ⟨_, rfl, rfl, _, rfl, iteN (decide_eq_false fun z => absurd (V.int.inj z) (by decide)) ⟨_, rfl, rfl, _, rfl, iteN (decide_eq_false fun z => absurd (V.int.inj z) (by decide)) ⟨_, rfl, rfl, _, rfl, iteN (decide_eq_false fun z => absurd (V.int.inj z) (by decide)) ⟨_, rfl, rfl, _, rfl, iteN (decide_eq_false fun z => absurd (V.int.inj z) (by decide)) ⟨_, rfl, rfl, _, rfl, iteP (decide_eq_true rfl) ?_⟩⟩⟩⟩⟩⟩
      refine ⟨_, rfl, p, 2, rfl, P02.now, (by decide), (by decide), fun d H3 d0 d2 P3 => ?_⟩
      have hl3 := P3.keep hl2 hlp
      have r3 := r2.ev (Ev.pl P02.now P3)
      have P03 := P02.trans P3
      refine ⟨_, _, rfl, rfl, _, rfl, _, _, rfl, .inl ⟨_, SqL.of hl3, rfl⟩, _, _, rfl, rfl, ?_⟩
      show gName 5 (V.int (15 + d - (us.length : Int))) _ H3 _
      obtain ⟨m, hm⟩ : ∃ m : Nat, 15 + d - (us.length : Int) = (m : Int) := ⟨(15 + d - (us.length : Int)).toNat, by omega⟩
      rw [hm]
      refine ⟨_, rfl, _, rfl, _, rfl, l, _, rfl, SqL.of hl3, fun x1 hx1 => ?_⟩
      have S1 := sameAt (o := .lst (cutV us none (some (k : Int)))) (Same.refl H3) hx1
      have c1 : cutV us none (some (k : Int)) = us.take k := cut_take (by omega)
      have c2 : cutV us (some (k : Int)) none = us.drop k := cut_drop (by omega)
      refine ⟨(by show 2 ≤ sizeLine; decide), fun t ht => ⟨(by show 1 ≤ sizeLine; decide), fun x2 hx2 => ?_⟩⟩
      have S2 := sameAt (o := .tup [.str "mark", .str "a"]) (Same.refl _) ht
      have S3 := sameAt (o := .lst [.ref t]) (Same.refl _) hx2
      refine ⟨_, rfl, x2, m, [.ref t], rfl, rfl, upd_same, by omega, Int.lt_of_le_of_lt (show (m : Int) ≤ 16 by omega) (by decide), (by show 1 * (m : Int).toNat ≤ sizeLine; rw [sizeLine_eq]; omega), fun x3 hx3 => ?_⟩
      have S4 := sameAt (o := .lst (List.replicate (m : Int).toNat [V.ref t]).flatten) (Same.refl _) hx3
      have ef : (List.replicate (m : Int).toNat [V.ref t]).flatten = List.replicate m (.ref t) := by
        rw [Int.toNat_natCast]
        clear hm S4 hx3
        induction m with
        | zero => rfl
        | succ m ih => rw [List.replicate_succ, List.flatten_cons, ih, List.replicate_succ]; rfl
      refine ⟨x1, x3, _, _, rfl, rfl, ((S2.trans S3).trans S4) _ _ upd_same, upd_same, (by rw [c1, ef, List.length_take, List.length_replicate]; exact Nat.le_of_lt (small1000 (by omega))), fun x4 hx4 => ?_⟩
      have S5 := (((S1.trans S2).trans S3).trans S4).trans (sameAt (o := .lst (cutV us none (some (k : Int)) ++ (List.replicate (m : Int).toNat [V.ref t]).flatten)) (Same.refl _) hx4)
      refine ⟨_, rfl, _, rfl, _, rfl, l, _, rfl, SqL.of (S5 _ _ hl3), fun x5 hx5 => ?_⟩
      have S6 := sameAt (o := .lst (cutV us (some (k : Int)) none)) (Same.refl _) hx5
      refine ⟨x4, x5, _, _, rfl, rfl, S6 _ _ upd_same, upd_same, (by rw [c1, c2, ef, List.length_append, List.length_take, List.length_replicate, List.length_drop]; exact Nat.le_of_lt (small1000 (by omega))), fun x6 hx6 => ⟨_, rfl, ?_⟩⟩
      have S7 := (S5.trans S6).trans (sameAt (o := .lst ((cutV us none (some (k : Int)) ++ (List.replicate (m : Int).toNat [V.ref t]).flatten) ++ cutV us (some (k : Int)) none)) (Same.refl _) hx6)
      have ht7 := (((S3.trans S4).trans (sameAt (o := .lst (cutV us none (some (k : Int)) ++ (List.replicate (m : Int).toNat [V.ref t]).flatten)) (Same.refl _) hx4)).trans (S6.trans (sameAt (o := .lst ((cutV us none (some (k : Int)) ++ (List.replicate (m : Int).toNat [V.ref t]).flatten) ++ cutV us (some (k : Int)) none)) (Same.refl _) hx6))) _ _ (upd_same (a := t) (o := HO.tup [.str "mark", .str "a"]))
      refine q (.ref x6) (.row ((ps.take k ++ List.replicate m (.pr "mark" "a")) ++ ps.drop k)) _ ⟨x6, _, rfl, .inl upd_same, ?_, by rw [List.length_append, List.length_append, List.length_take, List.length_replicate, List.length_drop]; omega⟩ (fun b e => by cases e; exact (P03.same (S5.trans S6)).free hx6) (P03.same S7)
      have r7 := r3.ev (Ev.same S7)
      have gm := PcsAt.rep (K := K) (p := .pr "mark" "a") ⟨t, rfl, ht7, by decide +kernel, by decide +kernel⟩ m
      rw [← ef] at gm
      refine PcsAt.app (PcsAt.app ?_ gm) ?_
      · have := r7.take k
        rw [← c1] at this
        exact this
      · have := r7.drop k
        rw [← c2] at this
        exact this
end
end Ash

set_option Elab.async false
set_option linter.all false
set_option maxRecDepth 100000
set_option maxHeartbeats 4000000
namespace SrtS
open PySem PySem.Spec PyProof.Rows L2
section
variable {prog : Program} {w : World} {A : Around} {E : Value → Shared → Prop} {s : Shared}
/-- the items of a tuple, collected in a new list -/
theorem coll_tup {l : Addr} {vs : List Value} {Q : List Value → Shared → Prop} (hl : s.heap.IsTuple l vs.toArray) (hz : vs.length ≤ sizeLine)
    (h : Q vs { s with heap := (s.heap.push (seqObj "list" #[] 0)).update s.heap.objs.size (Obj.mapSeq (· ++ vs.toArray)) }) : wpAny (model prog w) A (collect (.ref l)) Q E s := by
  have ⟨o, ho, hc, n, hd⟩ := hl
  have hp : (s.heap.push (seqObj "list" #[] 0)).get? l = some o := Heap.get?_push_of_some _ ho
  have hq : (s.heap.push (seqObj "list" #[] 0)).get? s.heap.objs.size = some (seqObj "list" #[] 0) := Heap.get?_push_size _ rfl
  have room : (#[] ++ vs.toArray : Array Value).size ≤ sizeLine + 1 := by
    rw [Array.size_append, List.size_toArray]
    show 0 + vs.length ≤ _
    omega
  unfold collect
  refine wpAny_bind <| wpAny_runValue <| codeAny_builtin entry_proto_collect' ?_
  show wpAny _ _ (newList [] >>= fun v => again (.builtin "list.__iadd__" ⟨[v, .ref l], []⟩)) _ _ s
  refine wpAny_bind <| wpAny_newList <| wpAny_pure ⟨Code.quiet_builtin _ (by decide +kernel), codeAny_builtin entry_list_iadd' ?_⟩
  show wpAny _ _ (PySem.Builtin.List.listExtendWith (.ref s.heap.objs.size) (.ref l) (.ref s.heap.objs.size)) _ _ { s with heap := s.heap.push (seqObj "list" #[] 0) }
  unfold PySem.Builtin.List.listExtendWith
  refine wpAny_bind <| wpAny_typeOf (T := "tuple") ⟨o, hp, hc⟩ ?_
  rw [if_pos (by rw [show (Value.type "tuple" == Value.type "tuple") = true from rfl, Bool.or_true])]
  refine wpAny_bind <| listItems_at hp hd <| wpAny_bind <| listItems_at (xs := #[]) (n := 0) hq rfl ?_
  rw [if_neg (by simp)]
  refine wpAny_bind <| listUpdate_at (xs := #[]) (n := 0) hq rfl ?_ (Nat.zero_le _) room
  refine wpAny_pure ?_
  show wpAny (model prog w) A (load s.heap.objs.size >>= fun o => match o.data with | .seq xs _ => pure xs.toList | _ => unsupported "internal:collect") Q E { s with heap := (s.heap.push (seqObj "list" #[] 0)).update s.heap.objs.size (Obj.mapSeq (· ++ vs.toArray)) }
  refine wpAny_bind <| wpAny_load (get?_update_seq hq _) ?_
  have e : ((#[] : Array Value) ++ vs.toArray).toList = vs := by simp
  show wpAny _ _ (pure ((#[] : Array Value) ++ vs.toArray).toList) Q E _
  rw [e]
  exact wpAny_pure h
/-- sorted(t), t a tuple of texts -/
theorem sorted_strsT {l : Addr} {vs : List Value} {ss : List Str} {Q : Value → Shared → Prop} (hl : s.heap.IsTuple l vs.toArray) (hz : vs.length ≤ sizeLine) (hS : StrsAre vs ss) (h64 : vs.length < 64)
    (h : ∀ (out : Array Value) (ss' : List Str), StrsAre out.toList ss' → ss'.Perm ss → sortedS ss' = true → Q (.ref (s.heap.objs.size + 1)) { s with heap := sortedAll s.heap vs out }) : wpAny (model prog w) A (call (.builtin "sorted") [.ref l]) Q E s := by
  have h1 : ((s.heap.push (seqObj "list" #[] 0)).update s.heap.objs.size (Obj.mapSeq (· ++ vs.toArray))).objs.size = s.heap.objs.size + 1 := by rw [Heap.size_update, size_push']
  have h2 : (((s.heap.push (seqObj "list" #[] 0)).update s.heap.objs.size (Obj.mapSeq (· ++ vs.toArray))).push (seqObj "list" vs.toArray 0)).get? (s.heap.objs.size + 1) = some (seqObj "list" vs.toArray 0) := by
    have := Heap.get?_push_size ((s.heap.push (seqObj "list" #[] 0)).update s.heap.objs.size (Obj.mapSeq (· ++ vs.toArray))) (o := seqObj "list" vs.toArray 0) rfl
    rwa [h1] at this
  refine Calls.call_function_entry kind_sorted plain_sorted entry_sorted (args_sorted1 _) ?_
  unfold Builtin.«sorted»
  refine wpAny_bind (m := checkCount "sorted" 1 1 _) <| wpAny_pure <| wpAny_bind <| coll_tup hl hz <| wpAny_bind <| wpAny_newList ?_ hz
  show wpAny _ _ _ _ _ { s with heap := ((s.heap.push (seqObj "list" #[] 0)).update s.heap.objs.size (Obj.mapSeq (· ++ vs.toArray))).push (seqObj "list" vs.toArray 0) }
  rw [h1]
  refine wpAny_bind <| wpAny_holding <| wpAny_call_entry slot_list_sort ⟨_, h2, rfl⟩ entry_list_sort (list_sort_treeK strKind_oneLt h2 hS.keysOf (fun v₁ v₂ rest e => keyKind_strs (by rw [← e]; exact hS)) h64 fun st' hp hs => ⟨_, rfl, ?_⟩) (args_list_sort _)
  obtain ⟨ss', g1, g2, g3⟩ := sorted_out_str hS hp hs
  exact wpAny_pure ⟨_, rfl, h _ ss' g1 g2 g3⟩
end
end SrtS
namespace L2
open PySem PySem.Spec PyProof.Rows
/-- sorted of a tuple of texts -/
def rSortedST (K : PySem.W.Frag) : List V → Hp → VK → Prop := fun vs H Q => ∃ (a : Addr) (xs : List Str), vs = [V.ref a] ∧ SqT K H a (xs.map V.str) ∧ xs.length < 64 ∧
  ∀ (ys : List Str) (p : Addr), ys.Perm xs → sortedS ys = true → H p = none → Q (.ref p) (upd H p (.lst (ys.map V.str)))
theorem cr_sortedST {X : Cx} : CallR X (.builtin "sorted") (rSortedST X.K) := by
  intro pins s σ H vs us Q I r h
  obtain ⟨a, xs, rfl, hs, h6, q⟩ := h
  obtain ⟨its, rv, hl, hz⟩ := I.tuple hs
  rw [Vals.ref1 r]
  have hn := rv.length
  rw [List.length_map] at hn
  have hl' : s.heap.IsTuple a its.toArray := hl
  refine SrtS.sorted_strsT hl' (by rw [← rv.length]; exact hz) rv.strs (by rw [← hn]; exact h6) fun out ys g1 g2 g3 => ?_
  obtain ⟨ep, ge⟩ := sortedAll_at s.heap its out
  refine ⟨.ref _, upd H (s.heap.objs.size + 1) (.lst (ys.map V.str)), I.laid (t' := s.toks) (fun _ _ => sortedAll_old) (Nat.le_succ _) ⟨?_, out.toList, ep, vals_of_strs g1, ge⟩, rfl, q ys _ g2 g3 (I.hok.fresh (Nat.le_succ _))⟩
  rw [List.length_map, g2.length_eq]
  exact small64 h6
/-- a list or a tuple -/
def SqA (K : PySem.W.Frag) (H : Hp) (a : Addr) (xs : List V) : Prop := SqL K H a xs ∨ SqT K H a xs
def iAny (K : PySem.W.Frag) (tl : TE) : TI := fun σ H R => tl σ H fun x H1 => ∃ a, x = .ref a ∧ (((∃ xs, SqL K H1 a xs) ∧ R (Itl K a) H1) ∨ ((∃ xs, SqT K H1 a xs) ∧ R (Itt K a) H1))
theorem pi_any {X : Cx} {tg l : Expr} {tl : TE} (hl : PE X l tl) : PI X tg l (iAny X.K tl) := by
  constructor
  intro pins s σ H R I h
  refine thn (hl.run pins s σ H _ I h) ?_
  rintro v s1 ⟨x, H1, I1, r1, a, e, q⟩
  subst e
  cases r1
  have fp : ∀ b ∈ [s1.heap.objs.size], FpOk X pins H1 b := fun b hb => by
    rw [List.mem_singleton.mp hb]
    exact I1.fpOk (Nat.le_refl _) (I1.hok.fresh (Nat.le_refl _))
  rcases q with ⟨⟨xs, hq⟩, q⟩ | ⟨⟨xs, hq⟩, q⟩
  · obtain ⟨its, rv, p, hz⟩ := I1.list hq
    exact wpAny_pyIter_list p.isList ⟨_, [_], _, _, H1, rfl, I1.kept (t' := s1.toks) (fun b o e => Heap.get?_push_of_some _ e), turn_list a _, ⟨_, Heap.get?_push_size _ rfl, rfl, rfl⟩, fp, q⟩
  · obtain ⟨its, rv, p, hz⟩ := I1.tuple hq
    have p' : s1.heap.IsTuple a its.toArray := p
    exact wpAny_pyIter_tuple p' ⟨_, [_], _, _, H1, rfl, I1.kept (t' := s1.toks) (fun b o e => Heap.get?_push_of_some _ e), turn_tuple a _, ⟨_, Heap.get?_push_size _ rfl, rfl, rfl⟩, fp, q⟩
end L2

set_option Elab.async false
set_option linter.all false
set_option maxRecDepth 100000
set_option maxHeartbeats 4000000
set_option pp.maxSteps 1500
namespace Ash
open PySem PySem.Spec PyProof.Rows L2
open C8 (pss_cut)
/-! ### what is a shape -/
theorem str_ext {a b : Str} (h : a.cps.toList = b.cps.toList) : a = b := by
  obtain ⟨x⟩ := a
  obtain ⟨y⟩ := b
  have h : x.toList = y.toList := h
  rw [Array.toList_inj.mp h]
/-- texts in order -/
def LeS (a b : Str) : Prop := decide (b.cps.toList < a.cps.toList) = false
theorem leS_anti {a b : Str} (h : LeS a b) (g : LeS b a) : a = b := str_ext (PyProof.Rows.strKind.total _ _ g h)
theorem leS_trans {a b c : Str} (h : LeS a b) (g : LeS b c) : LeS a c := by
  unfold LeS at *
  cases e : decide (c.cps.toList < a.cps.toList) with
  | false => rfl
  | true =>
    rcases PyProof.Rows.strKind.negTrans _ b.cps.toList _ e with q | q
    · exact absurd (show decide (c.cps.toList < b.cps.toList) = true from q) (by rw [g]; exact Bool.false_ne_true)
    · exact absurd (show decide (b.cps.toList < a.cps.toList) = true from q) (by rw [h]; exact Bool.false_ne_true)
theorem ris_pw : ∀ (l : List Str) (p : Str), risingS p l = true → (p :: l).Pairwise LeS
  | [], p, _ => List.pairwise_singleton _ _
  | x :: r, p, h => by
    have h : (!ltCps x.cps.toList p.cps.toList && risingS x r) = true := h
    rw [Bool.and_eq_true] at h
    have e1 : LeS p x := by
      unfold LeS
      rw [← ltCps_eq]
      simpa using h.1
    have ih := ris_pw r x h.2
    refine List.pairwise_cons.mpr ⟨fun y hy => ?_, ih⟩
    rcases List.mem_cons.mp hy with rfl | hy
    · exact e1
    · exact leS_trans e1 (List.rel_of_pairwise_cons ih hy)
theorem srtS_pw : ∀ {l : List Str}, sortedS l = true → l.Pairwise LeS
  | [], _ => .nil
  | p :: r, h => ris_pw r p h
theorem srt_uniq {α : Type} {le : α → α → Prop} (anti : ∀ a b, le a b → le b a → a = b) : ∀ {l m : List α}, l.Pairwise le → m.Pairwise le → l.Perm m → l = m
  | [], m, _, _, p => (List.nil_perm.mp p).symm
  | a :: l, [], _, _, p => absurd p.symm (by simp)
  | a :: l, b :: m, hl, hm, p => by
    have e : a = b := by
      rcases List.mem_cons.mp (p.mem_iff.mp (List.mem_cons_self (a := a) (l := l))) with h | h
      · exact h
      · rcases List.mem_cons.mp (p.mem_iff.mpr (List.mem_cons_self (a := b) (l := m))) with g | g
        · exact g.symm
        · exact anti _ _ (List.rel_of_pairwise_cons hl g) (List.rel_of_pairwise_cons hm h)
    subst e
    rw [srt_uniq anti (List.pairwise_cons.mp hl).2 (List.pairwise_cons.mp hm).2 ((List.perm_cons a).mp p)]
theorem dp_strs {K : PySem.W.Frag} {H : Hp} : ∀ is : List Str, DpAll K H (is.map V.str) (is.map PyData.str)
  | [] => .nil
  | i :: r => .cons (.str i) (dp_strs r)
theorem strs_shaped {is : List Str} (h : ∀ z ∈ is, PyData.strOk z = true) : SeqAt.shaped (.list (is.map PyData.str)) = true := by
  have q : (is.map PyData.str).all flatD = true := by
    rw [List.all_eq_true]
    intro d hd
    obtain ⟨z, hz, rfl⟩ := List.mem_map.mp hd
    exact h z hz
  obtain ⟨h1, h2⟩ := flat_lay q
  unfold SeqAt.shaped
  simp [PyData.canLay0, PyData.depth, h1]
  omega
theorem eqvAll_strs : ∀ {xs ys : List Str}, PyData.eqvAll (xs.map PyData.str) (ys.map PyData.str) = true ↔ xs = ys
  | [], [] => by simp [PyData.eqvAll]
  | [], _ :: _ => by simp [PyData.eqvAll]
  | _ :: _, [] => by simp [PyData.eqvAll]
  | x :: xs, y :: ys => by
    rw [List.map_cons, List.map_cons, PyData.eqvAll, Bool.and_eq_true, eqvAll_strs, PyData.eqv, List.cons.injEq, beq_iff_eq]
theorem eqv_strs {xs ys : List Str} : PyData.eqv (.list (xs.map PyData.str)) (.list (ys.map PyData.str)) = true ↔ xs = ys := by
  rw [PyData.eqv]
  exact eqvAll_strs

theorem ShA.ev {K : PySem.W.Frag} {H H' : Hp} {v : V} {sh : Sh} (h : ShA K H v sh) (s : Same H H') : ShA K H' v sh := by
  cases sh with
  | row ps =>
    obtain ⟨a, us, h1, h2, h3, h4⟩ := h
    exact ⟨a, us, h1, h2.imp (s _ _) (s _ _), h3.ev (Ev.same s), h4⟩
  | no =>
    obtain ⟨t, h1, h2⟩ := h
    exact ⟨t, tyx_ev h1 (Ev.same s), h2⟩
def Sh.isRow : Sh → Bool
  | .row _ => true
  | .no => false
theorem kitA {K : PySem.W.Frag} {t : Value} {b c : Bool} (h1 : PySem.W.kitOne K t (.type "list") = some b) (h2 : PySem.W.kitOne K t (.type "tuple") = some c) : PySem.W.kitAny K t [.type "list", .type "tuple"] = some (b || c) := by
  cases b <;> cases c <;> simp [PySem.W.kitAny, h1, h2]
theorem ShA.ty {K : PySem.W.Frag} {H : Hp} {v : V} {sh : Sh} (h : ShA K H v sh) : ∃ t, TyX K H v t ∧ PySem.W.kitAny K t [.type "list", .type "tuple"] = some sh.isRow := by
  cases sh with
  | row ps =>
    obtain ⟨a, us, rfl, h2, h3, _⟩ := h
    rcases h2 with h2 | h2
    · exact ⟨_, .base (.lst h2), kitA (b := true) (c := false) (kit_ty (by decide +kernel)) (kit_ty (by decide +kernel))⟩
    · exact ⟨_, .base (.tup h2), kitA (b := false) (c := true) (kit_ty (by decide +kernel)) (kit_ty (by decide +kernel))⟩
  | no =>
    obtain ⟨t, h1, h2, h3⟩ := h
    exact ⟨t, h1, kitA h2 h3⟩
theorem two_ok {n : Nat} (h : n = 2) : (!decide (V.int (n : Int) = V.int 2)) = false := by
  rw [h]
  show (!decide (V.int 2 = V.int 2)) = false
  rw [decide_eq_true rfl]
  rfl
theorem pcF_f {s : Str} : pcF (.pr "field" s) = some [s] := by
  show (if ("field" : Str) = "field" then some [s] else if ("field" : Str) = "mark" ∧ mkB s = true then some [] else none) = some [s]
  rw [if_pos rfl]
theorem pcsF_bad : ∀ {ps : List Pc} {i : Nat} {p : Pc}, ps[i]? = some p → pcF p = none → pcsF ps = none
  | [], _, _, h, _ => by simp at h
  | q :: ps, 0, p, h, g => by
    cases Option.some.inj (show some q = some p from h)
    unfold pcsF
    rw [g]
  | q :: ps, i + 1, p, h, g => by
    have e := pcsF_bad (ps := ps) (i := i) h g
    unfold pcsF
    rw [e]
    cases pcF q <;> rfl
theorem pcsF_step {ps : List Pc} {i : Nat} {p : Pc} {a b : List Str} (h : ps[i]? = some p) (h1 : pcsF (ps.take i) = some a) (h2 : pcF p = some b) : pcsF (ps.take (i + 1)) = some (a ++ b) := by
  rw [list_take h]
  refine pcsF_app h1 ?_
  unfold pcsF
  rw [h2]
  show some (b ++ []) = some b
  rw [List.append_nil]
def rLeS : R2 := fun x y H Q => ∃ i j, x = .str i ∧ y = .str j ∧ Q (.bl (!decide (j.cps.toList < i.cps.toList))) H
theorem one_lt {a b : Nat} : (([a] : List Nat) < [b]) ↔ a < b := by
  constructor
  · intro h
    cases h with
    | rel h => exact h
    | cons h => cases h
  · intro h
    exact List.Lex.rel h
theorem okC_le (c : Nat) : ((!decide (([c] : List Nat) < [32])) && (!decide (([126] : List Nat) < [c]))) = okC c := by
  unfold okC
  rw [Bool.eq_iff_iff]
  simp only [Bool.and_eq_true, Bool.not_eq_true', decide_eq_false_iff_not, one_lt, decide_eq_true_eq]
  omega
def spIsRow (K : PySem.W.Frag) : Sp := fun vs H Q _ => ∃ v sh, vs = [v] ∧ ShA K H v sh ∧ ∀ H', Same H H' → Q (.bl sh.isRow) H'
def spIsMark : Sp := fun vs H Q _ => ∃ z : Str, vs = [.str z] ∧ z.length ≤ 100 ∧ ∀ H', Same H H' → Q (.bl (mkB z)) H'
def spIsShape (K : PySem.W.Frag) : Sp := fun vs H Q _ => ∃ (v : V) (sh : Sh) (a : Addr) (w : Str), vs = [v, .ref a] ∧ ShA K H v sh ∧ SqT K H a ((flds w).map V.str) ∧ ∀ b H', (b = true ↔ sh.good w) → Same H H' → Q (.bl b) H'
section
variable {P : Program} {w : World} {K : PySem.W.Frag} {mg : Str → Option Value} {base : Heap}
abbrev s_is_row : Stmt := topS 1
theorem sc_is_row : FnScope ["thing"] ["thing"] (defScope s_is_row) := ⟨rfl, rfl, rfl, by decide +kernel, rfl, by decide +kernel, by decide +kernel⟩
theorem ok_is_row {f : Addr} {fd : FuncData} (F : Fun K "is_row" "is_row" s_is_row f fd) (B : Blt mg) : FnOk P w K mg base CX0 1 f fd ["thing"] (spIsRow K) := by
  refine F.ok sc_is_row (fun vs H Q E h => ?_) (fun cdv A outer s H vs Q E hr h => ?_)
  · obtain ⟨v, sh, rfl, _⟩ := h
    rfl
  · obtain ⟨v, sh, rfl, hv, q⟩ := h
    refine ⟨_, (pss_one (ps_ret (pe_callB call_isiT (by rfl) B.isinstance (by decide +kernel) (pa_cons (pv 0) (pa_cons (pe_tup (pa_cons (pe_bltn (v := .ty "list") (by rfl) B.list (by decide +kernel) rfl) (pa_cons (pe_bltn (v := .ty "tuple") (by rfl) B.tuple (by decide +kernel) rfl) pa_nil))) pa_nil))))), ?_⟩
    refine ⟨_, rfl, (by show 2 ≤ sizeLine; decide), fun t ht => ?_⟩
    have s1 := sameAt (o := .tup [.ty "list", .ty "tuple"]) (Same.refl H) ht
    obtain ⟨ty, h1, h2⟩ := (hv.ev s1).ty
    exact ⟨_, t, _, _, _, _, rfl, upd_same, .cons (.ty _) (.cons (.ty _) .nil), h1, h2, q _ s1⟩
abbrev s_is_mark : Stmt := topS 11
theorem sc_is_mark : FnScope ["text", "letter"] ["text"] (defScope s_is_mark) := ⟨rfl, rfl, rfl, by decide +kernel, rfl, by decide +kernel, by decide +kernel⟩
theorem ok_is_mark {f : Addr} {fd : FuncData} (F : Fun K "is_mark" "is_mark" s_is_mark f fd) (B : Blt mg) (g_LONGEST_MARK : ∃ t, mg "LONGEST_MARK" = some (.int 6 t)) : FnOk P w K mg base CX0 1 f fd ["text"] spIsMark := by
  obtain ⟨t2, g_LONGEST_MARK⟩ := g_LONGEST_MARK
  refine F.ok sc_is_mark (fun vs H Q E h => ?_) (fun cdv A outer s H vs Q E hr h => ?_)
  · obtain ⟨z, rfl, _⟩ := h
    rfl
  · obtain ⟨z, rfl, hz, q⟩ := h
    refine ⟨_, (pss_one (ps_ret (pe_and (pe_chain op_le op_le pe_int (pe_callB call_len_str (by rfl) B.len (by decide +kernel) (pa_cons (pv 0) pa_nil)) (pe_glob (v := .int 6) (by rfl) g_LONGEST_MARK ⟨_, rfl⟩)) (pe_one (pe_callB (cr_all rfl) (by rfl) B.all (by decide +kernel) (pa_cons (pe_lc (own := [("letter", 1)]) (g := gName 1) (tt := tYes) (by rfl) sc_is_mark.nd (pi_str (pv 0)) (blkOk_by (own := [("letter", 1)]) (N := ["text", "letter"]) (sc := defScope s_is_mark) (by decide +kernel)) (fun _ _ _ _ _ => (pg_name (i := 1) sc_is_mark.nd rfl (Or.inl rfl))) (fun _ _ _ _ _ => pts_nil) (fun _ _ _ _ _ => (pe_chain (show OpR _ (compareOp .LtE) rLeS from op_le_str) (show OpR _ (compareOp .LtE) rLeS from op_le_str) pe_str (pv 1) pe_str))) pa_nil)))))), ?_⟩
    have zl : z.length ≤ sizeLine := by rw [sizeLine_eq]; omega
    refine ⟨_, rfl, _, rfl, zl, _, _, rfl, rfl, _, rfl, ?_⟩
    have bad : ¬ (1 ≤ z.length ∧ z.length ≤ 6) → mkB z = false := fun h => by
      unfold mkB
      by_cases h1 : 1 ≤ z.length
      · rw [decide_eq_false (show ¬ z.length ≤ 6 by omega), Bool.and_false, Bool.false_and]
      · rw [decide_eq_false h1, Bool.false_and, Bool.false_and]
    refine ite2 (fun c1 => ?_) (fun c1 => ?_)
    · have c1 : (1 : Int) ≤ z.length := of_decide_eq_true c1
      refine ⟨_, _, rfl, rfl, _, rfl, ?_⟩
      refine ite2 (fun c2 => ?_) (fun c2 => ?_)
      · have c2 : (z.length : Int) ≤ 6 := of_decide_eq_true c2
        refine ⟨_, rfl, z, rfl, fun D hD => lc_it (walk_str (z := z)) (fun i H1 => H1 D = some (.lst (((z.cps.toList.take i).map okC).map V.bl)) ∧ Same H H1) ⟨upd_same, sameAt (Same.refl H) hD⟩ (fun _ _ _ _ => trivial) ?_ ?_⟩
        · rintro i x H1x H1 hi ⟨hD1, hs⟩ ⟨rfl, c, hc, rfl⟩
          have hc' : z.cps.toList[i]? = some c := by rw [Array.getElem?_toList]; exact hc
          have hlen : (z.cps.toList.take i).length ≤ 6 := by
            have : i < z.length := hi
            rw [List.length_take]
            omega
          have ok := okC_le c
          have fin : ∀ b : Bool, b = okC c → upd H1 D (.lst (((z.cps.toList.take i).map okC).map V.bl ++ [.bl b])) D = some (.lst (((z.cps.toList.take (i + 1)).map okC).map V.bl)) := fun b e => by
            rw [upd_same, list_take hc', List.map_append, List.map_append, e]
            rfl
          refine ⟨rfl, _, rfl, _, _, rfl, rfl, _, rfl, ite2 (fun k1 => ?_) (fun k1 => ?_)⟩
          · exact ⟨_, _, rfl, rfl, _, hD1, (by rw [List.length_map, List.length_map]; exact small1000 (by omega)), fin _ (by rw [← ok, show (!decide (([c] : List Nat) < [32])) = true from k1, Bool.true_and]; rfl), sameAt hs hD⟩
          · exact ⟨_, hD1, (by rw [List.length_map, List.length_map]; exact small1000 (by omega)), fin false (by rw [← ok, show (!decide (([c] : List Nat) < [32])) = false from Bool.eq_false_iff.mpr k1, Bool.false_and]), sameAt hs hD⟩
        · rintro H1 ⟨hD1, hs⟩
          have e : z.cps.toList.take z.cps.size = z.cps.toList := by rw [← Array.length_toList, List.take_length]
          rw [e] at hD1
          refine ⟨D, _, rfl, SqL.of hD1, ?_⟩
          have e2 : ((z.cps.toList.map okC).all id) = mkB z := by
            unfold mkB okS
            rw [decide_eq_true (show 1 ≤ z.length by omega), decide_eq_true (show z.length ≤ 6 by omega), Bool.true_and, Bool.true_and, List.all_map]
            rfl
          rw [e2]
          exact q _ hs
      · have c2 : ¬ (z.length : Int) ≤ 6 := fun h => c2 (decide_eq_true h)
        have := q H (Same.refl H)
        rw [bad (by omega)] at this
        exact this
    · have c1 : ¬ (1 : Int) ≤ z.length := fun h => c1 (decide_eq_true h)
      have := q H (Same.refl H)
      rw [bad (by omega)] at this
      exact ⟨_, rfl, iteF this⟩
abbrev s_is_shape : Stmt := topS 10
theorem sc_is_shape : FnScope ["thing", "fields", "found", "piece"] ["thing", "fields"] (defScope s_is_shape) := ⟨rfl, rfl, rfl, by decide +kernel, rfl, by decide +kernel, by decide +kernel⟩
structure G4 (P : Program) (w : World) (K : PySem.W.Frag) (mg : Str → Option Value) (base : Heap) : Prop where
  is_row : Cal P w K mg base CX0 "is_row" 1 ["thing"] (spIsRow K)
  is_mark : Cal P w K mg base CX0 "is_mark" 1 ["text"] spIsMark
theorem ok_is_shape {f : Addr} {fd : FuncData} (F : Fun K "is_shape" "is_shape" s_is_shape f fd) (B : Blt mg) (G : G4 P w K mg base) (g_MOST_PIECES : ∃ t, mg "MOST_PIECES" = some (.int 15 t)) : FnOk P w K mg base CX0 2 f fd ["thing", "fields"] (spIsShape K) := by
  obtain ⟨t2, g_MOST_PIECES⟩ := g_MOST_PIECES
  refine F.ok sc_is_shape (fun vs H Q E h => ?_) (fun cdv A outer s H vs Q E hr h => ?_)
  · obtain ⟨v, sh, a, w, rfl, _⟩ := h
    rfl
  · obtain ⟨v, sh, a, z, rfl, hv, ha, q⟩ := h
    refine ⟨_, (pss_cons (ps_if (PW.pt (pw_or (pt_not (pt_val (pe_cal G.is_row (hr.mono (by decide)) pass0 (pa_cons (pv 0) pa_nil)))) (pw_or1 (pt_not (pt_chain op_le op_le pe_int (pe_callB call_len_seq (by rfl) B.len (by decide +kernel) (pa_cons (pv 0) pa_nil)) (pe_glob (v := .int 15) (by rfl) g_MOST_PIECES ⟨_, rfl⟩))))))
      (pss_one (ps_ret pe_bl))
      pss_nil)
    (pss_cons (ps_set (i := 2) sc_is_shape.nd rfl (Or.inl rfl) (pe_lst pa_nil))
    (pss_cons (ps_for PassesOwn.never rfl (show PI _ _ _ (iAny K _) from pi_any (pv 0)) (pg_name (i := 3) sc_is_shape.nd rfl (Or.inl rfl))
      (pss_cons (ps_if (PW.pt (pw_or (pt_not (pt_val (pe_callB call_isi (by rfl) B.isinstance (by decide +kernel) (pa_cons (pv 3) (pa_cons (pe_bltn (v := .ty "tuple") (by rfl) B.tuple (by decide +kernel) rfl) pa_nil))))) (pw_or (pt_cmpR op_ne (pe_callB call_len_seq (by rfl) B.len (by decide +kernel) (pa_cons (pv 3) pa_nil)) pe_int (nomark _)) (pw_or1 (pt_not (pt_val (pe_callB call_isi (by rfl) B.isinstance (by decide +kernel) (pa_cons (pe_ix ix_tup (pv 3) pe_int (fun _ _ => rfl)) (pa_cons (pe_bltn (v := .ty "str") (by rfl) B.str (by decide +kernel) rfl) pa_nil)))))))))
        (pss_one (ps_ret pe_bl))
        pss_nil)
      (pss_one (ps_if (pt_cmpR op_eq (pe_ix ix_tup (pv 3) pe_int (fun _ _ => rfl)) pe_str (nomark _))
        (pss_one (ps_expr (pe_bm PySem.F.plainAttrs_list PySem.F.slot_list_append PySem.F.type_list_append mt_append (pv 2) (pa_cons (pe_ix ix_tup (pv 3) pe_int (fun _ _ => rfl)) pa_nil))))
        (pss_one (ps_if (PW.pt (pw_or (pt_cmpR op_ne (pe_ix ix_tup (pv 3) pe_int (fun _ _ => rfl)) pe_str (nomark _)) (pw_or1 (pt_not (pt_val (pe_cal G.is_mark (hr.mono (by decide)) pass0 (pa_cons (pe_ix ix_tup (pv 3) pe_int (fun _ _ => rfl)) pa_nil)))))))
          (pss_one (ps_ret pe_bl))
          pss_nil))))))
    (pss_one (ps_ret (pe_cmpR (op_eqD hr.units) (pe_callB cr_sortedS (by rfl) B.sorted (by decide +kernel) (pa_cons (pv 2) pa_nil)) (pe_callB cr_sortedST (by rfl) B.sorted (by decide +kernel) (pa_cons (pv 1) pa_nil)) (nomark _))))))), ?_⟩
    refine ⟨_, rfl, v, sh, rfl, hv, fun H1 s1 => ⟨_, rfl, ?_⟩⟩
    cases sh with
    | no => exact iteP rfl (q false H1 ⟨fun h => Bool.noConfusion h, fun h => h.elim⟩ s1)
    | row ps =>
      refine iteN rfl ?_
      obtain ⟨b, us, rfl, hb, hps, h20⟩ := hv.ev s1
      have ul := hps.len
      have no : (¬ (1 ≤ us.length ∧ us.length ≤ 15)) → ∀ H', Same H H' → Q (.bl false) H' := fun h H' s' => q false H' ⟨fun h => Bool.noConfusion h, fun g => absurd (show 1 ≤ us.length ∧ us.length ≤ 15 from ⟨by rw [ul]; exact g.1, by rw [ul]; exact g.2.1⟩) h⟩ s'
      have hsq : SqL K H1 b us ∨ SqT K H1 b us := hb.imp SqL.of SqT.of
      refine ⟨_, rfl, _, _, rfl, hsq, _, _, rfl, rfl, _, rfl, ?_⟩
      refine ite2 (fun c1 => ?_) (fun c1 => ⟨_, rfl, iteP rfl (no (fun h => c1 (decide_eq_true (by show (1 : Int) ≤ us.length; omega))) H1 s1)⟩)
      have c1 : (1 : Int) ≤ us.length := of_decide_eq_true c1
      refine ⟨_, _, rfl, rfl, _, rfl, ?_⟩
      by_cases c2 : (us.length : Int) ≤ 15
      rotate_left
      · exact iteP (by rw [decide_eq_false c2]; rfl) (no (fun h => c2 (by omega)) H1 s1)
      refine iteN (by rw [decide_eq_true c2]; rfl) ?_
      refine ⟨(by show 0 ≤ sizeLine; decide), fun l hl => ?_⟩
      have s2 := sameAt (o := .lst []) (Same.refl H1) hl
      have hps2 := hps.ev (Ev.same s2)
      have bad : ∀ (i : Nat) (p : Pc) H', ps[i]? = some p → pcF p = none → Same H H' → Q (.bl false) H' := fun i p H' h g s' => q false H' ⟨fun h => Bool.noConfusion h, fun ⟨_, _, fs, e, _⟩ => by rw [pcsF_bad h g] at e; cases e⟩ s'
      have lb : l ≠ b := fun z => by rcases hb with hb | hb <;> (rw [← z, hl] at hb; cases hb)
      have n0 : H l = none := none_of s1 hl
      rcases hb with hb | hb
      · have hb2 := s2 _ _ hb
        refine ⟨_, rfl, b, rfl, .inl ⟨⟨_, SqL.of hb2⟩, ?_⟩⟩
        refine for_it (walk_list (K := K) (a := b) (xs := us)) (fun i σ H2 => (∃ x3, σ = [some (.ref b), some (.ref a), some (.ref l), x3]) ∧ H2 b = some (.lst us) ∧ PcsAt K H2 us ps ∧ Same H H2 ∧ ∃ fs, pcsF (ps.take i) = some fs ∧ H2 l = some (.lst (fs.map V.str)) ∧ fs.length ≤ i ∧ ∀ x ∈ fs, okT x) ⟨⟨_, rfl⟩, hb2, hps2, s1.trans s2, [], rfl, upd_same, by decide, fun x hx => by cases hx⟩ (fun i σ H2 _ hv => SqL.of hv.2.1) ?_ ?_
        · rintro i y σ H2x H2 hi ⟨⟨x3, rfl⟩, hb3, hps3, s3, fs, hf, hl3, fl, fo⟩ ⟨rfl, hy⟩
          obtain ⟨p, hp, hpc⟩ := hps3.get hy
          have BAD := fun g H' s' => bad i p H' hp g s'
          cases p with
          | no =>
            obtain ⟨t, h1, h2⟩ := hpc
            exact ⟨_, rfl, _, _, _, _, _, rfl, .ty _, h1, h2, _, rfl, iteP rfl (BAD rfl _ s3)⟩
          | len =>
            obtain ⟨e, xs, rfl, h1, h2⟩ := hpc
            refine ⟨_, rfl, _, _, _, _, true, rfl, .ty _, .base (.tup h1), kit_ty (by decide +kernel), _, rfl, iteN rfl ⟨_, rfl, _, _, rfl, .inr (SqT.of h1), rfl, _, rfl, iteP ?_ (BAD rfl _ s3)⟩⟩
            rw [decide_eq_false fun z => h2 (by have := V.int.inj z; omega)]
            rfl
          | snd w =>
            obtain ⟨e, y2, t, rfl, h1, h2, h3⟩ := hpc
            exact ⟨_, rfl, _, _, _, _, true, rfl, .ty _, .base (.tup h1), kit_ty (by decide +kernel), _, rfl, iteN rfl ⟨_, rfl, _, _, rfl, .inr (SqT.of h1), rfl, _, rfl, iteN (two_ok rfl) ⟨_, rfl, _, _, _, _, rfl, rfl, SqT.of h1, rfl, _, _, _, _, _, rfl, .ty _, h2, h3, _, rfl, iteP rfl (BAD rfl _ s3)⟩⟩⟩
          | fst s0 =>
            obtain ⟨e, rfl, h1⟩ := hpc
            exact ⟨_, rfl, _, _, _, _, true, rfl, .ty _, .base (.tup h1), kit_ty (by decide +kernel), _, rfl, iteN rfl ⟨_, rfl, _, _, rfl, .inr (SqT.of h1), rfl, _, rfl, iteN (two_ok rfl) ⟨_, rfl, _, _, _, _, rfl, rfl, SqT.of h1, rfl, _, _, _, _, true, rfl, .ty _, .base (.str _), kit_ty (by decide +kernel), _, rfl, iteN rfl ⟨_, rfl, _, _, _, _, rfl, rfl, SqT.of h1, rfl, rfl, _, rfl, iteN (by decide) ⟨_, rfl, _, _, _, _, rfl, rfl, SqT.of h1, rfl, rfl, _, rfl, iteP (by decide) (BAD rfl _ s3)⟩⟩⟩⟩⟩
          | pr w0 s0 =>
            obtain ⟨e, rfl, h1, h100⟩ := hpc
            refine ⟨_, rfl, _, _, _, _, true, rfl, .ty _, .base (.tup h1), kit_ty (by decide +kernel), _, rfl, iteN rfl ⟨_, rfl, _, _, rfl, .inr (SqT.of h1), rfl, _, rfl, iteN (two_ok rfl) ⟨_, rfl, _, _, _, _, rfl, rfl, SqT.of h1, rfl, _, _, _, _, true, rfl, .ty _, .base (.str _), kit_ty (by decide +kernel), _, rfl, iteN rfl ⟨_, rfl, _, _, _, _, rfl, rfl, SqT.of h1, rfl, rfl, _, rfl, ?_⟩⟩⟩⟩
            by_cases cf : w0 = "field"
            · refine iteP (by rw [cf]; exact decide_eq_true rfl) ⟨_, rfl, .inl ⟨rfl, _, SqL.of hl3⟩, _, rfl, _, _, _, _, rfl, rfl, SqT.of h1, rfl, l, _, _, rfl, rfl, hl3, (by rw [List.length_map]; exact small1000 (by omega)), ⟨_, rfl⟩, ?_, hps3.ev ((Ev.refl H2).updL hl3), sameAt s3 n0, fs ++ [s0], ?_, ?_, ?_, fun x hx => ?_⟩
              · rw [upd_ne lb.symm]; exact hb3
              · subst cf
                refine pcsF_step hp hf ?_
                exact pcF_f
              · rw [upd_same, List.map_append]
                rfl
              · rw [List.length_append]
                show _ + 1 ≤ _
                omega
              · rcases List.mem_append.mp hx with hx | hx
                · exact fo x hx
                · rw [List.mem_singleton.mp hx]
                  exact h100
            · refine iteN (decide_eq_false fun z => cf (V.str.inj z)) ⟨_, rfl, _, _, _, _, rfl, rfl, SqT.of h1, rfl, rfl, _, rfl, ?_⟩
              by_cases cm : w0 = "mark"
              · refine iteN (by rw [cm]; decide) ⟨_, rfl, _, _, _, _, rfl, rfl, SqT.of h1, rfl, s0, rfl, h100.1, fun H3 s4 => ⟨_, rfl, ?_⟩⟩
                have PF : pcF (.pr w0 s0) = if mkB s0 = true then some [] else none := by
                  show (if w0 = "field" then some [s0] else if w0 = "mark" ∧ mkB s0 = true then some [] else none) = _
                  rw [if_neg cf, cm]
                  by_cases k : mkB s0 = true
                  · rw [if_pos ⟨rfl, k⟩, if_pos k]
                  · rw [if_neg (fun h => k h.2), if_neg k]
                cases hk : mkB s0 with
                | true =>
                  rw [if_pos hk] at PF
                  refine iteN rfl ⟨⟨_, rfl⟩, s4 _ _ hb3, hps3.ev (Ev.same s4), s3.trans s4, fs, ?_, s4 _ _ hl3, by omega, fo⟩
                  have := pcsF_step hp hf PF
                  rw [List.append_nil] at this
                  exact this
                | false =>
                  rw [if_neg (by rw [hk]; exact Bool.false_ne_true)] at PF
                  exact iteP rfl (BAD PF _ (s3.trans s4))
              · refine iteP (by rw [decide_eq_false fun z => cm (V.str.inj z)]; rfl) (BAD ?_ _ s3)
                show (if w0 = "field" then some [s0] else if w0 = "mark" ∧ mkB s0 = true then some [] else none) = _
                rw [if_neg cf, if_neg (fun h => cm h.1)]
        · rintro σ H2 ⟨⟨x3, rfl⟩, hb3, hps3, s3, fs, hf, hl3, fl, fo⟩
          rw [ul, List.take_length] at hf
          have fl6 := flds_len z
          refine ⟨_, rfl, l, fs, rfl, SqL.of hl3, by omega, fun ys p1 py sy hp1 => ⟨_, rfl, a, flds z, rfl, ?_, by omega, fun zs p2 pz sz hp2 => ?_⟩⟩
          · rcases ha with (h | ⟨o, h⟩) | h
            · exact .inl (.inl ((s3.trans (sameAt (Same.refl _) hp1)) _ _ h))
            · exact .inl (.inr ⟨o, (s3.trans (sameAt (Same.refl _) hp1)) _ _ h⟩)
            · exact .inr h
          have s5 := (sameAt (o := .lst (ys.map V.str)) (Same.refl H2) hp1).trans (sameAt (o := .lst (zs.map V.str)) (Same.refl _) hp2)
          have oy : ∀ x ∈ ys, PyData.strOk x = true := fun x hx => (fo x (py.mem_iff.mp hx)).2
          have oz : ∀ x ∈ zs, PyData.strOk x = true := fun x hx => (fl8 x (pz.mem_iff.mp hx)).2
          refine ⟨_, _, .lst (SqL.of ((sameAt (Same.refl _) hp2) _ _ upd_same)) (dp_strs ys), .lst (SqL.of upd_same) (dp_strs zs), strs_shaped oy, strs_shaped oz, q _ _ ⟨fun h => ?_, fun h => ?_⟩ (s3.trans s5)⟩
          · have e := eqv_strs.mp h
            subst e
            exact ⟨by rw [← ul]; omega, by rw [← ul]; omega, fs, hf, py.symm.trans pz⟩
          · obtain ⟨_, _, gs, hg, hp⟩ := h
            rw [hf] at hg
            cases hg
            exact eqv_strs.mpr (srt_uniq (fun _ _ => leS_anti) (srtS_pw sy) (srtS_pw sz) ((py.trans hp).trans pz.symm))
      · have hb2 := s2 _ _ hb
        refine ⟨_, rfl, b, rfl, .inr ⟨⟨_, SqT.of hb2⟩, ?_⟩⟩
        refine for_it (walk_tup (K := K) (a := b) (xs := us)) (fun i σ H2 => (∃ x3, σ = [some (.ref b), some (.ref a), some (.ref l), x3]) ∧ H2 b = some (.tup us) ∧ PcsAt K H2 us ps ∧ Same H H2 ∧ ∃ fs, pcsF (ps.take i) = some fs ∧ H2 l = some (.lst (fs.map V.str)) ∧ fs.length ≤ i ∧ ∀ x ∈ fs, okT x) ⟨⟨_, rfl⟩, hb2, hps2, s1.trans s2, [], rfl, upd_same, by decide, fun x hx => by cases hx⟩ (fun i σ H2 _ hv => SqT.of hv.2.1) ?_ ?_
        · rintro i y σ H2x H2 hi ⟨⟨x3, rfl⟩, hb3, hps3, s3, fs, hf, hl3, fl, fo⟩ ⟨rfl, hy⟩
          obtain ⟨p, hp, hpc⟩ := hps3.get hy
          have BAD := fun g H' s' => bad i p H' hp g s'
          cases p with
          | no =>
            obtain ⟨t, h1, h2⟩ := hpc
            exact ⟨_, rfl, _, _, _, _, _, rfl, .ty _, h1, h2, _, rfl, iteP rfl (BAD rfl _ s3)⟩
          | len =>
            obtain ⟨e, xs, rfl, h1, h2⟩ := hpc
            refine ⟨_, rfl, _, _, _, _, true, rfl, .ty _, .base (.tup h1), kit_ty (by decide +kernel), _, rfl, iteN rfl ⟨_, rfl, _, _, rfl, .inr (SqT.of h1), rfl, _, rfl, iteP ?_ (BAD rfl _ s3)⟩⟩
            rw [decide_eq_false fun z => h2 (by have := V.int.inj z; omega)]
            rfl
          | snd w =>
            obtain ⟨e, y2, t, rfl, h1, h2, h3⟩ := hpc
            exact ⟨_, rfl, _, _, _, _, true, rfl, .ty _, .base (.tup h1), kit_ty (by decide +kernel), _, rfl, iteN rfl ⟨_, rfl, _, _, rfl, .inr (SqT.of h1), rfl, _, rfl, iteN (two_ok rfl) ⟨_, rfl, _, _, _, _, rfl, rfl, SqT.of h1, rfl, _, _, _, _, _, rfl, .ty _, h2, h3, _, rfl, iteP rfl (BAD rfl _ s3)⟩⟩⟩
          | fst s0 =>
            obtain ⟨e, rfl, h1⟩ := hpc
            exact ⟨_, rfl, _, _, _, _, true, rfl, .ty _, .base (.tup h1), kit_ty (by decide +kernel), _, rfl, iteN rfl ⟨_, rfl, _, _, rfl, .inr (SqT.of h1), rfl, _, rfl, iteN (two_ok rfl) ⟨_, rfl, _, _, _, _, rfl, rfl, SqT.of h1, rfl, _, _, _, _, true, rfl, .ty _, .base (.str _), kit_ty (by decide +kernel), _, rfl, iteN rfl ⟨_, rfl, _, _, _, _, rfl, rfl, SqT.of h1, rfl, rfl, _, rfl, iteN (by decide) ⟨_, rfl, _, _, _, _, rfl, rfl, SqT.of h1, rfl, rfl, _, rfl, iteP (by decide) (BAD rfl _ s3)⟩⟩⟩⟩⟩
          | pr w0 s0 =>
            obtain ⟨e, rfl, h1, h100⟩ := hpc
            refine ⟨_, rfl, _, _, _, _, true, rfl, .ty _, .base (.tup h1), kit_ty (by decide +kernel), _, rfl, iteN rfl ⟨_, rfl, _, _, rfl, .inr (SqT.of h1), rfl, _, rfl, iteN (two_ok rfl) ⟨_, rfl, _, _, _, _, rfl, rfl, SqT.of h1, rfl, _, _, _, _, true, rfl, .ty _, .base (.str _), kit_ty (by decide +kernel), _, rfl, iteN rfl ⟨_, rfl, _, _, _, _, rfl, rfl, SqT.of h1, rfl, rfl, _, rfl, ?_⟩⟩⟩⟩
            by_cases cf : w0 = "field"
            · refine iteP (by rw [cf]; exact decide_eq_true rfl) ⟨_, rfl, .inl ⟨rfl, _, SqL.of hl3⟩, _, rfl, _, _, _, _, rfl, rfl, SqT.of h1, rfl, l, _, _, rfl, rfl, hl3, (by rw [List.length_map]; exact small1000 (by omega)), ⟨_, rfl⟩, ?_, hps3.ev ((Ev.refl H2).updL hl3), sameAt s3 n0, fs ++ [s0], ?_, ?_, ?_, fun x hx => ?_⟩
              · rw [upd_ne lb.symm]; exact hb3
              · subst cf
                refine pcsF_step hp hf ?_
                exact pcF_f
              · rw [upd_same, List.map_append]
                rfl
              · rw [List.length_append]
                show _ + 1 ≤ _
                omega
              · rcases List.mem_append.mp hx with hx | hx
                · exact fo x hx
                · rw [List.mem_singleton.mp hx]
                  exact h100
            · refine iteN (decide_eq_false fun z => cf (V.str.inj z)) ⟨_, rfl, _, _, _, _, rfl, rfl, SqT.of h1, rfl, rfl, _, rfl, ?_⟩
              by_cases cm : w0 = "mark"
              · refine iteN (by rw [cm]; decide) ⟨_, rfl, _, _, _, _, rfl, rfl, SqT.of h1, rfl, s0, rfl, h100.1, fun H3 s4 => ⟨_, rfl, ?_⟩⟩
                have PF : pcF (.pr w0 s0) = if mkB s0 = true then some [] else none := by
                  show (if w0 = "field" then some [s0] else if w0 = "mark" ∧ mkB s0 = true then some [] else none) = _
                  rw [if_neg cf, cm]
                  by_cases k : mkB s0 = true
                  · rw [if_pos ⟨rfl, k⟩, if_pos k]
                  · rw [if_neg (fun h => k h.2), if_neg k]
                cases hk : mkB s0 with
                | true =>
                  rw [if_pos hk] at PF
                  refine iteN rfl ⟨⟨_, rfl⟩, s4 _ _ hb3, hps3.ev (Ev.same s4), s3.trans s4, fs, ?_, s4 _ _ hl3, by omega, fo⟩
                  have := pcsF_step hp hf PF
                  rw [List.append_nil] at this
                  exact this
                | false =>
                  rw [if_neg (by rw [hk]; exact Bool.false_ne_true)] at PF
                  exact iteP rfl (BAD PF _ (s3.trans s4))
              · refine iteP (by rw [decide_eq_false fun z => cm (V.str.inj z)]; rfl) (BAD ?_ _ s3)
                show (if w0 = "field" then some [s0] else if w0 = "mark" ∧ mkB s0 = true then some [] else none) = _
                rw [if_neg cf, if_neg (fun h => cm h.1)]
        · rintro σ H2 ⟨⟨x3, rfl⟩, hb3, hps3, s3, fs, hf, hl3, fl, fo⟩
          rw [ul, List.take_length] at hf
          have fl6 := flds_len z
          refine ⟨_, rfl, l, fs, rfl, SqL.of hl3, by omega, fun ys p1 py sy hp1 => ⟨_, rfl, a, flds z, rfl, ?_, by omega, fun zs p2 pz sz hp2 => ?_⟩⟩
          · rcases ha with (h | ⟨o, h⟩) | h
            · exact .inl (.inl ((s3.trans (sameAt (Same.refl _) hp1)) _ _ h))
            · exact .inl (.inr ⟨o, (s3.trans (sameAt (Same.refl _) hp1)) _ _ h⟩)
            · exact .inr h
          have s5 := (sameAt (o := .lst (ys.map V.str)) (Same.refl H2) hp1).trans (sameAt (o := .lst (zs.map V.str)) (Same.refl _) hp2)
          have oy : ∀ x ∈ ys, PyData.strOk x = true := fun x hx => (fo x (py.mem_iff.mp hx)).2
          have oz : ∀ x ∈ zs, PyData.strOk x = true := fun x hx => (fl8 x (pz.mem_iff.mp hx)).2
          refine ⟨_, _, .lst (SqL.of ((sameAt (Same.refl _) hp2) _ _ upd_same)) (dp_strs ys), .lst (SqL.of upd_same) (dp_strs zs), strs_shaped oy, strs_shaped oz, q _ _ ⟨fun h => ?_, fun h => ?_⟩ (s3.trans s5)⟩
          · have e := eqv_strs.mp h
            subst e
            exact ⟨by rw [← ul]; omega, by rw [← ul]; omega, fs, hf, py.symm.trans pz⟩
          · obtain ⟨_, _, gs, hg, hp⟩ := h
            rw [hf] at hg
            cases hg
            exact eqv_strs.mpr (srt_uniq (fun _ _ => leS_anti) (srtS_pw sy) (srtS_pw sz) ((py.trans hp).trans pz.symm))
end
end Ash

set_option Elab.async false
set_option linter.all false
set_option maxRecDepth 100000
set_option maxHeartbeats 4000000
namespace L2
open PySem PySem.Spec PyProof.Rows
/-! ### xs.remove(z) of texts -/
def eqZ (z : Str) (v : Value) : Bool := match v with
  | .str y _ => y.cps.toList == z.cps.toList
  | _ => false
theorem eqZ_ok {z : Str} {t : Tok} : ∀ {us : List Value} {ys : List Str}, StrsAre us ys → ∀ v ∈ us, MeetsSeq.EqGives v (.str z t) (eqZ z v)
  | _, _, .nil, v, hv => by cases hv
  | _, _, .cons y t' g, v, hv => by
    rcases List.mem_cons.mp hv with rfl | hv
    · exact SeqRoads2.EqGives.str y z t' t
    · exact eqZ_ok g v hv
theorem erase_mapS (l : List Str) (j : Nat) : (l.map V.str).eraseIdx j = (l.eraseIdx j).map V.str := by
  induction l generalizing j with
  | nil => simp
  | cons a r ih =>
    cases j with
    | zero => simp
    | succ j => simp [ih j]
theorem cps_inj {a b : Str} (h : a.cps.toList = b.cps.toList) : a = b := by
  obtain ⟨x⟩ := a
  obtain ⟨y⟩ := b
  have h : x.toList = y.toList := h
  rw [Array.toList_inj.mp h]
def rRemS : V → List V → Hp → VK → Prop := fun x vs H Q => ∃ (l : Addr) (ys : List Str) (z : Str) (j : Nat), x = .ref l ∧ vs = [.str z] ∧ H l = some (.lst (ys.map V.str)) ∧ ys[j]? = some z ∧ (∀ m : Nat, m < j → ys[m]? ≠ some z) ∧ Q .non (upd H l (.lst ((ys.eraseIdx j).map V.str)))
theorem mt_removeS {X : Cx} : MtM X "list.remove" rRemS := by
  intro pins s σ H x vs v us Q I rx rvs h
  obtain ⟨l, ys, z, j, rfl, rfl, hH, hj, first, q⟩ := h
  cases rx
  obtain ⟨u, rfl, t, rfl⟩ := rvs.one
  obtain ⟨zz, its, n, rv, hl, e⟩ := I.lstM hH
  have hs := rv.strs
  rw [List.length_map] at hl zz
  have jn : j < ys.length := (List.getElem?_eq_some_iff.mp hj).1
  have jl : j < its.toArray.size := by rw [List.size_toArray]; omega
  have at_ : ∀ m y, ys[m]? = some y → ∀ hm : m < its.toArray.size, eqZ z its.toArray[m] = (y.cps.toList == z.cps.toList) := fun m y hy hm => by
    obtain ⟨tm, g⟩ := hs.get m y hy
    obtain ⟨g1, g2⟩ := List.getElem?_eq_some_iff.mp g
    rw [show its.toArray[m] = Value.str y tm by simpa using g2]
    rfl
  refine call_meets PySem.F.slot_list_remove ⟨_, e, rfl⟩ PySem.F.entry_list_remove (PySem.F.args_list_remove_2 _ _)
    (MeetsSeq.list_remove l its.toArray n (.str z t) (eqZ z) (fun y hy => eqZ_ok hs y (List.mem_toArray.mp hy)) j jl (by rw [at_ j z hj jl]; exact beq_self_eq_true _) (fun m hm hmj => ?_) (by rw [List.size_toArray]; omega)) ⟨e, ?_⟩
  · have mn : m < ys.length := by omega
    rw [at_ m _ (List.getElem?_eq_getElem mn) hm]
    refine beq_eq_false_iff_ne.mpr fun g => first m hmj ?_
    rw [List.getElem?_eq_getElem mn, cps_inj g]
  · have rr := rv.eraseIdx j
    rw [erase_mapS] at rr
    refine ⟨.non, _, I.lset (its' := its.eraseIdx j) (t' := s.toks) hH e (by show its.toArray.eraseIdxIfInBounds j = (its.eraseIdx j).toArray; rw [List.eraseIdxIfInBounds_toArray]) rr ?_, rfl, q⟩
    have z2 := len_erase ys j
    rw [List.length_map]
    omega
end L2

set_option Elab.async false
set_option linter.all false
set_option maxRecDepth 100000
set_option maxHeartbeats 4000000
set_option pp.maxSteps 1500
namespace Ash
open PySem PySem.Spec PyProof.Rows L2
open C8 (pss_cut)
/-! ### the law's own word on shapes -/
def rLtS : R2 := fun x y H Q => ∃ i j, x = .str i ∧ y = .str j ∧ Q (.bl (decide (i.cps.toList < j.cps.toList))) H
def rGtS : R2 := fun x y H Q => ∃ i j, x = .str i ∧ y = .str j ∧ Q (.bl (decide (j.cps.toList < i.cps.toList))) H
theorem okC_or (c : Nat) : (decide (([c] : List Nat) < [32]) || decide (([126] : List Nat) < [c])) = !okC c := by
  rw [← okC_le]
  cases decide (([c] : List Nat) < [32]) <;> cases decide (([126] : List Nat) < [c]) <;> rfl
theorem filt_take {α : Type} {l : List α} {i : Nat} {x : α} (f : α → Bool) (h : l[i]? = some x) : (l.take (i + 1)).filter f = (l.take i).filter f ++ (if f x = true then [x] else []) := by
  rw [list_take h, List.filter_append]
  cases e : f x <;> simp [e]
def spIsText (K : PySem.W.Frag) : Sp := fun vs H Q _ => ∃ v, vs = [v] ∧ ((∃ z : Str, v = .str z ∧ z.length ≤ 100 ∧ ∀ H', Same H H' → Q (.bl (mkB z)) H') ∨ (∃ t, TyX K H v t ∧ PySem.W.kitOne K t (.type "str") = some false ∧ Q (.bl false) H))
def spLIsShape (K : PySem.W.Frag) : Sp := fun vs H Q _ => ∃ (v : V) (sh : Sh) (w : Str), vs = [v, .str w] ∧ ShA K H v sh ∧ ∀ b H', (b = true ↔ sh.good w) → Same H H' → Q (.bl b) H'
theorem pcsF_split : ∀ {ps : List Pc} {i : Nat} {a gs : List Str}, pcsF (ps.take i) = some a → pcsF ps = some gs → ∃ r, gs = a ++ r
  | ps, 0, a, gs, h, g => by
    cases Option.some.inj (show some [] = some a from h)
    exact ⟨gs, rfl⟩
  | [], i + 1, a, gs, h, g => by
    cases Option.some.inj (show some [] = some a from h)
    exact ⟨gs, rfl⟩
  | p :: ps, i + 1, a, gs, h, g => by
    have h : pcsF (p :: ps.take i) = some a := h
    unfold pcsF at h g
    cases e : pcF p with
    | none => rw [e] at g; cases g
    | some x =>
      rw [e] at h g
      cases e1 : pcsF (ps.take i) with
      | none => rw [e1] at h; cases h
      | some y =>
        cases e2 : pcsF ps with
        | none => rw [e2] at g; cases g
        | some y2 =>
          rw [e1] at h
          rw [e2] at g
          cases h
          cases g
          obtain ⟨r, hr⟩ := pcsF_split e1 e2
          exact ⟨r, by rw [hr, List.append_assoc]⟩
section
variable {P : Program} {w : World} {K : PySem.W.Frag} {mg : Str → Option Value} {base : Heap}
abbrev s_l_is_text : Stmt := topS 22
theorem sc_l_is_text : FnScope ["thing", "sign"] ["thing"] (defScope s_l_is_text) := ⟨rfl, rfl, rfl, by decide +kernel, rfl, by decide +kernel, by decide +kernel⟩
theorem ok_listext {f : Addr} {fd : FuncData} (F : Fun K "_law_is_text" "_law_is_text" s_l_is_text f fd) (B : Blt mg) : FnOk P w K mg base CX0 1 f fd ["thing"] (spIsText K) := by
  refine F.ok sc_l_is_text (fun vs H Q E h => ?_) (fun cdv A outer s H vs Q E hr h => ?_)
  · obtain ⟨v, rfl, _⟩ := h
    rfl
  · obtain ⟨v, rfl, hv⟩ := h
    refine ⟨_, (pss_cons (ps_if (PW.pt (pw_or (pt_not (pt_val (pe_callB call_isi (by rfl) B.isinstance (by decide +kernel) (pa_cons (pv 0) (pa_cons (pe_bltn (v := .ty "str") (by rfl) B.str (by decide +kernel) rfl) pa_nil))))) (pw_or (pt_cmpR op_lt (pe_callB call_len_str (by rfl) B.len (by decide +kernel) (pa_cons (pv 0) pa_nil)) pe_int (nomark _)) (pw_or1 (pt_cmpR op_gt (pe_callB call_len_str (by rfl) B.len (by decide +kernel) (pa_cons (pv 0) pa_nil)) pe_int (nomark _))))))
      (pss_one (ps_ret pe_bl))
      pss_nil)
    (pss_one (ps_ret (pe_cmpR op_eq (pe_callB call_len (by rfl) B.len (by decide +kernel) (pa_cons (pe_lc (own := [("sign", 1)]) (g := gName 1) (by rfl) sc_l_is_text.nd (pi_str (pv 0)) (blkOk_by (own := [("sign", 1)]) (N := ["thing", "sign"]) (sc := defScope s_l_is_text) (by decide +kernel)) (fun _ _ _ _ _ => (pg_name (i := 1) sc_l_is_text.nd rfl (Or.inl rfl))) (fun _ _ _ _ _ => pts_one (PW.pt (pw_or (pt_cmpR (show OpR _ (compareOp .Lt) rLtS from op_lt_str) (pv 1) pe_str (nomark _)) (pw_or1 (pt_cmpR (show OpR _ (compareOp .Gt) rGtS from op_gt_str) (pv 1) pe_str (nomark _)))))) (fun _ _ _ _ _ => (pv 1))) pa_nil)) pe_int (nomark _))))), ?_⟩
    rcases hv with ⟨z, rfl, hz, q⟩ | ⟨t, h1, h2, q⟩
    rotate_left
    · exact ⟨_, rfl, _, _, _, _, _, rfl, .ty _, h1, h2, _, rfl, iteP rfl q⟩
    have zl : z.length ≤ sizeLine := by rw [sizeLine_eq]; omega
    have bad : ¬ (1 ≤ z.length ∧ z.length ≤ 6) → mkB z = false := fun h => by
      unfold mkB
      by_cases h1 : 1 ≤ z.length
      · rw [decide_eq_false (show ¬ z.length ≤ 6 by omega), Bool.and_false, Bool.false_and]
      · rw [decide_eq_false h1, Bool.false_and, Bool.false_and]
    refine ⟨_, rfl, _, _, _, _, true, rfl, .ty _, .base (.str _), kit_ty (by decide +kernel), _, rfl, iteN rfl ⟨_, rfl, _, rfl, zl, _, _, rfl, rfl, _, rfl, ?_⟩⟩
    by_cases c1 : (z.length : Int) < 1
    · refine iteP (decide_eq_true c1) ?_
      have := q H (Same.refl H)
      rw [bad (by omega)] at this
      exact this
    refine iteN (decide_eq_false c1) ⟨_, rfl, _, rfl, zl, _, _, rfl, rfl, _, rfl, ?_⟩
    by_cases c2 : 6 < (z.length : Int)
    · refine iteP (decide_eq_true c2) ?_
      have := q H (Same.refl H)
      rw [bad (by omega)] at this
      exact this
    refine iteN (decide_eq_false c2) ?_
    refine ⟨_, rfl, z, rfl, fun D hD => lc_it (walk_str (z := z)) (fun i H1 => H1 D = some (.lst (((z.cps.toList.take i).filter fun c => !okC c).map fun c => V.str ⟨#[c]⟩)) ∧ Same H H1) ⟨upd_same, sameAt (Same.refl H) hD⟩ (fun _ _ _ _ => trivial) ?_ ?_⟩
    · rintro i x H1x H1 hi ⟨hD1, hs⟩ ⟨rfl, c, hc, rfl⟩
      have hc' : z.cps.toList[i]? = some c := by rw [Array.getElem?_toList]; exact hc
      have hlen : ((z.cps.toList.take i).filter fun c => !okC c).length ≤ 6 := by
        refine Nat.le_trans (List.length_filter_le _ _) ?_
        have : i < z.length := hi
        rw [List.length_take]
        omega
      have st := filt_take (fun c => !okC c) hc'
      have yes : (!okC c) = true → ∃ acc, H1 D = some (.lst acc) ∧ acc.length < sizeLine ∧ (upd H1 D (.lst (acc ++ [.str ⟨#[c]⟩])) D = some (.lst (((z.cps.toList.take (i + 1)).filter fun c => !okC c).map fun c => V.str ⟨#[c]⟩)) ∧ Same H (upd H1 D (.lst (acc ++ [.str ⟨#[c]⟩])))) := fun e => ⟨_, hD1, by rw [List.length_map]; exact small1000 (by omega), by rw [upd_same, st, if_pos e, List.map_append]; rfl, sameAt hs hD⟩
      have ok := okC_or c
      refine ⟨rfl, _, rfl, _, _, rfl, rfl, _, rfl, ite2 (fun k1 => ?_) (fun k1 => ?_)⟩
      · have k1' : decide (([c] : List Nat) < [32]) = true := k1
        rw [k1', Bool.true_or] at ok
        exact iteP rfl ⟨_, rfl, yes ok.symm⟩
      · have k1' : decide (([c] : List Nat) < [32]) = false := Bool.eq_false_iff.mpr k1
        rw [k1', Bool.false_or] at ok
        refine ⟨_, rfl, _, _, rfl, rfl, _, rfl, ite2 (fun k2 => ?_) (fun k2 => ?_)⟩
        · have k2' : decide (([126] : List Nat) < [c]) = true := k2
          rw [k2'] at ok
          exact ⟨_, rfl, yes ok.symm⟩
        · have k2' : decide (([126] : List Nat) < [c]) = false := Bool.eq_false_iff.mpr k2
          rw [k2'] at ok
          refine ⟨?_, hs⟩
          rw [st, if_neg (by rw [← ok]; exact Bool.false_ne_true), List.append_nil]
          exact hD1
    · rintro H1 ⟨hD1, hs⟩
      have e : z.cps.toList.take z.cps.size = z.cps.toList := by rw [← Array.length_toList, List.take_length]
      rw [e] at hD1
      refine ⟨_, _, rfl, .inl ⟨_, SqL.of hD1, rfl⟩, rfl, ?_⟩
      rw [show decide (V.int ((((z.cps.toList.filter fun c => !okC c).map fun c => V.str ⟨#[c]⟩).length : Nat) : Int) = V.int 0) = mkB z from ?_]
      · exact q _ hs
      unfold mkB okS
      rw [decide_eq_true (show 1 ≤ z.length by omega), decide_eq_true (show z.length ≤ 6 by omega), Bool.true_and, Bool.true_and, List.length_map, Bool.eq_iff_iff, decide_eq_true_eq, List.all_eq_true]
      constructor
      · intro h c hc
        have h0 : (z.cps.toList.filter fun c => !okC c).length = 0 := by have := V.int.inj h; omega
        cases k : okC c with
        | true => rfl
        | false =>
          have : c ∈ z.cps.toList.filter fun c => !okC c := List.mem_filter.mpr ⟨hc, by rw [k]; rfl⟩
          rw [List.length_eq_zero_iff.mp h0] at this
          cases this
      · intro h
        rw [List.filter_eq_nil_iff.mpr fun c hc => by rw [h c hc]; decide]
        rfl
theorem first_at {z : Str} : ∀ {ls : List Str}, z ∈ ls → ∃ j : Nat, ls[j]? = some z ∧ (∀ m : Nat, m < j → ls[m]? ≠ some z) ∧ (z :: ls.eraseIdx j).Perm ls
  | [], h => by cases h
  | a :: r, h => by
    by_cases e : a = z
    · subst e
      exact ⟨0, rfl, fun m hm => by omega, List.Perm.refl _⟩
    · obtain ⟨j, h1, h2, h3⟩ := first_at (ls := r) ((List.mem_cons.mp h).resolve_left fun g => e g.symm)
      refine ⟨j + 1, h1, fun m hm => ?_, ?_⟩
      · match m with
        | 0 => exact fun g => e (Option.some.inj g)
        | m + 1 => exact h2 m (by omega)
      · exact (List.Perm.swap a z _).trans (List.Perm.cons a h3)
theorem in_strs (z : Str) (ls : List Str) : inV (.str z) (ls.map V.str) = decide (z ∈ ls) := by
  unfold inV
  rw [List.any_map, Bool.eq_iff_iff, List.any_eq_true, decide_eq_true_eq]
  constructor
  · rintro ⟨y, hy, e⟩
    have e : eqV (.str y) (.str z) = true := e
    simp only [eqV, beq_iff_eq, decide_eq_true_eq] at e
    first | (rw [← e]; exact hy) | (rw [← L2.cps_inj e]; exact hy)
  · intro h
    exact ⟨z, h, by show eqV (.str z) (.str z) = true; simp [eqV]⟩
structure G5 (P : Program) (w : World) (K : PySem.W.Frag) (mg : Str → Option Value) (base : Heap) : Prop where
  law_fields : Cal P w K mg base CX0 "_law_fields" 1 ["word"] spFields
  law_is_text : Cal P w K mg base CX0 "_law_is_text" 1 ["thing"] (spIsText K)
abbrev s_l_is_shape : Stmt := topS 23
theorem sc_l_is_shape : FnScope ["thing", "word", "left", "piece"] ["thing", "word"] (defScope s_l_is_shape) := ⟨rfl, rfl, rfl, by decide +kernel, rfl, by decide +kernel, by decide +kernel⟩
theorem ok_lisshape {f : Addr} {fd : FuncData} (F : Fun K "_law_is_shape" "_law_is_shape" s_l_is_shape f fd) (B : Blt mg) (G : G5 P w K mg base) : FnOk P w K mg base CX0 2 f fd ["thing", "word"] (spLIsShape K) := by
  refine F.ok sc_l_is_shape (fun vs H Q E h => ?_) (fun cdv A outer s H vs Q E hr h => ?_)
  · obtain ⟨v, sh, w, rfl, _⟩ := h
    rfl
  · obtain ⟨v, sh, z, rfl, hv, q⟩ := h
    refine ⟨_, (pss_cons (ps_if (PW.pt (pw_or (pt_not (pt_val (pe_callB call_isiT (by rfl) B.isinstance (by decide +kernel) (pa_cons (pv 0) (pa_cons (pe_tup (pa_cons (pe_bltn (v := .ty "list") (by rfl) B.list (by decide +kernel) rfl) (pa_cons (pe_bltn (v := .ty "tuple") (by rfl) B.tuple (by decide +kernel) rfl) pa_nil))) pa_nil))))) (pw_or (pt_cmpR op_lt (pe_callB call_len_seq (by rfl) B.len (by decide +kernel) (pa_cons (pv 0) pa_nil)) pe_int (nomark _)) (pw_or1 (pt_cmpR op_gt (pe_callB call_len_seq (by rfl) B.len (by decide +kernel) (pa_cons (pv 0) pa_nil)) pe_int (nomark _))))))
      (pss_one (ps_ret pe_bl))
      pss_nil)
    (pss_cons (ps_set (i := 2) sc_l_is_shape.nd rfl (Or.inl rfl) (pe_cal G.law_fields (hr.mono (by decide)) pass0 (pa_cons (pv 1) pa_nil)))
    (pss_cons (ps_for PassesOwn.never rfl (show PI _ _ _ (iAny K _) from pi_any (pv 0)) (pg_name (i := 3) sc_l_is_shape.nd rfl (Or.inl rfl))
      (pss_cons (ps_if (PW.pt (pw_or (pt_not (pt_val (pe_callB call_isi (by rfl) B.isinstance (by decide +kernel) (pa_cons (pv 3) (pa_cons (pe_bltn (v := .ty "tuple") (by rfl) B.tuple (by decide +kernel) rfl) pa_nil))))) (pw_or (pt_cmpR op_ne (pe_callB call_len_seq (by rfl) B.len (by decide +kernel) (pa_cons (pv 3) pa_nil)) pe_int (nomark _)) (pw_or1 (pt_not (pt_val (pe_callB call_isi (by rfl) B.isinstance (by decide +kernel) (pa_cons (pe_ix ix_tup (pv 3) pe_int (fun _ _ => rfl)) (pa_cons (pe_bltn (v := .ty "str") (by rfl) B.str (by decide +kernel) rfl) pa_nil)))))))))
        (pss_one (ps_ret pe_bl))
        pss_nil)
      (pss_one (ps_if (PW.pt (pw_and (pt_cmpR op_eq (pe_ix ix_tup (pv 3) pe_int (fun _ _ => rfl)) pe_str (nomark _)) (pw_and (pt_val (pe_callB call_isi (by rfl) B.isinstance (by decide +kernel) (pa_cons (pe_ix ix_tup (pv 3) pe_int (fun _ _ => rfl)) (pa_cons (pe_bltn (v := .ty "str") (by rfl) B.str (by decide +kernel) rfl) pa_nil)))) (pw_and1 (pt_cmpR op_in_seq (pe_ix ix_tup (pv 3) pe_int (fun _ _ => rfl)) (pv 2) rfl)))))
        (pss_one (ps_expr (pe_bm PySem.F.plainAttrs_list PySem.F.slot_list_remove PySem.F.type_list_remove mt_removeS (pv 2) (pa_cons (pe_ix ix_tup (pv 3) pe_int (fun _ _ => rfl)) pa_nil))))
        (pss_one (ps_if (PW.pt (pw_or (pt_cmpR op_ne (pe_ix ix_tup (pv 3) pe_int (fun _ _ => rfl)) pe_str (nomark _)) (pw_or1 (pt_not (pt_val (pe_cal G.law_is_text (hr.mono (by decide)) pass0 (pa_cons (pe_ix ix_tup (pv 3) pe_int (fun _ _ => rfl)) pa_nil)))))))
          (pss_one (ps_ret pe_bl))
          pss_nil))))))
    (pss_one (ps_ret (pe_cmpR op_eq (pe_callB call_len (by rfl) B.len (by decide +kernel) (pa_cons (pv 2) pa_nil)) pe_int (nomark _))))))), ?_⟩
    refine ⟨_, rfl, (by show 2 ≤ sizeLine; decide), fun tp htp => ?_⟩
    have s1 := sameAt (o := .tup [.ty "list", .ty "tuple"]) (Same.refl H) htp
    obtain ⟨ty, h1, h2⟩ := (hv.ev s1).ty
    refine ⟨_, tp, _, _, _, _, rfl, upd_same, .cons (.ty _) (.cons (.ty _) .nil), h1, h2, _, rfl, ?_⟩
    generalize upd H tp (.tup [.ty "list", .ty "tuple"]) = H1 at s1 ⊢
    cases sh with
    | no => exact iteP rfl (q false H1 ⟨fun h => Bool.noConfusion h, fun h => h.elim⟩ s1)
    | row ps =>
      refine iteN rfl ?_
      obtain ⟨b, us, rfl, hb, hps, h20⟩ := hv.ev s1
      have ul := hps.len
      have no : (¬ (1 ≤ us.length ∧ us.length ≤ 15)) → Q (.bl false) H1 := fun h => q false H1 ⟨fun h => Bool.noConfusion h, fun g => absurd (show 1 ≤ us.length ∧ us.length ≤ 15 from ⟨by rw [ul]; exact g.1, by rw [ul]; exact g.2.1⟩) h⟩ s1
      have hsq : SqL K H1 b us ∨ SqT K H1 b us := hb.imp SqL.of SqT.of
      refine ⟨_, rfl, _, _, rfl, hsq, _, _, rfl, rfl, _, rfl, ?_⟩
      by_cases c1 : (us.length : Int) < 1
      · exact iteP (decide_eq_true c1) (no (by omega))
      refine iteN (decide_eq_false c1) ⟨_, rfl, _, _, rfl, hsq, _, _, rfl, rfl, _, rfl, ?_⟩
      by_cases c2 : 15 < (us.length : Int)
      · exact iteP (decide_eq_true c2) (no (by omega))
      refine iteN (decide_eq_false c2) ?_
      have bad : ∀ (i : Nat) (p : Pc) H', ps[i]? = some p → pcF p = none → Same H H' → Q (.bl false) H' := fun i p H' h g s' => q false H' ⟨fun h => Bool.noConfusion h, fun ⟨_, _, fs, e, _⟩ => by rw [pcsF_bad h g] at e; cases e⟩ s'
      refine ⟨_, rfl, z, rfl, fun l H2 hl hl2 s2 => ?_⟩
      have hps2 := hps.ev (Ev.same s2)
      have lb : l ≠ b := fun e => by rcases hb with hb | hb <;> (rw [← e, hl] at hb; cases hb)
      have n0 : H l = none := none_of s1 hl
      rcases hb with hb | hb
      · have hb2 := s2 _ _ hb
        refine ⟨_, rfl, b, rfl, .inl ⟨⟨_, SqL.of hb2⟩, ?_⟩⟩
        refine for_it (walk_list (K := K) (a := b) (xs := us)) (fun i σ H2 => (∃ x3, σ = [some (.ref b), some (.str z), some (.ref l), x3]) ∧ H2 b = some (.lst us) ∧ PcsAt K H2 us ps ∧ Same H H2 ∧ ∃ fs ls, pcsF (ps.take i) = some fs ∧ H2 l = some (.lst (ls.map V.str)) ∧ (fs ++ ls).Perm (flds z)) ⟨⟨_, rfl⟩, hb2, hps2, s1.trans s2, [], flds z, rfl, hl2, List.Perm.refl _⟩ (fun i σ H2 _ hv => SqL.of hv.2.1) ?_ ?_
        · rintro i y σ H2x H2 hi ⟨⟨x3, rfl⟩, hb3, hps3, s3, fs, ls, hf, hl3, pf⟩ ⟨rfl, hy⟩
          obtain ⟨p, hp, hpc⟩ := hps3.get hy
          have BAD := fun g H' s' => bad i p H' hp g s'
          cases p with
          | no =>
            obtain ⟨t, h1, h2⟩ := hpc
            exact ⟨_, rfl, _, _, _, _, _, rfl, .ty _, h1, h2, _, rfl, iteP rfl (BAD rfl _ s3)⟩
          | len =>
            obtain ⟨e, xs, rfl, h1, h2⟩ := hpc
            refine ⟨_, rfl, _, _, _, _, true, rfl, .ty _, .base (.tup h1), kit_ty (by decide +kernel), _, rfl, iteN rfl ⟨_, rfl, _, _, rfl, .inr (SqT.of h1), rfl, _, rfl, iteP ?_ (BAD rfl _ s3)⟩⟩
            rw [decide_eq_false fun z => h2 (by have := V.int.inj z; omega)]
            rfl
          | fst s0 =>
            obtain ⟨e, rfl, h1⟩ := hpc
            exact ⟨_, rfl, _, _, _, _, true, rfl, .ty _, .base (.tup h1), kit_ty (by decide +kernel), _, rfl, iteN rfl ⟨_, rfl, _, _, rfl, .inr (SqT.of h1), rfl, _, rfl, iteN (two_ok rfl) ⟨_, rfl, _, _, _, _, rfl, rfl, SqT.of h1, rfl, _, _, _, _, false, rfl, .ty _, .base .non, kit_ty (by decide +kernel), _, rfl, iteP rfl (BAD rfl _ s3)⟩⟩⟩
          | snd w0 =>
            obtain ⟨e, y2, t, rfl, h1, h2, h3⟩ := hpc
            refine ⟨_, rfl, _, _, _, _, true, rfl, .ty _, .base (.tup h1), kit_ty (by decide +kernel), _, rfl, iteN rfl ⟨_, rfl, _, _, rfl, .inr (SqT.of h1), rfl, _, rfl, iteN (two_ok rfl) ⟨_, rfl, _, _, _, _, rfl, rfl, SqT.of h1, rfl, _, _, _, _, true, rfl, .ty _, .base (.str _), kit_ty (by decide +kernel), _, rfl, iteN rfl ⟨_, rfl, _, _, _, _, rfl, rfl, SqT.of h1, rfl, rfl, _, rfl, ?_⟩⟩⟩⟩
            have rest : ∀ {R : Prop}, (w0 ≠ "mark" → R) → (w0 = "mark" → R) → R := fun a b => by
              by_cases c : w0 = "mark"
              · exact b c
              · exact a c
            by_cases cf : w0 = "field"
            · refine iteP (by rw [cf]; exact decide_eq_true rfl) ⟨_, rfl, _, _, _, _, rfl, rfl, SqT.of h1, rfl, _, _, _, _, _, rfl, .ty _, h2, h3, _, rfl, iteN rfl (iteN rfl ⟨_, rfl, _, _, _, _, rfl, rfl, SqT.of h1, rfl, rfl, _, rfl, iteP ?_ (BAD rfl _ s3)⟩)⟩
              rw [decide_eq_false fun z => absurd ((V.str.inj z).symm.trans cf) (by decide)]
              rfl
            · refine iteN (decide_eq_false fun z => cf (V.str.inj z)) (iteN rfl ⟨_, rfl, _, _, _, _, rfl, rfl, SqT.of h1, rfl, rfl, _, rfl, ?_⟩)
              by_cases cm : w0 = "mark"
              · exact iteN (by rw [cm, decide_eq_true rfl]; rfl) ⟨_, rfl, _, _, _, _, rfl, rfl, SqT.of h1, rfl, _, rfl, .inr ⟨t, h2, h3, _, rfl, iteP rfl (BAD rfl _ s3)⟩⟩
              · exact iteP (by rw [decide_eq_false fun z => cm (V.str.inj z)]; rfl) (BAD rfl _ s3)
          | pr w0 s0 =>
            obtain ⟨e, rfl, h1, h100⟩ := hpc
            refine ⟨_, rfl, _, _, _, _, true, rfl, .ty _, .base (.tup h1), kit_ty (by decide +kernel), _, rfl, iteN rfl ⟨_, rfl, _, _, rfl, .inr (SqT.of h1), rfl, _, rfl, iteN (two_ok rfl) ⟨_, rfl, _, _, _, _, rfl, rfl, SqT.of h1, rfl, _, _, _, _, true, rfl, .ty _, .base (.str _), kit_ty (by decide +kernel), _, rfl, iteN rfl ⟨_, rfl, _, _, _, _, rfl, rfl, SqT.of h1, rfl, rfl, _, rfl, ?_⟩⟩⟩⟩
            by_cases cf : w0 = "field"
            · refine iteP (by rw [cf]; exact decide_eq_true rfl) ⟨_, rfl, _, _, _, _, rfl, rfl, SqT.of h1, rfl, _, _, _, _, true, rfl, .ty _, .base (.str _), kit_ty (by decide +kernel), _, rfl, iteP rfl ⟨_, rfl, _, _, _, _, rfl, rfl, SqT.of h1, rfl, _, rfl, l, _, rfl, .inl (SqL.of hl3), rfl, (by rw [List.all_map]; exact List.all_eq_true.mpr fun _ _ => rfl), _, rfl, ?_⟩⟩
              rw [if_neg Bool.false_ne_true, in_strs]
              subst cf
              have stp := pcsF_step hp hf pcF_f
              by_cases ci : s0 ∈ ls
              · obtain ⟨j, j1, j2, j3⟩ := first_at ci
                refine iteP (decide_eq_true ci) ⟨_, rfl, .inl ⟨rfl, _, SqL.of hl3⟩, _, rfl, _, _, _, _, rfl, rfl, SqT.of h1, rfl, l, ls, s0, j, rfl, rfl, hl3, j1, j2, ⟨_, rfl⟩, ?_, hps3.ev ((Ev.refl H2).updL hl3), sameAt s3 n0, fs ++ [s0], ls.eraseIdx j, stp, upd_same, ?_⟩
                · rw [upd_ne lb.symm]; exact hb3
                · rw [List.append_assoc]
                  exact (List.Perm.append_left fs j3).trans pf
              · refine iteN (decide_eq_false ci) ⟨_, rfl, _, _, _, _, rfl, rfl, SqT.of h1, rfl, rfl, _, rfl, iteP (by decide) (q false H2 ⟨fun h => Bool.noConfusion h, fun ⟨_, _, gs, hg, hp2⟩ => ?_⟩ s3)⟩
                obtain ⟨r, hr⟩ := pcsF_split stp hg
                rw [hr, List.append_assoc] at hp2
                have := (List.perm_append_left_iff fs).mp (hp2.trans pf.symm)
                exact absurd (this.mem_iff.mp (by simp)) ci
            · refine iteN (decide_eq_false fun z => cf (V.str.inj z)) (iteN rfl ⟨_, rfl, _, _, _, _, rfl, rfl, SqT.of h1, rfl, rfl, _, rfl, ?_⟩)
              by_cases cm : w0 = "mark"
              · refine iteN (by rw [cm, decide_eq_true rfl]; rfl) ⟨_, rfl, _, _, _, _, rfl, rfl, SqT.of h1, rfl, _, rfl, .inl ⟨s0, rfl, h100.1, fun H3 s4 => ⟨_, rfl, ?_⟩⟩⟩
                have PF : pcF (.pr w0 s0) = if mkB s0 = true then some [] else none := by
                  show (if w0 = "field" then some [s0] else if w0 = "mark" ∧ mkB s0 = true then some [] else none) = _
                  rw [if_neg cf, cm]
                  by_cases k : mkB s0 = true
                  · rw [if_pos ⟨rfl, k⟩, if_pos k]
                  · rw [if_neg (fun h => k h.2), if_neg k]
                cases hk : mkB s0 with
                | true =>
                  rw [if_pos hk] at PF
                  refine iteN rfl ⟨⟨_, rfl⟩, s4 _ _ hb3, hps3.ev (Ev.same s4), s3.trans s4, fs, ls, ?_, s4 _ _ hl3, pf⟩
                  have := pcsF_step hp hf PF
                  rw [List.append_nil] at this
                  exact this
                | false =>
                  rw [if_neg (by rw [hk]; exact Bool.false_ne_true)] at PF
                  exact iteP rfl (BAD PF _ (s3.trans s4))
              · refine iteP (by rw [decide_eq_false fun z => cm (V.str.inj z)]; rfl) (BAD ?_ _ s3)
                show (if w0 = "field" then some [s0] else if w0 = "mark" ∧ mkB s0 = true then some [] else none) = _
                rw [if_neg cf, if_neg (fun h => cm h.1)]
        · rintro σ H2 ⟨⟨x3, rfl⟩, hb3, hps3, s3, fs, ls, hf, hl3, pf⟩
          rw [ul, List.take_length] at hf
          refine ⟨_, rfl, _, _, rfl, .inl ⟨_, SqL.of hl3, rfl⟩, rfl, q _ _ ⟨fun h => ?_, fun h => ?_⟩ s3⟩
          · have h0 : ls = [] := List.length_eq_zero_iff.mp (by have := V.int.inj (of_decide_eq_true h); rw [List.length_map] at this; omega)
            rw [h0, List.append_nil] at pf
            exact ⟨by rw [← ul]; omega, by rw [← ul]; omega, fs, hf, pf⟩
          · obtain ⟨_, _, gs, hg, hp⟩ := h
            rw [hf] at hg
            cases hg
            have e := (pf.trans hp.symm).length_eq
            rw [List.length_append] at e
            have h0 : ls = [] := List.length_eq_zero_iff.mp (by omega)
            rw [h0]
            exact decide_eq_true rfl
      · have hb2 := s2 _ _ hb
        refine ⟨_, rfl, b, rfl, .inr ⟨⟨_, SqT.of hb2⟩, ?_⟩⟩
        refine for_it (walk_tup (K := K) (a := b) (xs := us)) (fun i σ H2 => (∃ x3, σ = [some (.ref b), some (.str z), some (.ref l), x3]) ∧ H2 b = some (.tup us) ∧ PcsAt K H2 us ps ∧ Same H H2 ∧ ∃ fs ls, pcsF (ps.take i) = some fs ∧ H2 l = some (.lst (ls.map V.str)) ∧ (fs ++ ls).Perm (flds z)) ⟨⟨_, rfl⟩, hb2, hps2, s1.trans s2, [], flds z, rfl, hl2, List.Perm.refl _⟩ (fun i σ H2 _ hv => SqT.of hv.2.1) ?_ ?_
        · rintro i y σ H2x H2 hi ⟨⟨x3, rfl⟩, hb3, hps3, s3, fs, ls, hf, hl3, pf⟩ ⟨rfl, hy⟩
          obtain ⟨p, hp, hpc⟩ := hps3.get hy
          have BAD := fun g H' s' => bad i p H' hp g s'
          cases p with
          | no =>
            obtain ⟨t, h1, h2⟩ := hpc
            exact ⟨_, rfl, _, _, _, _, _, rfl, .ty _, h1, h2, _, rfl, iteP rfl (BAD rfl _ s3)⟩
          | len =>
            obtain ⟨e, xs, rfl, h1, h2⟩ := hpc
            refine ⟨_, rfl, _, _, _, _, true, rfl, .ty _, .base (.tup h1), kit_ty (by decide +kernel), _, rfl, iteN rfl ⟨_, rfl, _, _, rfl, .inr (SqT.of h1), rfl, _, rfl, iteP ?_ (BAD rfl _ s3)⟩⟩
            rw [decide_eq_false fun z => h2 (by have := V.int.inj z; omega)]
            rfl
          | fst s0 =>
            obtain ⟨e, rfl, h1⟩ := hpc
            exact ⟨_, rfl, _, _, _, _, true, rfl, .ty _, .base (.tup h1), kit_ty (by decide +kernel), _, rfl, iteN rfl ⟨_, rfl, _, _, rfl, .inr (SqT.of h1), rfl, _, rfl, iteN (two_ok rfl) ⟨_, rfl, _, _, _, _, rfl, rfl, SqT.of h1, rfl, _, _, _, _, false, rfl, .ty _, .base .non, kit_ty (by decide +kernel), _, rfl, iteP rfl (BAD rfl _ s3)⟩⟩⟩
          | snd w0 =>
            obtain ⟨e, y2, t, rfl, h1, h2, h3⟩ := hpc
            refine ⟨_, rfl, _, _, _, _, true, rfl, .ty _, .base (.tup h1), kit_ty (by decide +kernel), _, rfl, iteN rfl ⟨_, rfl, _, _, rfl, .inr (SqT.of h1), rfl, _, rfl, iteN (two_ok rfl) ⟨_, rfl, _, _, _, _, rfl, rfl, SqT.of h1, rfl, _, _, _, _, true, rfl, .ty _, .base (.str _), kit_ty (by decide +kernel), _, rfl, iteN rfl ⟨_, rfl, _, _, _, _, rfl, rfl, SqT.of h1, rfl, rfl, _, rfl, ?_⟩⟩⟩⟩
            have rest : ∀ {R : Prop}, (w0 ≠ "mark" → R) → (w0 = "mark" → R) → R := fun a b => by
              by_cases c : w0 = "mark"
              · exact b c
              · exact a c
            by_cases cf : w0 = "field"
            · refine iteP (by rw [cf]; exact decide_eq_true rfl) ⟨_, rfl, _, _, _, _, rfl, rfl, SqT.of h1, rfl, _, _, _, _, _, rfl, .ty _, h2, h3, _, rfl, iteN rfl (iteN rfl ⟨_, rfl, _, _, _, _, rfl, rfl, SqT.of h1, rfl, rfl, _, rfl, iteP ?_ (BAD rfl _ s3)⟩)⟩
              rw [decide_eq_false fun z => absurd ((V.str.inj z).symm.trans cf) (by decide)]
              rfl
            · refine iteN (decide_eq_false fun z => cf (V.str.inj z)) (iteN rfl ⟨_, rfl, _, _, _, _, rfl, rfl, SqT.of h1, rfl, rfl, _, rfl, ?_⟩)
              by_cases cm : w0 = "mark"
              · exact iteN (by rw [cm, decide_eq_true rfl]; rfl) ⟨_, rfl, _, _, _, _, rfl, rfl, SqT.of h1, rfl, _, rfl, .inr ⟨t, h2, h3, _, rfl, iteP rfl (BAD rfl _ s3)⟩⟩
              · exact iteP (by rw [decide_eq_false fun z => cm (V.str.inj z)]; rfl) (BAD rfl _ s3)
          | pr w0 s0 =>
            obtain ⟨e, rfl, h1, h100⟩ := hpc
            refine ⟨_, rfl, _, _, _, _, true, rfl, .ty _, .base (.tup h1), kit_ty (by decide +kernel), _, rfl, iteN rfl ⟨_, rfl, _, _, rfl, .inr (SqT.of h1), rfl, _, rfl, iteN (two_ok rfl) ⟨_, rfl, _, _, _, _, rfl, rfl, SqT.of h1, rfl, _, _, _, _, true, rfl, .ty _, .base (.str _), kit_ty (by decide +kernel), _, rfl, iteN rfl ⟨_, rfl, _, _, _, _, rfl, rfl, SqT.of h1, rfl, rfl, _, rfl, ?_⟩⟩⟩⟩
            by_cases cf : w0 = "field"
            · refine iteP (by rw [cf]; exact decide_eq_true rfl) ⟨_, rfl, _, _, _, _, rfl, rfl, SqT.of h1, rfl, _, _, _, _, true, rfl, .ty _, .base (.str _), kit_ty (by decide +kernel), _, rfl, iteP rfl ⟨_, rfl, _, _, _, _, rfl, rfl, SqT.of h1, rfl, _, rfl, l, _, rfl, .inl (SqL.of hl3), rfl, (by rw [List.all_map]; exact List.all_eq_true.mpr fun _ _ => rfl), _, rfl, ?_⟩⟩
              rw [if_neg Bool.false_ne_true, in_strs]
              subst cf
              have stp := pcsF_step hp hf pcF_f
              by_cases ci : s0 ∈ ls
              · obtain ⟨j, j1, j2, j3⟩ := first_at ci
                refine iteP (decide_eq_true ci) ⟨_, rfl, .inl ⟨rfl, _, SqL.of hl3⟩, _, rfl, _, _, _, _, rfl, rfl, SqT.of h1, rfl, l, ls, s0, j, rfl, rfl, hl3, j1, j2, ⟨_, rfl⟩, ?_, hps3.ev ((Ev.refl H2).updL hl3), sameAt s3 n0, fs ++ [s0], ls.eraseIdx j, stp, upd_same, ?_⟩
                · rw [upd_ne lb.symm]; exact hb3
                · rw [List.append_assoc]
                  exact (List.Perm.append_left fs j3).trans pf
              · refine iteN (decide_eq_false ci) ⟨_, rfl, _, _, _, _, rfl, rfl, SqT.of h1, rfl, rfl, _, rfl, iteP (by decide) (q false H2 ⟨fun h => Bool.noConfusion h, fun ⟨_, _, gs, hg, hp2⟩ => ?_⟩ s3)⟩
                obtain ⟨r, hr⟩ := pcsF_split stp hg
                rw [hr, List.append_assoc] at hp2
                have := (List.perm_append_left_iff fs).mp (hp2.trans pf.symm)
                exact absurd (this.mem_iff.mp (by simp)) ci
            · refine iteN (decide_eq_false fun z => cf (V.str.inj z)) (iteN rfl ⟨_, rfl, _, _, _, _, rfl, rfl, SqT.of h1, rfl, rfl, _, rfl, ?_⟩)
              by_cases cm : w0 = "mark"
              · refine iteN (by rw [cm, decide_eq_true rfl]; rfl) ⟨_, rfl, _, _, _, _, rfl, rfl, SqT.of h1, rfl, _, rfl, .inl ⟨s0, rfl, h100.1, fun H3 s4 => ⟨_, rfl, ?_⟩⟩⟩
                have PF : pcF (.pr w0 s0) = if mkB s0 = true then some [] else none := by
                  show (if w0 = "field" then some [s0] else if w0 = "mark" ∧ mkB s0 = true then some [] else none) = _
                  rw [if_neg cf, cm]
                  by_cases k : mkB s0 = true
                  · rw [if_pos ⟨rfl, k⟩, if_pos k]
                  · rw [if_neg (fun h => k h.2), if_neg k]
                cases hk : mkB s0 with
                | true =>
                  rw [if_pos hk] at PF
                  refine iteN rfl ⟨⟨_, rfl⟩, s4 _ _ hb3, hps3.ev (Ev.same s4), s3.trans s4, fs, ls, ?_, s4 _ _ hl3, pf⟩
                  have := pcsF_step hp hf PF
                  rw [List.append_nil] at this
                  exact this
                | false =>
                  rw [if_neg (by rw [hk]; exact Bool.false_ne_true)] at PF
                  exact iteP rfl (BAD PF _ (s3.trans s4))
              · refine iteP (by rw [decide_eq_false fun z => cm (V.str.inj z)]; rfl) (BAD ?_ _ s3)
                show (if w0 = "field" then some [s0] else if w0 = "mark" ∧ mkB s0 = true then some [] else none) = _
                rw [if_neg cf, if_neg (fun h => cm h.1)]
        · rintro σ H2 ⟨⟨x3, rfl⟩, hb3, hps3, s3, fs, ls, hf, hl3, pf⟩
          rw [ul, List.take_length] at hf
          refine ⟨_, rfl, _, _, rfl, .inl ⟨_, SqL.of hl3, rfl⟩, rfl, q _ _ ⟨fun h => ?_, fun h => ?_⟩ s3⟩
          · have h0 : ls = [] := List.length_eq_zero_iff.mp (by have := V.int.inj (of_decide_eq_true h); rw [List.length_map] at this; omega)
            rw [h0, List.append_nil] at pf
            exact ⟨by rw [← ul]; omega, by rw [← ul]; omega, fs, hf, pf⟩
          · obtain ⟨_, _, gs, hg, hp⟩ := h
            rw [hf] at hg
            cases hg
            have e := (pf.trans hp.symm).length_eq
            rw [List.length_append] at e
            have h0 : ls = [] := List.length_eq_zero_iff.mp (by omega)
            rw [h0]
            exact decide_eq_true rfl
end
end Ash

set_option Elab.async false
set_option linter.all false
set_option maxRecDepth 100000
set_option maxHeartbeats 4000000
set_option pp.maxSteps 1500
namespace L2
open PySem PySem.Spec PyProof.Rows
/-- a walk, whatever is done in a turn -/
theorem w_it {J : It} {n : Nat} {G : Hp → Prop} {Y : Nat → Hp → V → Hp → Prop} (w : Walk J n G Y) {Nx : Hp → Prop} {Bd : V → Hp → (Hp → Prop) → Prop} {H1 : Hp} (Pv : Nat → Hp → Prop) (h0 : Pv 0 H1) (hG : ∀ i H, i ≤ n → Pv i H → G H)
    (hs : ∀ i x H H', i < n → Pv i H → Y i H x H' → Bd x H' (Pv (i + 1))) (hd : ∀ H, Pv n H → Nx H) :
    ∃ W : Nat → Nat → Hp → Prop, (∃ m, W 0 m H1) ∧ ∀ i m H, W i m H →
      (J.stop i H ∧ Nx H) ∨ (J.go i H ∧ ∃ N : Hp → Prop, (∀ H', N H' → ∃ m', m' < m ∧ W (i + 1) m' H') ∧ ∀ x H', J.yld i H x H' → Bd x H' N) := by
  refine ⟨fun i m H => m = n - i ∧ i ≤ n ∧ Pv i H, ⟨n, by simp, Nat.zero_le _, h0⟩, ?_⟩
  rintro i m H ⟨rfl, hi, p⟩
  have q := hG i H hi p
  by_cases hlt : i < n
  · refine .inr ⟨w.goes i H hlt q, Pv (i + 1), fun H' p' => ⟨n - (i + 1), by omega, rfl, hlt, p'⟩, fun x H' y => hs i x H H' hlt p (w.yields i H x H' hlt q y)⟩
  · have e : i = n := by omega
    subst e
    exact .inl ⟨w.stops H q, hd H p⟩
end L2
namespace Ash
open PySem PySem.Spec PyProof.Rows L2
open C8 (pss_cut)
/-! ### forms -/
def RwA (H : Hp) (v : V) (us : List V) : Prop := ∃ a, v = .ref a ∧ (H a = some (.lst us) ∨ H a = some (.tup us))
/-- a form of these three rows -/
def FormAt (CF : Addr) (H : Hp) (b : Addr) (us1 us2 us3 : List V) : Prop := ∃ dx d t1 t2 t3, H b = some (.ins CF dx [("_shapes", .ref d)]) ∧ H d = some (.dK [(.inr "row", .ref t1), (.inr "fix", .ref t2), (.inr "gone", .ref t3)]) ∧ H t1 = some (.tup us1) ∧ H t2 = some (.tup us2) ∧ H t3 = some (.tup us3)
def Keep (b : Addr) (H H' : Hp) : Prop := ∀ c o, H c = some o → c ≠ b → H' c = some o
theorem par_value : PySem.BadX.Par "value" := ⟨by decide, by decide +kernel, by decide +kernel, by decide +kernel, by decide +kernel⟩
def Xd (H : Hp) (d : Addr) (fl : Str) (v : V) : Prop := H d = some (.xd [(fl, v)])
def rTupOf (K : PySem.W.Frag) : List V → Hp → VK → Prop := fun xs H Q => ∃ p ys, xs = [.ref p] ∧ ((SqL K H p ys ∧ ∀ l, H l = none → Q (.ref l) (upd H l (.tup ys))) ∨ (SqT K H p ys ∧ Q (.ref p) H))
/-- the fields of the words -/
structure Fl (K : PySem.W.Frag) (w : World) (mg : Str → Option Value) (aF : Addr) : Prop where
  g : mg "FIELDS" = some (.ref aF)
  k : ∀ z : Str, z = "row" ∨ z = "fix" ∨ z = "gone" → ∃ a, KDct K w aF z (.ref a) ∧ ∀ H, SqT K H a ((flds z).map V.str)
theorem RwA.of {K : PySem.W.Frag} {H : Hp} {v : V} {sh : Sh} {z : Str} (h : ShA K H v sh) (g : sh.good z) : ∃ us, RwA H v us := by
  cases sh with
  | row ps =>
    obtain ⟨a, us, h1, h2, _⟩ := h
    exact ⟨us, a, h1, h2⟩
  | no => exact g.elim
theorem RwA.same {H H' : Hp} {v : V} {us : List V} (h : RwA H v us) (s : Same H H') : RwA H' v us := by
  obtain ⟨a, h1, h2⟩ := h
  exact ⟨a, h1, h2.imp (s _ _) (s _ _)⟩
theorem tup_of {K : PySem.W.Frag} {H : Hp} {v : V} {us : List V} {Q : VK} (h : RwA H v us) (q : ∀ t H', Same H H' → H' t = some (.tup us) → Q (.ref t) H') : rTupOf K [v] H Q := by
  obtain ⟨a, rfl, h | h⟩ := h
  · exact ⟨a, us, rfl, .inl ⟨SqL.of h, fun l hl => q l _ (sameAt (Same.refl _) hl) upd_same⟩⟩
  · exact ⟨a, us, rfl, .inr ⟨SqT.of h, q a H (Same.refl _) h⟩⟩
theorem tup_call {K : PySem.W.Frag} {σ : L2.St} {H : Hp} {v : V} {us : List V} {Q : VK} {i : Nat} (hv : ∀ R : VK, R v H → tVar i σ H R) (h : RwA H v us) (q : ∀ t H', Same H H' → H' t = some (.tup us) → Q (.ref t) H') : tCB (rTupOf K) (tCons (tVar i) tNil) σ H Q :=
  hv _ (tup_of h q)
theorem sameAt2 {H H' : Hp} {q : Addr} {o : HO} (s : Same H H') (h : H q = none) : Same H (upd H' q o) := sameAt s h
def spFormInit (K : PySem.W.Frag) (CF CE : Addr) : Sp := fun vs H Q E => ∃ (b dx : Addr) (v1 v2 v3 : V) (s1 s2 s3 : Sh), vs = [.ref b, v1, v2, v3] ∧ H b = some (.ins CF dx []) ∧ ShA K H v1 s1 ∧ ShA K H v2 s2 ∧ ShA K H v3 s3 ∧
  ((s1.good "row" ∧ s2.good "fix" ∧ s3.good "gone" ∧ ∀ us1 us2 us3 H', RwA H v1 us1 → RwA H v2 us2 → RwA H v3 us3 → FormAt CF H' b us1 us2 us3 → Keep b H H' → Q .non H') ∨
   (∃ w : Str, (¬ s1.good "row" ∧ w = "row" ∨ s1.good "row" ∧ ¬ s2.good "fix" ∧ w = "fix" ∨ s1.good "row" ∧ s2.good "fix" ∧ ¬ s3.good "gone" ∧ w = "gone") ∧ ∀ d H', Keep b H H' → Xd H' d "value" (.str w) → E (.ref CE) (some d) H'))
section
variable {P : Program} {w : World} {K : PySem.W.Frag} {mg : Str → Option Value} {base : Heap}
structure G6 (P : Program) (w : World) (K : PySem.W.Frag) (mg : Str → Option Value) (base : Heap) : Prop where
  is_shape : Cal P w K mg base CX0 "is_shape" 2 ["thing", "fields"] (spIsShape K)
abbrev s_Form_init : Stmt := inClass (topS 9) 0
theorem sc_Form_init : FnScope ["self", "row", "fix", "gone", "shapes", "word", "shape"] ["self", "row", "fix", "gone"] (defScope s_Form_init) := ⟨rfl, rfl, rfl, by decide +kernel, rfl, by decide +kernel, by decide +kernel⟩
theorem ok_form {f CF CE fE a_FIELDS : Addr} {fd : FuncData} (F : Fun K "__init__" "Form.__init__" s_Form_init f fd) (B : Blt mg) (G : G6 P w K mg base) (TE : PySem.BadX.Txt P K mg "value" "value" CE fE) (c_BadForm : mg "BadForm" = some (.ref CE)) (L : Fl K w mg a_FIELDS) (cF : Cls K CF) (nF : NoAttr K CF "_shapes") : FnOk P w K mg base (L2.CX P w) 3 f fd ["self", "row", "fix", "gone"] (spFormInit K CF CE) := by
  have g_FIELDS := L.g
  refine F.okX sc_Form_init (fun vs H Q E h => ?_) (fun cdv A outer s H vs Q E hr h => ?_)
  · obtain ⟨b, dx, v1, v2, v3, s1, s2, s3, rfl, _⟩ := h
    rfl
  · obtain ⟨b, dx, v1, v2, v3, s1, s2, s3, rfl, hb, h1, h2, h3, q⟩ := h
    have hu := hu_of hr
    refine ⟨_, (pss_cons (ps_set (i := 4) sc_Form_init.nd rfl (Or.inl rfl) (pe_disp (pps_cons pe_str (pv 1) (pps_cons pe_str (pv 2) (pps_cons pe_str (pv 3) pps_nil))) (by rfl) (by rfl) (fun z => by cases z) (by decide)))
    (pss_cons (ps_lock (ps_for (passes_of rfl) rfl (pi_items (pv 4)) (pg_tup (by rfl) (pgs_cons (pg_name (i := 5) sc_Form_init.nd rfl (Or.inl rfl)) (pgs_cons (pg_name (i := 6) sc_Form_init.nd rfl (Or.inl rfl)) pgs_nil)))
      (pss_one (ps_if (pt_not (pt_val (pe_cal G.is_shape (hr.mono (by decide)) pass0 (pa_cons (pv 6) (pa_cons (pe_ix ix_kdict (pe_glob (v := .ref a_FIELDS) (by rfl) g_FIELDS rfl) (pv 5) (fun _ _ => rfl)) pa_nil)))))
        (pss_one (ps_raiseB rfl TE par_value c_BadForm (hr.mono (Nat.zero_le _)) (takes_of rfl rfl rfl rfl) (pa_cons (pv 5) pa_nil) (by rfl)))
        pss_nil))))
    (pss_one (ps_fld (pv 0) (pe_lock (pe_dc (own := [("word", 5), ("shape", 6)]) (g := gTup K 2 (gCons (gName 5) (gCons (gName 6) gNil))) (tt := tYes) (by rfl) sc_Form_init.nd (pi_items (pv 4)) (blkOk_by (own := [("word", 5), ("shape", 6)]) (N := ["self", "row", "fix", "gone", "shapes", "word", "shape"]) (sc := defScope s_Form_init) (by decide +kernel)) (fun _ _ _ _ _ => (pg_tup (by rfl) (pgs_cons (pg_name (i := 5) sc_Form_init.nd rfl (Or.inl rfl)) (pgs_cons (pg_name (i := 6) sc_Form_init.nd rfl (Or.inl rfl)) pgs_nil)))) (fun _ _ _ _ _ => pts_nil) (fun _ _ _ _ _ => (pv 5)) (fun _ _ _ _ _ => (pe_callTy (show CallR _ (.type "tuple") (rTupOf K) from call_tuple_of) (by rfl) B.tuple (by decide +kernel) (pa_cons (pv 6) pa_nil))))) rfl)))), ?_⟩
    refine fun S hS => ⟨_, rfl, _, rfl, _, rfl, upd_same, [(.inr "row", v1), (.inr "fix", v2), (.inr "gone", v3)], rfl, (by show 3 ≤ 15; decide), ?_⟩
    have sS := sameAt (o := .dK (mergeK [] [(.inr "row", v1), (.inr "fix", v2), (.inr "gone", v3)])) (sameAt (o := .dK []) (Same.refl H) hS) hS
    generalize hH : upd (upd H S (.dK [])) S (.dK (mergeK [] [(.inr "row", v1), (.inr "fix", v2), (.inr "gone", v3)])) = H1 at sS ⊢
    have hS1 : H1 S = some (.dK [(.inr "row", v1), (.inr "fix", v2), (.inr "gone", v3)]) := by rw [← hH]; exact upd_same
    clear hH
    have nS : ∀ {c o}, H c = some o → c ≠ S := fun h e => by rw [e, hS] at h; cases h
    refine ⟨S, _, hS1, trivial, fun od => ⟨_, rfl, S, od, _, rfl, upd_same, ?_⟩⟩
    have sF : Same H (upd H1 S (.frz od (.dK [(.inr "row", v1), (.inr "fix", v2), (.inr "gone", v3)]))) := fun c o hc => by rw [upd_ne (nS hc)]; exact sS _ _ hc
    refine for_it (walk_items (kvs := [(.inr "row", v1), (.inr "fix", v2), (.inr "gone", v3)])) (fun i σ H' => (∃ x5 x6, σ = [some (.ref b), some v1, some v2, some v3, some (.ref S), x5, x6]) ∧ Same (upd H1 S (.frz od (.dK [(.inr "row", v1), (.inr "fix", v2), (.inr "gone", v3)]))) H' ∧ (0 < i → s1.good "row") ∧ (1 < i → s2.good "fix") ∧ (2 < i → s3.good "gone")) ⟨⟨_, _, rfl⟩, Same.refl _, fun h => absurd h (by decide), fun h => absurd h (by decide), fun h => absurd h (by decide)⟩ (fun i σ H' _ hv => hv.2.1 _ _ upd_same) ?_ ?_
    · rintro i v σ H3 H4 hi ⟨⟨x5, x6, rfl⟩, sx, g1, g2, g3⟩ ⟨Tt', x1, x2, rfl, hT, rfl, e1, e2⟩
      have hi : i < 3 := hi
      have key : ∃ (wi : Str) (shi : Sh), (wi = "row" ∨ wi = "fix" ∨ wi = "gone") ∧ x1 = .str wi ∧ ShA K H x2 shi ∧ (shi.good wi → (0 < i + 1 → s1.good "row") ∧ (1 < i + 1 → s2.good "fix") ∧ (2 < i + 1 → s3.good "gone")) ∧
          (¬ shi.good wi → (¬ s1.good "row" ∧ wi = "row" ∨ s1.good "row" ∧ ¬ s2.good "fix" ∧ wi = "fix" ∨ s1.good "row" ∧ s2.good "fix" ∧ ¬ s3.good "gone" ∧ wi = "gone")) := by
        match i, hi with
        | 0, _ =>
          cases (show some (V.str "row") = some x1 from e1)
          cases (show some v1 = some x2 from e2)
          exact ⟨"row", s1, .inl rfl, rfl, h1, fun h => ⟨fun _ => h, fun h => absurd h (by decide), fun h => absurd h (by decide)⟩, fun h => .inl ⟨h, rfl⟩⟩
        | 1, _ =>
          cases (show some (V.str "fix") = some x1 from e1)
          cases (show some v2 = some x2 from e2)
          exact ⟨"fix", s2, .inr (.inl rfl), rfl, h2, fun h => ⟨fun _ => g1 (by decide), fun _ => h, fun h => absurd h (by decide)⟩, fun h => .inr (.inl ⟨g1 (by decide), h, rfl⟩)⟩
        | 2, _ =>
          cases (show some (V.str "gone") = some x1 from e1)
          cases (show some v3 = some x2 from e2)
          exact ⟨"gone", s3, .inr (.inr rfl), rfl, h3, fun h => ⟨fun _ => g1 (by decide), fun _ => g2 (by decide), fun _ => h⟩, fun h => .inr (.inr ⟨g1 (by decide), g2 (by decide), h, rfl⟩)⟩
      obtain ⟨wi, shi, hw, rfl, hx2, good, bad⟩ := key
      obtain ⟨af, kf, tf⟩ := L.k wi hw
      have sT : Same H (upd H3 Tt' (.tup [.str wi, x2])) := (sF.trans sx).trans (sameAt (Same.refl _) hT)
      refine ⟨Tt', _, rfl, SqT.of upd_same, rfl, _, _, rfl, _, _, rfl, rfl, ?_⟩
      refine ⟨_, rfl, _, rfl, _, wi, .ref af, rfl, rfl, kf, x2, shi, af, wi, rfl, hx2.ev sT, tf _, fun bb H5 hbb s5 => ⟨_, rfl, ?_⟩⟩
      cases bb with
      | true =>
        obtain ⟨a1, a2, a3⟩ := good (hbb.mp rfl)
        exact iteN rfl ⟨⟨_, _, rfl⟩, (sx.trans (sameAt (Same.refl _) hT)).trans s5, a1, a2, a3⟩
      | false =>
        have ng : ¬ shi.good wi := fun h => Bool.noConfusion (hbb.mpr h)
        have bd := bad ng
        rcases q with ⟨G1, G2, G3, _⟩ | ⟨wq, hq, q⟩
        · rcases bd with ⟨h, _⟩ | ⟨_, h, _⟩ | ⟨_, _, h, _⟩
          · exact absurd G1 h
          · exact absurd G2 h
          · exact absurd G3 h
        · have ew : wq = wi := by
            rcases bd with ⟨h, e⟩ | ⟨h0, h, e⟩ | ⟨h0, h00, h, e⟩ <;> rcases hq with ⟨k, e'⟩ | ⟨k0, k, e'⟩ | ⟨k0, k00, k, e'⟩ <;> first | exact e'.trans e.symm | contradiction
          subst ew
          refine iteP rfl ⟨_, rfl, _, rfl, fun d hd => q d _ (fun c o hc _ => ?_) upd_same⟩
          exact ((sT.trans s5).trans (sameAt (Same.refl _) hd)) _ _ hc
    · rintro σ H2 ⟨⟨x5, x6, rfl⟩, sy, g1, g2, g3⟩
      have g1 := g1 (show 0 < 3 by decide)
      have g2 := g2 (show 1 < 3 by decide)
      have g3 := g3 (show 2 < 3 by decide)
      refine ⟨sy _ _ upd_same, ?_⟩
      have sU : Same H (upd H2 S (.dK [(.inr "row", v1), (.inr "fix", v2), (.inr "gone", v3)])) := fun c o hc => by rw [upd_ne (nS hc)]; exact sy _ _ (by rw [upd_ne (nS hc)]; exact sS _ _ hc)
      rcases q with ⟨_, _, _, q⟩ | ⟨wq, hq, _⟩
      rotate_left
      · exfalso
        rcases hq with ⟨k, _⟩ | ⟨_, k, _⟩ | ⟨_, _, k, _⟩
        · exact k g1
        · exact k g2
        · exact k g3
      obtain ⟨us1, r1⟩ := RwA.of h1 g1
      obtain ⟨us2, r2⟩ := RwA.of h2 g2
      obtain ⟨us3, r3⟩ := RwA.of h3 g3
      generalize hU : upd H2 S (.dK [(.inr "row", v1), (.inr "fix", v2), (.inr "gone", v3)]) = H5 at sU ⊢
      have hS5 : H5 S = some (.dK [(.inr "row", v1), (.inr "fix", v2), (.inr "gone", v3)]) := by rw [← hU]; exact upd_same
      clear hU
      refine ⟨S, _, hS5, trivial, fun od2 => ⟨_, rfl, S, od2, _, rfl, upd_same, fun D hD => ?_⟩⟩
      have sG : Same H (upd H5 S (.frz od2 (.dK [(.inr "row", v1), (.inr "fix", v2), (.inr "gone", v3)]))) := fun c o hc => by rw [upd_ne (nS hc)]; exact sU _ _ hc
      have hSD : S ≠ D := fun e => by rw [e, ← e, upd_same] at hD; cases hD
      have hbS : b ≠ S := nS hb
      have hbD : b ≠ D := fun e => by rw [← e, sG _ _ hb] at hD; cases hD
      refine w_it (walk_items (kvs := [(.inr "row", v1), (.inr "fix", v2), (.inr "gone", v3)])) (fun i H' => Same (upd H5 S (.frz od2 (.dK [(.inr "row", v1), (.inr "fix", v2), (.inr "gone", v3)]))) H' ∧ ∃ ks, H' D = some (.dK ks) ∧ (i = 0 → ks = []) ∧ (i = 1 → ∃ t1, ks = [(.inr "row", .ref t1)] ∧ H' t1 = some (.tup us1)) ∧ (i = 2 → ∃ t1 t2, ks = [(.inr "row", .ref t1), (.inr "fix", .ref t2)] ∧ H' t1 = some (.tup us1) ∧ H' t2 = some (.tup us2)) ∧
        (i = 3 → ∃ t1 t2 t3, ks = [(.inr "row", .ref t1), (.inr "fix", .ref t2), (.inr "gone", .ref t3)] ∧ H' t1 = some (.tup us1) ∧ H' t2 = some (.tup us2) ∧ H' t3 = some (.tup us3))) ⟨sameAt (Same.refl _) hD, [], upd_same, fun _ => rfl, fun h => (by cases h), fun h => (by cases h), fun h => (by cases h)⟩ (fun i H' _ hv => hv.1 _ _ upd_same) ?_ ?_
      · rintro i v H3 H4 hi ⟨sx, ks, hk, k0, k1, k2, k3⟩ ⟨Tt', x1, x2, rfl, hT, rfl, e1, e2⟩
        have hi : i < 3 := hi
        have sT := sameAt (o := .tup [x1, x2]) (Same.refl H3) hT
        have sH := (sG.trans sx).trans sT
        refine ⟨Tt', _, rfl, SqT.of upd_same, rfl, _, _, rfl, _, _, rfl, rfl, rfl, ?_⟩
        have dT : ∀ {t us}, H3 t = some (.tup us) → t ≠ D := fun h e => by rw [e, hk] at h; cases h
        match i, hi with
        | 0, _ =>
          cases (show some (V.str "row") = some x1 from e1)
          cases (show some v1 = some x2 from e2)
          cases k0 rfl
          refine ⟨_, rfl, tup_call (fun R h => ⟨_, rfl, h⟩) (r1.same sH) fun t H6 s6 ht => ⟨[], .inr "row", rfl, s6 _ _ (sT _ _ hk), (by decide), sameAt2 ((sx.trans sT).trans s6) hD, _, upd_same, fun h => (by cases h), fun _ => ⟨t, rfl, ?_⟩, fun h => (by cases h), fun h => (by cases h)⟩⟩
          rw [upd_ne (fun e => by rw [e, s6 _ _ (sT _ _ hk)] at ht; cases ht)]; exact ht
        | 1, _ =>
          cases (show some (V.str "fix") = some x1 from e1)
          cases (show some v2 = some x2 from e2)
          obtain ⟨t1, rfl, p1⟩ := k1 rfl
          refine ⟨_, rfl, tup_call (fun R h => ⟨_, rfl, h⟩) (r2.same sH) fun t H6 s6 ht => ⟨_, .inr "fix", rfl, s6 _ _ (sT _ _ hk), (by show 1 < sizeLine; decide), sameAt2 ((sx.trans sT).trans s6) hD, _, upd_same, fun h => (by cases h), fun h => (by cases h), fun _ => ⟨t1, t, rfl, ?_, ?_⟩, fun h => (by cases h)⟩⟩
          · rw [upd_ne (dT p1)]; exact s6 _ _ (sT _ _ p1)
          · rw [upd_ne (fun e => by rw [e, s6 _ _ (sT _ _ hk)] at ht; cases ht)]; exact ht
        | 2, _ =>
          cases (show some (V.str "gone") = some x1 from e1)
          cases (show some v3 = some x2 from e2)
          obtain ⟨t1, t2, rfl, p1, p2⟩ := k2 rfl
          refine ⟨_, rfl, tup_call (fun R h => ⟨_, rfl, h⟩) (r3.same sH) fun t H6 s6 ht => ⟨_, .inr "gone", rfl, s6 _ _ (sT _ _ hk), (by show 2 < sizeLine; decide), sameAt2 ((sx.trans sT).trans s6) hD, _, upd_same, fun h => (by cases h), fun h => (by cases h), fun h => (by cases h), fun _ => ⟨t1, t2, t, rfl, ?_, ?_, ?_⟩⟩⟩
          · rw [upd_ne (dT p1)]; exact s6 _ _ (sT _ _ p1)
          · rw [upd_ne (dT p2)]; exact s6 _ _ (sT _ _ p2)
          · rw [upd_ne (fun e => by rw [e, s6 _ _ (sT _ _ hk)] at ht; cases ht)]; exact ht
      · rintro H3 ⟨sx, ks, hk, _, _, _, k3⟩
        obtain ⟨t1, t2, t3, rfl, p1, p2, p3⟩ := k3 rfl
        have hSS := sx _ _ upd_same
        have hb3 := (sG.trans sx) _ _ hb
        have tS : ∀ {t us}, H3 t = some (.tup us) → t ≠ S ∧ t ≠ b := fun h => ⟨fun e => (by rw [e, hSS] at h; cases h), fun e => (by rw [e, hb3] at h; cases h)⟩
        refine ⟨hSS, _, rfl, b, CF, dx, [], rfl, by rw [upd_ne hbS]; exact hb3, cF, nF, (by decide), q us1 us2 us3 _ r1 r2 r3 ⟨dx, D, t1, t2, t3, upd_same, ?_, ?_, ?_, ?_⟩ (fun c o hc hn => ?_)⟩
        · rw [upd_ne hbD.symm, upd_ne hSD.symm]; exact hk
        · rw [upd_ne (tS p1).2, upd_ne (tS p1).1]; exact p1
        · rw [upd_ne (tS p2).2, upd_ne (tS p2).1]; exact p2
        · rw [upd_ne (tS p3).2, upd_ne (tS p3).1]; exact p3
        · rw [upd_ne hn, upd_ne (nS hc)]; exact (sG.trans sx) _ _ hc
end
end Ash

set_option Elab.async false
set_option linter.all false
set_option maxRecDepth 100000
set_option maxHeartbeats 4000000
namespace L2
open PySem PySem.Spec PyProof.Rows
section
variable {X : Cx} {C fI : Addr} {par fl : Str}
/-- n.f in the suite that caught an own error with the one field fl -/
def tByB (fl : Str) (C a : Addr) (cls : Value) (d : Option Addr) (te : TE) : TE := fun σ H Q => te σ H fun x H1 => x = .ref a ∧ cls = .ref C ∧ ∃ (dd : Addr) (v : V), d = some dd ∧ H1 dd = some (.xd [(fl, v)]) ∧ Q v H1
theorem pe_byB {a : Addr} {oe : Obj} {cls : Value} {d : Option Addr} {pn : List (Addr × Obj)} {e : Expr} {te : TE} {pos : Pos} (T : PySem.BadX.Txt X.prog X.K X.mg par fl C fI) (hz : Zc cls d oe) (hf : ∃ vs, oe.data = .fields vs) (he : PE (X.suite a ((a, oe) :: pn)) e te)
    (hb : attributeBase e fl X.env (eval e X.env) = eval e X.env := by rfl) :
    PE (X.suite a ((a, oe) :: pn)) (.Attribute e fl pos) (tByB fl C a cls d te) := by
  refine ⟨fun pins s σ H Q I h => ?_⟩
  refine attr_of hb (thn (he.run pins s σ H _ I h) fun u s1 hh => ?_)
  obtain ⟨x, H1, I1, rx, ex, ec, dd, v, ed, ea, q⟩ := hh
  subst ex
  obtain rfl : u = Value.ref a := rx
  subst ec
  subst ed
  obtain ⟨ha, _⟩ := I1.pin (a, oe) (List.mem_append_left _ List.mem_cons_self)
  obtain ⟨vs, hd⟩ := hf
  have hx : ObjOk X.prog X.w H1 s1.heap dd (.xd [(fl, v)]) := I1.hok dd _ ea
  obtain ⟨mA, hns, hr⟩ := hx
  obtain ⟨od, ho, hl⟩ := lookIn_ns hns
  have l : List.lookup fl [(fl, v)] = some v := by simp [List.lookup]
  obtain ⟨u, hu, ru⟩ := RelO.some_of (v := v) (o := mA fl) (by rw [← l]; exact hr fl)
  have J : PySem.W.InstAt s1.heap a oe C (some od) := ⟨ha, hz.1, by unfold PySem.W.notCls; rw [hd] <;> rfl, by rw [hz.2]; exact ho⟩
  exact HandSPX.exc_get I1.kIn J T.ga T.gg T.exC (PySem.W.findObj_own T.hdC T.noN rfl (by rw [hl, hu])) (handed_of ru) ⟨v, H1, I1.tok _, ru, q⟩
end
end L2
namespace Ash
open PySem PySem.Spec PyProof.Rows L2
open C8 (pss_cut)
/-- what is wanted of an exception at any n slots -/
def WEn (n : Nat) (W : WX) : XK := fun cls d H => ∀ σ : L2.St, σ.length = n → W cls d σ H
theorem passN {X : Cx} {W : WX} {n : Nat} (hn : X.N.length = n) (tk : Takes X W) : Passes (L2.CX X.prog X.w) X (WEn n W) := fun _ σ _ _ e s' I c => tk e s' (XE.of_call I (fun cls d H' h => h σ (I.len.trans hn)) c)
section
variable {X : Cx} {CX : CXT} {k : Nat} {ps : List Str} {sp : Sp} {E : XK} {o e : Expr} {es : List Expr} {ta : TE} {t : TA} {C : Addr} {m : Str} {apos pos : Pos}
theorem pe_met {pl : Sem Bool} (c : Cls X.K C) (G : Met X.prog X.w X.K X.mg X.base CX C m k ps sp) (hr : Room k X.A) (hx : Passes CX X E) (ho : PE X o ta) (ha : PA X (e :: es) t) 
    (he : starEach (e :: es) X.env = (false, eval e X.env) :: starEach es X.env := by rfl) (hpl : (backTo pos (starEach es X.env)).any (·.1) = false := by rfl)
    (ht : eval (.Call (.Attribute o m apos) (e :: es) [] pos) X.env = (do
      let ov ← eval o X.env
      standAt apos.atName
      let (f, first) ← holding [ov] (getMethod ov m pl)
      callWith pos f first (backTo pos (starEach (e :: es) X.env)) (backToKw pos (keywordEach [] X.env))) := by rfl) :
    PE X (.Call (.Attribute o m apos) (e :: es) [] pos) (tMeth C m sp [] E ta t) := by
  obtain ⟨f, fd, hm, hb, F⟩ := G.ex
  exact pe_meth ho c hm F hr hb .nil hx ha he hpl ht
end
section
variable {X : Cx} {CX : CXT} {k : Nat} {ps : List Str} {sp : Sp} {E : L2.St → XK} {o e : Expr} {es : List Expr} {ta : TE} {t : TA} {C : Addr} {m : Str} {apos pos : Pos}
/-- o.m(e, ..), what is raised being wished for at the caller's slots -/
def tMethS (C : Addr) (m : Str) (sp : Sp) (E : L2.St → XK) (ta : TE) (t : TA) : TE := fun σ H Q => ta σ H fun x H1 => ∃ a dx fs, x = .ref a ∧ H1 a = some (.ins C dx fs) ∧ fs.lookup m = none ∧ t σ H1 fun vs H2 => sp (x :: (vs ++ [])) H2 Q (E σ)
theorem pe_metS {pl : Sem Bool} (c : Cls X.K C) (G : Met X.prog X.w X.K X.mg X.base CX C m k ps sp) (hr : Room k X.A) (hx : ∀ σ, PassesAt CX X σ (E σ)) (ho : PE X o ta) (ha : PA X (e :: es) t) 
    (he : starEach (e :: es) X.env = (false, eval e X.env) :: starEach es X.env := by rfl) (hpl : (backTo pos (starEach es X.env)).any (·.1) = false := by rfl)
    (ht : eval (.Call (.Attribute o m apos) (e :: es) [] pos) X.env = (do
      let ov ← eval o X.env
      standAt apos.atName
      let (f, first) ← holding [ov] (getMethod ov m pl)
      callWith pos f first (backTo pos (starEach (e :: es) X.env)) (backToKw pos (keywordEach [] X.env))) := by rfl) :
    PE X (.Call (.Attribute o m apos) (e :: es) [] pos) (tMethS C m sp E ta t) := by
  obtain ⟨f, fd, hm, hb, F⟩ := G.ex
  refine ⟨fun pins s σ H Q I h => PySem.W.methodCall_KW (pl := pl) (thn (ho.run pins s σ H _ I h) fun u s1 ⟨x, H1, I1, rx, a, dx, fs, ex, ea, l, q⟩ => ?_) ht⟩
  cases ex
  cases (show u = Value.ref a from rx)
  refine getmeth_ok I1 ea c hm l (PySem.W.callWith_K (first := [.ref a]) (h₀ := X.base) I.ok.mod.kin hm.kp (thn (ha.run pos pins s1 σ H1 _ I1 q) fun us s2 ⟨vs, H2, I2, r, q2⟩ => ⟨I2.kIn, ?_⟩) he hpl)
  exact run_fnSD (us := .ref a :: us) (vs := .ref a :: vs) F hr hb .nil (hx σ) I2 (.cons rfl r) q2
theorem pe_metS0 {pl : Sem Bool} (c : Cls X.K C) (G : Met X.prog X.w X.K X.mg X.base CX C m k ps sp) (hr : Room k X.A) (hx : ∀ σ, PassesAt CX X σ (E σ)) (ho : PE X o ta)
    (ht : eval (.Call (.Attribute o m apos) [] [] pos) X.env = (do
      let ov ← eval o X.env
      standAt apos.atName
      let (f, first) ← holding [ov] (getMethod ov m pl)
      callWith pos f first (backTo pos (starEach [] X.env)) (backToKw pos (keywordEach [] X.env))) := by rfl) :
    PE X (.Call (.Attribute o m apos) [] [] pos) (tMethS C m sp E ta tNil) := by
  obtain ⟨f, fd, hm, hb, F⟩ := G.ex
  refine ⟨fun pins s σ H Q I h => PySem.W.methodCall_KW (pl := pl) (thn (ho.run pins s σ H _ I h) fun u s1 ⟨x, H1, I1, rx, a, dx, fs, ex, ea, l, q⟩ => ?_) ht⟩
  cases ex
  cases (show u = Value.ref a from rx)
  exact getmeth_ok I1 ea c hm l (PySem.W.callWith_K0 (first := [.ref a]) I1.kIn hm.kp (run_fnSD (us := [.ref a]) (vs := [.ref a]) F hr hb .nil (hx σ) I1 (.cons rfl .nil) q))
end
section
variable {X : Cx} {CX : CXT} {k : Nat} {ps : List Str} {sp : Sp} {E : XK} {o : Expr} {ta : TE} {C : Addr} {m : Str} {apos pos : Pos}
theorem pe_met0 {pl : Sem Bool} (c : Cls X.K C) (G : Met X.prog X.w X.K X.mg X.base CX C m k ps sp) (hr : Room k X.A) (hx : Passes CX X E) (ho : PE X o ta) 
    (ht : eval (.Call (.Attribute o m apos) [] [] pos) X.env = (do
      let ov ← eval o X.env
      standAt apos.atName
      let (f, first) ← holding [ov] (getMethod ov m pl)
      callWith pos f first (backTo pos (starEach [] X.env)) (backToKw pos (keywordEach [] X.env))) := by rfl) :
    PE X (.Call (.Attribute o m apos) [] [] pos) (tMeth C m sp [] E ta tNil) := by
  obtain ⟨f, fd, hm, hb, F⟩ := G.ex
  exact pe_meth0 ho c hm F hr hb .nil hx ht
end
section
variable {X : Cx} {CX : CXT} {k : Nat} {ps : List Str} {sp : Sp} {E : XK} {x : Str} {p pos : Pos} {e : Expr} {es : List Expr} {t : TA}
structure MakD (P : Program) (w : World) (K : PySem.W.Frag) (mg : Str → Option Value) (base : Heap) (CX : CXT) (x : Str) (C : Addr) (k : Nat) (ps : List Str) (dv : V) (sp : Sp) : Prop where
  ex : ∃ f fd u, Mk K C f ∧ mg x = some (.ref C) ∧ Binds K fd ps [u] ∧ RelV dv u ∧ FnOk P w K mg base CX k f fd ps sp
section
variable {X : Cx} {CX : CXT} {k j : Nat} {ps : List Str} {sp : Sp} {E : XK} {x : Str} {p pos : Pos} {e : Expr} {es : List Expr} {t : TA}
theorem pe_makD {C : Addr} {dv : V} (G : MakD X.prog X.w X.K X.mg X.base CX x C k ps dv sp) (hr : Room (k + 1) X.A) (hx : Passes CX X E) (ha : PA X (e :: es) t) (hg : Gl X x := by rfl)
    (hdb : (x == ("__debug__" : Str)) = false := by decide) (he : starEach (e :: es) X.env = (false, eval e X.env) :: starEach es X.env := by rfl) (hpl : (backTo pos (starEach es X.env)).any (·.1) = false := by rfl) :
    PE X (.Call (.Name x p) (e :: es) [] pos) (tMake C sp [dv] E t) := by
  obtain ⟨f, fd, u, M, hm, hb, hv, F⟩ := G.ex
  exact pe_make M F hr hg hm hb (.cons hv .nil) hx ha hdb he hpl
end
end
end Ash

set_option Elab.async false
set_option linter.all false
set_option maxRecDepth 100000
set_option maxHeartbeats 4000000
namespace L2
open PySem PySem.Spec PyProof.Rows
section
variable {X : Cx} {k : Nat} {CX : CXT} {f C : Addr} {fd : FuncData} {ps : List Str} {sp : Sp} {E : St → XK} {e : Expr} {es : List Expr} {x : Str} {t : TA} {pos p : Pos}
/-- C(..) at the slots of the place -/
theorem makAt {pins : List (Addr × Obj)} {σ : St} {H : Hp} {s : Shared} {Q : VK} {us : List Value} {vs : List V} (M : Mk X.K C f) (F : FnOk X.prog X.w X.K X.mg X.base CX k f fd ps sp) (hr : Room (k + 1) X.A) (hb : Binds X.K fd ps []) (hx : PassesAt CX X σ (E σ)) (I : Inv X pins σ H s) (r : Vals vs us)
    (h : ∀ y dx, H y = none → H dx = none → dx ≠ y → sp (.ref y :: vs) (upd (upd H dx (.own y)) y (.ins C dx [])) (fun v H2 => v = .non ∧ Q (.ref y) H2) (E σ)) : wpAny (model X.prog X.w) X.A (call (.ref C) us) (EP X pins σ Q) X.xe s := by
  have J := Inv.made (C := C) I
  have w := h (s.heap.objs.size + 1) s.heap.objs.size (I.hok.fresh (by omega)) (I.hok.fresh (Nat.le_refl s.heap.objs.size)) (Nat.ne_of_lt (Nat.lt_succ_self _))
  have rr : Vals (V.ref (s.heap.objs.size + 1) :: vs) (Value.ref (s.heap.objs.size + 1) :: us) := .cons rfl r
  have bd := hb _ (Value.ref (s.heap.objs.size + 1) :: us) J.kIn (by rw [List.append_nil, ← rr.length]; exact F.len _ _ _ _ w)
  rw [List.append_nil] at bd
  have run := F.run _ X.stack _ _ ⟨Value.ref (s.heap.objs.size + 1) :: us, []⟩ _ _ _ (E σ) (hr.make C us []) (J.env0.make C us []) bd rr w
  refine wpAny_call (make_map (f := f) I.kIn M.makes M.init (beq_iff_eq.mp M.fn) (codeAny_mono run fun g s2 hg => ?_))
  rcases g with e | fl
  · exact hx pins _ _ e s2 J hg
  · cases fl with
    | ret u =>
      obtain ⟨v, H3, I3, rv, ev, q3⟩ := J.after hg
      subst ev
      exact ⟨rv, V.ref (s.heap.objs.size + 1), H3, I3, rfl, q3⟩
    | _ => exact hg.elim
def tMakS (C : Addr) (sp : Sp) (E : St → XK) (t : TA) : TE := fun σ H Q => t σ H fun vs H1 => ∀ y dx, H1 y = none → H1 dx = none → dx ≠ y →
  sp (.ref y :: vs) (upd (upd H1 dx (.own y)) y (.ins C dx [])) (fun v H2 => v = .non ∧ Q (.ref y) H2) (E σ)
theorem makS (M : Mk X.K C f) (F : FnOk X.prog X.w X.K X.mg X.base CX k f fd ps sp) (hr : Room (k + 1) X.A) (hg : Gl X x) (hm : X.mg x = some (.ref C)) (hb : Binds X.K fd ps []) (hx : ∀ σ, PassesAt CX X σ (E σ))
    (ha : PA X (e :: es) t) (hdb : (x == ("__debug__" : Str)) = false := by decide) (he : starEach (e :: es) X.env = (false, eval e X.env) :: starEach es X.env := by rfl) (hpl : (backTo pos (starEach es X.env)).any (·.1) = false := by rfl) :
    PE X (.Call (.Name x p) (e :: es) [] pos) (tMakS C sp E t) := by
  refine ⟨fun pins s σ H Q I h => wpAny_Call_Name_kw (ld_glob I hg hm (PySem.W.callWith_K (h₀ := X.base) I.ok.mod.kin M.kp (thn (ha.run pos pins s σ H _ I h) fun us s1 ⟨vs, H1, I1, r, q⟩ => ⟨I1.kIn, ?_⟩) he hpl) hdb)⟩
  exact makAt M F hr hb (hx σ) I1 r q
end
/-- isinstance(n, c) in the suite that caught an own error with a field -/
def rIsB (K : PySem.W.Frag) (D a : Addr) (cls : Value) (d : Option Addr) : List V → Hp → VK → Prop := fun xs H Q => cls = .ref D ∧ ∃ (c : V) (cv : Value) (b : Bool) (dd : Addr) (fl : List (Str × V)), xs = [.ref a, c] ∧ d = some dd ∧ H dd = some (.xd fl) ∧ (∀ u, RelV c u → u = cv) ∧ PySem.W.kitOne K (.ref D) cv = some b ∧ Q (.bl b) H
theorem call_isB {X : Cx} {a D : Addr} {oe : Obj} {cls : Value} {d : Option Addr} {pn : List (Addr × Obj)} (C : ExcC X.K D) (hc : PySem.W.isClsIn X.K D = true) (hz : Zc cls d oe) (hf : ∃ vs, oe.data = .fields vs) : CallR (X.suite a ((a, oe) :: pn)) (.builtin "isinstance") (rIsB X.K D a cls d) := by
  intro pins s σ H xs us Q I r h
  obtain ⟨rfl, c, cv, b, dd, fl, rfl, rfl, ea, hcv, e, q⟩ := h
  obtain ⟨u1, u2, rfl, r1, r2⟩ := r.two
  cases r1
  have ec := hcv _ r2
  subst ec
  obtain ⟨ha, _⟩ := I.pin (a, oe) (List.mem_append_left _ List.mem_cons_self)
  obtain ⟨vs, hd⟩ := hf
  obtain ⟨mA, hns, _⟩ := (show ObjOk X.prog X.w H s.heap dd (.xd fl) from I.hok dd _ ea)
  obtain ⟨od, ho, _⟩ := lookIn_ns hns
  have J : PySem.W.InstAt s.heap a oe D (some od) := ⟨ha, hz.1, by unfold PySem.W.notCls; rw [hd] <;> rfl, by rw [hz.2]; exact ho⟩
  exact PySem.W.kia_one (PySem.W.kitx_exc hc C.hg C.hk C.hs C.ha C.hn C.ht C.hm) I.kIn J e (fun z => nomatch z) fun tk => ⟨.bl b, H, I.kept (t' := tk) fun _ _ z => z, rfl, q⟩
/-- two rules of one operator -/
theorem op_alt {X : Cx} {f : Value → Value → Sem Value} {r r' : R2} (h : OpR X f r) (h' : OpR X f r') : OpR X f (fun x y H Q => r x y H Q ∨ r' x y H Q) := by
  intro pins s σ H x y v u Q I rx ry q
  rcases q with q | q
  · exact h pins s σ H x y v u Q I rx ry q
  · exact h' pins s σ H x y v u Q I rx ry q
end L2
namespace Ash
open PySem PySem.Spec PyProof.Rows L2
section
variable {X : Cx} {CX : CXT} {k : Nat} {x : Str} {ps : List Str} {sp : Sp} {E : L2.St → XK} {e : Expr} {es : List Expr} {t : TA} {p pos : Pos}
theorem pe_makS {C : Addr} (G : Mak X.prog X.w X.K X.mg X.base CX x C k ps sp) (hr : Room (k + 1) X.A) (hx : ∀ σ, PassesAt CX X σ (E σ)) (ha : PA X (e :: es) t) (hg : Gl X x := by rfl)
    (hdb : (x == ("__debug__" : Str)) = false := by decide) (he : starEach (e :: es) X.env = (false, eval e X.env) :: starEach es X.env := by rfl) (hpl : (backTo pos (starEach es X.env)).any (·.1) = false := by rfl) :
    PE X (.Call (.Name x p) (e :: es) [] pos) (tMakS C sp E t) := by
  obtain ⟨f, fd, M, hm, hb, F⟩ := G.ex
  exact makS M F hr hg hm hb hx ha hdb he hpl
end
end Ash

set_option Elab.async false
set_option linter.all false
set_option maxRecDepth 100000
set_option maxHeartbeats 4000000
namespace L2
open PySem PySem.Spec PyProof.Rows
/-! ### == of dicts whose values are data -/
inductive EqP (K : PySem.W.Frag) (H : Hp) (ls : List (Key × V)) : List (Key × V) → Bool → Prop
  | nil : EqP K H ls [] true
  | hit {k : Key} {v y : V} {r : List (Key × V)} {d e : PyData} {b : Bool} : valV ls k = some y → Dp K H v d → Dp K H y e → SeqAt.shaped d = true → SeqAt.shaped e = true → EqP K H ls r b → EqP K H ls ((k, v) :: r) (PyData.eqv d e && b)
def rEqDD (K : PySem.W.Frag) : R2 := fun x y H Q => ∃ a b ks ls c, x = .ref a ∧ y = .ref b ∧ H a = some (.dK ks) ∧ H b = some (.dK ls) ∧ ks.length = ls.length ∧ EqP K H ls ks c ∧ Q (.bl c) H
theorem eqP_hits {X : Cx} {pins : List (Addr × Obj)} {σ : St} {H : Hp} {s : Shared} (I : Inv X pins σ H s) (hu : X.A.in1.units + 64 < cLine) {ls : List (Key × V)} {vb : List (Key × Value)} (rb : KV ls vb) {ks : List (Key × V)} {c : Bool} (h : EqP X.K H ls ks c) :
    ∀ {va : List (Key × Value)}, KV ks va → PySem.W.KeqHits X.A.in1 s vb va c := by
  induction h with
  | nil =>
    intro va ra
    cases ra
    exact .nil
  | @hit k v y r d e b hv hd he sd se _ ih =>
    intro va ra
    cases ra with
    | @cons _ q _ qs g t =>
      obtain ⟨k', u⟩ := q
      obtain ⟨g1, g2⟩ := g
      have g1 : k = k' := g1
      subst g1
      have rr : RelO (some y) (valueAt vb k) := by
        rw [← hv]
        exact rb.val k
      obtain ⟨z, hz, rz⟩ := rr.some_of
      obtain ⟨as, r1⟩ := Dp.reads I d v u hd g2
      obtain ⟨bs, r2⟩ := Dp.reads I e y z he rz
      exact .hit hz (PySem.W.keq_at r1 r2 sd se hu) (ih t)
theorem op_eqDD {X : Cx} (hu : X.A.in1.units + 64 < cLine) (hw : X.A.units < cLine) : OpR X (compareOp .Eq) (rEqDD X.K) := by
  intro pins s σ H x y v u Q I rx ry h
  obtain ⟨a, b, ks, ls, c, rfl, rfl, ea, eb, hl, hp, q⟩ := h
  obtain rfl : v = Value.ref a := rx
  obtain rfl : u = Value.ref b := ry
  obtain ⟨_, ya, va, ra, da⟩ := (show ObjOk X.prog X.w H s.heap a (.dK ks) from I.hok a _ ea)
  obtain ⟨_, yb, vb, rb, db⟩ := (show ObjOk X.prog X.w H s.heap b (.dK ls) from I.hok b _ eb)
  have hn : va.length = vb.length := by rw [← ra.length, ← rb.length]; exact hl
  exact PySem.W.keq_eq (knd := mixKind X.prog X.w) (r := c) ya yb da db hw (fun _ => eqP_hits I hu rb hp ra) (fin_bl I q (by simp [hn]))
end L2

set_option Elab.async false
set_option linter.all false
set_option maxRecDepth 100000
set_option maxHeartbeats 4000000
set_option pp.maxSteps 1500
namespace L2
open PySem PySem.Spec PyProof.Rows
/-- == of flat things, data, dicts of data -/
def rEqW (K : PySem.W.Frag) : R2 := fun x y H Q => rEq x y H Q ∨ (rEqD K x y H Q ∨ rEqDD K x y H Q)
theorem op_eqW {X : Cx} (h1 : X.A.units + 64 < cLine) (h2 : X.A.in1.units + 64 < cLine) : OpR X (compareOp .Eq) (rEqW X.K) := op_alt op_eq (op_alt (op_eqD h1) (op_eqDD h2 (by omega)))
end L2
namespace Ash
open PySem PySem.Spec PyProof.Rows L2
open C8 (pss_cut)
/-! ### a form's shapes -/
def pickW (z : Str) (a b c : List V) : Option (List V) := if z = "row" then some a else if z = "fix" then some b else if z = "gone" then some c else none
def NotW (K : PySem.W.Frag) (H : Hp) (v : V) : Prop := (∃ z : Str, v = .str z ∧ z.length ≤ 100 ∧ z ≠ "row" ∧ z ≠ "fix" ∧ z ≠ "gone") ∨ (∃ t, TyX K H v t ∧ PySem.W.kitOne K t (.type "str") = some false)
def spFShape (K : PySem.W.Frag) (CF CE : Addr) : Sp := fun vs H Q E => ∃ (b : Addr) (v : V) (us1 us2 us3 : List V), vs = [.ref b, v] ∧ FormAt CF H b us1 us2 us3 ∧
  ((∃ z us, v = .str z ∧ pickW z us1 us2 us3 = some us ∧ ∀ t, H t = some (.tup us) → Q (.ref t) H) ∨ (NotW K H v ∧ ∀ d H', Same H H' → Xd H' d "value" v → E (.ref CE) (some d) H'))
theorem tyx_same {K : PySem.W.Frag} {H H' : Hp} {v : V} {t : Value} (h : TyX K H v t) (s : Same H H') : TyX K H' v t := tyx_ev h (Ev.same s)
theorem NotW.same {K : PySem.W.Frag} {H H' : Hp} {v : V} (h : NotW K H v) (s : Same H H') : NotW K H' v := by
  rcases h with h | ⟨t, h1, h2⟩
  · exact .inl h
  · exact .inr ⟨t, tyx_same h1 s, h2⟩
section
variable {P : Program} {w : World} {K : PySem.W.Frag} {mg : Str → Option Value} {base : Heap}
abbrev s_Form_shape : Stmt := inClass (topS 9) 2
theorem sc_Form_shape : FnScope ["self", "word"] ["self", "word"] (defScope s_Form_shape) := ⟨rfl, rfl, rfl, by decide +kernel, rfl, by decide +kernel, by decide +kernel⟩
theorem ok_fshape {f CF CE fE : Addr} {fd : FuncData} (F : Fun K "shape" "Form.shape" s_Form_shape f fd) (B : Blt mg) (TE : PySem.BadX.Txt P K mg "value" "value" CE fE) (c_BadForm : mg "BadForm" = some (.ref CE)) (cF : Cls K CF) (nF : NoAttr K CF "_shapes") : FnOk P w K mg base (L2.CX P w) 1 f fd ["self", "word"] (spFShape K CF CE) := by
  refine F.okX sc_Form_shape (fun vs H Q E h => ?_) (fun cdv A outer s H vs Q E hr h => ?_)
  · obtain ⟨b, v, us1, us2, us3, rfl, _⟩ := h
    rfl
  · obtain ⟨b, v, us1, us2, us3, rfl, hF, hv⟩ := h
    have hu := hu_of hr
    refine ⟨_, (pss_cons (ps_if (PW.pt (pw_or (pt_not (pt_val (pe_callB call_isi (by rfl) B.isinstance (by decide +kernel) (pa_cons (pv 1) (pa_cons (pe_bltn (v := .ty "str") (by rfl) B.str (by decide +kernel) rfl) pa_nil))))) (pw_or1 (pt_cmp (pc_dnotin hu (pv 1) (pe_fld (pv 0) rfl)) rfl))))
      (pss_one (ps_raiseB rfl TE par_value c_BadForm (hr.mono (Nat.zero_le _)) (takes_of rfl rfl rfl rfl) (pa_cons (pv 1) pa_nil) (by rfl)))
      pss_nil)
    (pss_one (ps_ret (pe_dget hu (pe_fld (pv 0) rfl) (pv 1) (fun _ _ => rfl))))), ?_⟩
    obtain ⟨dx, d, t1, t2, t3, h1, h2, p1, p2, p3⟩ := id hF
    have FL : ∀ {R : VK}, R (.ref d) H → tFld K (tVar 0) "_shapes" [some (.ref b), some v] H R := fun {R} r => ⟨_, rfl, b, CF, dx, _, _, rfl, h1, cF, nF, rfl, r⟩
    rcases hv with ⟨z, us, rfl, hz, q⟩ | ⟨⟨z, rfl, hz, n1, n2, n3⟩ | ⟨t, ht, hk⟩, q⟩
    · have got : ∃ t, valV [((Sum.inr "row" : Key), V.ref t1), (Sum.inr "fix", V.ref t2), (Sum.inr "gone", V.ref t3)] (Sum.inr z : Key) = some (.ref t) ∧ H t = some (.tup us) ∧ z.length ≤ 100 := by
        unfold pickW at hz
        by_cases c1 : z = "row"
        · subst c1
          cases hz
          exact ⟨t1, rfl, p1, by decide +kernel⟩
        · rw [if_neg c1] at hz
          by_cases c2 : z = "fix"
          · subst c2
            cases hz
            exact ⟨t2, rfl, p2, by decide +kernel⟩
          · rw [if_neg c2] at hz
            by_cases c3 : z = "gone"
            · subst c3
              cases hz
              exact ⟨t3, rfl, p3, by decide +kernel⟩
            · rw [if_neg c3] at hz
              cases hz
      obtain ⟨t, g1, g2, g3⟩ := got
      refine ⟨_, rfl, _, _, _, _, true, rfl, .ty _, .base (.str _), kit_ty (by decide +kernel), _, rfl, iteN rfl ⟨_, rfl, FL ⟨d, _, rfl, DGet.k (k := Sum.inr z) h2, ?_⟩⟩⟩
      have gs : (!(valV [((Sum.inr "row" : Key), V.ref t1), (Sum.inr "fix", V.ref t2), (Sum.inr "gone", V.ref t3)] (Sum.inr z : Key)).isSome) = false := by rw [g1]; rfl
      exact ⟨_, rfl, iteN gs ⟨_, rfl, b, CF, dx, _, _, rfl, h1, cF, nF, rfl, _, rfl, d, .ref t, rfl, by have := DGet.k (k := (Sum.inr z : Key)) h2; rw [g1] at this; exact this, q t g2⟩⟩
    · have g1 : valV [((Sum.inr "row" : Key), V.ref t1), (Sum.inr "fix", V.ref t2), (Sum.inr "gone", V.ref t3)] (Sum.inr z : Key) = none := by
        rw [valV_neg (fun e => n1 (Sum.inr.inj e).symm), valV_neg (fun e => n2 (Sum.inr.inj e).symm), valV_neg (fun e => n3 (Sum.inr.inj e).symm)]
        rfl
      have gs : (!(valV [((Sum.inr "row" : Key), V.ref t1), (Sum.inr "fix", V.ref t2), (Sum.inr "gone", V.ref t3)] (Sum.inr z : Key)).isSome) = true := by rw [g1]; rfl
      exact ⟨_, rfl, _, _, _, _, true, rfl, .ty _, .base (.str _), kit_ty (by decide +kernel), _, rfl, iteN rfl ⟨_, rfl, FL ⟨d, _, rfl, DGet.k (k := Sum.inr z) h2, _, rfl, iteP gs ⟨_, rfl, _, rfl, fun e he => q e _ (sameAt (Same.refl _) he) upd_same⟩⟩⟩⟩
    · exact ⟨_, rfl, _, _, _, _, _, rfl, .ty _, ht, hk, _, rfl, iteP rfl ⟨_, rfl, _, rfl, fun e he => q e _ (sameAt (Same.refl _) he) upd_same⟩⟩
abbrev s_l_unknown : Stmt := topS 25
theorem sc_l_unknown : FnScope ["form", "word", "refused", "e"] ["form", "word"] (defScope s_l_unknown) := ⟨rfl, rfl, rfl, by decide +kernel, rfl, by decide +kernel, by decide +kernel⟩
def spUnk (K : PySem.W.Frag) (CF : Addr) : Sp := fun vs H Q _ => ∃ (b : Addr) (v : V) (us1 us2 us3 : List V), vs = [.ref b, v] ∧ FormAt CF H b us1 us2 us3 ∧ NotW K H v ∧ (scal v v = true ∨ (∃ d, (∀ H', Same H H' → Dp K H' v d) ∧ SeqAt.shaped d = true) ∨ ∃ a, v = .ref a ∧ H a = some (.dK [])) ∧ ∀ H', Same H H' → Q (.bl true) H'
structure G7 (P : Program) (w : World) (K : PySem.W.Frag) (mg : Str → Option Value) (base : Heap) (CF CE : Addr) : Prop where
  shape : Met P w K mg base (L2.CX P w) CF "shape" 1 ["self", "word"] (spFShape K CF CE)
theorem ok_lunk {f CF CE fE : Addr} {fd : FuncData} (F : Fun K "_law_unknown" "_law_unknown" s_l_unknown f fd) (B : Blt mg) (TE : PySem.BadX.Txt P K mg "value" "value" CE fE) (c_BadForm : mg "BadForm" = some (.ref CE)) (cF : Cls K CF) (nF : NoAttr K CF "_shapes") (G : G7 P w K mg base CF CE) : FnOk P w K mg base CX0 2 f fd ["form", "word"] (spUnk K CF) := by
  refine F.ok sc_l_unknown (fun vs H Q E h => ?_) (fun cdv A outer s H vs Q E hr h => ?_)
  · obtain ⟨b, v, us1, us2, us3, rfl, _⟩ := h
    rfl
  · obtain ⟨b, v, us1, us2, us3, rfl, hF, hv, he, q⟩ := h
    refine ⟨_, (pss_cons (ps_set (i := 2) sc_l_unknown.nd rfl (Or.inl rfl) pe_bl)
    (pss_cons (ps_try_as (i := 3) (tb := fun W => _) (ts := fun a cls d => tAsg (tOp (rEqW K) (tByB "value" CE a cls d (tVar 3)) (tVar 1)) (gName 2)) (Wout := fun _ _ _ _ => False) rfl rfl sc_l_unknown.nd rfl rfl ⟨rfl, by decide, .inl c_BadForm⟩ takes0 (fun W pn xe tk _ =>
      (pss_one (ps_expr (pe_metS cF G.shape (hr.mono (by decide)) (fun σ => passAt tk σ) (pv 0) (pa_cons (pv 1) pa_nil)))))
      (fun a oe cls d pn hz hf => (pss_one (ps_set (i := 2) sc_l_unknown.nd rfl (Or.inl rfl) (pe_cmpR (show OpR _ (compareOp .Eq) (rEqW K) from op_eqW (show _ < _ from hr.units) (show _ < _ from hr.in1.units)) (pe_byB TE hz hf (pv 3)) (pv 1) (nomark _))))))
    (pss_one (ps_ret (pv 2))))), ?_⟩
    obtain ⟨dx, d, t1, t2, t3, h1, h2, p1, p2, p3⟩ := id hF
    refine ⟨_, rfl, b, dx, _, rfl, h1, rfl, _, rfl, b, v, us1, us2, us3, rfl, hF, .inr ⟨hv, fun e H1 s1 hx => ?_⟩⟩
    refine ⟨true, TE.te, fun _ a ha => ?_, fun q => Bool.noConfusion q⟩
    refine ⟨_, rfl, rfl, rfl, e, v, rfl, hx, _, rfl, ?_⟩
    rcases he with he | ⟨dd, he, hs⟩ | ⟨x, rfl, he⟩
    · refine .inl ⟨he, ?_⟩
      rw [decide_eq_true rfl]
      exact ⟨_, rfl, q H1 s1⟩
    · refine .inr (.inl ⟨dd, dd, he _ s1, he _ s1, hs, hs, ?_⟩)
      rw [SeqAt.eqv_refl dd (SeqAt.canLay_of_shaped hs)]
      exact ⟨_, rfl, q H1 s1⟩
    · exact .inr (.inr ⟨x, x, [], [], true, rfl, rfl, s1 _ _ he, s1 _ _ he, rfl, .nil, _, rfl, q H1 s1⟩)
end
end Ash

set_option Elab.async false
set_option linter.all false
set_option maxRecDepth 100000
set_option maxHeartbeats 4000000
namespace L2
open PySem PySem.Spec PyProof.Rows
/-! ### an own __eq__ asked by !=, an own __len__, list(d.values()) -/
/-- a name of a written namespace -/
theorem ns_at {K : PySem.W.Frag} {h : Heap} {N : Addr} {mN : Str → Option Value} {n : Str} {v : Value} (X : K.In h) (G : h.Ns N mN) (e : PySem.W.nsIn K N n = some (some v)) : mN n = some v := by
  obtain ⟨o, es, ep, ho, hd, _, hf⟩ := G
  unfold PySem.W.nsIn at e
  split at e
  case h_2 => cases e
  case h_1 c d es' n' sl q =>
    have z := X _ _ q
    rw [ho] at z
    cases z
    cases hd
    split at e
    case h_2 => split at e <;> cases e
    case h_1 en he =>
      cases e
      rw [← hf]
      unfold nsFind findBy
      rw [← Array.find?_toList, he]
      rfl
/-- a plain class with an own __eq__ and no __ne__ -/
structure NeC (K : PySem.W.Frag) (C f : Addr) : Prop where
  ex : ∃ (nm q : Str) (N : Addr) (bs : List Value) (hd : Bool) (sn : List Str) (sub : List Value) (ab : Bool) (col : Option Bool) (dd : Option Addr) (k0 k1 k2 k3 k5 : Option Value) (nid : String) (fo : Obj),
    K.lookup C = some (excClassObj nm q C N bs [.type "object"] hd sn sub ab col dd k0 k1 k2 k3 k5 nid) ∧ PySem.W.nsOkIn K N = true ∧ PySem.W.nsIn K N "__eq__" = some (some (.ref f)) ∧ PySem.W.nsIn K N "__ne__" = some none ∧ K.lookup f = some fo ∧ fo.cls = .type "function"
theorem obj_eq : ∃ y, typeLookup (.type "object") "__eq__" = pure y := ⟨_, PySem.F.cmp_object.eq.lookup⟩
section
variable {X : Cx} {n : Nat} {CX : CXT} {C f : Addr} {fd : FuncData} {ps : List Str} {R : Addr → Addr → Hp → Prop} {E : XK}
theorem op_neG (F : FnOk X.prog X.w X.K X.mg X.base CX n f fd ps (spEq R)) (Z : NeC X.K C f) (hb : Binds X.K fd ps []) (hx : Passes CX X E) (hr : Room (n + 2) X.A) :
    OpR X (compareOp .NotEq) (fun x y H Q => DIns C R x y H ∧ ∀ H', Ext H H' → Q (.bl false) H') := by
  intro pins s σ H x y v u Q I rx ry hq
  obtain ⟨⟨a, b, dx, dy, fs, gs, rfl, rfl, ha, hb', hR⟩, q⟩ := hq
  cases rx
  cases ry
  obtain ⟨mA, J, _⟩ := ins_get I.hok ha
  obtain ⟨mB, J', _⟩ := ins_get I.hok hb'
  obtain ⟨od, J, _⟩ := J.look
  obtain ⟨od', J', _⟩ := J'.look
  obtain ⟨nm, qn, N, bs, hd, sn, sub, ab, col, dd, k0, k1, k2, k3, k5, nid, fo, z1, z2, z3, z4, z5, z6⟩ := Z.ex
  have XK := I.kIn
  have Gn := Heap.Ns.of_isNs (PySem.W.isNs_of_in XK z2)
  obtain ⟨y0, hy0⟩ := obj_eq
  have Y : s.heap.OwnEqNoNe a C f "object" [.type "object"] := ⟨_, fo, nm, qn, N, bs, hd, sn, sub, ab, col, dd, k0, k1, k2, k3, k5, nid, _, y0, J.at_, J.cls, XK _ _ z1, Gn, ns_at XK Gn z3, XK _ _ z5, z6, PySem.F.mro_object, hy0, PySem.W.ns_none_of XK Gn z4⟩
  obtain ⟨hp, gg, dw, tk, os⟩ := s
  refine compareOp_ne_ownEq PySem.F.cmp_object Y J'.at_ J'.cls hr.in1.units0 ?_
  have hsp : spEq R [.ref a, .ref b] H (fun v H' => v = .bl true ∧ Ext H H') E := ⟨a, b, rfl, hR, fun H' e => ⟨rfl, e⟩⟩
  have e0 : Env0 X.prog X.w X.K X.mg X.base X.A.in1 X.stack ⟨hp, gg, dw, tk, os⟩ H := by
    have e := I.env0
    exact ⟨e.frames, e.mod, e.bs, e.bsz, e.funs, e.frf, e.hok, e.bare⟩
  have hl := F.len _ _ _ _ hsp
  have r2 : Vals [V.ref a, V.ref b] [Value.ref a, Value.ref b] := .cons rfl (.cons rfl .nil)
  refine wpAny_call (codeAny_mono (F.run X.A.in1 X.stack _ H ⟨[.ref a, .ref b], []⟩ [.ref a, .ref b] [.ref a, .ref b] _ E (hr.in1.mono (by omega)) e0 (by
    have := hb ⟨hp, gg, dw, tk, os⟩ [.ref a, .ref b] I.kIn (by simpa using hl)
    simpa using this) r2 hsp) fun r s' hq => ?_)
  cases r with
  | error e => exact hx pins σ H _ e s' I hq
  | ok fl =>
    cases fl with
    | ret w =>
      obtain ⟨z, H', I', rz, ez, ex⟩ := I.after hq
      subst ez
      cases rz
      exact ⟨true, rfl, .bl false, H', I', rfl, q H' ex⟩
    | next => exact False.elim hq
    | brk => exact False.elim hq
    | cont => exact False.elim hq
/-- len(o) by an own __len__ -/
theorem call_lenI {sp : Sp} (F : FnOk X.prog X.w X.K X.mg X.base CX n f fd ["self"] sp) (hs : PySem.W.findIn X.K (.ref C) "__len__" = some (some (.ref f))) (hf : PySem.W.isFn X.K (.ref f) = true) (hb : Binds X.K fd ["self"] []) (hx : Passes CX X E) (hr : Room (n + 1) X.A) :
    CallR X (.builtin "len") (fun xs H Q => ∃ a dx fs, xs = [.ref a] ∧ H a = some (.ins C dx fs) ∧ sp [.ref a] H (fun v H' => ∃ m : Nat, v = .int m ∧ m < 2 ^ 62 ∧ Q (.int m) H') E) := by
  intro pins s σ H xs us Q I r h
  obtain ⟨a, dx, fs, rfl, ha, h⟩ := h
  rw [Vals.ref1 r]
  obtain ⟨mA, J, _⟩ := ins_get I.hok ha
  obtain ⟨od, J, _⟩ := J.look
  obtain ⟨m, hF⟩ := I.fr
  refine PySem.W.len_K hF I.ok.mod.kin J hs hf ?_
  have e0 : Env0 X.prog X.w X.K X.mg X.base X.A.in1 X.stack s H := by
    have e := I.env0
    exact ⟨e.frames, e.mod, e.bs, e.bsz, e.funs, e.frf, e.hok, e.bare⟩
  have hl := F.len _ _ _ _ h
  refine wpAny_call (codeAny_mono (F.run X.A.in1 X.stack _ H ⟨[.ref a], []⟩ [.ref a] [.ref a] _ E (hr.in1.mono (by omega)) e0 (by
    have := hb s [.ref a] I.kIn (by simpa using hl)
    simpa using this) (.cons rfl .nil) h) fun r s' hq => ?_)
  cases r with
  | error e => exact hx pins σ H _ e s' I hq
  | ok fl =>
    cases fl with
    | ret w =>
      obtain ⟨z, H', I', rz, m, ez, hm, q⟩ := I.after hq
      subst ez
      obtain ⟨t, rfl⟩ := rz
      exact ⟨⟨Int.natCast_nonneg m, by omega⟩, .int m, H', I'.tok _, ⟨_, rfl⟩, q⟩
    | next => exact False.elim hq
    | brk => exact False.elim hq
    | cont => exact False.elim hq
/-- the same object -/
def DOne : Eqv := fun x y _ => x = y ∧ ∃ a, x = .ref a
theorem mon_one : Mon DOne := fun _ _ _ _ _ d => d
theorem eqG_one : EqG X 0 DOne := by
  intro A pins s σ H x y u v sb I rx ry d
  obtain ⟨rfl, a, rfl⟩ := d
  cases rx
  cases ry
  exact SeqAt.EqAt.same (A := A) (s := s) (.ref a) X.prog X.w X.xe _ ⟨rfl, H, I, Ext.rfl'⟩
end
section
variable {X : Cx} {o : Expr} {p pos apos mpos : Pos} {td : TE}
/-- list(o.values()) of a dict -/
def tListVals (td : TE) : TE := fun σ H Q => td σ H fun x H1 => ∃ a kvs, x = V.ref a ∧ H1 a = some (.dK kvs) ∧ ∀ l, H1 l = none → Q (.ref l) (upd H1 l (.lst (kvs.map (·.2))))
theorem vals_vals {kvs : List (Key × V)} {vs : List (Key × Value)} (r : KV kvs vs) {us : List Value} (hn : us.length = vs.length) (hu : ∀ (j : Nat) v, us[j]? = some v → ∃ k, vs[j]? = some (k, v)) : Vals (kvs.map (·.2)) us := by
  have e : us = vs.map (·.2) := PySem.W.kdl_vals_eq us hn hu
  subst e
  unfold KV at r
  clear hn hu
  induction r with
  | nil => exact .nil
  | cons h t ih => exact .cons h.2 ih
theorem pe_listVals (hcalm : X.calm = true) (hg : Gl X "list") (hm : X.mg "list" = none) (hd : PE X o td) (hbase : attributeBase o "values" X.env (eval o X.env) = eval o X.env := by rfl) (hline : (apos.endLine == mpos.line) = true := by rfl)
    (hse : starEach [Expr.Call (.Attribute o "values" apos) [] [] mpos] X.env = [(false, eval (Expr.Call (.Attribute o "values" apos) [] [] mpos) X.env)] := by rfl) :
    PE X (.Call (.Name "list" p) [.Call (.Attribute o "values" apos) [] [] mpos] [] pos) (tListVals td) := by
  refine ⟨fun pins s σ H Q I h => ?_⟩
  refine wpAny_Call_Name_kw (ld_blt I hg hm (u := .type "list") (by first | rfl | decide +kernel) ?_ (by first | decide +kernel | decide) (by first | decide +kernel | decide))
  rw [hse]
  refine PySem.callWith_type1 (wpAny_Call_method0_late hbase hline (thn (hd.run pins s σ H _ I h) fun v s1 ⟨x, H1, I1, r1, a, kvs, ex, ha, q⟩ => ?_))
  subst ex
  obtain rfl : v = Value.ref a := r1
  obtain ⟨hz, hsys, vs, rel, dof⟩ := dk_of I1.hok ha
  obtain ⟨ep, dat⟩ := dof.dictAt
  obtain ⟨ob, es, ho, ex, _⟩ := id dat
  refine ⟨"dict", "dict.values", F.plainAttrs_dict, F.slot_dict_values, F.type_dict_values, ⟨ob, ho, ex.1⟩, fun b e => ?_, Calls.callWith_builtin rfl (PySem.evalArgs_none ?_)⟩
  · cases e
    exact ⟨ob, ho, ex.2.1⟩
  refine call_meetsIn F.slot_dict_values ⟨ob, ho, ex.1⟩ F.entry_dict_values (F.args_dict_values_1 _) (meets_dict_values (mixKind X.prog X.w) a hsys) ⟨⟨vs, dof⟩, ?_⟩
  have up : ∀ b u, s1.heap.get? b = some u → (s1.heap.push { cls := .type "dict_values", data := .fields #[.ref a] }).get? b = some u := fun b u e => Heap.get?_push_of_some _ e
  have hlen : vs.length = kvs.length := (KV.length rel).symm
  refine PySem.W.kdl_call (PySem.W.kdl_values (knd := mixKind X.prog X.w) (kvs := vs) (ep := ep)) (I1.ok.hd hcalm) ⟨⟨_, Heap.get?_push_size _ rfl, rfl, rfl⟩, dat.keep up⟩ (by rw [hlen]; exact hz) fun h' tk acc c' hk hD hacc => ?_
  have hv : Vals (kvs.map (·.2)) acc.toList := vals_vals rel (by rw [Array.length_toList]; exact hacc.1) fun j v e => hacc.2 j v (by rw [← Array.getElem?_toList]; exact e)
  refine ⟨.ref _, upd H1 _ (.lst (kvs.map (·.2))), I1.laid (t' := tk) (fun b u e => hk b u (up b u e)) (Nat.le_of_lt (Nat.lt_of_lt_of_le (Nat.lt_succ_self _) (by rw [Heap.size_push]; exact Nat.le_refl _)))
    (show ObjOk X.prog X.w _ _ _ (.lst (kvs.map (·.2))) from ⟨by rw [List.length_map]; exact hz, acc.toList, c', hv, by rw [Array.toArray_toList]; exact hD⟩), rfl, q _ (I1.hok.fresh (Nat.le_of_lt (Nat.lt_of_lt_of_le (Nat.lt_succ_self _) (by rw [Heap.size_push]; exact Nat.le_refl _))))⟩
end
end L2

set_option Elab.async false
set_option linter.all false
set_option maxRecDepth 100000
set_option maxHeartbeats 4000000
namespace L2
open PySem PySem.Spec PyProof.Rows
open Sem (wp)
open Builtin
/-! ### != of instances of one class, whose __eq__ may be inherited -/
section
open PySem.W PySem.Calls
variable {prog : Program} {w : World} {A : Around} {E : Value → Shared → Prop} {s : Shared} {K : PySem.W.Frag} {x y C f : Addr} {ox oy : Obj} {od od' : Option Obj}
theorem ifBound_slot {M : Model} {name : Str} {id : String} {args : List Value} {Q : Option Value → Shared → Prop} (X : K.In s.heap) (I : InstAt s.heap x ox C od) (hs : findIn K (.ref C) name = some (some (.builtin id))) (hb : ∀ v, bindSpecial (.builtin id) v = pure (.builtin id, [v]))
    (h : wpAny M A (call (.builtin id) (.ref x :: args)) (fun v => Q (some v)) E s) : wpAny M A (callSpecialIfBound? (.ref x) name args) Q E s := by
  simp only [callSpecialIfBound?, bindSpecialIfBound?]
  refine wpAny_holding (wpAny_bind (wpAny_bind (wpAny_bind (I.type.here ((looks_findIn X hs).here ?_)))))
  refine wpAny_bind (wpAny_askSetting (wpAny_ite ?_))
  have fin : wpAny M A (call (.builtin id) ([.ref x] ++ args) >>= fun v => pure (some v)) Q E s := wpAny_bind (wpAny_mono h (fun v s' h' => wpAny_pure h') fun _ _ h' => h')
  rw [hb]
  split
  · exact wpAny_bind (wpAny_pure (wpAny_pure fin))
  · exact wpAny_tryCatch (wpAny_bind (wpAny_pure (wpAny_pure fin)))
theorem objNe_K {b : Value} {Q : Fin → Shared → Prop} (hu : A.units < cLine) (X : K.In s.heap) (I : InstAt s.heap x ox C od) (he : findIn K (.ref C) "__eq__" = some (some (.ref f))) (hf : isFn K (.ref f) = true)
    (hcall : wpAny (model prog w) A (call (.ref f) [.ref x, b]) (fun v s' => ∃ c, v = .bool c ∧ Q (.done (.ret (.bool (!c)))) s') E s) :
    wpAny (model prog w) A (Builtin.«object.__ne__» ⟨[.ref x, b], []⟩) Q E s := by
  unfold Builtin.«object.__ne__»
  repeat (first
    | with_reducible refine wpAny_cRoomFor hu ?_
    | (refine wpAny_bind (m := callSpecialIfBound? (.ref x) (Str.ofString "__eq__") [b])
        (ifBound_K X I he hf (wpAny_mono hcall (fun r s' hr => by
          obtain ⟨c, rfl, hq⟩ := hr
          repeat (first | exact hq | exact wpAny_pure hq | exact wpAny_truthy_bool hq | (refine wpAny_bind (m := truthy (.bool _)) (wpAny_truthy_bool ?_)) | wp_step)) fun _ _ e => e)))
    | wp_step)
theorem tryNe_K {b : Value} {Q : Option Value → Shared → Prop} (hu : A.units + 1 < cLine) (X : K.In s.heap) (I : InstAt s.heap x ox C od) (hn : findIn K (.ref C) "__ne__" = some (some (.builtin "object.__ne__"))) (he : findIn K (.ref C) "__eq__" = some (some (.ref f))) (hf : isFn K (.ref f) = true)
    (hob : subIn K (.ref C) (.type "object") = some true)
    (hcall : wpAny (model prog w) A.in1 (call (.ref f) [.ref x, b]) (fun v s' => ∃ c, v = .bool c ∧ Q (some (.bool (!c))) s') E s) :
    wpAny (model prog w) A (tryCompare (.ref x) "__ne__" b) Q E s := by
  simp only [tryCompare]
  have hi : Looks (model prog w) s.heap (isInstance (.ref x) (.type "object")) true := I.type.andThen (looks_subIn X hob)
  refine wpAny_bind (ifBound_slot X I hn PySem.F.cmp_object.ne.bind (wpAny_call (codeAny_call_builtin PySem.F.cmp_object.ne.plain F.cmpEntry_ne
    (check_slot F.cmpKind_ne F.cmpSplit_ne hi (F.cmpArgs_ne _ _)
      (objNe_K (A := A.in1) hu X I he hf (wpAny_mono hcall (fun v s' hv => ?_) fun _ _ e => e))))))
  obtain ⟨c, rfl, hq⟩ := hv
  first | exact ⟨c, rfl, wpAny_pure hq⟩ | exact ⟨c, rfl, wpAny_pure (wpAny_pure hq)⟩ | exact ⟨c, rfl, hq⟩
theorem compareNe_K {Q : Value → Shared → Prop} (hu : A.units + 1 < cLine) (X : K.In s.heap) (I : InstAt s.heap x ox C od) (J : InstAt s.heap y oy C od') (hn : findIn K (.ref C) "__ne__" = some (some (.builtin "object.__ne__"))) (he : findIn K (.ref C) "__eq__" = some (some (.ref f))) (hf : isFn K (.ref f) = true)
    (hob : subIn K (.ref C) (.type "object") = some true)
    (hcall : wpAny (model prog w) A.in1 (call (.ref f) [.ref x, .ref y]) (fun v s' => ∃ c, v = .bool c ∧ Q (.bool (!c)) s') E s) :
    wpAny (model prog w) A (compareOp .NotEq (.ref x) (.ref y)) Q E s := by
  unfold compareOp richCompare
  simp only [oneThing_ref]
  refine wpAny_holding (wpAny_bind (wpAny_cRoomFor (Nat.lt_of_succ_lt hu) ?_))
  rw [cmpInfo_NotEq]
  dsimp only
  refine wpAny_bind (I.type.here (wpAny_bind (J.type.here ?_)))
  rw [show (Value.ref C != Value.ref C) = false from by simp]
  simp only [Bool.false_eq_true, if_false]
  refine wpAny_bind (wpAny_pure ?_)
  simp only [Bool.false_eq_true, if_false]
  refine wpAny_bind (tryNe_K hu X I hn he hf hob (wpAny_mono hcall (fun v s' hv => ?_) fun _ _ e => e))
  obtain ⟨c, rfl, hq⟩ := hv
  first | exact ⟨c, rfl, wpAny_pure hq⟩ | exact ⟨c, rfl, wpAny_pure (wpAny_pure hq)⟩
end
/-- what the top says of != in a family of classes -/
structure NeF (K : PySem.W.Frag) (S : Addr → Prop) (f : Addr) : Prop where
  ne : ∀ C, S C → PySem.W.findIn K (.ref C) "__ne__" = some (some (.builtin "object.__ne__"))
  eq : ∀ C, S C → PySem.W.findIn K (.ref C) "__eq__" = some (some (.ref f))
  fn : PySem.W.isFn K (.ref f) = true
  ob : ∀ C, S C → PySem.W.subIn K (.ref C) (.type "object") = some true
section
variable {X : Cx} {n : Nat} {CX : CXT} {f : Addr} {fd : FuncData} {ps : List Str} {S : Addr → Prop} {sp : Sp} {E : XK}
/-- x != y of two instances of one class: not what the own __eq__ says -/
def rNeF (S : Addr → Prop) (sp : Sp) (E : XK) : R2 := fun x y H Q => ∃ a b C dx dy fs gs, x = .ref a ∧ y = .ref b ∧ H a = some (.ins C dx fs) ∧ H b = some (.ins C dy gs) ∧ S C ∧ sp [x, y] H (fun v H' => ∃ c, v = .bl c ∧ Q (.bl (!c)) H') E
theorem op_neF (Z : NeF X.K S f) (F : FnOk X.prog X.w X.K X.mg X.base CX n f fd ps sp) (hb : Binds X.K fd ps []) (hx : Passes CX X E) (hr : Room (n + 2) X.A) : OpR X (compareOp .NotEq) (rNeF S sp E) := by
  intro pins s σ H x y v u Q I rx ry hq
  obtain ⟨a, b, C, dx, dy, fs, gs, rfl, rfl, ha, hb', sC, hsp⟩ := hq
  cases rx
  cases ry
  obtain ⟨mA, J, _⟩ := ins_get I.hok ha
  obtain ⟨mB, J', _⟩ := ins_get I.hok hb'
  obtain ⟨od, J, _⟩ := J.look
  obtain ⟨od', J', _⟩ := J'.look
  refine compareNe_K hr.in1.units0 I.kIn J J' (Z.ne C sC) (Z.eq C sC) Z.fn (Z.ob C sC) ?_
  have e0 : Env0 X.prog X.w X.K X.mg X.base X.A.in1 X.stack s H := by
    have e := I.env0
    exact ⟨e.frames, e.mod, e.bs, e.bsz, e.funs, e.frf, e.hok, e.bare⟩
  have hl := F.len _ _ _ _ hsp
  have r2 : Vals [V.ref a, V.ref b] [Value.ref a, Value.ref b] := .cons rfl (.cons rfl .nil)
  refine wpAny_call (codeAny_mono (F.run X.A.in1 X.stack _ H ⟨[.ref a, .ref b], []⟩ [.ref a, .ref b] [.ref a, .ref b] _ E (hr.in1.mono (by omega)) e0 (by
    have := hb s [.ref a, .ref b] I.kIn (by simpa using hl)
    simpa using this) r2 hsp) fun r s' hq => ?_)
  cases r with
  | error e => exact hx pins σ H _ e s' I hq
  | ok fl =>
    cases fl with
    | ret w =>
      obtain ⟨z, H', I', rz, c, ez, ex⟩ := I.after hq
      subst ez
      cases rz
      exact ⟨c, rfl, .bl (!c), H', I', rfl, ex⟩
    | next => exact False.elim hq
    | brk => exact False.elim hq
    | cont => exact False.elim hq
end
end L2

set_option Elab.async false
set_option linter.all false
set_option maxRecDepth 100000
set_option maxHeartbeats 4000000
namespace L2
open PySem PySem.Spec PyProof.Rows
open Sem (wp)
open Builtin
/-! ### == and != of an instance of a family of classes with any other thing -/
section
open PySem.W PySem.Calls
variable {prog : Program} {w : World} {A : Around} {E : Value → Shared → Prop} {s : Shared} {K : PySem.W.Frag} {x C f : Addr} {b tb : Value} {ox : Obj} {od : Option Obj}
theorem compareNe_V {Q : Value → Shared → Prop} (hu : A.units + 1 < cLine) (X : K.In s.heap) (I : InstAt s.heap x ox C od) (hb : Looks (model prog w) s.heap (typeOf b) tb) (hn0 : notFirst K C tb = true) (hn : findIn K (.ref C) "__ne__" = some (some (.builtin "object.__ne__"))) (he : findIn K (.ref C) "__eq__" = some (some (.ref f))) (hf : isFn K (.ref f) = true)
    (hob : subIn K (.ref C) (.type "object") = some true)
    (hcall : wpAny (model prog w) A.in1 (call (.ref f) [.ref x, b]) (fun v s' => ∃ c, v = .bool c ∧ Q (.bool (!c)) s') E s) :
    wpAny (model prog w) A (compareOp .NotEq (.ref x) b) Q E s := by
  have one : wpAny (model prog w) A (tryCompare (.ref x) "__ne__" b) (fun r s' => ∃ c, r = some (.bool c) ∧ Q (.bool c) s') E s := tryNe_K hu X I hn he hf hob (wpAny_mono hcall (fun v s' hv => by
    obtain ⟨c, rfl, hq⟩ := hv
    exact ⟨c, rfl, _, rfl, hq⟩) fun _ _ e => e)
  unfold compareOp richCompare
  simp only [oneThing_ref]
  refine wpAny_holding (wpAny_bind (wpAny_cRoomFor (Nat.lt_of_succ_lt hu) ?_))
  rw [cmpInfo_NotEq]
  dsimp only
  refine wpAny_bind (I.type.here (wpAny_bind (hb.here ?_)))
  split
  · rename_i q
    have e : subIn K tb (.ref C) = some false := by
      rcases Bool.or_eq_true_iff.mp hn0 with e | e
      · rw [beq_iff_eq.mp e] at q; simp at q
      · exact beq_iff_eq.mp e
    refine wpAny_bind ((looks_subIn X e).here ?_)
    simp only [Bool.false_eq_true, if_false]
    refine wpAny_bind (wpAny_mono one (fun r s' z => ?_) fun _ _ e => e)
    obtain ⟨c, rfl, hq⟩ := z
    exact wpAny_pure hq
  · refine wpAny_bind (wpAny_pure ?_)
    simp only [Bool.false_eq_true, if_false]
    refine wpAny_bind (wpAny_mono one (fun r s' z => ?_) fun _ _ e => e)
    obtain ⟨c, rfl, hq⟩ := z
    exact wpAny_pure hq
end
section
variable {X : Cx} {n : Nat} {CX : CXT} {f : Addr} {fd : FuncData} {ps : List Str} {S : Addr → Prop} {sp : Sp} {E : XK}
def rEqF (K : PySem.W.Frag) (S : Addr → Prop) (sp : Sp) (E : XK) : R2 := fun x y H Q => ∃ a C dx fs t, x = .ref a ∧ H a = some (.ins C dx fs) ∧ S C ∧ TyX K H y t ∧ PySem.W.notFirst K C t = true ∧ sp [x, y] H Q E
theorem op_eqF (Z : NeF X.K S f) (F : FnOk X.prog X.w X.K X.mg X.base CX n f fd ps sp) (hb : Binds X.K fd ps []) (hx : Passes CX X E) (hr : Room n X.A) : OpR X (compareOp .Eq) (rEqF X.K S sp E) := by
  intro pins s σ H x y v u Q I rx ry hq
  obtain ⟨a, C, dx, fs, t, rfl, ha, sC, ty, nf, hsp⟩ := hq
  cases rx
  obtain ⟨mA, J, _⟩ := ins_get I.hok ha
  obtain ⟨od, J, _⟩ := J.look
  obtain ⟨m, Fm⟩ := I.fr
  obtain ⟨Pk, kx, hp, _⟩ := kit_of I ry ty
  refine PySem.W.cmp_K (op := .Eq) (tb := t) hr.units0 Fm I.ok.mod.kin J (kx.ty _ _ I.kIn hp) nf (Z.eq C sC) Z.fn (wpAny_mono (run_fn (us := [.ref a, u]) (vs := [.ref a, y]) F hr hb .nil hx I (.cons rfl (.cons ry .nil)) hsp) (fun z s' hz => ?_) fun _ _ e => e)
  obtain ⟨zv, H', I', rz, q⟩ := hz
  exact SlX.cmpback rz ⟨zv, H', I', rz, q⟩
def rNeFV (K : PySem.W.Frag) (S : Addr → Prop) (sp : Sp) (E : XK) : R2 := fun x y H Q => ∃ a C dx fs t, x = .ref a ∧ H a = some (.ins C dx fs) ∧ S C ∧ TyX K H y t ∧ PySem.W.notFirst K C t = true ∧ sp [x, y] H (fun v H' => ∃ c, v = .bl c ∧ Q (.bl (!c)) H') E
theorem op_neFV (Z : NeF X.K S f) (F : FnOk X.prog X.w X.K X.mg X.base CX n f fd ps sp) (hb : Binds X.K fd ps []) (hx : Passes CX X E) (hr : Room (n + 2) X.A) : OpR X (compareOp .NotEq) (rNeFV X.K S sp E) := by
  intro pins s σ H x y v u Q I rx ry hq
  obtain ⟨a, C, dx, fs, t, rfl, ha, sC, ty, nf, hsp⟩ := hq
  cases rx
  obtain ⟨mA, J, _⟩ := ins_get I.hok ha
  obtain ⟨od, J, _⟩ := J.look
  obtain ⟨Pk, kx, hp, _⟩ := kit_of I ry ty
  refine compareNe_V hr.in1.units0 I.kIn J (kx.ty _ _ I.kIn hp) nf (Z.ne C sC) (Z.eq C sC) Z.fn (Z.ob C sC) ?_
  have e0 : Env0 X.prog X.w X.K X.mg X.base X.A.in1 X.stack s H := by
    have e := I.env0
    exact ⟨e.frames, e.mod, e.bs, e.bsz, e.funs, e.frf, e.hok, e.bare⟩
  have hl := F.len _ _ _ _ hsp
  have r2 : Vals [V.ref a, y] [Value.ref a, u] := .cons rfl (.cons ry .nil)
  refine wpAny_call (codeAny_mono (F.run X.A.in1 X.stack _ H ⟨[.ref a, u], []⟩ [.ref a, u] [.ref a, y] _ E (hr.in1.mono (by omega)) e0 (by
    have := hb s [.ref a, u] I.kIn (by simpa using hl)
    simpa using this) r2 hsp) fun r s' hq => ?_)
  cases r with
  | error e => exact hx pins σ H _ e s' I hq
  | ok fl =>
    cases fl with
    | ret w =>
      obtain ⟨z, H', I', rz, c, ez, ex⟩ := I.after hq
      subst ez
      cases rz
      exact ⟨c, rfl, .bl (!c), H', I', rfl, ex⟩
    | next => exact False.elim hq
    | brk => exact False.elim hq
    | cont => exact False.elim hq
end
end L2

set_option Elab.async false
set_option linter.all false
set_option maxRecDepth 100000
set_option maxHeartbeats 4000000
set_option pp.maxSteps 1500
namespace Ash
open PySem PySem.Spec PyProof.Rows L2
open C8 (pss_cut)
/-! ### forms made and compared -/
inductive PrsAt (H : Hp) : List V → List (Str × Str) → Prop
  | nil : PrsAt H [] []
  | cons {a : Addr} {w s : Str} {us : List V} {ps : List (Str × Str)} : H a = some (.tup [.str w, .str s]) → PyData.strOk w = true → PyData.strOk s = true → PrsAt H us ps → PrsAt H (.ref a :: us) ((w, s) :: ps)
def pdt (p : Str × Str) : PyData := .tuple [.str p.1, .str p.2]
theorem PrsAt.ev {H H' : Hp} : ∀ {us : List V} {ps : List (Str × Str)}, PrsAt H us ps → Ev H H' → PrsAt H' us ps
  | _, _, .nil, _ => .nil
  | _, _, .cons h1 h2 h3 t, e => .cons (e.tup h1) h2 h3 (t.ev e)
theorem PrsAt.len {H : Hp} : ∀ {us : List V} {ps : List (Str × Str)}, PrsAt H us ps → us.length = ps.length
  | _, _, .nil => rfl
  | _, _, .cons _ _ _ t => by rw [List.length_cons, List.length_cons, t.len]
theorem PrsAt.dp {K : PySem.W.Frag} {H : Hp} : ∀ {us : List V} {ps : List (Str × Str)}, PrsAt H us ps → DpAll K H us (ps.map pdt)
  | _, _, .nil => .nil
  | _, _, .cons h1 _ _ t => .cons (.tup (SqT.of h1) (.cons (.str _) (.cons (.str _) .nil))) t.dp
theorem PrsAt.ok {H : Hp} : ∀ {us : List V} {ps : List (Str × Str)}, PrsAt H us ps → ∀ p ∈ ps, PyData.strOk p.1 = true ∧ PyData.strOk p.2 = true
  | _, _, .nil, p, hp => by cases hp
  | _, _, .cons _ h2 h3 t, p, hp => by
    rcases List.mem_cons.mp hp with rfl | hp
    · exact ⟨h2, h3⟩
    · exact t.ok p hp
theorem pdt_shaped {p : Str × Str} (h1 : PyData.strOk p.1 = true) (h2 : PyData.strOk p.2 = true) : SeqAt.shaped (pdt p) = true := by
  unfold SeqAt.shaped pdt
  simp [PyData.canLay0, PyData.canLayAll0, PyData.depth, PyData.depthAll, h1, h2]
theorem prs_lay : ∀ {ps : List (Str × Str)}, (∀ p ∈ ps, PyData.strOk p.1 = true ∧ PyData.strOk p.2 = true) → PyData.canLayAll0 (ps.map pdt) = true ∧ PyData.depthAll (ps.map pdt) ≤ 2
  | [], _ => by simp [PyData.canLayAll0, PyData.depthAll]
  | p :: ps, h => by
    obtain ⟨h1, h2⟩ := prs_lay (ps := ps) fun q hq => h q (List.mem_cons_of_mem _ hq)
    obtain ⟨g1, g2⟩ := h p List.mem_cons_self
    simp only [List.map_cons, PyData.canLayAll0, PyData.depthAll, pdt, PyData.canLay0, PyData.depth, g1, g2, h1, Bool.and_self, true_and]
    simp only [Nat.max_le]
    omega
theorem prs_shaped {ps : List (Str × Str)} (h : ∀ p ∈ ps, PyData.strOk p.1 = true ∧ PyData.strOk p.2 = true) : SeqAt.shaped (.tuple (ps.map pdt)) = true := by
  obtain ⟨h1, h2⟩ := prs_lay h
  unfold SeqAt.shaped
  simp [PyData.canLay0, PyData.depth, h1]
  omega
theorem eqv_prs : ∀ {ps qs : List (Str × Str)}, PyData.eqvAll (ps.map pdt) (qs.map pdt) = true ↔ ps = qs
  | [], [] => by simp [PyData.eqvAll]
  | [], _ :: _ => by simp [PyData.eqvAll]
  | _ :: _, [] => by simp [PyData.eqvAll]
  | (a, b) :: ps, (c, d) :: qs => by
    rw [List.map_cons, List.map_cons, PyData.eqvAll, Bool.and_eq_true, eqv_prs]
    simp [pdt, PyData.eqv, PyData.eqvAll]
theorem eqv_row (ps qs : List (Str × Str)) : PyData.eqv (.tuple (ps.map pdt)) (.tuple (qs.map pdt)) = decide (ps = qs) := by
  rw [Bool.eq_iff_iff, decide_eq_true_eq, PyData.eqv]
  exact eqv_prs
theorem prs_of {K : PySem.W.Frag} {H : Hp} : ∀ {us : List V} {ps : List Pc} {fs : List Str}, PcsAt K H us ps → pcsF ps = some fs → ∃ qs, PrsAt H us qs
  | _, _, _, .nil, _ => ⟨[], .nil⟩
  | _, _, fs, .cons (p := p) (ps := ps) h t, e => by
    unfold pcsF at e
    cases e1 : pcF p with
    | none => rw [e1] at e; cases e
    | some x =>
      rw [e1] at e
      cases e2 : pcsF ps with
      | none => rw [e2] at e; cases e
      | some y =>
        obtain ⟨qs, hq⟩ := prs_of t e2
        cases p with
        | pr w s =>
          obtain ⟨a, rfl, h1, h2⟩ := h
          have hw : PyData.strOk w = true := by
            have e1 : (if w = "field" then some [s] else if w = "mark" ∧ mkB s = true then some [] else none) = some x := e1
            by_cases c : w = "field"
            · rw [c]; decide +kernel
            · rw [if_neg c] at e1
              by_cases c2 : w = "mark" ∧ mkB s = true
              · rw [c2.1]; decide +kernel
              · rw [if_neg c2] at e1; cases e1
          exact ⟨(w, s) :: qs, .cons h1 hw h2.2 hq⟩
        | no => cases e1
        | len => cases e1
        | snd w => cases e1
        | fst s => cases e1
/-- a form of these rows of pairs -/
def FmP (CF : Addr) (H : Hp) (b : Addr) (p1 p2 p3 : List (Str × Str)) : Prop := ∃ us1 us2 us3, FormAt CF H b us1 us2 us3 ∧ PrsAt H us1 p1 ∧ PrsAt H us2 p2 ∧ PrsAt H us3 p3
def spFEq (CF : Addr) : Sp := fun vs H Q _ => ∃ (a b : Addr) (p1 p2 p3 q1 q2 q3 : List (Str × Str)), vs = [.ref a, .ref b] ∧ FmP CF H a p1 p2 p3 ∧ FmP CF H b q1 q2 q3 ∧ Q (.bl (decide (p1 = q1 ∧ p2 = q2 ∧ p3 = q3))) H
theorem RwA.back {K : PySem.W.Frag} {H H2 : Hp} {v : V} {sh : Sh} {z : Str} {us : List V} (h : ShA K H v sh) (g : sh.good z) (s : Same H H2) (r : RwA H2 v us) : RwA H v us := by
  cases sh with
  | no => exact g.elim
  | row ps =>
    obtain ⟨a, us', rfl, h1, _⟩ := h
    obtain ⟨b, e, h2⟩ := r
    cases e
    refine ⟨a, rfl, ?_⟩
    rcases h1 with h1 | h1 <;> rcases h2 with h2 | h2 <;> (have := s _ _ h1; rw [h2] at this; cases this)
    · exact .inl h1
    · exact .inr h1
theorem FormAt.same {CF : Addr} {H H' : Hp} {b : Addr} {a1 a2 a3 : List V} (h : FormAt CF H b a1 a2 a3) (s : Same H H') : FormAt CF H' b a1 a2 a3 := by
  obtain ⟨dx, d, t1, t2, t3, h1, h2, h3, h4, h5⟩ := h
  exact ⟨dx, d, t1, t2, t3, s _ _ h1, s _ _ h2, s _ _ h3, s _ _ h4, s _ _ h5⟩
section
variable {P : Program} {w : World} {K : PySem.W.Frag} {mg : Str → Option Value} {base : Heap}
abbrev s_Form_eq : Stmt := inClass (topS 9) 1
theorem sc_Form_eq : FnScope ["self", "other"] ["self", "other"] (defScope s_Form_eq) := ⟨rfl, rfl, rfl, by decide +kernel, rfl, by decide +kernel, by decide +kernel⟩
theorem ok_feq {f CForm : Addr} {fd : FuncData} (F : Fun K "__eq__" "Form.__eq__" s_Form_eq f fd) (B : Blt mg) (cF : Cls K CForm) (nF : NoAttr K CForm "_shapes") (c_Form : mg "Form" = some (.ref CForm)) (kF : PySem.W.kitOne K (.ref CForm) (.ref CForm) = some true) (bF : ∀ {H : Hp} {a dx : Addr} {fs : List (Str × V)}, H a = some (.ins CForm dx fs) → TyX K H (.ref a) (.ref CForm)) : FnOk P w K mg base CX0 2 f fd ["self", "other"] (spFEq CForm) := by
  refine F.ok sc_Form_eq (fun vs H Q E h => ?_) (fun cdv A outer s H vs Q E hr h => ?_)
  · obtain ⟨a, b, p1, p2, p3, q1, q2, q3, rfl, _⟩ := h
    rfl
  · obtain ⟨a, b, p1, p2, p3, q1, q2, q3, rfl, ⟨us1, us2, us3, hA, a1, a2, a3⟩, ⟨vs1, vs2, vs3, hB, b1, b2, b3⟩, q⟩ := h
    refine ⟨_, (pss_one (ps_ret (pe_and (pe_callB call_isi (by rfl) B.isinstance (by decide +kernel) (pa_cons (pv 1) (pa_cons (pe_glob (v := .ref CForm) (by rfl) c_Form rfl) pa_nil))) (pe_one (pe_cmpR (op_eqDD hr.in1.units hr.units0) (pe_fld (pv 0) rfl) (pe_fld (pv 1) rfl) (nomark _)))))), ?_⟩
    obtain ⟨dx, d, t1, t2, t3, h1, h2, x1, x2, x3⟩ := id hA
    obtain ⟨dy, e, r1, r2, r3, g1, g2, y1, y2, y3⟩ := id hB
    refine ⟨_, rfl, _, _, _, _, _, rfl, .own _, bF g1, kF, _, rfl, iteP rfl ?_⟩
    refine ⟨_, rfl, a, CForm, dx, _, _, rfl, h1, cF, nF, rfl, _, rfl, b, CForm, dy, _, _, rfl, g1, cF, nF, rfl, ?_⟩
    refine ⟨d, e, _, _, _, rfl, rfl, h2, g2, rfl, .hit (y := .ref r1) rfl (.tup (SqT.of x1) a1.dp) (.tup (SqT.of y1) b1.dp) (prs_shaped a1.ok) (prs_shaped b1.ok) (.hit (y := .ref r2) rfl (.tup (SqT.of x2) a2.dp) (.tup (SqT.of y2) b2.dp) (prs_shaped a2.ok) (prs_shaped b2.ok) (.hit (y := .ref r3) rfl (.tup (SqT.of x3) a3.dp) (.tup (SqT.of y3) b3.dp) (prs_shaped a3.ok) (prs_shaped b3.ok) .nil)), ?_⟩
    rw [eqv_row, eqv_row, eqv_row, show (decide (p1 = q1) && (decide (p2 = q2) && (decide (p3 = q3) && true))) = decide (p1 = q1 ∧ p2 = q2 ∧ p3 = q3) from by rw [Bool.and_true, Bool.eq_iff_iff]; simp]
    exact q
abbrev s_l_made : Stmt := topS 24
theorem sc_l_made : FnScope ["shapes", "form", "refused", "below", "e"] ["shapes"] (defScope s_l_made) := ⟨rfl, rfl, rfl, by decide +kernel, rfl, by decide +kernel, by decide +kernel⟩
def spMade (K : PySem.W.Frag) (CF : Addr) : Sp := fun vs H Q _ => ∃ (S : Addr) (v1 v2 v3 : V) (s1 s2 s3 : Sh), vs = [.ref S] ∧ H S = some (.dK [(.inr "row", v1), (.inr "fix", v2), (.inr "gone", v3)]) ∧ ShA K H v1 s1 ∧ ShA K H v2 s2 ∧ ShA K H v3 s3 ∧
  ((s1.good "row" ∧ s2.good "fix" ∧ s3.good "gone" ∧ ∀ t b us1 us2 us3 H', RwA H v1 us1 → RwA H v2 us2 → RwA H v3 us3 → FormAt CF H' b us1 us2 us3 → H' t = some (.tup [.ref b, .str "", .bl true]) → Same H H' → Q (.ref t) H') ∨
   (∃ w : Str, (¬ s1.good "row" ∧ w = "row" ∨ s1.good "row" ∧ ¬ s2.good "fix" ∧ w = "fix" ∨ s1.good "row" ∧ s2.good "fix" ∧ ¬ s3.good "gone" ∧ w = "gone") ∧ ∀ t H', H' t = some (.tup [.non, .str w, .bl true]) → Same H H' → Q (.ref t) H'))
structure G8 (P : Program) (w : World) (K : PySem.W.Frag) (mg : Str → Option Value) (base : Heap) (CF CE : Addr) : Prop where
  Form : Mak P w K mg base (L2.CX P w) "Form" CF 3 ["self", "row", "fix", "gone"] (spFormInit K CF CE)
theorem ok_lmade {f CF CE fE CHallError : Addr} {fd : FuncData} (F : Fun K "_law_made" "_law_made" s_l_made f fd) (B : Blt mg) (TE : PySem.BadX.Txt P K mg "value" "value" CE fE) (c_BadForm : mg "BadForm" = some (.ref CE)) (c_HallError : mg "HallError" = some (.ref CHallError)) (XC : ExcC K CE) (hcE : PySem.W.isClsIn K CE = true) (kE : PySem.W.kitOne K (.ref CE) (.ref CHallError) = some true) (G : G8 P w K mg base CF CE) : FnOk P w K mg base CX0 5 f fd ["shapes"] (spMade K CF) := by
  refine F.ok sc_l_made (fun vs H Q E h => ?_) (fun cdv A outer s H vs Q E hr h => ?_)
  · obtain ⟨S, v1, v2, v3, s1, s2, s3, rfl, _⟩ := h
    rfl
  · obtain ⟨S, v1, v2, v3, s1, s2, s3, rfl, hS, h1, h2, h3, q⟩ := h
    have hu := hu_of hr
    refine ⟨_, (pss_cons (ps_set (i := 1) sc_l_made.nd rfl (Or.inl rfl) pe_non)
    (pss_cons (ps_set (i := 2) sc_l_made.nd rfl (Or.inl rfl) pe_str)
    (pss_cons (ps_set (i := 3) sc_l_made.nd rfl (Or.inl rfl) pe_bl)
    (pss_cons (ps_try_as (i := 4) (tb := fun W => _) (ts := fun a cls d => tSeq (tAsg (tByB "value" CE a cls d (tVar 4)) (gName 2)) (tAsg (tCB (rIsB K CE a cls d) (tCons (tVar 4) (tCons (tC (.ref CHallError)) tNil))) (gName 3))) (Wout := fun _ _ _ _ => False) rfl rfl sc_l_made.nd rfl rfl ⟨rfl, by decide, .inl c_BadForm⟩ takes0 (fun W pn xe tk _ =>
      (pss_one (ps_set (i := 1) sc_l_made.nd rfl (Or.inl rfl) (pe_makS G.Form (hr.mono (by decide)) (fun σ => passAt tk σ) (pa_cons (pe_dget hu (pv 0) pe_str (fun _ _ => rfl)) (pa_cons (pe_dget hu (pv 0) pe_str (fun _ _ => rfl)) (pa_cons (pe_dget hu (pv 0) pe_str (fun _ _ => rfl)) pa_nil)))))))
      (fun a oe cls d pn hz hf => (pss_cons (ps_set (i := 2) sc_l_made.nd rfl (Or.inl rfl) (pe_byB TE hz hf (pv 4)))
      (pss_one (ps_set (i := 3) sc_l_made.nd rfl (Or.inl rfl) (pe_callB (show CallR _ (.builtin "isinstance") (rIsB K CE a cls d) from call_isB XC hcE hz hf) (by rfl) B.isinstance (by decide +kernel) (pa_cons (pv 4) (pa_cons (pe_glob (v := .ref CHallError) (by rfl) c_HallError rfl) pa_nil))))))))
    (pss_one (ps_ret (pe_tup (pa_cons (pv 1) (pa_cons (pv 2) (pa_cons (pv 3) pa_nil)))))))))), ?_⟩
    refine ⟨_, rfl, S, v1, rfl, DGet.k (k := Sum.inr "row") hS, _, rfl, S, v2, rfl, DGet.k (k := Sum.inr "fix") hS, _, rfl, S, v3, rfl, DGet.k (k := Sum.inr "gone") hS, fun y dx hy hdx hne => ?_⟩
    have sN : Same H (upd (upd H dx (.own y)) y (.ins CF dx [])) := sameAt (sameAt (Same.refl H) hdx) hy
    have back : ∀ {H'}, Keep y (upd (upd H dx (.own y)) y (.ins CF dx [])) H' → Same H H' := fun hK c o hc => hK c o (sN c o hc) (fun e => by rw [e, hy] at hc; cases hc)
    refine ⟨y, dx, v1, v2, v3, s1, s2, s3, rfl, upd_same, h1.ev sN, h2.ev sN, h3.ev sN, ?_⟩
    rcases q with ⟨g1, g2, g3, q⟩ | ⟨z, hz, q⟩
    · refine .inl ⟨g1, g2, g3, fun us1 us2 us3 H' r1 r2 r3 hF hK => ⟨rfl, _, rfl, _, rfl, _, rfl, (by show 3 ≤ sizeLine; decide), fun t ht => ?_⟩⟩
      have st := sameAt (o := .tup [.ref y, .str "", .bl true]) (Same.refl H') ht
      exact q t y us1 us2 us3 _ (r1.back h1 g1 sN) (r2.back h2 g2 sN) (r3.back h3 g3 sN) (hF.same st) upd_same ((back hK).trans st)
    · refine .inr ⟨z, hz, fun d H' hK hx => ?_⟩
      refine ⟨true, TE.te, fun _ a ha => ?_, fun q => Bool.noConfusion q⟩
      refine ⟨_, rfl, rfl, rfl, d, _, rfl, hx, _, rfl, rfl, .ref CHallError, .ref CHallError, true, d, _, rfl, rfl, hx, (fun u r => r), kE, ?_⟩
      exact ⟨_, rfl, _, rfl, _, rfl, (by show 3 ≤ sizeLine; decide), fun t ht => q t _ upd_same ((back hK).trans (sameAt (Same.refl _) ht))⟩
end
end Ash

set_option Elab.async false
set_option linter.all false
set_option maxRecDepth 100000
set_option maxHeartbeats 4000000
set_option pp.maxSteps 500
namespace Ash
open PySem PySem.Spec PyProof.Rows L2
open C8 (pss_cut)
/-! ### what a form tells -/
theorem passF {X : Cx} : Passes (L2.CX X.prog X.w) X (fun _ _ _ => False) := fun _ _ _ _ _ _ _ c => by
  obtain ⟨a, B, H', cls, d, _, _, _, _, _, _, _, hE⟩ := c
  exact hE.elim
theorem PrsAt.get {H : Hp} : ∀ {us : List V} {ps : List (Str × Str)} {i : Nat} {v : V}, PrsAt H us ps → us[i]? = some v → ∃ a w s, v = .ref a ∧ H a = some (.tup [.str w, .str s]) ∧ PyData.strOk w = true ∧ PyData.strOk s = true
  | _, _, _, _, .nil, h => by simp at h
  | _, _, 0, _, .cons (a := a) (w := w) (s := s) h1 h2 h3 _, e => by
    cases Option.some.inj (show some (V.ref a) = some _ from e)
    exact ⟨a, w, s, rfl, h1, h2, h3⟩
  | _, _, i + 1, _, .cons _ _ _ t, e => t.get (i := i) e
def DueAt (H : Hp) (D : Addr) (us1 us2 us3 : List V) : Prop := ∃ r1 r2 r3, H D = some (.dK [(.inr "row", .ref r1), (.inr "fix", .ref r2), (.inr "gone", .ref r3)]) ∧ H r1 = some (.tup us1) ∧ H r2 = some (.tup us2) ∧ H r3 = some (.tup us3)
theorem DueAt.same {H H' : Hp} {D : Addr} {a b c : List V} (h : DueAt H D a b c) (s : Same H H') : DueAt H' D a b c := by
  obtain ⟨r1, r2, r3, h1, h2, h3, h4⟩ := h
  exact ⟨r1, r2, r3, s _ _ h1, s _ _ h2, s _ _ h3, s _ _ h4⟩
def spTold (CF : Addr) : Sp := fun vs H Q _ => ∃ (b D : Addr) (us1 us2 us3 : List V) (p1 p2 p3 : List (Str × Str)), vs = [.ref b, .ref D] ∧ FormAt CF H b us1 us2 us3 ∧ DueAt H D us1 us2 us3 ∧ PrsAt H us1 p1 ∧ PrsAt H us2 p2 ∧ PrsAt H us3 p3 ∧ p1.length ≤ 20 ∧ p2.length ≤ 20 ∧ p3.length ≤ 20 ∧ ∀ H', Same H H' → Q (.bl true) H'
def OddW (K : PySem.W.Frag) (H : Hp) (v : V) : Prop := NotW K H v ∧ (scal v v = true ∨ (∃ d, (∀ H', Same H H' → Dp K H' v d) ∧ SeqAt.shaped d = true) ∨ ∃ a, v = .ref a ∧ H a = some (.dK []))
theorem OddW.same {K : PySem.W.Frag} {H H' : Hp} {v : V} (h : OddW K H v) (s : Same H H') : OddW K H' v := by
  obtain ⟨h1, h2⟩ := h
  refine ⟨h1.same s, ?_⟩
  rcases h2 with h | ⟨d, h, k⟩ | ⟨a, e, h⟩
  · exact .inl h
  · exact .inr (.inl ⟨d, fun H2 s2 => h _ (s.trans s2), k⟩)
  · exact .inr (.inr ⟨a, e, s _ _ h⟩)
theorem oddS {K : PySem.W.Frag} {H : Hp} {z : Str} (hl : z.length ≤ 100) (h1 : z ≠ "row") (h2 : z ≠ "fix") (h3 : z ≠ "gone") : OddW K H (.str z) := ⟨.inl ⟨z, rfl, hl, h1, h2, h3⟩, .inl rfl⟩
theorem oddL {K : PySem.W.Frag} {H : Hp} {l : Addr} {zs : List Str} (e : H l = some (.lst (zs.map V.str))) (hs : SeqAt.shaped (.list (zs.map PyData.str)) = true) : OddW K H (.ref l) :=
  ⟨.inr ⟨_, .base (.lst e), kit_ty (by decide +kernel)⟩, .inr (.inl ⟨_, fun _ s => .lst (SqL.of (s _ _ e)) (dp_strs zs), hs⟩)⟩
theorem oddT {K : PySem.W.Frag} {H : Hp} {l : Addr} {zs : List Str} (e : H l = some (.tup (zs.map V.str))) (hs : SeqAt.shaped (.tuple (zs.map PyData.str)) = true) : OddW K H (.ref l) :=
  ⟨.inr ⟨_, .base (.tup e), kit_ty (by decide +kernel)⟩, .inr (.inl ⟨_, fun _ s => .tup (SqT.of (s _ _ e)) (dp_strs zs), hs⟩)⟩
section
variable {P : Program} {w : World} {K : PySem.W.Frag} {mg : Str → Option Value} {base : Heap}
structure G9 (P : Program) (w : World) (K : PySem.W.Frag) (mg : Str → Option Value) (base : Heap) (CF CE : Addr) : Prop extends G7 P w K mg base CF CE where
  law_unknown : Cal P w K mg base CX0 "_law_unknown" 2 ["form", "word"] (spUnk K CF)
abbrev s_l_told : Stmt := topS 26
theorem sc_l_told : FnScope ["form", "due", "word", "told", "at", "odd"] ["form", "due"] (defScope s_l_told) := ⟨rfl, rfl, rfl, by decide +kernel, rfl, by decide +kernel, by decide +kernel⟩
theorem ok_ltold {f CF CE : Addr} {fd : FuncData} (F : Fun K "_law_told" "_law_told" s_l_told f fd) (B : Blt mg) (cF : Cls K CF) (G : G9 P w K mg base CF CE) : FnOk P w K mg base CX0 3 f fd ["form", "due"] (spTold CF) := by
  refine F.ok sc_l_told (fun vs H Q E h => ?_) (fun cdv A outer s H vs Q E hr h => ?_)
  · obtain ⟨b, D, us1, us2, us3, p1, p2, p3, rfl, _⟩ := h
    rfl
  · obtain ⟨b, D, us1, us2, us3, p1, p2, p3, rfl, hF, hD, a1, a2, a3, l1, l2, l3, q⟩ := h
    have hu := hu_of hr
    refine ⟨_, (pss_cons (ps_for PassesOwn.never rfl (pi_list (pe_lst (pa_cons pe_str (pa_cons pe_str (pa_cons pe_str pa_nil))))) (pg_name (i := 2) sc_l_told.nd rfl (Or.inl rfl))
      (pss_cons (ps_set (i := 3) sc_l_told.nd rfl (Or.inl rfl) (pe_met cF G.shape (hr.mono (by decide)) passF (pv 0) (pa_cons (pv 2) pa_nil)))
      (pss_cons (ps_if (PW.pt (pw_or (pt_not (pt_val (pe_callB call_isi (by rfl) B.isinstance (by decide +kernel) (pa_cons (pv 3) (pa_cons (pe_bltn (v := .ty "tuple") (by rfl) B.tuple (by decide +kernel) rfl) pa_nil))))) (pw_or1 (pt_cmpR op_ne (pe_callB call_len_seq (by rfl) B.len (by decide +kernel) (pa_cons (pv 3) pa_nil)) (pe_callB call_len_seq (by rfl) B.len (by decide +kernel) (pa_cons (pe_dget hu (pv 1) (pv 2) (fun _ _ => rfl)) pa_nil)) (nomark _)))))
        (pss_one (ps_ret pe_bl))
        pss_nil)
      (pss_one (ps_for PassesOwn.never rfl (pi_range1 (by rfl) B.range (pa_cons (pe_callB call_len_seq (by rfl) B.len (by decide +kernel) (pa_cons (pv 3) pa_nil)) pa_nil)) (pg_name (i := 4) sc_l_told.nd rfl (Or.inl rfl))
        (pss_one (ps_if (PW.pt (pw_or (pt_not (pt_val (pe_callB call_isi (by rfl) B.isinstance (by decide +kernel) (pa_cons (pe_ix ix_tup (pv 3) (pv 4) (fun _ _ => rfl)) (pa_cons (pe_bltn (v := .ty "tuple") (by rfl) B.tuple (by decide +kernel) rfl) pa_nil))))) (pw_or1 (pt_cmpR (op_neD hr.units) (pe_ix ix_tup (pv 3) (pv 4) (fun _ _ => rfl)) (pe_ix ix_tup (pe_dget hu (pv 1) (pv 2) (fun _ _ => rfl)) (pv 4) (fun _ _ => rfl)) (nomark _)))))
          (pss_one (ps_ret pe_bl))
          pss_nil)))))))
    (pss_one (ps_ret (pe_callB (cr_all rfl) (by rfl) B.all (by decide +kernel) (pa_cons (pe_lc (own := [("odd", 5)]) (g := gName 5) (tt := tYes) (by rfl) sc_l_told.nd (pi_list (pe_lst (pa_cons pe_str (pa_cons pe_non (pa_cons pe_int (pa_cons pe_str (pa_cons pe_bl (pa_cons (pe_lst pa_nil) (pa_cons pe_dnewK (pa_cons (pe_lst (pa_cons pe_str pa_nil)) (pa_cons (pe_tup (pa_cons pe_str pa_nil)) pa_nil))))))))))) (blkOk_by (own := [("odd", 5)]) (N := ["form", "due", "word", "told", "at", "odd"]) (sc := defScope s_l_told) (by decide +kernel)) (fun _ _ _ _ _ => (pg_name (i := 5) sc_l_told.nd rfl (Or.inl rfl))) (fun _ _ _ _ _ => pts_nil) (fun _ _ _ _ _ => (pe_cal G.law_unknown (hr.mono (by decide)) pass0 (pa_cons (pv 0) (pa_cons (pv 5) pa_nil))))) pa_nil))))), ?_⟩
    refine ⟨(by show 3 ≤ sizeLine; decide), fun l hl => ⟨l, rfl, ⟨_, SqL.of upd_same⟩, ?_⟩⟩
    have s0 := sameAt (o := .lst [.str "row", .str "fix", .str "gone"]) (Same.refl H) hl
    refine for_it (walk_list (K := K) (a := l) (xs := [.str "row", .str "fix", .str "gone"])) (fun i σ H1 => (∃ x2 x3 x4 x5, σ = [some (.ref b), some (.ref D), x2, x3, x4, x5]) ∧ Same (upd H l (.lst [.str "row", .str "fix", .str "gone"])) H1) ⟨⟨_, _, _, _, rfl⟩, Same.refl _⟩ (fun i σ H1 _ hv => SqL.of (hv.2 _ _ upd_same)) ?_ ?_
    · rintro i y σ H1x H1 hi ⟨⟨x2, x3, x4, x5, rfl⟩, s1⟩ ⟨rfl, hy⟩
      have sH := s0.trans s1
      have hi : i < 3 := hi
      have hF1 := hF.same sH
      obtain ⟨r1, r2, r3, d0, d1, d2, d3⟩ := hD.same sH
      have row : ∃ (z : Str) (us : List V) (ps : List (Str × Str)) (r : Addr), y = .str z ∧ pickW z us1 us2 us3 = some us ∧ PrsAt H1 us ps ∧ ps.length ≤ 20 ∧ (∀ H2, Same H1 H2 → DGet H2 D (.str z) (some (.ref r))) ∧ H1 r = some (.tup us) := by
        match i, hi with
        | 0, _ =>
          cases (show some (V.str "row") = some y from hy)
          exact ⟨"row", us1, p1, r1, rfl, rfl, a1.ev (Ev.same sH), l1, fun _ s => DGet.k (k := Sum.inr "row") (s _ _ d0), d1⟩
        | 1, _ =>
          cases (show some (V.str "fix") = some y from hy)
          exact ⟨"fix", us2, p2, r2, rfl, rfl, a2.ev (Ev.same sH), l2, fun _ s => DGet.k (k := Sum.inr "fix") (s _ _ d0), d2⟩
        | 2, _ =>
          cases (show some (V.str "gone") = some y from hy)
          exact ⟨"gone", us3, p3, r3, rfl, rfl, a3.ev (Ev.same sH), l3, fun _ s => DGet.k (k := Sum.inr "gone") (s _ _ d0), d3⟩
      obtain ⟨z, us, ps, r, rfl, hz, hps, h20, hg, hr1⟩ := row
      obtain ⟨dx, dd, t1, t2, t3, f1, f2, _⟩ := id hF1
      refine ⟨_, rfl, b, dx, _, rfl, f1, rfl, _, rfl, b, .str z, us1, us2, us3, rfl, hF1, .inl ⟨z, us, rfl, hz, fun t ht => ?_⟩⟩
      have ul := hps.len
      refine ⟨_, rfl, _, _, _, _, true, rfl, .ty _, .base (.tup ht), kit_ty (by decide +kernel), _, rfl, iteN rfl ⟨_, rfl, _, us, rfl, .inr (SqT.of ht), _, rfl, _, rfl, D, .ref r, rfl, hg _ (Same.refl _), _, us, rfl, .inr (SqT.of hr1), rfl, _, rfl, iteN (by rw [decide_eq_true rfl]; rfl) ?_⟩⟩
      refine ⟨_, rfl, _, us, rfl, .inr (SqT.of ht), _, rfl, (by omega), (by omega), for_range (n := us.length) (fun k σ H2 => (∃ x4 x5, σ = [some (.ref b), some (.ref D), some (.str z), some (.ref t), x4, x5]) ∧ Same H1 H2) ⟨⟨_, _, rfl⟩, Same.refl _⟩ ?_ ?_⟩
      · rintro k σ H2 hk ⟨⟨x4, x5, rfl⟩, s2⟩
        simp only [Int.zero_add]
        have hv : us[k]? = some us[k] := List.getElem?_eq_getElem hk
        generalize us[k] = v at hv
        obtain ⟨a, w0, s0', rfl, ha, o1, o2⟩ := (hps.ev (Ev.same s2)).get hv
        have hg2 : DGet H2 D (.str z) (some (.ref r)) := hg _ s2
        have sh := pdt_shaped (p := (w0, s0')) o1 o2
        have dp : Dp K H2 (.ref a) (pdt (w0, s0')) := .tup (SqT.of ha) (.cons (.str _) (.cons (.str _) .nil))
        refine ⟨_, rfl, _, rfl, _, _, _, _, rfl, rfl, SqT.of (s2 _ _ ht), atI_nat hv, _, _, _, _, true, rfl, .ty _, .base (.tup ha), kit_ty (by decide +kernel), _, rfl, iteN rfl ⟨_, rfl, _, rfl, _, _, _, _, rfl, rfl, SqT.of (s2 _ _ ht), atI_nat hv, _, rfl, _, rfl, D, .ref r, rfl, hg2, _, rfl, _, _, _, _, rfl, rfl, SqT.of (s2 _ _ hr1), atI_nat hv, _, _, dp, dp, sh, sh, _, rfl, iteN (by rw [SeqAt.eqv_refl _ (SeqAt.canLay_of_shaped sh)]; rfl) ⟨⟨_, _, rfl⟩, s2⟩⟩⟩
      · rintro σ H2 ⟨⟨x4, x5, rfl⟩, s2⟩
        exact ⟨⟨_, _, _, _, rfl⟩, s1.trans s2⟩
    · rintro σ H1 ⟨⟨x2, x3, x4, x5, rfl⟩, s1⟩
      have sA := s0.trans s1
      refine ⟨by show 0 ≤ sizeLine; decide, fun la hla => ?_⟩
      refine fun dd hdd => ?_
      refine ⟨by show 1 ≤ sizeLine; decide, fun lb hlb => ?_⟩
      refine ⟨by show 1 ≤ sizeLine; decide, fun tt htt => ?_⟩
      refine ⟨by show 9 ≤ sizeLine; decide, fun lq hlq => ?_⟩
      have sa : Same H1 _ := sameAt (o := HO.lst []) (Same.refl _) hla
      have sb : Same _ _ := sameAt (o := HO.dK []) (Same.refl _) hdd
      have sc : Same _ _ := sameAt (o := HO.lst [V.str "row"]) (Same.refl _) hlb
      have sd : Same _ _ := sameAt (o := HO.tup [V.str "row"]) (Same.refl _) htt
      have se : Same _ _ := sameAt (o := HO.lst [V.str "Row", .non, .int 0, .str "", .bl true, .ref la, .ref dd, .ref lb, .ref tt]) (Same.refl _) hlq
      have odds : ∀ v ∈ [V.str "Row", .non, .int 0, .str "", .bl true, .ref la, .ref dd, .ref lb, .ref tt], OddW K (upd (upd (upd (upd (upd H1 la (.lst [])) dd (.dK [])) lb (.lst [V.str "row"])) tt (.tup [V.str "row"])) lq (.lst [V.str "Row", .non, .int 0, .str "", .bl true, .ref la, .ref dd, .ref lb, .ref tt])) v := by
        intro v hv
        simp only [List.mem_cons, List.not_mem_nil, or_false] at hv
        rcases hv with rfl | rfl | rfl | rfl | rfl | rfl | rfl | rfl | rfl
        · exact oddS (by decide +kernel) (by decide +kernel) (by decide +kernel) (by decide +kernel)
        · exact ⟨.inr ⟨_, .base .non, kit_ty (by decide +kernel)⟩, .inl rfl⟩
        · exact ⟨.inr ⟨_, .base (.int _), kit_ty (by decide +kernel)⟩, .inl rfl⟩
        · exact oddS (by decide +kernel) (by decide +kernel) (by decide +kernel) (by decide +kernel)
        · exact ⟨.inr ⟨_, .base (.bl _), kit_ty (by decide +kernel)⟩, .inl rfl⟩
        · exact (oddL (zs := []) upd_same (by decide +kernel)).same (sb.trans (sc.trans (sd.trans se)))
        · exact OddW.same ⟨.inr ⟨_, .base (.dK upd_same), kit_ty (by decide +kernel)⟩, .inr (.inr ⟨dd, rfl, upd_same⟩)⟩ (sc.trans (sd.trans se))
        · exact (oddL (zs := ["row"]) upd_same (by decide +kernel)).same (sd.trans se)
        · exact (oddT (zs := ["row"]) upd_same (by decide +kernel)).same se
      have sz := sA.trans (sa.trans (sb.trans (sc.trans (sd.trans se))))
      have hF2 := hF.same sz
      generalize hL : [V.str "Row", .non, .int 0, .str "", .bl true, .ref la, .ref dd, .ref lb, .ref tt] = L at odds sz hF2 se ⊢
      have hlen : L.length = 9 := by rw [← hL]; rfl
      refine ⟨lq, rfl, ⟨_, SqL.of upd_same⟩, fun D9 hD9 => lc_list (a := lq) (xs := L) (fun i H1 => H1 D9 = some (.lst ((List.replicate i true).map V.bl)) ∧ Same _ H1) ⟨upd_same, sameAt (Same.refl _) hD9⟩ (fun i H1 _ hv => SqL.of (hv.2 _ _ upd_same)) ?_ ?_⟩
      · rintro i x H3 hx0 ⟨hD3, s3⟩
        have hx : x ∈ L := List.mem_of_getElem? hx0
        refine ⟨rfl, ?_⟩
        show tCall (spUnk K CF) [] E0 (tCons (tVar 0) (tCons (tVar 5) tNil)) [some (V.ref b), some (V.ref D), x2, x3, x4, some x] H3 _
        have ho := (odds x hx).same s3
        refine ⟨_, rfl, _, rfl, b, x, us1, us2, us3, rfl, hF2.same s3, ho.1, ho.2, fun H4 s4 => ⟨_, s4 _ _ hD3, ?_, ?_, ?_⟩⟩
        · rw [List.length_map, List.length_replicate]
          have := List.getElem?_eq_some_iff.mp hx0
          obtain ⟨hi, _⟩ := this
          rw [hlen] at hi
          exact Nat.lt_of_lt_of_le hi (by decide)
        · rw [upd_same, List.replicate_succ', List.map_append]
          rfl
        · exact sameAt (s3.trans s4) hD9
      · rintro H3 ⟨hD3, s3⟩
        refine ⟨D9, _, rfl, SqL.of hD3, ?_⟩
        rw [show (List.replicate L.length true).all id = true by simp]
        exact q H3 (sz.trans s3)
end
end Ash

set_option Elab.async false
set_option linter.all false
set_option maxRecDepth 100000
set_option maxHeartbeats 100000
set_option pp.maxSteps 600
namespace Ash
open PySem PySem.Spec PyProof.Rows L2
open C8 (pss_cut)
/-! ### the law -/
theorem pe_cal0 {X : Cx} {CX : CXT} {k : Nat} {sp : Sp} {E : XK} {x : Str} {p pos : Pos} (G : Cal X.prog X.w X.K X.mg X.base CX x k [] sp) (hr : Room k X.A) (hx : Passes CX X E) (hg : Gl X x := by rfl)
    (hdb : (x == ("__debug__" : Str)) = false := by decide) : PE X (.Call (.Name x p) [] [] pos) (tCall sp [] E tNil) := by
  obtain ⟨f, fd, hm, hk, hb, F⟩ := G.ex
  exact pe_call0 F hr hg hm hk hb .nil hx hdb
theorem SqL.but {K : PySem.W.Frag} {H H' : Hp} {p a : Addr} {xs : List V} (h : SqL K H a xs) (hd : ∃ ks, H p = some (.dK ks)) (b : But p H H') : SqL K H' a xs := by
  obtain ⟨ks, hd⟩ := hd
  rcases h with h | h
  · rcases h with h | ⟨o, h⟩
    · exact .inl (.inl (b _ _ h (fun e => by rw [e, hd] at h; cases h)))
    · exact .inl (.inr ⟨o, b _ _ h (fun e => by rw [e, hd] at h; cases h)⟩)
  · exact .inr h
theorem Ev.but {H H' : Hp} {p : Addr} (hd : ∃ ks, H p = some (.dK ks)) (hd' : ∃ ks, H' p = some (.dK ks)) (b : But p H H') : Ev H H' := fun c o h => by
  by_cases e : c = p
  · obtain ⟨ks, hd⟩ := hd
    obtain ⟨ls, hd'⟩ := hd'
    rw [e, hd] at h
    exact .inr (.inr ⟨ks, ls, (Option.some.inj h).symm, by rw [e]; exact hd'⟩)
  · exact .inl (b _ _ h e)
theorem ShA.but {K : PySem.W.Frag} {H H' : Hp} {v : V} {sh : Sh} {p : Addr} (h : ShA K H v sh) (hd : ∃ ks, H p = some (.dK ks)) (hd' : ∃ ks, H' p = some (.dK ks)) (b : But p H H') : ShA K H' v sh := by
  have ev := Ev.but hd hd' b
  cases sh with
  | row ps =>
    obtain ⟨a, us, h1, h2, h3, h4⟩ := h
    obtain ⟨ks, hd⟩ := hd
    refine ⟨a, us, h1, ?_, h3.ev ev, h4⟩
    rcases h2 with h2 | h2
    · exact .inl (b _ _ h2 (fun e => by rw [e, hd] at h2; cases h2))
    · exact .inr (b _ _ h2 (fun e => by rw [e, hd] at h2; cases h2))
  | no =>
    obtain ⟨t, h1, h2⟩ := h
    exact ⟨t, tyx_ev h1 ev, h2⟩
theorem ks_ne : ((.inr "row" : Key) ≠ .inr "fix") ∧ ((.inr "row" : Key) ≠ .inr "gone") ∧ ((.inr "fix" : Key) ≠ .inr "gone") := ⟨by decide +kernel, by decide +kernel, by decide +kernel⟩
theorem put0 (a : Key) (v : V) : putK [] a v = [(a, v)] := rfl
theorem put1 {a b : Key} (h : a ≠ b) (v y : V) : putK [(a, y)] b v = [(a, y), (b, v)] := by
  simp [putK, h]
theorem put2 {a b c : Key} (h : a ≠ c) (h2 : b ≠ c) (v y z : V) : putK [(a, y), (b, z)] c v = [(a, y), (b, z), (c, v)] := by
  simp [putK, h, h2]
theorem putA {a b c : Key} (h : b ≠ a) (h2 : c ≠ a) (v x y z : V) : putK [(a, x), (b, y), (c, z)] a v = [(a, v), (b, y), (c, z)] := by
  simp [putK, h, h2]
theorem putB {a b c : Key} (h : a ≠ b) (h2 : c ≠ b) (v x y z : V) : putK [(a, x), (b, y), (c, z)] b v = [(a, x), (b, v), (c, z)] := by
  simp [putK, h, h2]
theorem putC {a b c : Key} (h : a ≠ c) (h2 : b ≠ c) (v x y z : V) : putK [(a, x), (b, y), (c, z)] c v = [(a, x), (b, y), (c, v)] := by
  simp [putK, h, h2]
theorem dput_k {H : Hp} {a : Addr} {kvs ls : List (Key × V)} {z : Str} {v : V} (e : H a = some (.dK kvs)) (p : putK kvs (.inr z) v = ls) (hl : kvs.length < sizeLine) : DPut H a (.str z) v (upd H a (.dK ls)) := by
  rw [← p]
  exact DPut.k (k := .inr z) e hl
def ws3 : List V := [.str "row", .str "fix", .str "gone"]
/-- the shapes so far -/
def ShsAt (K : PySem.W.Frag) (H : Hp) (S : Addr) : Nat → Prop
  | 0 => H S = some (.dK [])
  | 1 => ∃ v1 s1, H S = some (.dK [(.inr "row", v1)]) ∧ ShA K H v1 s1
  | 2 => ∃ v1 v2 s1 s2, H S = some (.dK [(.inr "row", v1), (.inr "fix", v2)]) ∧ ShA K H v1 s1 ∧ ShA K H v2 s2
  | _ => ∃ v1 v2 v3 s1 s2 s3, H S = some (.dK [(.inr "row", v1), (.inr "fix", v2), (.inr "gone", v3)]) ∧ ShA K H v1 s1 ∧ ShA K H v2 s2 ∧ ShA K H v3 s3
theorem ShsAt.dk {K : PySem.W.Frag} {H : Hp} {S : Addr} : ∀ {i : Nat}, ShsAt K H S i → ∃ ks, H S = some (.dK ks)
  | 0, h => ⟨_, h⟩
  | 1, ⟨_, _, h, _⟩ => ⟨_, h⟩
  | 2, ⟨_, _, _, _, h, _⟩ => ⟨_, h⟩
  | _ + 3, ⟨_, _, _, _, _, _, h, _⟩ => ⟨_, h⟩
theorem up3 {H H' : Hp} {S : Addr} {ks ls : List (Key × V)} (s : Same H H') (h : H S = some (.dK ks)) : (∃ ks, H' S = some (.dK ks)) ∧ (∃ ks, upd H' S (.dK ls) S = some (.dK ks)) ∧ But S H' (upd H' S (.dK ls)) := ⟨⟨ks, s _ _ h⟩, ⟨ls, upd_same⟩, But.upd (But.refl _ _)⟩
theorem shs0 {K : PySem.W.Frag} {H H' : Hp} {S : Addr} {v : V} {sh : Sh} (h : ShsAt K H S 0) (s : Same H H') (hv : ShA K H' v sh) : ∃ H2, DPut H' S (.str "row") v H2 ∧ ShsAt K H2 S 1 ∧ But S H' H2 := by
  have h : H S = some (.dK []) := h
  obtain ⟨u1, u2, u3⟩ := up3 (ls := [(.inr "row", v)]) s h
  exact ⟨_, dput_k (s _ _ h) (put0 _ _) (by show 0 < sizeLine; decide), ⟨v, sh, upd_same, hv.but u1 u2 u3⟩, u3⟩
theorem shs1 {K : PySem.W.Frag} {H H' : Hp} {S : Addr} {v : V} {sh : Sh} (h : ShsAt K H S 1) (s : Same H H') (hv : ShA K H' v sh) : ∃ H2, DPut H' S (.str "fix") v H2 ∧ ShsAt K H2 S 2 ∧ But S H' H2 := by
  obtain ⟨v1, s1, h, h1⟩ := h
  obtain ⟨u1, u2, u3⟩ := up3 (ls := [(.inr "row", v1), (.inr "fix", v)]) s h
  exact ⟨_, dput_k (s _ _ h) (put1 ks_ne.1 _ _) (by show 1 < sizeLine; decide), ⟨v1, v, s1, sh, upd_same, (h1.ev s).but u1 u2 u3, hv.but u1 u2 u3⟩, u3⟩
theorem shs2 {K : PySem.W.Frag} {H H' : Hp} {S : Addr} {v : V} {sh : Sh} (h : ShsAt K H S 2) (s : Same H H') (hv : ShA K H' v sh) : ∃ H2, DPut H' S (.str "gone") v H2 ∧ ShsAt K H2 S 3 ∧ But S H' H2 := by
  obtain ⟨v1, v2, s1, s2, h, h1, h2⟩ := h
  obtain ⟨u1, u2, u3⟩ := up3 (ls := [(.inr "row", v1), (.inr "fix", v2), (.inr "gone", v)]) s h
  exact ⟨_, dput_k (s _ _ h) (put2 ks_ne.2.1 ks_ne.2.2 _ _ _) (by show 2 < sizeLine; decide), ⟨v1, v2, v, s1, s2, sh, upd_same, (h1.ev s).but u1 u2 u3, (h2.ev s).but u1 u2 u3, hv.but u1 u2 u3⟩, u3⟩
theorem shs_put {K : PySem.W.Frag} {H : Hp} {S : Addr} {i : Nat} {z : Str} (h : ShsAt K H S i) (hi : i < 3) (hz : ws3[i]? = some (.str z)) : ∀ {H' : Hp} {v : V} {sh : Sh}, Same H H' → ShA K H' v sh → ∃ H2, DPut H' S (.str z) v H2 ∧ ShsAt K H2 S (i + 1) ∧ But S H' H2 := by
  rcases (show i = 0 ∨ i = 1 ∨ i = 2 by omega) with e | e | e <;> subst e
  · have e := V.str.inj (Option.some.inj (show some (V.str "row") = some (V.str z) from hz))
    subst e
    exact fun {_ _ _} s hv => shs0 h s hv
  · have e := V.str.inj (Option.some.inj (show some (V.str "fix") = some (V.str z) from hz))
    subst e
    exact fun {_ _ _} s hv => shs1 h s hv
  · have e := V.str.inj (Option.some.inj (show some (V.str "gone") = some (V.str z) from hz))
    subst e
    exact fun {_ _ _} s hv => shs2 h s hv
theorem ws_ix {i : Nat} {x : V} (hi : i < 3) (hx : ws3[i]? = some x) : ∃ z : Str, x = .str z ∧ ∀ m z', m < i → ws3[m]? = some z' → eqV z' x = false := by
  match i, hi, hx with
  | 0, _, hx => cases hx; exact ⟨"row", rfl, fun m z' hm _ => absurd hm (Nat.not_lt_zero _)⟩
  | 1, _, hx =>
    cases hx
    refine ⟨"fix", rfl, fun m z' hm hz => ?_⟩
    match m, hm with
    | 0, _ => cases hz; decide +kernel
  | 2, _, hx =>
    cases hx
    refine ⟨"gone", rfl, fun m z' hm hz => ?_⟩
    match m, hm with
    | 0, _ => cases hz; decide +kernel
    | 1, _ => cases hz; decide +kernel
theorem SqL.sm {K : PySem.W.Frag} {H H' : Hp} {a : Addr} {xs : List V} (h : SqL K H a xs) (s : Same H H') : SqL K H' a xs := by
  rcases h with h | h
  · rcases h with h | ⟨o, h⟩
    · exact .inl (.inl (s _ _ h))
    · exact .inl (.inr ⟨o, s _ _ h⟩)
  · exact .inr h
theorem same_pl {H H1 H2 : Hp} {p : Addr} (s : Same H H1) (hp : H p = none) (h : Pl H1 H2 p) : Same H H2 := fun b o hb => h.but b o (s _ _ hb) (fun e => by rw [e, hp] at hb; cases hb)
theorem tyx_lst {K : PySem.W.Frag} {H : Hp} {a : Addr} {xs : List V} (h : H a = some (.lst xs)) : TyX K H (.ref a) (.type "list") := .base (.lst h)
theorem pcs_one {ps : List Pc} {fs : List Str} {z : Str} (h : pcsF ps = some fs) (p : fs.Perm (flds z)) : 1 ≤ ps.length := by
  cases ps with
  | cons a l => exact Nat.succ_le_succ (Nat.zero_le _)
  | nil =>
    cases Option.some.inj (show some [] = some fs from h)
    have := p.length_eq
    unfold flds at this
    split at this
    · cases this
    · split at this <;> cases this
def oneF (c : Bool) (z : Str) : List Str := if c = true then [] else [z]
theorem oneF_len (c : Bool) (z : Str) : (oneF c z).length ≤ 1 := by cases c <;> simp [oneF]
/-- the words of the shapes that are not good, among the first i -/
def badF (c1 c2 c3 : Bool) : Nat → List Str
  | 0 => []
  | 1 => oneF c1 "row"
  | 2 => oneF c1 "row" ++ oneF c2 "fix"
  | _ => (oneF c1 "row" ++ oneF c2 "fix") ++ oneF c3 "gone"
theorem badF_len {c1 c2 c3 : Bool} {i : Nat} : (badF c1 c2 c3 i).length ≤ 3 := by
  have h1 := oneF_len c1 "row"
  have h2 := oneF_len c2 "fix"
  have h3 := oneF_len c3 "gone"
  unfold badF
  split
  · exact Nat.zero_le _
  · omega
  · rw [List.length_append]; omega
  · rw [List.length_append, List.length_append]; omega
theorem turn3 {K : PySem.W.Frag} {H : Hp} {S : Addr} {v1 v2 v3 : V} {s1 s2 s3 : Sh} {c1 c2 c3 : Bool} {i : Nat} {z : Str} (hS : H S = some (.dK [(.inr "row", v1), (.inr "fix", v2), (.inr "gone", v3)])) (h1 : ShA K H v1 s1) (h2 : ShA K H v2 s2) (h3 : ShA K H v3 s3)
    (e1 : c1 = true ↔ s1.good "row") (e2 : c2 = true ↔ s2.good "fix") (e3 : c3 = true ↔ s3.good "gone") (hi : i < 3) (hz : ws3[i]? = some (.str z)) :
    ∃ v sh c, (∀ H', Same H H' → DGet H' S (.str z) (some v)) ∧ ShA K H v sh ∧ (c = true ↔ sh.good z) ∧ badF c1 c2 c3 (i + 1) = badF c1 c2 c3 i ++ oneF c z := by
  rcases (show i = 0 ∨ i = 1 ∨ i = 2 by omega) with e | e | e <;> subst e
  · have e := V.str.inj (Option.some.inj (show some (V.str "row") = some (V.str z) from hz))
    subst e
    exact ⟨v1, s1, c1, fun _ s => DGet.k (k := Sum.inr "row") (s _ _ hS), h1, e1, rfl⟩
  · have e := V.str.inj (Option.some.inj (show some (V.str "fix") = some (V.str z) from hz))
    subst e
    exact ⟨v2, s2, c2, fun _ s => DGet.k (k := Sum.inr "fix") (s _ _ hS), h2, e2, rfl⟩
  · have e := V.str.inj (Option.some.inj (show some (V.str "gone") = some (V.str z) from hz))
    subst e
    exact ⟨v3, s3, c3, fun _ s => DGet.k (k := Sum.inr "gone") (s _ _ hS), h3, e3, rfl⟩
def pickU (us1 us2 us3 : List V) : Nat → List V
  | 0 => us1
  | 1 => us2
  | _ => us3
/-- the rows due so far -/
def DuAt (H : Hp) (D : Addr) (us1 us2 us3 : List V) : Nat → Prop
  | 0 => H D = some (.dK [])
  | 1 => ∃ r1, H D = some (.dK [(.inr "row", .ref r1)]) ∧ H r1 = some (.tup us1)
  | 2 => ∃ r1 r2, H D = some (.dK [(.inr "row", .ref r1), (.inr "fix", .ref r2)]) ∧ H r1 = some (.tup us1) ∧ H r2 = some (.tup us2)
  | _ => DueAt H D us1 us2 us3
theorem DuAt.dk {H : Hp} {D : Addr} {us1 us2 us3 : List V} : ∀ {i : Nat}, DuAt H D us1 us2 us3 i → ∃ ks, H D = some (.dK ks)
  | 0, h => ⟨_, h⟩
  | 1, ⟨_, h, _⟩ => ⟨_, h⟩
  | 2, ⟨_, _, h, _⟩ => ⟨_, h⟩
  | _ + 3, ⟨_, _, _, h, _⟩ => ⟨_, h⟩
theorem tup_but {H : Hp} {D r : Addr} {us : List V} {ks ls : List (Key × V)} (h : H r = some (.tup us)) (e : H D = some (.dK ks)) : upd H D (.dK ls) r = some (.tup us) := by
  rw [upd_ne (fun q => by rw [q, e] at h; cases h)]
  exact h
theorem du0 {H H' : Hp} {D r : Addr} {us1 us2 us3 : List V} (h : DuAt H D us1 us2 us3 0) (s : Same H H') (hr : H' r = some (.tup us1)) : ∃ H2, DPut H' D (.str "row") (.ref r) H2 ∧ DuAt H2 D us1 us2 us3 1 ∧ But D H' H2 := by
  have h : H D = some (.dK []) := h
  exact ⟨_, dput_k (s _ _ h) (put0 _ _) (by show 0 < sizeLine; decide), ⟨r, upd_same, tup_but hr (s _ _ h)⟩, But.upd (But.refl _ _)⟩
theorem du1 {H H' : Hp} {D r : Addr} {us1 us2 us3 : List V} (h : DuAt H D us1 us2 us3 1) (s : Same H H') (hr : H' r = some (.tup us2)) : ∃ H2, DPut H' D (.str "fix") (.ref r) H2 ∧ DuAt H2 D us1 us2 us3 2 ∧ But D H' H2 := by
  obtain ⟨r1, h, h1⟩ := h
  exact ⟨_, dput_k (s _ _ h) (put1 ks_ne.1 _ _) (by show 1 < sizeLine; decide), ⟨r1, r, upd_same, tup_but (s _ _ h1) (s _ _ h), tup_but hr (s _ _ h)⟩, But.upd (But.refl _ _)⟩
theorem du2 {H H' : Hp} {D r : Addr} {us1 us2 us3 : List V} (h : DuAt H D us1 us2 us3 2) (s : Same H H') (hr : H' r = some (.tup us3)) : ∃ H2, DPut H' D (.str "gone") (.ref r) H2 ∧ DuAt H2 D us1 us2 us3 3 ∧ But D H' H2 := by
  obtain ⟨r1, r2, h, h1, h2⟩ := h
  exact ⟨_, dput_k (s _ _ h) (put2 ks_ne.2.1 ks_ne.2.2 _ _ _) (by show 2 < sizeLine; decide), ⟨r1, r2, r, upd_same, tup_but (s _ _ h1) (s _ _ h), tup_but (s _ _ h2) (s _ _ h), tup_but hr (s _ _ h)⟩, But.upd (But.refl _ _)⟩
theorem due_put {H : Hp} {D : Addr} {us1 us2 us3 : List V} {i : Nat} {z : Str} (h : DuAt H D us1 us2 us3 i) (hi : i < 3) (hz : ws3[i]? = some (.str z)) : ∀ {H' : Hp} {r : Addr}, Same H H' → H' r = some (.tup (pickU us1 us2 us3 i)) → ∃ H2, DPut H' D (.str z) (.ref r) H2 ∧ DuAt H2 D us1 us2 us3 (i + 1) ∧ But D H' H2 := by
  rcases (show i = 0 ∨ i = 1 ∨ i = 2 by omega) with e | e | e <;> subst e
  · have e := V.str.inj (Option.some.inj (show some (V.str "row") = some (V.str z) from hz))
    subst e
    exact fun {_ _} s hr => du0 h s hr
  · have e := V.str.inj (Option.some.inj (show some (V.str "fix") = some (V.str z) from hz))
    subst e
    exact fun {_ _} s hr => du1 h s hr
  · have e := V.str.inj (Option.some.inj (show some (V.str "gone") = some (V.str z) from hz))
    subst e
    exact fun {_ _} s hr => du2 h s hr
theorem turnU {H : Hp} {S : Addr} {v1 v2 v3 : V} {us1 us2 us3 : List V} {i : Nat} {z : Str} (hS : H S = some (.dK [(.inr "row", v1), (.inr "fix", v2), (.inr "gone", v3)])) (h1 : RwA H v1 us1) (h2 : RwA H v2 us2) (h3 : RwA H v3 us3) (hi : i < 3) (hz : ws3[i]? = some (.str z)) :
    ∃ v, (∀ H', Same H H' → DGet H' S (.str z) (some v)) ∧ RwA H v (pickU us1 us2 us3 i) := by
  rcases (show i = 0 ∨ i = 1 ∨ i = 2 by omega) with e | e | e <;> subst e
  · have e := V.str.inj (Option.some.inj (show some (V.str "row") = some (V.str z) from hz))
    subst e
    exact ⟨v1, fun _ s => DGet.k (k := Sum.inr "row") (s _ _ hS), h1⟩
  · have e := V.str.inj (Option.some.inj (show some (V.str "fix") = some (V.str z) from hz))
    subst e
    exact ⟨v2, fun _ s => DGet.k (k := Sum.inr "fix") (s _ _ hS), h2⟩
  · have e := V.str.inj (Option.some.inj (show some (V.str "gone") = some (V.str z) from hz))
    subst e
    exact ⟨v3, fun _ s => DGet.k (k := Sum.inr "gone") (s _ _ hS), h3⟩
theorem good_row {K : PySem.W.Frag} {H : Hp} {v : V} {sh : Sh} {z : Str} {us : List V} (h : ShA K H v sh) (g : sh.good z) (r : RwA H v us) : ∃ ps qs, sh = .row ps ∧ PcsAt K H us ps ∧ PrsAt H us qs ∧ 1 ≤ ps.length ∧ ps.length ≤ 15 ∧ ∃ fs, pcsF ps = some fs ∧ fs.Perm (flds z) := by
  cases sh with
  | no => exact g.elim
  | row ps =>
    obtain ⟨a, us', rfl, h1, h2, _⟩ := h
    obtain ⟨b, e, r⟩ := r
    cases e
    obtain ⟨g1, g2, fs, g3, g4⟩ := g
    have e : us' = us := by
      rcases h1 with h1 | h1 <;> rcases r with r | r <;> rw [h1] at r <;> cases r <;> rfl
    subst e
    obtain ⟨qs, hq⟩ := prs_of h2 g3
    exact ⟨ps, qs, rfl, h2, hq, g1, g2, fs, g3, g4⟩
theorem rwa_lst {H : Hp} {l : Addr} {us vs : List V} (h : H l = some (.lst us)) (r : RwA H (.ref l) vs) : us = vs := by
  obtain ⟨b, e, r⟩ := r
  cases e
  rcases r with r | r <;> rw [h] at r <;> cases r
  rfl
theorem rwa_tup {H : Hp} {l : Addr} {us vs : List V} (h : H l = some (.tup us)) (r : RwA H (.ref l) vs) : us = vs := by
  obtain ⟨b, e, r⟩ := r
  cases e
  rcases r with r | r <;> rw [h] at r <;> cases r
  rfl
theorem keep_same {H Hn H' : Hp} {y : Addr} (s : Same H Hn) (hy : H y = none) (k : Keep y Hn H') : Same H H' := fun c o hc => k c o (s c o hc) (fun e => by rw [e, hy] at hc; cases hc)
/-- lists stay lists, all else stays -/
def Lx (H H' : Hp) : Prop := ∀ c o, H c = some o → H' c = some o ∨ ∃ xs ys, o = .lst xs ∧ H' c = some (.lst ys)
theorem Lx.refl (H : Hp) : Lx H H := fun _ _ h => .inl h
theorem Lx.trans {H H1 H2 : Hp} (a : Lx H H1) (b : Lx H1 H2) : Lx H H2 := fun c o h => by
  rcases a c o h with h1 | ⟨xs, ys, e, h1⟩
  · exact b c o h1
  · rcases b c _ h1 with h2 | ⟨_, zs, _, h2⟩
    · exact .inr ⟨xs, ys, e, h2⟩
    · exact .inr ⟨xs, zs, e, h2⟩
theorem Lx.same {H H' : Hp} (s : Same H H') : Lx H H' := fun c o h => .inl (s c o h)
theorem Lx.upd {H H' : Hp} {a : Addr} {xs ys : List V} (e : Lx H H') (h : H' a = some (.lst xs)) : Lx H (upd H' a (.lst ys)) := e.trans fun c o hc => by
  by_cases q : c = a
  · rw [q, h] at hc
    exact .inr ⟨xs, ys, (Option.some.inj hc).symm, by rw [q, upd_same]⟩
  · exact .inl (by rw [upd_ne q]; exact hc)
theorem Lx.ev {H H' : Hp} (e : Lx H H') : Ev H H' := fun c o h => by
  rcases e c o h with h1 | ⟨xs, ys, q, h1⟩
  · exact .inl h1
  · exact .inr (.inl ⟨xs, ys, q, h1⟩)
theorem Lx.get {H H' : Hp} {c : Addr} {o : HO} (e : Lx H H') (h : H c = some o) (n : ∀ xs, o ≠ .lst xs) : H' c = some o := by
  rcases e c o h with h1 | ⟨xs, ys, q, h1⟩
  · exact h1
  · exact absurd q (n xs)
theorem FormAt.lx {CF : Addr} {H H' : Hp} {b : Addr} {a1 a2 a3 : List V} (h : FormAt CF H b a1 a2 a3) (s : Lx H H') : FormAt CF H' b a1 a2 a3 := by
  obtain ⟨dx, d, t1, t2, t3, h1, h2, h3, h4, h5⟩ := h
  exact ⟨dx, d, t1, t2, t3, s.get h1 (fun _ q => by cases q), s.get h2 (fun _ q => by cases q), s.get h3 (fun _ q => by cases q), s.get h4 (fun _ q => by cases q), s.get h5 (fun _ q => by cases q)⟩
theorem DueAt.lx {H H' : Hp} {D : Addr} {a b c : List V} (h : DueAt H D a b c) (s : Lx H H') : DueAt H' D a b c := by
  obtain ⟨r1, r2, r3, h1, h2, h3, h4⟩ := h
  exact ⟨r1, r2, r3, s.get h1 (fun _ q => by cases q), s.get h2 (fun _ q => by cases q), s.get h3 (fun _ q => by cases q), s.get h4 (fun _ q => by cases q)⟩
/-- a list of at most n things, or a tuple -/
def RwL (H : Hp) (v : V) (n : Nat) : Prop := ∃ a, v = .ref a ∧ ((∃ xs, H a = some (.lst xs) ∧ xs.length ≤ n) ∨ ∃ xs, H a = some (.tup xs))
theorem RwL.same {H H' : Hp} {v : V} {n m : Nat} (h : RwL H v n) (s : Same H H') (le : n ≤ m) : RwL H' v m := by
  obtain ⟨a, e, ⟨xs, h1, h2⟩ | ⟨xs, h1⟩⟩ := h
  · exact ⟨a, e, .inl ⟨xs, s _ _ h1, by omega⟩⟩
  · exact ⟨a, e, .inr ⟨xs, s _ _ h1⟩⟩
theorem RwL.upd {H : Hp} {v : V} {n m : Nat} {b : Addr} {xs ys : List V} (h : RwL H v n) (hb : H b = some (.lst xs)) (le : n ≤ m) (ly : ys.length ≤ m) : RwL (upd H b (.lst ys)) v m := by
  obtain ⟨a, e, h⟩ := h
  by_cases q : a = b
  · exact ⟨a, e, .inl ⟨ys, by rw [q, upd_same], ly⟩⟩
  · rcases h with ⟨xs, h1, h2⟩ | ⟨xs, h1⟩
    · exact ⟨a, e, .inl ⟨xs, by rw [upd_ne q]; exact h1, by omega⟩⟩
    · exact ⟨a, e, .inr ⟨xs, by rw [upd_ne q]; exact h1⟩⟩
theorem RwL.of {H : Hp} {v : V} {us : List V} {n : Nat} (h : RwA H v us) (le : us.length ≤ n) : RwL H v n := by
  obtain ⟨a, e, h1 | h1⟩ := h
  · exact ⟨a, e, .inl ⟨us, h1, le⟩⟩
  · exact ⟨a, e, .inr ⟨us, h1⟩⟩
/-- a tuple that is a good row -/
def RwT (K : PySem.W.Frag) (H : Hp) (r : Addr) (us : List V) (ps : List Pc) (qs : List (Str × Str)) (z : Str) : Prop := H r = some (.tup us) ∧ PcsAt K H us ps ∧ PrsAt H us qs ∧ 1 ≤ ps.length ∧ ∃ fs, pcsF ps = some fs ∧ fs.Perm (flds z)
theorem RwT.ev {K : PySem.W.Frag} {H H' : Hp} {r : Addr} {us : List V} {ps : List Pc} {qs : List (Str × Str)} {z : Str} (h : RwT K H r us ps qs z) (e : Ev H H') : RwT K H' r us ps qs z := by
  obtain ⟨h1, h2, h3, h4⟩ := h
  exact ⟨e.tup h1, h2.ev e, h3.ev e, h4⟩
theorem RwT.cons {K : PySem.W.Frag} {H : Hp} {r m n : Addr} {us : List V} {ps : List Pc} {qs : List (Str × Str)} {z : Str} (h : RwT K H r us ps qs z) (hm : H m = some (.tup [.str "mark", .str "a"])) (hn : H n = some (.tup (.ref m :: us))) : RwT K H n (.ref m :: us) (.pr "mark" "a" :: ps) (("mark", "a") :: qs) z := by
  obtain ⟨h1, h2, h3, h4, fs, h5, h6⟩ := h
  have ka : okT "a" := ⟨by decide +kernel, by decide +kernel⟩
  refine ⟨hn, .cons ⟨m, rfl, hm, ka⟩ h2, .cons hm (by decide +kernel) (by decide +kernel) h3, by rw [List.length_cons]; omega, fs, ?_, h6⟩
  have e : pcF (.pr "mark" "a") = some [] := by
    show (if ("mark" : Str) = "field" then some [("a" : Str)] else if ("mark" : Str) = "mark" ∧ mkB "a" = true then some [] else none) = some []
    rw [if_neg (by decide +kernel), if_pos ⟨rfl, by decide +kernel⟩]
  unfold pcsF
  rw [e, h5]
  rfl
theorem RwT.sha {K : PySem.W.Frag} {H : Hp} {r : Addr} {us : List V} {ps : List Pc} {qs : List (Str × Str)} {z : Str} (h : RwT K H r us ps qs z) (l : ps.length ≤ 15) : ShA K H (.ref r) (.row ps) ∧ Sh.good z (.row ps) :=
  ⟨⟨r, us, rfl, .inr h.1, h.2.1, by omega⟩, h.2.2.2.1, l, h.2.2.2.2⟩
/-- another row in the place of one -/
theorem put_oth {K : PySem.W.Frag} {H : Hp} {O r1 r2 r3 n : Addr} {us1 us2 us3 w : List V} {ps1 ps2 ps3 pw : List Pc} {qs1 qs2 qs3 qw : List (Str × Str)} {i : Nat} {z : Str}
    (hO : H O = some (.dK [(.inr "row", .ref r1), (.inr "fix", .ref r2), (.inr "gone", .ref r3)])) (h1 : RwT K H r1 us1 ps1 qs1 "row") (h2 : RwT K H r2 us2 ps2 qs2 "fix") (h3 : RwT K H r3 us3 ps3 qs3 "gone")
    (hi : i < 3) (hz : ws3[i]? = some (.str z)) (hn : RwT K H n w pw qw z) (lw : qw.length = (if i = 0 then qs1 else if i = 1 then qs2 else qs3).length + 1)
    (l1 : ps1.length ≤ 15) (l2 : ps2.length ≤ 15) (l3 : ps3.length ≤ 15) :
    ∃ H' x1 x2 x3 w1 w2 w3 pp1 pp2 pp3 qq1 qq2 qq3, DPut H O (.str z) (.ref n) H' ∧ H' O = some (.dK [(.inr "row", .ref x1), (.inr "fix", .ref x2), (.inr "gone", .ref x3)]) ∧ RwT K H' x1 w1 pp1 qq1 "row" ∧ RwT K H' x2 w2 pp2 qq2 "fix" ∧ RwT K H' x3 w3 pp3 qq3 "gone" ∧
      (pw.length ≤ 15 → pp1.length ≤ 15 ∧ pp2.length ≤ 15 ∧ pp3.length ≤ 15) ∧ ¬ (qs1 = qq1 ∧ qs2 = qq2 ∧ qs3 = qq3) ∧ But O H H' := by
  have ev : ∀ {ls}, Ev H (upd H O (.dK ls)) := (Ev.refl H).updD hO
  rcases (show i = 0 ∨ i = 1 ∨ i = 2 by omega) with e | e | e <;> subst e
  · have e := V.str.inj (Option.some.inj (show some (V.str "row") = some (V.str z) from hz))
    subst e
    have lw : qw.length = qs1.length + 1 := lw
    refine ⟨_, n, r2, r3, w, us2, us3, pw, ps2, ps3, qw, qs2, qs3, dput_k hO (putA ks_ne.1.symm ks_ne.2.1.symm _ _ _ _) (by show 3 < sizeLine; decide), upd_same, hn.ev ev, h2.ev ev, h3.ev ev, fun l => ⟨l, l2, l3⟩, fun e => ?_, But.upd (But.refl _ _)⟩
    rw [← e.1] at lw
    omega
  · have e := V.str.inj (Option.some.inj (show some (V.str "fix") = some (V.str z) from hz))
    subst e
    have lw : qw.length = qs2.length + 1 := lw
    refine ⟨_, r1, n, r3, us1, w, us3, ps1, pw, ps3, qs1, qw, qs3, dput_k hO (putB ks_ne.1 ks_ne.2.2.symm _ _ _ _) (by show 3 < sizeLine; decide), upd_same, h1.ev ev, hn.ev ev, h3.ev ev, fun l => ⟨l1, l, l3⟩, fun e => ?_, But.upd (But.refl _ _)⟩
    rw [← e.2.1] at lw
    omega
  · have e := V.str.inj (Option.some.inj (show some (V.str "gone") = some (V.str z) from hz))
    subst e
    have lw : qw.length = qs3.length + 1 := lw
    refine ⟨_, r1, r2, n, us1, us2, w, ps1, ps2, pw, qs1, qs2, qw, dput_k hO (putC ks_ne.2.1 ks_ne.2.2 _ _ _ _) (by show 3 < sizeLine; decide), upd_same, h1.ev ev, h2.ev ev, hn.ev ev, fun l => ⟨l1, l2, l⟩, fun e => ?_, But.upd (But.refl _ _)⟩
    rw [← e.2.2] at lw
    omega
/-- the row of a turn -/
theorem turnD {K : PySem.W.Frag} {H : Hp} {D r1 r2 r3 : Addr} {us1 us2 us3 : List V} {ps1 ps2 ps3 : List Pc} {qs1 qs2 qs3 : List (Str × Str)} {i : Nat} {z : Str} (hD : H D = some (.dK [(.inr "row", .ref r1), (.inr "fix", .ref r2), (.inr "gone", .ref r3)])) (h1 : RwT K H r1 us1 ps1 qs1 "row") (h2 : RwT K H r2 us2 ps2 qs2 "fix") (h3 : RwT K H r3 us3 ps3 qs3 "gone") (hi : i < 3) (hz : ws3[i]? = some (.str z)) :
    ∃ r us ps qs, (∀ H', Same H H' → DGet H' D (.str z) (some (.ref r))) ∧ RwT K H r us ps qs z ∧ qs = (if i = 0 then qs1 else if i = 1 then qs2 else qs3) := by
  rcases (show i = 0 ∨ i = 1 ∨ i = 2 by omega) with e | e | e <;> subst e
  · have e := V.str.inj (Option.some.inj (show some (V.str "row") = some (V.str z) from hz))
    subst e
    exact ⟨r1, us1, ps1, qs1, fun _ s => DGet.k (k := Sum.inr "row") (s _ _ hD), h1, rfl⟩
  · have e := V.str.inj (Option.some.inj (show some (V.str "fix") = some (V.str z) from hz))
    subst e
    exact ⟨r2, us2, ps2, qs2, fun _ s => DGet.k (k := Sum.inr "fix") (s _ _ hD), h2, rfl⟩
  · have e := V.str.inj (Option.some.inj (show some (V.str "gone") = some (V.str z) from hz))
    subst e
    exact ⟨r3, us3, ps3, qs3, fun _ s => DGet.k (k := Sum.inr "gone") (s _ _ hD), h3, rfl⟩
theorem turnS {H : Hp} {S : Addr} {v1 v2 v3 : V} {n i : Nat} {z : Str} (hS : H S = some (.dK [(.inr "row", v1), (.inr "fix", v2), (.inr "gone", v3)])) (h1 : RwL H v1 n) (h2 : RwL H v2 n) (h3 : RwL H v3 n) (hi : i < 3) (hz : ws3[i]? = some (.str z)) :
    ∃ v, DGet H S (.str z) (some v) ∧ RwL H v n ∧ (v = v1 ∨ v = v2 ∨ v = v3) := by
  rcases (show i = 0 ∨ i = 1 ∨ i = 2 by omega) with e | e | e <;> subst e
  · have e := V.str.inj (Option.some.inj (show some (V.str "row") = some (V.str z) from hz))
    subst e
    exact ⟨v1, DGet.k (k := Sum.inr "row") hS, h1, .inl rfl⟩
  · have e := V.str.inj (Option.some.inj (show some (V.str "fix") = some (V.str z) from hz))
    subst e
    exact ⟨v2, DGet.k (k := Sum.inr "fix") hS, h2, .inr (.inl rfl)⟩
  · have e := V.str.inj (Option.some.inj (show some (V.str "gone") = some (V.str z) from hz))
    subst e
    exact ⟨v3, DGet.k (k := Sum.inr "gone") hS, h3, .inr (.inr rfl)⟩
def rSlU (K : PySem.W.Frag) : V → Option Int → Option Int → Hp → VK → Prop := fun x lo hi H Q => ∃ a xs, x = .ref a ∧ SqT K H a xs ∧ ∀ u H', Same H H' → SqT K H' u (cutV xs lo hi) → Q (.ref u) H'
theorem sl_tupU {X : Cx} : SlR X (rSlU X.K) := by
  intro pins s σ H x v vl vu lo hi sl Q I rx hs pl pu h
  obtain ⟨a, xs, rfl, hx, q⟩ := h
  refine sl_tupA pins s σ H _ v vl vu lo hi sl Q I rx hs pl pu ⟨a, xs, rfl, hx, fun hw => q a H (Same.refl H) ?_, fun _ p hp => q p _ (sameAt (Same.refl H) hp) (SqT.of upd_same)⟩
  have e : cutV xs lo hi = xs := by
    unfold cutV
    rw [hw.1, hw.2, List.drop_zero, Nat.sub_zero, List.take_length]
  rw [e]
  exact hx
end Ash

set_option Elab.async false
set_option linter.all false
set_option maxRecDepth 100000
set_option maxHeartbeats 4000000
set_option pp.maxSteps 600
namespace Ash
open PySem PySem.Spec PyProof.Rows L2
open C8 (pss_cut)
/-! ### the law -/
section
variable {P : Program} {w : World} {K : PySem.W.Frag} {mg : Str → Option Value} {base : Heap}
structure GL (P : Program) (w : World) (K : PySem.W.Frag) (mg : Str → Option Value) (base : Heap) (CF CE : Addr) : Prop extends G8 P w K mg base CF CE where
  law_stream : Cal P w K mg base CX0 "_law_stream" 1 ["script", "k"] (spStream K)
  law_draw : Cal P w K mg base CX0 "_law_draw" 1 ["stream", "many"] spDraw
  law_signs : Cal P w K mg base CX0 "_law_signs" 1 [] spSigns
  law_shape : Cal P w K mg base CX0 "_law_shape" 3 ["stream", "word", "signs", "often", "most"] (spShape K)
  law_spoiled : Cal P w K mg base CX0 "_law_spoiled" 3 ["stream", "pieces"] (spSpoiled K)
  law_made : Cal P w K mg base CX0 "_law_made" 5 ["shapes"] (spMade K CF)
  law_is_shape : Cal P w K mg base CX0 "_law_is_shape" 2 ["thing", "word"] (spLIsShape K)
  law_told : Cal P w K mg base CX0 "_law_told" 3 ["form", "due"] (spTold CF)
def spLaw (K : PySem.W.Frag) : Sp := fun vs H Q _ => ∃ (a : Addr) (ns : List Int), vs = [.ref a] ∧ SqL K H a (ns.map V.int) ∧ ns.length ≤ 63 ∧ ∀ H', Q (.bl true) H'
abbrev s_law : Stmt := topS 27
theorem sc_law : FnScope ["script", "shapes", "word", "stream", "pieces", "form", "refused", "below", "wrong", "due", "again", "other", "row"] ["script"] (defScope s_law) := ⟨rfl, rfl, rfl, by decide +kernel, rfl, by decide +kernel, by decide +kernel⟩
theorem ok_law {f CForm CE fq : Addr} {fd fdq : FuncData} (F : Fun K "law" "law" s_law f fd) (B : Blt mg) (cF : Cls K CForm) (nF : NoAttr K CForm "_shapes") (c_Form : mg "Form" = some (.ref CForm)) (kF : PySem.W.kitOne K (.ref CForm) (.ref CForm) = some true) (bF : ∀ {H : Hp} {a dx : Addr} {fs : List (Str × V)}, H a = some (.ins CForm dx fs) → TyX K H (.ref a) (.ref CForm)) (Z : NeF K (fun C => C = CForm) fq) (bq : Binds K fdq ["self", "other"] []) (Fq : FnOk P w K mg base CX0 2 fq fdq ["self", "other"] (spFEq CForm)) (nf : PySem.W.notFirst K CForm (.ref CForm) = true) (G : GL P w K mg base CForm CE) : FnOk P w K mg base CX0 6 f fd ["script"] (spLaw K) := by
  refine F.ok sc_law (fun vs H Q E h => ?_) (fun cdv A outer s H vs Q E hr h => ?_)
  · obtain ⟨a, ns, rfl, _⟩ := h
    rfl
  · obtain ⟨a, ns, rfl, ha, hn, q⟩ := h
    have hu := hu_of hr
    refine ⟨_, (pss_cons (ps_set (i := 1) sc_law.nd rfl (Or.inr rfl) pe_dnewK)
    (pss_cons (ps_for PassesOwn.never rfl (pi_list (pe_lst (pa_cons pe_str (pa_cons pe_str (pa_cons pe_str pa_nil))))) (pg_name (i := 2) sc_law.nd rfl (Or.inl rfl))
      (pss_cons (ps_set (i := 3) sc_law.nd rfl (Or.inl rfl) (pe_cal G.law_stream (hr.mono (by decide)) pass0 (pa_cons (pv 0) (pa_cons (pe_bm PySem.F.plainAttrs_list PySem.F.slot_list_index PySem.F.type_list_index mt_index (pe_lst (pa_cons pe_str (pa_cons pe_str (pa_cons pe_str pa_nil)))) (pa_cons (pv 2) pa_nil)) pa_nil))))
      (pss_cons (ps_set (i := 4) sc_law.nd rfl (Or.inl rfl) (pe_cal G.law_shape (hr.mono (by decide)) pass0 (pa_cons (pv 3) (pa_cons (pv 2) (pa_cons (pe_cal0 G.law_signs (hr.mono (by decide)) pass0) (pa_cons (pe_cal G.law_draw (hr.mono (by decide)) pass0 (pa_cons (pv 3) (pa_cons pe_int pa_nil))) (pa_cons pe_int pa_nil)))))))
      (pss_cut (ps_if (pt_cmpR op_eq (pe_cal G.law_draw (hr.mono (by decide)) pass0 (pa_cons (pv 3) (pa_cons pe_int pa_nil))) pe_int (nomark _))
        (pss_one (ps_set (i := 4) sc_law.nd rfl (Or.inl rfl) (pe_cal G.law_spoiled (hr.mono (by decide)) pass0 (pa_cons (pv 3) (pa_cons (pv 4) pa_nil)))))
        pss_nil)
      (pss_cut (ps_if (PW.pt (pw_and (pt_val (pe_callB call_isi (by rfl) B.isinstance (by decide +kernel) (pa_cons (pv 4) (pa_cons (pe_bltn (v := .ty "list") (by rfl) B.list (by decide +kernel) rfl) pa_nil)))) (pw_and1 (pt_cmpR op_eq (pe_cal G.law_draw (hr.mono (by decide)) pass0 (pa_cons (pv 3) (pa_cons pe_int pa_nil))) pe_int (nomark _)))))
        (pss_one (ps_set (i := 4) sc_law.nd rfl (Or.inl rfl) (pe_callTy (show CallR _ (.type "tuple") (rTupOf K) from call_tuple_of) (by rfl) B.tuple (by decide +kernel) (pa_cons (pv 4) pa_nil))))
        pss_nil)
      (pss_one (ps_dput hu (pv 1) (pv 2) (pv 4) rfl)))))))
    (pss_cons (ps_asg (pe_cal G.law_made (hr.mono (by decide)) pass0 (pa_cons (pv 1) pa_nil)) (pg_tup (by rfl) (pgs_cons (pg_name (i := 5) sc_law.nd rfl (Or.inl rfl)) (pgs_cons (pg_name (i := 6) sc_law.nd rfl (Or.inl rfl)) (pgs_cons (pg_name (i := 7) sc_law.nd rfl (Or.inl rfl)) pgs_nil)))))
    (pss_cons (ps_setLc (i := 8) (own := [("word", 2)]) (g := gName 2) (by rfl) sc_law.nd rfl rfl (sw_true rfl rfl rfl (by decide +kernel)) (pi_list (pe_lst (pa_cons pe_str (pa_cons pe_str (pa_cons pe_str pa_nil))))) (blkOk_by (own := [("word", 2)]) (N := ["script", "shapes", "word", "stream", "pieces", "form", "refused", "below", "wrong", "due", "again", "other", "row"]) (sc := defScope s_law) (by decide +kernel)) (fun _ _ _ _ _ => (pg_name (i := 2) sc_law.nd rfl (Or.inl rfl))) (fun _ _ _ _ _ => pts_one (pt_not (pt_val (pe_cal G.law_is_shape (hr.mono (by decide)) pass0 (pa_cons (pe_dget hu (pv 1) (pv 2) (fun _ _ => rfl)) (pa_cons (pv 2) pa_nil)))))) (fun _ _ _ _ _ => (pv 2)))
    (pss_cons (ps_if (pt_cmpR op_gt (pe_callB call_len (by rfl) B.len (by decide +kernel) (pa_cons (pv 8) pa_nil)) pe_int (nomark _))
      (pss_one (ps_ret (pe_and (pe_cmpR op_isN (pv 5) pe_non (nomark _)) (pe_and (pe_cmpR op_eq (pv 6) (pe_ix ix_list (pv 8) pe_int (fun _ _ => rfl)) (nomark _)) (pe_one (pv 7))))))
      pss_nil)
    (pss_cons (ps_set (i := 9) sc_law.nd rfl (Or.inl rfl) pe_dnewK)
    (pss_cons (ps_for PassesOwn.never rfl (pi_list (pe_lst (pa_cons pe_str (pa_cons pe_str (pa_cons pe_str pa_nil))))) (pg_name (i := 2) sc_law.nd rfl (Or.inl rfl))
      (pss_one (ps_dput hu (pv 9) (pv 2) (pe_callTy (show CallR _ (.type "tuple") (rTupOf K) from call_tuple_of) (by rfl) B.tuple (by decide +kernel) (pa_cons (pe_dget hu (pv 1) (pv 2) (fun _ _ => rfl)) pa_nil)) rfl)))
    (pss_cons (ps_if (PW.pt (pw_or (pt_cmpR op_ne (pv 6) pe_str (nomark _)) (pw_or (pt_not (pt_val (pe_callB call_isi (by rfl) B.isinstance (by decide +kernel) (pa_cons (pv 5) (pa_cons (pe_glob (v := .ref CForm) (by rfl) c_Form rfl) pa_nil))))) (pw_or1 (pt_not (pt_val (pe_cal G.law_told (hr.mono (by decide)) pass0 (pa_cons (pv 5) (pa_cons (pv 9) pa_nil)))))))))
      (pss_one (ps_ret pe_bl))
      pss_nil)
    (pss_cons (ps_set (i := 10) sc_law.nd rfl (Or.inl rfl) (pe_mak G.Form (hr.mono (by decide)) passF (pa_cons (pe_callTy call_list_of (by rfl) B.list (by decide +kernel) (pa_cons (pe_dget hu (pv 9) pe_str (fun _ _ => rfl)) pa_nil)) (pa_cons (pe_callTy call_list_of (by rfl) B.list (by decide +kernel) (pa_cons (pe_dget hu (pv 9) pe_str (fun _ _ => rfl)) pa_nil)) (pa_cons (pe_callTy call_list_of (by rfl) B.list (by decide +kernel) (pa_cons (pe_dget hu (pv 9) pe_str (fun _ _ => rfl)) pa_nil)) pa_nil)))))
    (pss_cons (ps_if (PW.pt (pw_or (pt_not (pt_cmpR (op_eqF Z Fq bq pass0 (hr.mono (by decide))) (pv 5) (pv 10) (nomark _))) (pw_or1 (pt_cmpR (op_neFV Z Fq bq pass0 (hr.mono (by decide))) (pv 5) (pv 10) (nomark _)))))
      (pss_one (ps_ret pe_bl))
      pss_nil)
    (pss_cons (ps_for PassesOwn.never rfl (pi_list (pe_lst (pa_cons pe_str (pa_cons pe_str (pa_cons pe_str pa_nil))))) (pg_name (i := 2) sc_law.nd rfl (Or.inl rfl))
      (pss_cons (ps_set (i := 11) sc_law.nd rfl (Or.inl rfl) (pe_callTy call_dictD (by rfl) B.dict (by decide +kernel) (pa_cons (pv 9) pa_nil)))
      (pss_cons (ps_dput hu (pv 11) (pv 2) (pe_op op_catT (pe_tup (pa_cons (pe_tup (pa_cons pe_str (pa_cons pe_str pa_nil))) pa_nil)) (pe_slice (show SlR _ (rSlU K) from sl_tupU) (pe_dget hu (pv 9) (pv 2) (fun _ _ => rfl)) po_none (po_some pe_int))) rfl)
      (pss_cut (ps_if (PW.pt (pw_and (pt_cmpR op_lt (pe_callB call_len_seq (by rfl) B.len (by decide +kernel) (pa_cons (pe_dget hu (pv 9) (pv 2) (fun _ _ => rfl)) pa_nil)) pe_int (nomark _)) (pw_and1 (pt_cmpR (op_eqF Z Fq bq pass0 (hr.mono (by decide))) (pv 5) (pe_mak G.Form (hr.mono (by decide)) passF (pa_cons (pe_dget hu (pv 11) pe_str (fun _ _ => rfl)) (pa_cons (pe_dget hu (pv 11) pe_str (fun _ _ => rfl)) (pa_cons (pe_dget hu (pv 11) pe_str (fun _ _ => rfl)) pa_nil)))) (nomark _)))))
        (pss_one (ps_ret pe_bl))
        pss_nil)
      (pss_one (ps_if (pt_val (pe_callB call_isi (by rfl) B.isinstance (by decide +kernel) (pa_cons (pe_dget hu (pv 1) (pv 2) (fun _ _ => rfl)) (pa_cons (pe_bltn (v := .ty "list") (by rfl) B.list (by decide +kernel) rfl) pa_nil))))
        (pss_cons (ps_set (i := 12) sc_law.nd rfl (Or.inl rfl) (pe_dget hu (pv 1) (pv 2) (fun _ _ => rfl)))
        (pss_cons (ps_expr (pe_bm PySem.F.plainAttrs_list PySem.F.slot_list_append PySem.F.type_list_append mt_append (pv 12) (pa_cons (pe_tup (pa_cons pe_str (pa_cons pe_str pa_nil))) pa_nil)))
        (pss_one (ps_expr (pe_bm0 PySem.F.plainAttrs_list PySem.F.slot_list_reverse PySem.F.type_list_reverse mt_reverse (pv 12))))))
        pss_nil))))))
    (pss_one (ps_ret (pe_cal G.law_told (hr.mono (by decide)) pass0 (pa_cons (pv 5) (pa_cons (pv 9) pa_nil)))))))))))))))), ?_⟩
    refine fun S hS => ⟨by show 3 ≤ sizeLine; decide, fun l hl => ⟨l, rfl, ⟨_, SqL.of upd_same⟩, ?_⟩⟩
    have sl := sameAt (o := .lst ws3) (Same.refl _) hl
    have hS0 : upd (upd H S (.dK [])) l (.lst ws3) S = some (.dK []) := sl _ _ upd_same
    have a0 : SqL K (upd (upd H S (.dK [])) l (.lst ws3)) a (ns.map V.int) := SqL.sm ha ((sameAt (o := .dK []) (Same.refl H) hS).trans sl)
    refine for_it (walk_list (K := K) (a := l) (xs := ws3)) (fun i σ H1 => (∃ x2 x3 x4, σ = [some (.ref a), some (.ref S), x2, x3, x4, none, none, none, none, none, none, none, none]) ∧ ShsAt K H1 S i ∧ H1 l = some (.lst ws3) ∧ SqL K H1 a (ns.map V.int)) ⟨⟨_, _, _, rfl⟩, hS0, upd_same, a0⟩ (fun i σ H1 _ hv => SqL.of hv.2.2.1) ?_ ?_
    · rintro i x σ H1x H1 hi ⟨⟨x2, x3, x4, rfl⟩, hs, hl1, ha1⟩ ⟨rfl, hx⟩
      have hi : i < 3 := hi
      obtain ⟨z, rfl, hno⟩ := ws_ix hi hx
      refine ⟨_, rfl, (by show 3 ≤ sizeLine; decide), fun l2 hl2 => ?_⟩
      have s2 := sameAt (o := .lst ws3) (Same.refl H1) hl2
      refine ⟨.inl ⟨rfl, _, SqL.of upd_same⟩, _, rfl, l2, ws3, .str z, i, .str z, rfl, rfl, SqL.of upd_same, rfl, rfl, hx, decide_eq_true rfl, hno, ?_⟩
      refine ⟨a, ns, i, rfl, by omega, SqL.sm ha1 s2, hn, fun p H3 hp0 hP s3 => ?_⟩
      have hp1 : H1 p = none := none_of s2 hp0
      have s13 := s2.trans s3
      refine ⟨_, rfl, _, rfl, rfl, fun sg ok g1 g2 => ⟨_, rfl, p, 5, rfl, hP, by decide, by decide, fun d H4 d0 d5 P4 => ?_⟩⟩
      refine ⟨p, z, sg, d, 6, rfl, P4.now, ok, g1, g2, by decide, by decide, fun lp us ps H5 hlp0 hlp hps n13 hfs P5 => ?_⟩
      have P45 := P4.trans P5
      obtain ⟨fs, hfs, hpm⟩ := hfs
      refine ⟨fun σ H6 => ∃ v sh, σ = [some (.ref a), some (.ref S), some (.str z), some (.ref p), some v, none, none, none, none, none, none, none, none] ∧ ShA K H6 v sh ∧ Pl H3 H6 p ∧ ∀ b, v = .ref b → b ≠ p, ?_, ?_⟩
      · refine ⟨_, rfl, p, 3, rfl, P45.now, by decide, by decide, fun d6 H6 e0 e3 P6 => ?_⟩
        have P46 := P45.trans P6
        have hlpp : lp ≠ p := fun e => P4.now.ne (e ▸ hlp0)
        have hps6 := hps.ev (Ev.pl P5.now P6)
        have hl6 := P6.keep hlp hlpp
        refine ⟨rfl, _, rfl, ite2 (fun c => ?_) (fun c => ⟨.ref lp, .row ps, rfl, ⟨lp, us, rfl, .inl hl6, hps6, by omega⟩, P46, fun b e => by cases e; exact hlpp⟩)⟩
        refine ⟨_, rfl, _, rfl, p, lp, us, ps, rfl, P6.now, hlpp, hl6, hps6, pcs_one hfs hpm, n13, fun v sh H7 hv hv0 P7 => ⟨v, sh, rfl, hv, (P4.trans (P5.trans P6)).trans P7, fun b e ep => P6.now.ne (by rw [← ep]; exact hv0 b e)⟩⟩
      · rintro σ H6 ⟨v, sh, rfl, hv, P6, hvp⟩
        refine ⟨fun σ H7 => ∃ v sh, σ = [some (.ref a), some (.ref S), some (.str z), some (.ref p), some v, none, none, none, none, none, none, none, none] ∧ ShA K H7 v sh ∧ Pl H3 H7 p, ?_, ?_⟩
        · cases sh with
          | no =>
            obtain ⟨t, h1, h2, h3⟩ := id hv
            exact ⟨_, rfl, _, _, _, _, false, rfl, .ty _, h1, h2, _, rfl, iteN rfl (iteN rfl ⟨v, .no, rfl, hv, P6⟩)⟩
          | row ps6 =>
            obtain ⟨b6, us6, rfl, hb6, hps6, n6⟩ := id hv
            rcases hb6 with hb6 | hb6
            rotate_left
            · exact ⟨_, rfl, _, _, _, _, false, rfl, .ty _, .base (.tup hb6), kit_ty (by decide +kernel), _, rfl, iteN rfl (iteN rfl ⟨_, .row ps6, rfl, hv, P6⟩)⟩
            have hbp : b6 ≠ p := hvp b6 rfl
            refine ⟨_, rfl, _, _, _, _, true, rfl, .ty _, .base (.lst hb6), kit_ty (by decide +kernel), _, rfl, iteP rfl ⟨_, rfl, p, 2, rfl, P6.now, by decide, by decide, fun d7 H7 e0 e2 P7 => ?_⟩⟩
            have hps7 := hps6.ev (Ev.pl P6.now P7)
            have hb7 := P7.keep hb6 hbp
            refine ⟨rfl, _, rfl, ite2 (fun c => ?_) (fun c => ⟨_, .row ps6, rfl, ⟨b6, us6, rfl, .inl hb7, hps7, n6⟩, P6.trans P7⟩)⟩
            refine ⟨_, rfl, b6, us6, rfl, .inl ⟨SqL.of hb7, fun t ht => ?_⟩⟩
            exact ⟨_, .row ps6, rfl, ⟨t, us6, rfl, .inr upd_same, hps7.ev (Ev.new (Ev.refl _) ht), n6⟩, (P6.trans P7).new ht⟩
        · rintro σ H7 ⟨v, sh, rfl, hv, P7⟩
          have s17 := s2.trans (same_pl s3 hp0 P7)
          obtain ⟨H8, hput, hs8, b8⟩ := shs_put hs hi hx s17 hv
          obtain ⟨ks, hk⟩ := hs.dk
          refine ⟨_, rfl, _, rfl, _, rfl, S, H8, rfl, hput, ⟨_, _, _, rfl⟩, hs8, b8 _ _ (s17 _ _ hl1) (fun e => by rw [e, hk] at hl1; cases hl1), SqL.but (SqL.sm ha1 s17) ⟨ks, s17 _ _ hk⟩ b8⟩
    · rintro σ H1 ⟨⟨x2, x3, x4, rfl⟩, hs, hl1, ha1⟩
      obtain ⟨v1, v2, v3, s1, s2, s3, hS1, h1, h2, h3⟩ := (show ShsAt K H1 S 3 from hs)
      clear hs
      obtain ⟨c1, e1⟩ : ∃ c, c = true ↔ s1.good "row" := by classical exact ⟨decide _, decide_eq_true_iff⟩
      obtain ⟨c2, e2⟩ : ∃ c, c = true ↔ s2.good "fix" := by classical exact ⟨decide _, decide_eq_true_iff⟩
      obtain ⟨c3, e3⟩ : ∃ c, c = true ↔ s3.good "gone" := by classical exact ⟨decide _, decide_eq_true_iff⟩
      refine ⟨_, rfl, S, v1, v2, v3, s1, s2, s3, rfl, hS1, h1, h2, h3, ?_⟩
      by_cases g : s1.good "row" ∧ s2.good "fix" ∧ s3.good "gone"
      · obtain ⟨g1, g2, g3⟩ := g
        have i1 : c1 = true := e1.mpr g1
        have i2 : c2 = true := e2.mpr g2
        have i3 : c3 = true := e3.mpr g3
        refine .inl ⟨g1, g2, g3, fun t b us1 us2 us3 H2 r1 r2 r3 hF ht sM => ?_⟩
        refine ⟨t, _, rfl, SqT.of ht, rfl, _, _, rfl, _, _, rfl, _, _, rfl, rfl, ?_⟩
        have hS2 := sM _ _ hS1
        refine ⟨by show 3 ≤ sizeLine; decide, fun l2 hl2 => ⟨l2, rfl, ⟨_, SqL.of upd_same⟩, fun D9 hD9 => ?_⟩⟩
        have sl2 := sameAt (o := .lst ws3) (Same.refl H2) hl2
        refine lc_list (a := l2) (xs := ws3) (fun i H3 => H3 D9 = some (.lst ((badF c1 c2 c3 i).map V.str)) ∧ Same (upd H2 l2 (.lst ws3)) H3) ⟨upd_same, sameAt (Same.refl _) hD9⟩ (fun i H1 _ hv => SqL.of (hv.2 _ _ upd_same)) ?_ ?_
        · rintro i x H3 hx ⟨hD3, s3⟩
          have hi : i < 3 := by
            obtain ⟨h, _⟩ := List.getElem?_eq_some_iff.mp hx
            exact h
          obtain ⟨z', rfl, _⟩ := ws_ix hi hx
          have sH := sM.trans (sl2.trans s3)
          obtain ⟨v, sh, c, hg, hv, ec, eB⟩ := turn3 hS1 h1 h2 h3 e1 e2 e3 hi hx
          refine ⟨rfl, _, rfl, _, rfl, S, v, rfl, hg _ sH, _, rfl, v, sh, z', rfl, hv.ev sH, fun b H4 eb s4 => ⟨b, rfl, ?_⟩⟩
          obtain rfl : b = c := Bool.eq_iff_iff.mpr (eb.trans ec.symm)
          cases b with
          | true =>
            refine iteN rfl ⟨?_, s3.trans s4⟩
            rw [eB, s4 _ _ hD3]
            exact congrArg (fun l => some (HO.lst (List.map V.str l))) (List.append_nil _).symm
          | false =>
            refine iteP rfl ⟨_, rfl, _, s4 _ _ hD3, ?_, ?_, sameAt (s3.trans s4) hD9⟩
            · rw [List.length_map]
              have := badF_len (c1 := c1) (c2 := c2) (c3 := c3) (i := i)
              exact small1000 (by omega)
            · rw [upd_same, eB, List.map_append]
              rfl
        · rintro H3 ⟨hD3, s3⟩
          rw [show ws3.length = 3 from rfl, i1, i2, i3] at hD3
          have hD3 : H3 D9 = some (.lst []) := hD3
          refine ⟨_, rfl, _, _, rfl, .inl ⟨_, SqL.of hD3, rfl⟩, _, _, rfl, rfl, _, rfl, iteN (decide_eq_false (by show ¬ ((0 : Int) < ((0 : Nat) : Int)); omega)) ?_⟩
          have s13 := sM.trans (sl2.trans s3)
          obtain ⟨ps1, qs1, rfl, hp1, hq1, g11, g12, g13⟩ := good_row h1 g1 r1
          obtain ⟨ps2, qs2, rfl, hp2, hq2, g21, g22, g23⟩ := good_row h2 g2 r2
          obtain ⟨ps3, qs3, rfl, hp3, hq3, g31, g32, g33⟩ := good_row h3 g3 r3
          have hF3 := hF.same (sl2.trans s3)
          clear hD3 hS2 hF ht e1 e2 e3
          refine fun D hD => ⟨by show 3 ≤ sizeLine; decide, fun l3 hl3 => ⟨l3, rfl, ⟨_, SqL.of upd_same⟩, ?_⟩⟩
          have sl3 := sameAt (o := .lst ws3) (Same.refl _) hl3
          have sd3 := sameAt (o := .dK []) (Same.refl H3) hD
          refine for_it (walk_list (K := K) (a := l3) (xs := ws3)) (fun i σ H4 => (∃ x2, σ = [some (.ref a), some (.ref S), x2, x3, x4, some (.ref b), some (.str ""), some (.bl true), some (.ref D9), some (.ref D), none, none, none]) ∧ DuAt H4 D us1 us2 us3 i ∧ H4 l3 = some (.lst ws3) ∧ Same H3 H4) ⟨⟨_, rfl⟩, sl3 _ _ upd_same, upd_same, sd3.trans sl3⟩ (fun i σ H1 _ hv => SqL.of hv.2.2.1) ?_ ?_
          · rintro i x σ H4x H4 hi ⟨⟨x2, rfl⟩, hd, hl4, s4⟩ ⟨rfl, hx⟩
            have hi : i < 3 := hi
            obtain ⟨z, rfl, _⟩ := ws_ix hi hx
            obtain ⟨v, hg, hv⟩ := turnU hS1 r1 r2 r3 hi hx
            have hv4 := hv.same (s13.trans s4)
            obtain ⟨a', rfl, ha'⟩ := id hv4
            obtain ⟨kd, hkd⟩ := hd.dk
            have lD : l3 ≠ D := fun e => by rw [e, hkd] at hl4; cases hl4
            refine ⟨_, rfl, _, rfl, S, _, rfl, hg _ (s13.trans s4), a', pickU us1 us2 us3 i, rfl, ?_⟩
            rcases ha' with ha' | ha'
            · refine .inl ⟨SqL.of ha', fun t ht => ?_⟩
              have st := sameAt (o := .tup (pickU us1 us2 us3 i)) (Same.refl H4) ht
              obtain ⟨H5, hput, hd5, b5⟩ := due_put hd hi hx st (r := t) upd_same
              refine ⟨_, rfl, _, rfl, D, H5, rfl, hput, ⟨_, rfl⟩, hd5, b5 _ _ (st _ _ hl4) lD, fun c o hc => b5 _ _ (st _ _ (s4 _ _ hc)) (fun e => by rw [e, hD] at hc; cases hc)⟩
            · refine .inr ⟨SqT.of ha', ?_⟩
              obtain ⟨H5, hput, hd5, b5⟩ := due_put hd hi hx (Same.refl H4) (r := a') ha'
              refine ⟨_, rfl, _, rfl, D, H5, rfl, hput, ⟨_, rfl⟩, hd5, b5 _ _ hl4 lD, fun c o hc => b5 _ _ (s4 _ _ hc) (fun e => by rw [e, hD] at hc; cases hc)⟩
          · rintro σ H4 ⟨⟨x2, rfl⟩, hd, hl4, s4⟩
            have hd : DueAt H4 D us1 us2 us3 := hd
            have hF4 := hF3.same s4
            obtain ⟨dx, dd, t1, t2, t3, f1, f2, f3⟩ := id hF4
            have sH4 := s13.trans s4
            have ev4 := Ev.same sH4
            have hl1 := hq1.len
            have hl2 := hq2.len
            have hl3 := hq3.len
            have hp1l := hp1.len
            have hp2l := hp2.len
            have hp3l := hp3.len
            refine ⟨_, rfl, rfl, _, rfl, iteN (by rw [decide_eq_true rfl]; rfl) ⟨_, rfl, _, _, _, _, true, rfl, .own _, bF f1, kF, _, rfl, iteN rfl ⟨_, rfl, _, rfl, b, D, us1, us2, us3, qs1, qs2, qs3, rfl, hF4, hd, hq1.ev ev4, hq2.ev ev4, hq3.ev ev4, by omega, by omega, by omega, fun H5 s5 => ⟨_, rfl, iteN rfl ?_⟩⟩⟩⟩
            have hd5 := hd.same s5
            have hF5 := hF4.same s5
            obtain ⟨q1, q2, q3, d0, d1, d2, d3⟩ := id hd5
            refine ⟨_, rfl, D, .ref q1, rfl, DGet.k (k := Sum.inr "row") d0, q1, us1, rfl, .inr (SqT.of d1), fun l6 hl6 => ?_⟩
            have s6 := sameAt (o := .lst us1) (Same.refl H5) hl6
            refine ⟨_, rfl, D, .ref q2, rfl, DGet.k (k := Sum.inr "fix") (s6 _ _ d0), q2, us2, rfl, .inr (SqT.of (s6 _ _ d2)), fun l7 hl7 => ?_⟩
            have s7 := s6.trans (sameAt (o := .lst us2) (Same.refl _) hl7)
            refine ⟨_, rfl, D, .ref q3, rfl, DGet.k (k := Sum.inr "gone") (s7 _ _ d0), q3, us3, rfl, .inr (SqT.of (s7 _ _ d3)), fun l8 hl8 => ?_⟩
            have s8 := s7.trans (sameAt (o := .lst us3) (Same.refl _) hl8)
            refine fun y dy hy hdy hne => ?_
            have s66 : Same (upd H5 l6 (.lst us1)) (upd (upd H5 l6 (.lst us1)) l7 (.lst us2)) := sameAt (Same.refl _) hl7
            have s77 : Same (upd (upd H5 l6 (.lst us1)) l7 (.lst us2)) (upd (upd (upd H5 l6 (.lst us1)) l7 (.lst us2)) l8 (.lst us3)) := sameAt (Same.refl _) hl8
            have sN : Same (upd (upd (upd H5 l6 (.lst us1)) l7 (.lst us2)) l8 (.lst us3)) (upd (upd (upd (upd (upd H5 l6 (.lst us1)) l7 (.lst us2)) l8 (.lst us3)) dy (.own y)) y (.ins CForm dy [])) := sameAt (sameAt (Same.refl _) hdy) hy
            have k6 := sN _ _ (s77 _ _ (s66 _ _ upd_same))
            have k7 := sN _ _ (s77 _ _ upd_same)
            have k8 := sN _ _ upd_same
            have evN := Ev.same (sH4.trans (s5.trans (s8.trans sN)))
            refine ⟨y, dy, .ref l6, .ref l7, .ref l8, .row ps1, .row ps2, .row ps3, rfl, upd_same, ⟨l6, us1, rfl, .inl k6, hp1.ev evN, by omega⟩, ⟨l7, us2, rfl, .inl k7, hp2.ev evN, by omega⟩, ⟨l8, us3, rfl, .inl k8, hp3.ev evN, by omega⟩, .inl ⟨g1, g2, g3, fun u1 u2 u3 H6 w1 w2 w3 hFy hK => ⟨rfl, ?_⟩⟩⟩
            obtain rfl := rwa_lst k6 w1
            obtain rfl := rwa_lst k7 w2
            obtain rfl := rwa_lst k8 w3
            have s56 : Same H5 H6 := s8.trans (keep_same sN hy hK)
            have hF6 := hF5.same s56
            have hd6 := hd5.same s56
            have ev6 := Ev.same (sH4.trans (s5.trans s56))
            obtain ⟨dx', _, _, _, _, m1, _⟩ := id hF6
            obtain ⟨dy', _, _, _, _, m2, _⟩ := id hFy
            have mb : FmP CForm H6 b qs1 qs2 qs3 := ⟨_, _, _, hF6, hq1.ev ev6, hq2.ev ev6, hq3.ev ev6⟩
            have my : FmP CForm H6 y qs1 qs2 qs3 := ⟨_, _, _, hFy, hq1.ev ev6, hq2.ev ev6, hq3.ev ev6⟩
            refine ⟨_, rfl, _, rfl, b, CForm, _, _, _, rfl, m1, rfl, bF m2, nf, b, y, qs1, qs2, qs3, qs1, qs2, qs3, rfl, mb, my, _, rfl, iteN (by rw [decide_eq_true ⟨rfl, rfl, rfl⟩]; rfl) ⟨_, rfl, _, rfl, b, CForm, _, _, _, rfl, m1, rfl, bF m2, nf, b, y, qs1, qs2, qs3, qs1, qs2, qs3, rfl, mb, my, _, rfl, _, rfl, iteN (by rw [decide_eq_true ⟨rfl, rfl, rfl⟩]; rfl) ?_⟩⟩
            obtain ⟨z1, z2, z3, e0, y1, y2, y3⟩ := id hd6
            have T1 : RwT K H6 z1 us1 ps1 qs1 "row" := ⟨y1, hp1.ev ev6, hq1.ev ev6, g11, g13⟩
            have T2 : RwT K H6 z2 us2 ps2 qs2 "fix" := ⟨y2, hp2.ev ev6, hq2.ev ev6, g21, g23⟩
            have T3 : RwT K H6 z3 us3 ps3 qs3 "gone" := ⟨y3, hp3.ev ev6, hq3.ev ev6, g31, g33⟩
            have sH6 := sH4.trans (s5.trans s56)
            refine ⟨by show 3 ≤ sizeLine; decide, fun l9 hl9 => ⟨l9, rfl, ⟨_, SqL.of upd_same⟩, ?_⟩⟩
            have s9 := sameAt (o := .lst ws3) (Same.refl H6) hl9
            have apart : ∀ {v us a'}, RwA H1 v us → v = .ref a' → a' ≠ l9 := fun {v us a'} r e q => by
              obtain ⟨c, e', r⟩ := r.same sH6
              rw [e] at e'
              cases e'
              rcases r with r | r <;> rw [q, hl9] at r <;> cases r
            refine for_it (walk_list (K := K) (a := l9) (xs := ws3)) (fun i σ H7 => (∃ x2 x11 x12, σ = [some (.ref a), some (.ref S), x2, x3, x4, some (.ref b), some (.str ""), some (.bl true), some (.ref D9), some (.ref D), some (.ref y), x11, x12]) ∧ Lx H6 H7 ∧ H7 l9 = some (.lst ws3) ∧ RwL H7 v1 (20 + i) ∧ RwL H7 v2 (20 + i) ∧ RwL H7 v3 (20 + i)) ⟨⟨_, _, _, rfl⟩, Lx.same s9, upd_same, RwL.of ((r1.same sH6).same s9) (by omega), RwL.of ((r2.same sH6).same s9) (by omega), RwL.of ((r3.same sH6).same s9) (by omega)⟩ (fun i σ H1 _ hv => SqL.of hv.2.2.1) ?_ ?_
            · rintro i x σ H7x H7 hi ⟨⟨x2, x11, x12, rfl⟩, L7, hl97, w1, w2, w3⟩ ⟨rfl, hx⟩
              have hi : i < 3 := hi
              obtain ⟨z, rfl, _⟩ := ws_ix hi hx
              have e07 := L7.get e0 (fun _ q => by cases q)
              obtain ⟨r, us, ps, qs, hg, hT, hqs⟩ := turnD e07 (T1.ev L7.ev) (T2.ev L7.ev) (T3.ev L7.ev) hi hx
              refine ⟨_, rfl, D, _, rfl, .inl e07, fun O hO => ?_⟩
              have so := sameAt (o := .dK [(.inr "row", .ref z1), (.inr "fix", .ref z2), (.inr "gone", .ref z3)]) (Same.refl H7) hO
              refine ⟨by show 2 ≤ sizeLine; decide, fun m hm => ⟨by show 1 ≤ sizeLine; decide, fun tm htm => ?_⟩⟩
              have sm := sameAt (o := .tup [.str "mark", .str "a"]) (Same.refl _) hm
              have stm := sameAt (o := .tup [.ref m]) (Same.refl _) htm
              have s7t := so.trans (sm.trans stm)
              refine ⟨_, rfl, _, rfl, D, .ref r, rfl, hg _ s7t, ?_⟩
              have e0t := (Lx.same s7t).get e07 (fun _ q => by cases q)
              refine ⟨_, rfl, r, us, rfl, SqT.of (s7t _ _ hT.1), fun u H8 s8u hu => ?_⟩
              have hu : SqT K H8 u (us.take 14) := by
                have e : cutV us none (some (14 : Int)) = us.take 14 := by
                  unfold cutV
                  rw [HT.sIx_none, show ((14 : Int)) = ((14 : Nat) : Int) from rfl, HT.sIx_nat, List.drop_zero, Nat.sub_zero]
                  by_cases q : 14 ≤ us.length
                  · rw [Nat.min_eq_left q]
                  · rw [Nat.min_eq_right (by omega), List.take_length, List.take_of_length_le (by omega)]
                rw [← e]
                exact hu
              have ul : us.length = ps.length := hT.2.1.len
              have u1 : 1 ≤ us.length := by rw [ul]; exact hT.2.2.2.1
              refine ⟨tm, u, [.ref m], us.take 14, rfl, rfl, SqT.of (s8u _ _ upd_same), hu, by simp, by rw [List.length_take, sizeLine_eq]; show 1 + _ ≤ _; omega, fun e => ?_, fun _ n hn => ?_⟩
              · exact absurd (congrArg List.length e) (by rw [List.length_take]; show ¬ (min 14 us.length = 0); omega)
              have sn := sameAt (o := .tup ([.ref m] ++ us.take 14)) (Same.refl H8) hn
              have s7n : Same H7 (upd H8 n (.tup ([.ref m] ++ us.take 14))) := s7t.trans (s8u.trans sn)
              have hO8 := sn _ _ (s8u _ _ ((sm.trans stm) _ _ upd_same))
              have hm8 := sn _ _ (s8u _ _ (stm _ _ upd_same))
              have ql : qs.length = us.length := hT.2.2.1.len.symm
              have hpu : ∃ H9, DPut (upd H8 n (.tup ([.ref m] ++ us.take 14))) O (.str z) (.ref n) H9 ∧ But O (upd H8 n (.tup ([.ref m] ++ us.take 14))) H9 ∧ (us.length < 15 → ∃ x1 x2 x3 w1 w2 w3 pp1 pp2 pp3 qq1 qq2 qq3, H9 O = some (.dK [(.inr "row", .ref x1), (.inr "fix", .ref x2), (.inr "gone", .ref x3)]) ∧ RwT K H9 x1 w1 pp1 qq1 "row" ∧ RwT K H9 x2 w2 pp2 qq2 "fix" ∧ RwT K H9 x3 w3 pp3 qq3 "gone" ∧ (pp1.length ≤ 15 ∧ pp2.length ≤ 15 ∧ pp3.length ≤ 15) ∧ ¬ (qs1 = qq1 ∧ qs2 = qq2 ∧ qs3 = qq3)) := by
                by_cases c : us.length < 15
                · have evn := L7.ev.trans (Ev.same s7n)
                  have hTn := (hT.ev (Ev.same s7n)).cons hm8 (n := n) (by rw [upd_same, List.take_of_length_le (by omega)]; rfl)
                  obtain ⟨H9, x1, x2, x3, w1', w2', w3', pp1, pp2, pp3, qq1, qq2, qq3, p1, p2, p3, p4, p5, p6, p7, p8⟩ := put_oth hO8 (T1.ev evn) (T2.ev evn) (T3.ev evn) hi hx hTn (by rw [List.length_cons, hqs]) (by omega) (by omega) (by omega)
                  exact ⟨H9, p1, p8, fun _ => ⟨x1, x2, x3, w1', w2', w3', pp1, pp2, pp3, qq1, qq2, qq3, p2, p3, p4, p5, p6 (by rw [List.length_cons]; omega), p7⟩⟩
                · exact ⟨_, DPut.k (k := .inr z) hO8 (by show 3 < sizeLine; decide), But.upd (But.refl _ _), fun c' => absurd c' c⟩
              obtain ⟨H9, hput, bO, hoth⟩ := hpu
              have s79 : Same H7 H9 := fun c o hc => bO _ _ (s7n _ _ hc) (fun e => by rw [e, hO] at hc; cases hc)
              refine ⟨_, rfl, _, rfl, O, H9, rfl, hput, ?_⟩
              refine ⟨fun σ H8 => (∃ x11 x12, σ = [some (.ref a), some (.ref S), some (.str z), x3, x4, some (.ref b), some (.str ""), some (.bl true), some (.ref D9), some (.ref D), some (.ref y), x11, x12]) ∧ Same H7 H8, ?_, ?_⟩
              · refine ⟨_, rfl, _, rfl, D, .ref r, rfl, hg _ s79, r, us, rfl, .inr (SqT.of (s79 _ _ hT.1)), ?_⟩
                by_cases c : us.length < 15
                · obtain ⟨o1, o2, o3, u1', u2', u3', pp1, pp2, pp3, qq1, qq2, qq3, hO9, R1, R2, R3, ⟨n1, n2, n3⟩, hne⟩ := hoth c
                  refine ⟨_, _, rfl, rfl, _, rfl, iteP (decide_eq_true (by omega)) ⟨_, rfl, _, rfl, O, .ref o1, rfl, DGet.k (k := Sum.inr "row") hO9, _, rfl, O, .ref o2, rfl, DGet.k (k := Sum.inr "fix") hO9, _, rfl, O, .ref o3, rfl, DGet.k (k := Sum.inr "gone") hO9, fun y2 dy2 hy2 hdy2 hne2 => ?_⟩⟩
                  have sN2 : Same H9 (upd (upd H9 dy2 (.own y2)) y2 (.ins CForm dy2 [])) := sameAt (sameAt (Same.refl _) hdy2) hy2
                  refine ⟨y2, dy2, .ref o1, .ref o2, .ref o3, .row pp1, .row pp2, .row pp3, rfl, upd_same, (R1.sha n1).1.ev sN2, (R2.sha n2).1.ev sN2, (R3.sha n3).1.ev sN2, .inl ⟨(R1.sha n1).2, (R2.sha n2).2, (R3.sha n3).2, fun a1 a2 a3 H10 k1 k2 k3 hFz hKz => ⟨rfl, ?_⟩⟩⟩
                  obtain rfl := rwa_tup (sN2 _ _ R1.1) k1
                  obtain rfl := rwa_tup (sN2 _ _ R2.1) k2
                  obtain rfl := rwa_tup (sN2 _ _ R3.1) k3
                  have s910 : Same H9 H10 := keep_same sN2 hy2 hKz
                  have e910 := Ev.same s910
                  have L10 := L7.trans (Lx.same (s79.trans s910))
                  have hF10 := hF6.lx L10
                  have ev10 := ev6.trans L10.ev
                  obtain ⟨_, _, _, _, _, m1', _⟩ := id hF10
                  obtain ⟨_, _, _, _, _, m2', _⟩ := id hFz
                  exact ⟨b, CForm, _, _, _, rfl, m1', rfl, bF m2', nf, b, y2, qs1, qs2, qs3, qq1, qq2, qq3, rfl, ⟨_, _, _, hF10, hq1.ev ev10, hq2.ev ev10, hq3.ev ev10⟩, ⟨_, _, _, hFz, R1.2.2.1.ev e910, R2.2.2.1.ev e910, R3.2.2.1.ev e910⟩, _, rfl, iteN (decide_eq_false hne) ⟨⟨_, _, rfl⟩, s79.trans s910⟩⟩
                · exact ⟨_, _, rfl, rfl, _, rfl, iteN (decide_eq_false (by omega)) (iteN rfl ⟨⟨_, _, rfl⟩, s79⟩)⟩
              · rintro σ H8 ⟨⟨x11, x12, rfl⟩, s8'⟩
                have L8 := L7.trans (Lx.same s8')
                have hS8 := L8.get (sH6 _ _ hS1) (fun _ q => by cases q)
                obtain ⟨v, hg8, hv8, hvv⟩ := turnS hS8 (w1.same s8' (Nat.le_refl _)) (w2.same s8' (Nat.le_refl _)) (w3.same s8' (Nat.le_refl _)) hi hx
                obtain ⟨a', rfl, hv8⟩ := hv8
                have ha9 : a' ≠ l9 := by
                  rcases hvv with e | e | e
                  · exact apart r1 e.symm
                  · exact apart r2 e.symm
                  · exact apart r3 e.symm
                rcases hv8 with ⟨xs, hxs, nx⟩ | ⟨xs, hxs⟩
                · refine ⟨_, rfl, _, rfl, S, _, rfl, hg8, _, _, _, _, true, rfl, .ty _, .base (.lst hxs), kit_ty (by decide +kernel), _, rfl, iteP rfl ⟨_, rfl, _, rfl, S, _, rfl, hg8, ?_⟩⟩
                  have up : ∀ {v}, RwL H7 v (20 + i) → ∀ {t : Addr} {ht : H8 t = none} {o : HO}, RwL (upd (upd (upd H8 t o) a' (.lst (xs ++ [V.ref t]))) a' (.lst (xs ++ [V.ref t]).reverse)) v (20 + (i + 1)) := fun {v} w {t ht o} => by
                    have h1 := (w.same s8' (Nat.le_refl _)).same (sameAt (o := o) (Same.refl H8) ht) (Nat.le_refl _)
                    have hx1 := sameAt (o := o) (Same.refl H8) ht _ _ hxs
                    have ln : (xs ++ [V.ref t]).length ≤ 20 + (i + 1) := by rw [List.length_append]; show _ + 1 ≤ _; omega
                    exact (h1.upd hx1 (by omega) ln).upd upd_same (Nat.le_refl _) (by rw [List.length_reverse]; exact ln)
                  refine ⟨_, rfl, .inl ⟨rfl, _, SqL.of hxs⟩, (by show 2 ≤ sizeLine; decide), fun t ht => ?_⟩
                  have hx1 := sameAt (o := .tup [.str "mark", .str "z"]) (Same.refl H8) ht _ _ hxs
                  have tl : t ≠ l9 := fun e => by rw [e, s8' _ _ hl97] at ht; cases ht
                  refine ⟨a', xs, _, rfl, rfl, hx1, small1000 (by omega), _, rfl, .inl ⟨rfl, _, SqL.of upd_same⟩, a', _, rfl, rfl, upd_same, ⟨_, _, _, rfl⟩, ((L8.trans (Lx.same (sameAt (Same.refl H8) ht))).upd hx1).upd upd_same, ?_, up w1 (ht := ht), up w2 (ht := ht), up w3 (ht := ht)⟩
                  rw [upd_ne ha9.symm, upd_ne ha9.symm, upd_ne tl.symm]
                  exact s8' _ _ hl97
                · exact ⟨_, rfl, _, rfl, S, _, rfl, hg8, _, _, _, _, false, rfl, .ty _, .base (.tup hxs), kit_ty (by decide +kernel), _, rfl, iteN rfl ⟨⟨_, _, _, rfl⟩, L8, s8' _ _ hl97, w1.same s8' (by omega), w2.same s8' (by omega), w3.same s8' (by omega)⟩⟩
            · rintro σ H7 ⟨⟨x2, x11, x12, rfl⟩, L7, hl97, w1, w2, w3⟩
              have e7 := ev6.trans L7.ev
              exact ⟨_, rfl, _, rfl, b, D, us1, us2, us3, qs1, qs2, qs3, rfl, hF6.lx L7, hd6.lx L7, hq1.ev e7, hq2.ev e7, hq3.ev e7, by omega, by omega, by omega, fun H8 _ => q H8⟩
      · have hb : ∃ z : Str, (¬ s1.good "row" ∧ z = "row" ∨ s1.good "row" ∧ ¬ s2.good "fix" ∧ z = "fix" ∨ s1.good "row" ∧ s2.good "fix" ∧ ¬ s3.good "gone" ∧ z = "gone") ∧ ∃ L, badF c1 c2 c3 3 = z :: L := by
          by_cases g1 : s1.good "row"
          · by_cases g2 : s2.good "fix"
            · have g3 : ¬ s3.good "gone" := fun g3 => g ⟨g1, g2, g3⟩
              have i1 : c1 = true := e1.mpr g1
              have i2 : c2 = true := e2.mpr g2
              have i3 : c3 = false := Bool.eq_false_iff.mpr (fun x => g3 (e3.mp x))
              exact ⟨"gone", .inr (.inr ⟨g1, g2, g3, rfl⟩), [], by rw [i1, i2, i3]; rfl⟩
            · have i1 : c1 = true := e1.mpr g1
              have i2 : c2 = false := Bool.eq_false_iff.mpr (fun x => g2 (e2.mp x))
              exact ⟨"fix", .inr (.inl ⟨g1, g2, rfl⟩), oneF c3 "gone", by rw [i1, i2]; rfl⟩
          · have i1 : c1 = false := Bool.eq_false_iff.mpr (fun x => g1 (e1.mp x))
            exact ⟨"row", .inl ⟨g1, rfl⟩, oneF c2 "fix" ++ oneF c3 "gone", by rw [i1]; rfl⟩
        obtain ⟨z, hz, L, hL⟩ := hb
        refine .inr ⟨z, hz, fun t H2 ht sM => ⟨t, _, rfl, SqT.of ht, rfl, _, _, rfl, _, _, rfl, _, _, rfl, rfl, ?_⟩⟩
        have hS2 := sM _ _ hS1
        refine ⟨by show 3 ≤ sizeLine; decide, fun l2 hl2 => ⟨l2, rfl, ⟨_, SqL.of upd_same⟩, fun D9 hD9 => ?_⟩⟩
        have sl2 := sameAt (o := .lst ws3) (Same.refl H2) hl2
        refine lc_list (a := l2) (xs := ws3) (fun i H3 => H3 D9 = some (.lst ((badF c1 c2 c3 i).map V.str)) ∧ Same (upd H2 l2 (.lst ws3)) H3) ⟨upd_same, sameAt (Same.refl _) hD9⟩ (fun i H1 _ hv => SqL.of (hv.2 _ _ upd_same)) ?_ ?_
        · rintro i x H3 hx ⟨hD3, s3⟩
          have hi : i < 3 := by
            obtain ⟨h, _⟩ := List.getElem?_eq_some_iff.mp hx
            exact h
          obtain ⟨z', rfl, _⟩ := ws_ix hi hx
          have sH := sM.trans (sl2.trans s3)
          obtain ⟨v, sh, c, hg, hv, ec, eB⟩ := turn3 hS1 h1 h2 h3 e1 e2 e3 hi hx
          refine ⟨rfl, _, rfl, _, rfl, S, v, rfl, hg _ sH, _, rfl, v, sh, z', rfl, hv.ev sH, fun b H4 eb s4 => ⟨b, rfl, ?_⟩⟩
          obtain rfl : b = c := Bool.eq_iff_iff.mpr (eb.trans ec.symm)
          cases b with
          | true =>
            refine iteN rfl ⟨?_, s3.trans s4⟩
            rw [eB, s4 _ _ hD3]
            exact congrArg (fun l => some (HO.lst (List.map V.str l))) (List.append_nil _).symm
          | false =>
            refine iteP rfl ⟨_, rfl, _, s4 _ _ hD3, ?_, ?_, sameAt (s3.trans s4) hD9⟩
            · rw [List.length_map]
              have := badF_len (c1 := c1) (c2 := c2) (c3 := c3) (i := i)
              exact small1000 (by omega)
            · rw [upd_same, eB, List.map_append]
              rfl
        · rintro H3 ⟨hD3, s3⟩
          rw [show ws3.length = 3 from rfl, hL] at hD3
          refine ⟨_, rfl, _, _, rfl, .inl ⟨_, SqL.of hD3, rfl⟩, _, _, rfl, rfl, _, rfl, iteP (decide_eq_true (by rw [List.length_map, List.length_cons]; omega)) ?_⟩
          exact ⟨_, rfl, rfl, _, rfl, iteP (decide_eq_true rfl) ⟨_, rfl, _, rfl, D9, _, ((0 : Nat) : Int), .str z, rfl, rfl, SqL.of hD3, atI_nat (j := 0) rfl, rfl, _, rfl, iteP (decide_eq_true rfl) ⟨_, rfl, q _⟩⟩⟩
end
end Ash

set_option Elab.async false
set_option linter.all false
set_option maxRecDepth 100000
set_option maxHeartbeats 4000000
namespace Ash
open PySem PySem.Spec PyProof.Rows L2
/-! ### what the top has written -/
/-- a def of the top -/
structure D1 (K : PySem.W.Frag) (mg : Str → Option Value) (x : Str) (st : Stmt) : Prop where
  ex : ∃ (f : Addr) (fd : FuncData), mg x = some (.ref f) ∧ Fun K x x st f fd
/-- a method -/
structure DM (K : PySem.W.Frag) (C : Addr) (m qual : Str) (st : Stmt) : Prop where
  ex : ∃ (f : Addr) (fd : FuncData), Meth K C m f ∧ Fun K m qual st f fd
/-- a method at a known place -/
structure DQ (K : PySem.W.Frag) (C f : Addr) (m qual : Str) (st : Stmt) : Prop where
  ex : ∃ fd : FuncData, Meth K C m f ∧ Fun K m qual st f fd
/-- an __init__ with one default -/
structure DD (K : PySem.W.Frag) (C a : Addr) (qual : Str) (st : Stmt) : Prop where
  ex : ∃ (f : Addr) (fd : FuncData), Mk K C f ∧ FunD K "__init__" qual (defArgs st) (defBody st) (defScope st) [.ref a] [] f fd
section
variable {K : PySem.W.Frag} {h : Heap} {mg : Str → Option Value} {x qual : Str} {st : Stmt} {f C : Addr} {oc kV dc pm cdv ct : Value} {od an : Option Addr} {sl : Array (Option Value)}
theorem d1 (X : K.In h) (G : h.Ns mainGlobals mg) (a : PySem.W.nsIn K mainGlobals x = some (some (.ref f))) (l : K.lookup f = some ⟨oc, od, .func (PySem.W.fnOf x x (defArgs st) (defBody st) (defScope st) .none kV dc pm an cdv ct), sl⟩) (c : PySem.W.codeIn K cdv x = true) (k : PySem.W.keepIn K (.ref f) = true) : D1 K mg x st :=
  ⟨f, _, PySem.W.mg_of X G a, fun_mk l c k⟩
theorem dm (a : PySem.W.findIn K (.ref C) x = some (some (.ref f))) (i : PySem.W.isFn K (.ref f) = true) (l : K.lookup f = some ⟨oc, od, .func (PySem.W.fnOf x qual (defArgs st) (defBody st) (defScope st) .none kV dc pm an cdv ct), sl⟩) (c : PySem.W.codeIn K cdv qual = true) (k : PySem.W.keepIn K (.ref f) = true) : DM K C x qual st :=
  ⟨f, _, ⟨a, i, k⟩, fun_mk l c k⟩
theorem dq (a : PySem.W.findIn K (.ref C) x = some (some (.ref f))) (i : PySem.W.isFn K (.ref f) = true) (l : K.lookup f = some ⟨oc, od, .func (PySem.W.fnOf x qual (defArgs st) (defBody st) (defScope st) .none kV dc pm an cdv ct), sl⟩) (c : PySem.W.codeIn K cdv qual = true) (k : PySem.W.keepIn K (.ref f) = true) : DQ K C f x qual st :=
  ⟨_, ⟨a, i, k⟩, fun_mk l c k⟩
theorem dd {a T : Addr} {oT : Value} {dT : Option Addr} {slT : Array (Option Value)} {n : Nat} (m1 : PySem.W.makesIn K C = true) (m2 : PySem.W.findIn K (.ref C) "__init__" = some (some (.ref f))) (m3 : PySem.W.isFn K (.ref f) = true) (m4 : PySem.W.keepIn K (.ref C) = true)
    (l : K.lookup f = some ⟨oc, od, .func (PySem.W.fnOf "__init__" qual (defArgs st) (defBody st) (defScope st) (.ref T) kV dc pm an cdv ct), sl⟩) (lT : K.lookup T = some ⟨oT, dT, .seq #[.ref a] n, slT⟩) (c : PySem.W.codeIn K cdv qual = true) (k : PySem.W.keepIn K (.ref f) = true) : DD K C a qual st :=
  ⟨f, _, ⟨m1, m2, m3, m4⟩, ⟨⟨oc, od, .ref T, kV, dc, pm, an, cdv, ct, sl, rfl, l, c, .inr ⟨by simp, T, _, [.ref a], n, rfl, lT, rfl, .cons rfl .nil⟩, .inl rfl⟩, k⟩⟩
theorem sq_of {a : Addr} {d : Option Addr} {n : Nat} (l : K.lookup a = some ⟨.type "tuple", d, .seq #[] n, sl⟩) (H : Hp) : SqT K H a [] := .inr ⟨_, #[], n, l, rfl, rfl, Nat.zero_le _, .nil⟩
theorem tt_mk {a : Addr} {d : Option Addr} {n : Nat} (l : K.lookup a = some ⟨.type "tuple", d, .seq #[] n, sl⟩) : ∃ (o : Obj) (n : Nat), K.lookup a = some o ∧ o.cls = .type "tuple" ∧ o.data = .seq #[] n := ⟨_, n, l, rfl, rfl⟩
end
section
variable {P : Program} {w : World} {K : PySem.W.Frag} {mg : Str → Option Value} {base : Heap} {CX : CXT} {x : Str} {st : Stmt} {ps : List Str} {k : Nat} {sp : Sp}
theorem cal_of (D : D1 K mg x st) (hb : ∀ (kV doc pm : Value) (an : Option Addr) (cdv ct : Value) (us : List Value), us.length = ps.length → bindArgs (PySem.W.fnOf x x (defArgs st) (defBody st) (defScope st) .none kV doc pm an cdv ct) ⟨us, []⟩ = pure (ps.zip us))
    (ok : ∀ f fd, Fun K x x st f fd → FnOk P w K mg base CX k f fd ps sp) : Cal P w K mg base CX x k ps sp := by
  obtain ⟨f, fd, hm, F⟩ := D.ex
  exact ⟨f, fd, hm, F.kp, F.binds hb, ok f fd F⟩
end
/-- a class is what its instances are -/
structure BkI (K : PySem.W.Frag) (CB : Addr) : Prop where
  ha : PySem.W.findIn K (.ref CB) "__class__" = some (some (.builtin "object.__class__"))
  hn : PySem.W.specialIn K (.builtin "object.__class__") "__get__" = some (some (.builtin "getset_descriptor.__get__"))
  ht : PySem.W.takesIn K (.builtin "object.__class__") = some true
  hm : PySem.W.mroIn K CB (.type "object") = some true
theorem ne_mk {K : PySem.W.Frag} {C f N : Addr} {nm q : Str} {bs : List Value} {hd ab : Bool} {sn : List Str} {sub : List Value} {col : Option Bool} {dd : Option Addr} {k0 k1 k2 k3 k5 : Option Value} {nid : String} {fo : Obj} (h1 : K.lookup C = some (excClassObj nm q C N bs [.type "object"] hd sn sub ab col dd k0 k1 k2 k3 k5 nid)) {oN : Value} {dN : Option Addr} {es : Array DictEntry} {nn : Nat} {slN : Array (Option Value)} (h2 : K.lookup N = some ⟨oN, dN, .dict es nn, slN⟩) (h7 : (es.toList.all fun e => match e.key with | .str _ _ => true | _ => false) = true) (h3 : PySem.W.nsIn K N "__eq__" = some (some (.ref f))) (h4 : PySem.W.nsIn K N "__ne__" = some none) (h5 : K.lookup f = some fo) (h6 : fo.cls = .type "function") : NeC K C f :=
  ⟨⟨nm, q, N, bs, hd, sn, sub, ab, col, dd, k0, k1, k2, k3, k5, nid, fo, h1, by unfold PySem.W.nsOkIn; rw [h2]; exact (Array.all_toList ..).symm.trans h7, h3, h4, h5, h6⟩⟩
theorem kit_ref {K : PySem.W.Frag} {C : Addr} {T : String} {b : Bool} (hm : PySem.W.kitMeta T = true) (h : PySem.W.subIn K (.ref C) (.type T) = some b) : PySem.W.kitOne K (.ref C) (.type T) = some b := by
  have e : (Value.ref C == Value.type T) = false := rfl
  unfold PySem.W.kitOne PySem.W.kitCls
  rw [e, if_neg Bool.false_ne_true]
  show (if PySem.W.kitMeta T = true then _ else _) = _
  rw [if_pos hm]
  exact h
theorem exm_me {K : PySem.W.Frag} {C : Addr} (h1 : PySem.W.subIn K (.ref C) (.type "BaseException") = some true) (h2 : PySem.W.isClsIn K C = true) (h3 : PySem.W.typeIn K (.ref C) = some (.type "type")) (h4 : PySem.W.subIn K (.ref C) (.ref C) = some true) : PySem.W.exmOne K (.ref C) (.ref C) = some true := by
  have h2' : (PySem.W.clsIn K C).isSome = true := h2
  simp [PySem.W.exmOne, PySem.W.kitCls, h1, h2', h3, h4]
theorem exm_no {K : PySem.W.Frag} {C D : Addr} (h1 : PySem.W.subIn K (.ref D) (.type "BaseException") = some true) (h2 : PySem.W.isClsIn K D = true) (h3 : PySem.W.typeIn K (.ref D) = some (.type "type")) (h4 : PySem.W.subIn K (.ref C) (.ref D) = some false) : PySem.W.exmOne K (.ref C) (.ref D) = some false := by
  have h2' : (PySem.W.clsIn K D).isSome = true := h2
  simp [PySem.W.exmOne, PySem.W.kitCls, h1, h2', h3, h4]
open PySem.W PySem.Calls PySem.HandSPX in
/-- the facts of an own error's class -/
theorem txt_mk {P : Program} {K : PySem.W.Frag} {h : Heap} {mg : Str → Option Value} {par fl : Str} {C fI N cda cc : Addr} {nm q qual tx file : Str} {bs bm sub : List Value} {sn : List Str} {ab : Bool} {col : Option Bool} {dd : Option Addr} {m0 m1 m2 m3 m5 : Option Value}
    {oc doc pm ct ccl cl : Value} {od an cdd cld : Option Addr} {osl ccs csl : Array (Option Value)} {vs : Array Value} {pa : Arguments} {p0 p1 p2 p3 p4 p5 p6 p7 p8 p9 : Pos} {j : Nat} {a0 : Arg} {tf : Nat} (X : K.In h) (G : h.Ns mainGlobals mg)
    (cls : K.lookup C = some (excClassObj nm q C N bs bm true sn sub ab col dd m0 m1 m2 m3 m5 "ValueError.__new__")) (ref : PySem.HandSPX.refsVE bm = true)
    (sa : PySem.W.findIn K (.ref C) "__setattr__" = some (some (.builtin "object.__setattr__"))) (ga : PySem.W.findIn K (.ref C) "__getattribute__" = some (some (.builtin "BaseException.__getattribute__"))) (gg : PySem.W.findIn K (.ref C) "__getattr__" = some none) (noN : PySem.W.findIn K (.ref C) fl = some none)
    (iC : PySem.W.findIn K (.ref C) "__init__" = some (some (.ref fI))) (tC : PySem.W.typeIn K (.ref fI) = some (.type "function")) (kC : PySem.W.keepIn K (.ref C) = true) (exC : PySem.W.subIn K (.ref C) (.type "BaseException") = some true) (veC : PySem.W.subIn K (.ref C) (.type "ValueError") = some true)
    (slf : PySem.W.mroIn K C (.ref C) = some true) (tyC : PySem.W.typeIn K (.ref C) = some (.type "type")) (hdC : PySem.W.hasDictIn K C = true) (isC : PySem.W.isClsIn K C = true) (sC : PySem.W.subIn K (.ref C) (.ref C) = some true)
    (along : PySem.W.ks_superIn K C C "__init__" = some (some (.builtin "ValueError.__init__"))) (opq : PySem.W.nsIn K cStatics "thirdparty.any" = some none) (sup : PySem.W.nsIn K mainGlobals "super" = some none) (top : (P.main.scope.names.lookup ("super" : Str)).isSome = false)
    (lf : K.lookup fI = some ⟨oc, od, .func (PySem.W.ksFn "__init__" qual pa (PySem.BadX.shape tx par fl p0 p1 p2 p3 p4 p5 p6 p7 p8 p9 j) (PySem.BadX.sco par) .none .none doc pm an (.ref cda) ct cc), osl⟩) (cd : PySem.W.codeIn K (.ref cda) qual = true) (ha0 : (pa.posonlyargs ++ pa.args).head? = some a0) (ha1 : a0.arg = "self")
    (bd : ∀ (s : Shared) (u v : Value), BindsTo s (PySem.W.ksFn "__init__" qual pa (PySem.BadX.shape tx par fl p0 p1 p2 p3 p4 p5 p6 p7 p8 p9 j) (PySem.BadX.sco par) .none .none doc pm an (.ref cda) ct cc) ⟨[u, v], []⟩ [("self", u), (par, v)])
    (lc : K.lookup cda = some ⟨ccl, cdd, .fields vs, ccs⟩) (hvs : vs[2]? = some (.str file tf)) (hfile : ((P.main.file : Str) == file) = true) (hpe : (p2.endLine == p4.line) = true) (lcc : K.lookup cc = some ⟨cl, cld, .cell (some (.ref C)), csl⟩) : PySem.BadX.Txt P K mg par fl C fI :=
  { cls := ⟨nm, q, N, bs, bm, sn, sub, ab, col, dd, m0, m1, m2, m3, m5, cls, ref⟩, sa := sa, ga := ga, gg := gg, noN := noN, iC := iC, tC := tC, kC := kC, exC := exC, veC := veC, slf := slf, tyC := tyC, hdC := hdC, te := exm_me exC isC tyC sC, along := along, opq := opq, sup := PySem.W.mg_none_of X G sup, top := top,
    fn := ⟨oc, od, qual, tx, doc, pm, an, cda, cc, ct, osl, pa, p0, p1, p2, p3, p4, p5, p6, p7, p8, p9, j, a0, lf, cd, ha0, ha1, bd, ⟨ccl, cdd, vs, ccs, file, tf, lc, hvs, hfile⟩, hpe, ⟨cl, cld, csl, lcc⟩⟩ }
theorem ex_int {K : PySem.W.Frag} {h : Heap} {mg : Str → Option Value} {x : Str} {n : Int} {t : Tok} (X : K.In h) (G : h.Ns mainGlobals mg) (a : PySem.W.nsIn K mainGlobals x = some (some (.int n t))) : ∃ t, mg x = some (.int n t) := ⟨_, PySem.W.mg_of X G a⟩
theorem ex_str {K : PySem.W.Frag} {h : Heap} {mg : Str → Option Value} {x z : Str} {t : Tok} (X : K.In h) (G : h.Ns mainGlobals mg) (a : PySem.W.nsIn K mainGlobals x = some (some (.str z t))) : ∃ t, mg x = some (.str z t) := ⟨_, PySem.W.mg_of X G a⟩
end Ash

set_option Elab.async false
set_option linter.all false
set_option maxRecDepth 100000
set_option maxHeartbeats 400000
namespace Ash
open PySem PySem.Spec PyProof.Rows L2
theorem kit_yes {K : PySem.W.Frag} {a b : Addr} (h2 : PySem.W.isClsIn K b = true) (h3 : PySem.W.typeIn K (.ref b) = some (.type "type")) (h4 : PySem.W.subIn K (.ref a) (.ref b) = some true) : PySem.W.kitOne K (.ref a) (.ref b) = some true := by
  have h2' : (PySem.W.clsIn K b).isSome = true := h2
  unfold PySem.W.kitOne
  split
  · rfl
  · simp [PySem.W.kitCls, h2', h3, h4]
theorem nf_me {K : PySem.W.Frag} {a : Addr} : PySem.W.notFirst K a (.ref a) = true := by
  unfold PySem.W.notFirst
  simp
theorem kit_self {K : PySem.W.Frag} {a : Addr} : PySem.W.kitOne K (.ref a) (.ref a) = some true := by
  unfold PySem.W.kitOne
  simp
theorem kd_mk {K : PySem.W.Frag} {w : World} {a b : Addr} {x : Str} {es : Array DictEntry} {n : Nat} (l : K.lookup a = some ⟨.type "dict", none, .dict es n, #[]⟩) (k : PySem.W.KeysLit w.params es.toList) (e : PySem.W.nsIn K a x = some (some (.ref b))) : KDct K w a x (.ref b) := ⟨es, n, .ref b, l, k, e, rfl⟩
theorem sqt_mk {K : PySem.W.Frag} {a : Addr} {d : Option Addr} {its : Array Value} {n : Nat} {sl : Array (Option Value)} {xs : List V} (l : K.lookup a = some ⟨.type "tuple", d, .seq its n, sl⟩) (v : Vals xs its.toList) (z : its.size ≤ sizeLine) : ∀ H, SqT K H a xs := fun H => .inr ⟨_, its, n, l, rfl, rfl, z, v⟩
def F1 : List V := [.str "id", .str "stream", .str "key", .str "moment", .str "amount", .str "arrival"]
def F2 : List V := [.str "id", .str "moment", .str "amount", .str "arrival"]
def F3 : List V := [.str "id", .str "arrival"]
theorem flds1 : (flds "row").map V.str = F1 := by unfold flds; rw [if_pos rfl]; rfl
theorem flds2 : (flds "fix").map V.str = F2 := by unfold flds; rw [if_neg (by decide +kernel), if_pos rfl]; rfl
theorem flds3 : (flds "gone").map V.str = F3 := by unfold flds; rw [if_neg (by decide +kernel), if_neg (by decide +kernel)]; rfl
theorem fl_mk {K : PySem.W.Frag} {w : World} {mg : Str → Option Value} {aF a1 a2 a3 : Addr} (g : mg "FIELDS" = some (.ref aF)) (k1 : KDct K w aF "row" (.ref a1)) (k2 : KDct K w aF "fix" (.ref a2)) (k3 : KDct K w aF "gone" (.ref a3)) (h1 : ∀ H, SqT K H a1 F1) (h2 : ∀ H, SqT K H a2 F2) (h3 : ∀ H, SqT K H a3 F3) : Fl K w mg aF := ⟨g, fun z hz => by
  rcases hz with rfl | rfl | rfl
  · exact ⟨a1, k1, fun H => flds1 ▸ h1 H⟩
  · exact ⟨a2, k2, fun H => flds2 ▸ h2 H⟩
  · exact ⟨a3, k3, fun H => flds3 ▸ h3 H⟩⟩
theorem nef_mk {K : PySem.W.Frag} {C f : Addr} (h1 : PySem.W.findIn K (.ref C) "__ne__" = some (some (.builtin "object.__ne__"))) (h2 : PySem.W.findIn K (.ref C) "__eq__" = some (some (.ref f))) (h3 : PySem.W.isFn K (.ref f) = true) (h4 : PySem.W.subIn K (.ref C) (.type "object") = some true) : NeF K (fun D => D = C) f := ⟨fun _ e => by rw [e]; exact h1, fun _ e => by rw [e]; exact h2, h3, fun _ e => by rw [e]; exact h4⟩
end Ash

set_option Elab.async false
set_option linter.all false
set_option maxRecDepth 100000
set_option maxHeartbeats 4000000
namespace Ash
open PySem PySem.Spec PyProof.Rows L2
section
variable {P : Program} {w : World} {K : PySem.W.Frag} {mg : Str → Option Value} {base : Heap}
theorem all_ok {CForm CE CH fE aF a1 a2 a3 feq : Addr}
    (B : Blt mg)
    (cF : Cls K CForm)
    (nF : NoAttr K CForm "_shapes")
    (gF : mg "Form" = some (.ref CForm))
    (gE : mg "BadForm" = some (.ref CE))
    (gH : mg "HallError" = some (.ref CH))
    (bk : BkI K CForm)
    (TE : PySem.BadX.Txt P K mg "value" "value" CE fE)
    (XC : ExcC K CE)
    (hcE : PySem.W.isClsIn K CE = true)
    (kE : PySem.W.kitOne K (.ref CE) (.ref CH) = some true)
    (gFd : mg "FIELDS" = some (.ref aF))
    (kd1 : KDct K w aF "row" (.ref a1))
    (kd2 : KDct K w aF "fix" (.ref a2))
    (kd3 : KDct K w aF "gone" (.ref a3))
    (sq1 : ∀ H, SqT K H a1 F1)
    (sq2 : ∀ H, SqT K H a2 F2)
    (sq3 : ∀ H, SqT K H a3 F3)
    (xLM : ∃ t, mg "LONGEST_MARK" = some (.int 6 t))
    (xMP : ∃ t, mg "MOST_PIECES" = some (.int 15 t))
    (mk : PySem.W.makesIn K CForm = true)
    (kp : PySem.W.keepIn K (.ref CForm) = true)
    (nq : PySem.W.findIn K (.ref CForm) "__ne__" = some (some (.builtin "object.__ne__")))
    (eq : PySem.W.findIn K (.ref CForm) "__eq__" = some (some (.ref feq)))
    (ob : PySem.W.subIn K (.ref CForm) (.type "object") = some true)
    (d__law_stream : D1 K mg "_law_stream" s_l_stream)
    (d__law_draw : D1 K mg "_law_draw" s_l_draw)
    (d__law_fields : D1 K mg "_law_fields" s_l_fields)
    (d__law_order : D1 K mg "_law_order" s_l_order)
    (d__law_mark : D1 K mg "_law_mark" s_l_mark)
    (d__law_signs : D1 K mg "_law_signs" s_l_signs)
    (d__law_shape : D1 K mg "_law_shape" s_l_shape)
    (d__law_odd : D1 K mg "_law_odd" s_l_odd)
    (d__law_spoiled : D1 K mg "_law_spoiled" s_l_spoiled)
    (d_is_row : D1 K mg "is_row" s_is_row)
    (d_is_mark : D1 K mg "is_mark" s_is_mark)
    (d_is_shape : D1 K mg "is_shape" s_is_shape)
    (d__law_is_text : D1 K mg "_law_is_text" s_l_is_text)
    (d__law_is_shape : D1 K mg "_law_is_shape" s_l_is_shape)
    (d__law_unknown : D1 K mg "_law_unknown" s_l_unknown)
    (d__law_told : D1 K mg "_law_told" s_l_told)
    (d__law_made : D1 K mg "_law_made" s_l_made)
    (m_FI : DM K CForm "__init__" "Form.__init__" s_Form_init)
    (m_SH : DM K CForm "shape" "Form.shape" s_Form_shape)
    (m_eq : DQ K CForm feq "__eq__" "Form.__eq__" s_Form_eq)
    {f : Addr} {fd : FuncData} (F_law : Fun K "law" "law" s_law f fd) : FnOk P w K mg base CX0 6 f fd ["script"] (spLaw K) := by
  have c__law_stream := cal_of (P := P) (w := w) (base := base) (ps := ["script", "k"]) d__law_stream (fun _ _ _ _ _ _ us hl => match us, hl with | [_, _], _ => rfl) fun f fd F => ok_stream F B
  have c__law_draw := cal_of (P := P) (w := w) (base := base) (ps := ["stream", "many"]) d__law_draw (fun _ _ _ _ _ _ us hl => match us, hl with | [_, _], _ => rfl) fun f fd F => ok_draw F B
  have c__law_fields := cal_of (P := P) (w := w) (base := base) (ps := ["word"]) d__law_fields (fun _ _ _ _ _ _ us hl => match us, hl with | [_], _ => rfl) fun f fd F => ok_fields F B
  have g1 : G1 P w K mg base := ⟨c__law_draw⟩
  have c__law_order := cal_of (P := P) (w := w) (base := base) (ps := ["stream", "items"]) d__law_order (fun _ _ _ _ _ _ us hl => match us, hl with | [_, _], _ => rfl) fun f fd F => ok_order F B g1
  have c__law_mark := cal_of (P := P) (w := w) (base := base) (ps := ["stream", "signs", "most"]) d__law_mark (fun _ _ _ _ _ _ us hl => match us, hl with | [_, _, _], _ => rfl) fun f fd F => ok_mark F B g1
  have c__law_signs := cal_of (P := P) (w := w) (base := base) (ps := []) d__law_signs (fun _ _ _ _ _ _ us hl => match us, hl with | [], _ => rfl) fun f fd F => ok_signs F B
  have g2 : G2 P w K mg base := { toG1 := g1, law_fields := c__law_fields, law_order := c__law_order, law_mark := c__law_mark }
  have c__law_shape := cal_of (P := P) (w := w) (base := base) (ps := ["stream", "word", "signs", "often", "most"]) d__law_shape (fun _ _ _ _ _ _ us hl => match us, hl with | [_, _, _, _, _], _ => rfl) fun f fd F => ok_lshape F B g2
  have c__law_odd := cal_of (P := P) (w := w) (base := base) (ps := ["stream"]) d__law_odd (fun _ _ _ _ _ _ us hl => match us, hl with | [_], _ => rfl) fun f fd F => ok_lodd F B g1
  have g3 : G3 P w K mg base := { toG1 := g1, law_odd := c__law_odd }
  have c__law_spoiled := cal_of (P := P) (w := w) (base := base) (ps := ["stream", "pieces"]) d__law_spoiled (fun _ _ _ _ _ _ us hl => match us, hl with | [_, _], _ => rfl) fun f fd F => ok_spoiled F B g3
  have c_is_row := cal_of (P := P) (w := w) (base := base) (ps := ["thing"]) d_is_row (fun _ _ _ _ _ _ us hl => match us, hl with | [_], _ => rfl) fun f fd F => ok_is_row F B
  have c_is_mark := cal_of (P := P) (w := w) (base := base) (ps := ["text"]) d_is_mark (fun _ _ _ _ _ _ us hl => match us, hl with | [_], _ => rfl) fun f fd F => ok_is_mark F B xLM
  have g4 : G4 P w K mg base := ⟨c_is_row, c_is_mark⟩
  have c_is_shape := cal_of (P := P) (w := w) (base := base) (ps := ["thing", "fields"]) d_is_shape (fun _ _ _ _ _ _ us hl => match us, hl with | [_, _], _ => rfl) fun f fd F => ok_is_shape F B g4 xMP
  have c__law_is_text := cal_of (P := P) (w := w) (base := base) (ps := ["thing"]) d__law_is_text (fun _ _ _ _ _ _ us hl => match us, hl with | [_], _ => rfl) fun f fd F => ok_listext F B
  have g5 : G5 P w K mg base := ⟨c__law_fields, c__law_is_text⟩
  have c__law_is_shape := cal_of (P := P) (w := w) (base := base) (ps := ["thing", "word"]) d__law_is_shape (fun _ _ _ _ _ _ us hl => match us, hl with | [_, _], _ => rfl) fun f fd F => ok_lisshape F B g5
  have g6 : G6 P w K mg base := ⟨c_is_shape⟩
  have fl := fl_mk gFd kd1 kd2 kd3 sq1 sq2 sq3
  obtain ⟨fFI, fdFI, mFI, FFI⟩ := m_FI.ex
  have bFI : Binds K fdFI ["self", "row", "fix", "gone"] [] := FFI.binds (ps := ["self", "row", "fix", "gone"]) fun _ _ _ _ _ _ us hl => match us, hl with | [_, _, _, _], _ => rfl
  have oFI := ok_form (P := P) (w := w) (base := base) FFI B g6 TE gE fl cF nF
  obtain ⟨fSH, fdSH, mSH, FSH⟩ := m_SH.ex
  have bSH : Binds K fdSH ["self", "word"] [] := FSH.binds (ps := ["self", "word"]) fun _ _ _ _ _ _ us hl => match us, hl with | [_, _], _ => rfl
  have oSH := ok_fshape (P := P) (w := w) (base := base) FSH B TE gE cF nF
  have bF : ∀ {H : Hp} {a dx : Addr} {fs : List (Str × V)}, H a = some (.ins CForm dx fs) → TyX K H (.ref a) (.ref CForm) := fun e => .base (.ins e cF bk.ha bk.hn bk.ht bk.hm)
  obtain ⟨fdeq, meq, Feq⟩ := m_eq.ex
  have beq : Binds K fdeq ["self", "other"] [] := Feq.binds (ps := ["self", "other"]) fun _ _ _ _ _ _ us hl => match us, hl with | [_, _], _ => rfl
  have oEq := ok_feq (P := P) (w := w) (base := base) Feq B cF nF gF kit_self bF
  have g7 : G7 P w K mg base CForm CE := ⟨⟨fSH, fdSH, mSH, bSH, oSH⟩⟩
  have c__law_unknown := cal_of (P := P) (w := w) (base := base) (ps := ["form", "word"]) d__law_unknown (fun _ _ _ _ _ _ us hl => match us, hl with | [_, _], _ => rfl) fun f fd F => ok_lunk F B TE gE cF nF g7
  have g9 : G9 P w K mg base CForm CE := { toG7 := g7, law_unknown := c__law_unknown }
  have c__law_told := cal_of (P := P) (w := w) (base := base) (ps := ["form", "due"]) d__law_told (fun _ _ _ _ _ _ us hl => match us, hl with | [_, _], _ => rfl) fun f fd F => ok_ltold F B cF g9
  have g8 : G8 P w K mg base CForm CE := ⟨⟨fFI, fdFI, ⟨mk, mFI.at_, mFI.fn, kp⟩, gF, bFI, oFI⟩⟩
  have c__law_made := cal_of (P := P) (w := w) (base := base) (ps := ["shapes"]) d__law_made (fun _ _ _ _ _ _ us hl => match us, hl with | [_], _ => rfl) fun f fd F => ok_lmade F B TE gE gH XC hcE kE g8
  have Z := nef_mk nq eq meq.fn ob
  have gl : GL P w K mg base CForm CE := { toG8 := g8, law_stream := c__law_stream, law_draw := c__law_draw, law_signs := c__law_signs, law_shape := c__law_shape, law_spoiled := c__law_spoiled, law_made := c__law_made, law_is_shape := c__law_is_shape, law_told := c__law_told }
  exact ok_law F_law B cF nF gF kit_self bF Z beq oEq nf_me gl
end
theorem all_mk {P : Program} {w : World} {K : PySem.W.Frag} {h : Heap} {mg : Str → Option Value} {fa CForm CE CH fE aF a1 a2 a3 feq f4 : Addr} {oc4 kV4 dc4 pm4 cd4 ct4 : Value} {od4 an4 : Option Addr} {sl4 : Array (Option Value)} (X : K.In h) (G : h.Ns mainGlobals mg) (hfa : mg "law" = some (.ref fa))
    (a4 : PySem.W.nsIn K mainGlobals "law" = some (some (.ref f4))) (l4 : K.lookup f4 = some ⟨oc4, od4, .func (PySem.W.fnOf "law" "law" (defArgs s_law) (defBody s_law) (defScope s_law) .none kV4 dc4 pm4 an4 cd4 ct4), sl4⟩) (c4 : PySem.W.codeIn K cd4 "law" = true) (k4 : PySem.W.keepIn K (.ref f4) = true)
    (B : Blt mg)
    (cF : Cls K CForm)
    (nF : NoAttr K CForm "_shapes")
    (gF : mg "Form" = some (.ref CForm))
    (gE : mg "BadForm" = some (.ref CE))
    (gH : mg "HallError" = some (.ref CH))
    (bk : BkI K CForm)
    (TE : PySem.BadX.Txt P K mg "value" "value" CE fE)
    (XC : ExcC K CE)
    (hcE : PySem.W.isClsIn K CE = true)
    (kE : PySem.W.kitOne K (.ref CE) (.ref CH) = some true)
    (gFd : mg "FIELDS" = some (.ref aF))
    (kd1 : KDct K w aF "row" (.ref a1))
    (kd2 : KDct K w aF "fix" (.ref a2))
    (kd3 : KDct K w aF "gone" (.ref a3))
    (sq1 : ∀ H, SqT K H a1 F1)
    (sq2 : ∀ H, SqT K H a2 F2)
    (sq3 : ∀ H, SqT K H a3 F3)
    (xLM : ∃ t, mg "LONGEST_MARK" = some (.int 6 t))
    (xMP : ∃ t, mg "MOST_PIECES" = some (.int 15 t))
    (mk : PySem.W.makesIn K CForm = true)
    (kp : PySem.W.keepIn K (.ref CForm) = true)
    (nq : PySem.W.findIn K (.ref CForm) "__ne__" = some (some (.builtin "object.__ne__")))
    (eq : PySem.W.findIn K (.ref CForm) "__eq__" = some (some (.ref feq)))
    (ob : PySem.W.subIn K (.ref CForm) (.type "object") = some true)
    (d__law_stream : D1 K mg "_law_stream" s_l_stream)
    (d__law_draw : D1 K mg "_law_draw" s_l_draw)
    (d__law_fields : D1 K mg "_law_fields" s_l_fields)
    (d__law_order : D1 K mg "_law_order" s_l_order)
    (d__law_mark : D1 K mg "_law_mark" s_l_mark)
    (d__law_signs : D1 K mg "_law_signs" s_l_signs)
    (d__law_shape : D1 K mg "_law_shape" s_l_shape)
    (d__law_odd : D1 K mg "_law_odd" s_l_odd)
    (d__law_spoiled : D1 K mg "_law_spoiled" s_l_spoiled)
    (d_is_row : D1 K mg "is_row" s_is_row)
    (d_is_mark : D1 K mg "is_mark" s_is_mark)
    (d_is_shape : D1 K mg "is_shape" s_is_shape)
    (d__law_is_text : D1 K mg "_law_is_text" s_l_is_text)
    (d__law_is_shape : D1 K mg "_law_is_shape" s_l_is_shape)
    (d__law_unknown : D1 K mg "_law_unknown" s_l_unknown)
    (d__law_told : D1 K mg "_law_told" s_l_told)
    (d__law_made : D1 K mg "_law_made" s_l_made)
    (m_FI : DM K CForm "__init__" "Form.__init__" s_Form_init)
    (m_SH : DM K CForm "shape" "Form.shape" s_Form_shape)
    (m_eq : DQ K CForm feq "__eq__" "Form.__eq__" s_Form_eq)
    : ∃ fd : FuncData, (∀ (s : Shared) (v : Value), BindsTo s fd ⟨[v], []⟩ [("script", v)]) ∧ ∀ base : Heap, K.In base → base.Ns mainGlobals mg → FnOk P w K mg base CX0 6 fa fd ["script"] (spLaw K) := by
  have e := hfa.symm.trans (PySem.W.mg_of X G a4)
  cases e
  exact ⟨PySem.W.fnOf "law" "law" (defArgs s_law) (defBody s_law) (defScope s_law) .none kV4 dc4 pm4 an4 cd4 ct4, fun s v => .of_eq rfl, fun base _ _ => all_ok B cF nF gF gE gH bk TE XC hcE kE gFd kd1 kd2 kd3 sq1 sq2 sq3 xLM xMP mk kp nq eq ob d__law_stream d__law_draw d__law_fields d__law_order d__law_mark d__law_signs d__law_shape d__law_odd d__law_spoiled d_is_row d_is_mark d_is_shape d__law_is_text d__law_is_shape d__law_unknown d__law_told d__law_made m_FI m_SH m_eq (fun_mk l4 c4 k4)⟩
theorem walk {l : PySem.W.OpenLaw} {q : Program} {loose : List Str} {XP : (Str → Option Value) → Heap → Prop} {YP : World → Heap → Prop} {d : DefRec} {K : Params → PySem.W.Frag} (hn : l.most = some 63) (hdf : d.params.defaults = [])
    (hY : ∀ (w : World) (h : Heap), YP w h → (K w.params).In h)
    (F : ∀ (w : World) (mg : Str → Option Value) (fa : Addr) (h : Heap), (K w.params).In h → h.Ns mainGlobals mg → mg d.name = some (.ref fa) →
      ∃ fd : FuncData, (∀ (s : Shared) (u : Value), BindsTo s fd ⟨[u], []⟩ [("script", u)]) ∧ ∀ base : Heap, (K w.params).In base → base.Ns mainGlobals mg → FnOk l.prog w (K w.params) mg base CX0 6 fa fd ["script"] (spLaw (K w.params))) :
    PySem.W.WalkO q loose XP YP l.row.toRowW d [] (fun f vs => PySem.call f vs) :=
  L2.walk_of (n := 63) (k := 6) (x := "script") (CX := fun _ => CX0) (sp := fun w => spLaw (K w.params)) hn (by decide) hdf ⟨rfl, by decide, by decide⟩ hY F (fun _ _ a ns hl _ hS => ⟨a, ns, rfl, hS, hl, fun _ => rfl⟩) fun _ _ _ _ _ z => z
end Ash

set_option Elab.async false
open PySem PySem.W PyProof.Rows
/-! names that are taken: the head makes no twins of these parts of the heap -/
theorem PySem.W.Fast.tw7724995731099690957 : True := trivial
theorem PySem.W.Fast.tw18063625813464462576 : True := trivial
theorem PySem.W.Fast.tw11782791914981419162 : True := trivial
theorem PySem.W.Fast.tw938186982442474742 : True := trivial
theorem PySem.W.Fast.tw17984352687531976019 : True := trivial
theorem PySem.W.Fast.tw8496921120128506767 : True := trivial
theorem PySem.W.Fast.tw10796300597759682210 : True := trivial
theorem PySem.W.Fast.tw8301866780139581887 : True := trivial
theorem PySem.W.Fast.tw15457719267494461467 : True := trivial
theorem PySem.W.Fast.tw1933571455674958982 : True := trivial
theorem PySem.W.Fast.tw8527134745627121266 : True := trivial
theorem PySem.W.Fast.tw15246893840583698335 : True := trivial
theorem PySem.W.Fast.tw78388446243553003 : True := trivial
theorem PySem.W.Fast.tw866943463186637038 : True := trivial
theorem PySem.W.Fast.tw17235999502571703397 : True := trivial
theorem PySem.W.Fast.tw12563194415064237015 : True := trivial
theorem PySem.W.Fast.tw10717309594168803250 : True := trivial
theorem PySem.W.Fast.tw4056520081477958676 : True := trivial
theorem PySem.W.Fast.tw702031548517181146 : True := trivial
theorem PySem.W.Fast.tw6715633717311742855 : True := trivial
theorem PySem.W.Fast.tw11042984694978695975 : True := trivial
theorem PySem.W.Fast.tw14972620611162934841 : True := trivial
theorem PySem.W.Fast.tw5221130577658930368 : True := trivial
theorem PySem.W.Fast.tw17566558828937394137 : True := trivial
theorem PySem.W.Fast.tw5251128209154712374 : True := trivial
theorem PySem.W.Fast.tw15260804432469432092 : True := trivial
theorem PySem.W.Fast.tw12825960237969478916 : True := trivial
theorem PySem.W.Fast.tw14136727145212796122 : True := trivial
theorem PySem.W.Fast.tw11906135914109826342 : True := trivial
theorem PySem.W.Fast.tw8690007603433702428 : True := trivial
theorem PySem.W.Fast.tw928105396337821546 : True := trivial
theorem PySem.W.Fast.tw8121946998624909219 : True := trivial
theorem PySem.W.Fast.tw12397126317416896491 : True := trivial
theorem PySem.W.Fast.tw10606027142917025204 : True := trivial
theorem PySem.W.Fast.tw10480779877025949700 : True := trivial
theorem PySem.W.Fast.tw17462679509176769109 : True := trivial
theorem PySem.W.Fast.tw4112094439448000418 : True := trivial
theorem PySem.W.Fast.tw11628675201735946613 : True := trivial
theorem PySem.W.Fast.tw9093428637360237402 : True := trivial
theorem PySem.W.Fast.tw17639284430990386014 : True := trivial
theorem PySem.W.Fast.tw16654226220101368519 : True := trivial
theorem PySem.W.Fast.tw12605979579905036336 : True := trivial
theorem PySem.W.Fast.tw5591365707871151007 : True := trivial
theorem PySem.W.Fast.tw3412283084989439268 : True := trivial
theorem PySem.W.Fast.tw4069906562175063282 : True := trivial
theorem PySem.W.Fast.tw7132365025241077431 : True := trivial
theorem PySem.W.Fast.tw6340044291119222790 : True := trivial
theorem PySem.W.Fast.tw16381784821097062155 : True := trivial
theorem PySem.W.Fast.tw15121761719505554711 : True := trivial
theorem PySem.W.Fast.tw15458649429089186047 : True := trivial
theorem PySem.W.Fast.tw493046244525437201 : True := trivial
theorem PySem.W.Fast.tw919663803151465692 : True := trivial
theorem PySem.W.Fast.tw12951948319402641627 : True := trivial
theorem PySem.W.Fast.tw5480502761258726862 : True := trivial
theorem PySem.W.Fast.tw13522045347024942659 : True := trivial
theorem PySem.W.Fast.tw17985895764587804569 : True := trivial
theorem PySem.W.Fast.tw13464345961460788674 : True := trivial
theorem PySem.W.Fast.tw16880043394564725951 : True := trivial
theorem PySem.W.Fast.tw2245341017787823541 : True := trivial
theorem PySem.W.Fast.tw3089481517694776540 : True := trivial
theorem PySem.W.Fast.tw16623923723857542153 : True := trivial
theorem PySem.W.Fast.tw13594919555325431502 : True := trivial
theorem PySem.W.Fast.tw3919570579704459824 : True := trivial
theorem PySem.W.Fast.tw12346656311805444253 : True := trivial
theorem PySem.W.Fast.tw3779465929468532652 : True := trivial
theorem PySem.W.Fast.tw14776844136904581637 : True := trivial
theorem PySem.W.Fast.tw7728445520506155341 : True := trivial
theorem PySem.W.Fast.tw4482182521930584375 : True := trivial
theorem PySem.W.Fast.tw8323107823672295391 : True := trivial
theorem PySem.W.Fast.tw15608644252404320659 : True := trivial
theorem PySem.W.Fast.tw2512983221159990658 : True := trivial
theorem PySem.W.Fast.tw13714667103223510004 : True := trivial
theorem PySem.W.Fast.tw799062209379221380 : True := trivial
theorem PySem.W.Fast.tw4072241109352005242 : True := trivial
theorem PySem.W.Fast.tw8884236075163585027 : True := trivial
theorem PySem.W.Fast.tw15316066591394265567 : True := trivial
theorem PySem.W.Fast.tw15150618681668785673 : True := trivial
theorem PySem.W.Fast.tw16694159626774390858 : True := trivial
theorem PySem.W.Fast.tw6141137740829201071 : True := trivial
theorem PySem.W.Fast.tw2081539953483574622 : True := trivial
theorem PySem.W.Fast.tw10148214003552718829 : True := trivial
theorem PySem.W.Fast.tw16888694414021036496 : True := trivial
theorem PySem.W.Fast.tw15558099143364787717 : True := trivial
theorem PySem.W.Fast.tw2939000537305841246 : True := trivial
theorem PySem.W.Fast.tw278451935548302834 : True := trivial
theorem PySem.W.Fast.tw7432698183200298760 : True := trivial
theorem PySem.W.Fast.tw7945948687681085380 : True := trivial
theorem PySem.W.Fast.tw12706276193975455486 : True := trivial
theorem PySem.W.Fast.tw902469320236917451 : True := trivial
theorem PySem.W.Fast.tw15212861204089224320 : True := trivial
theorem PySem.W.Fast.tw2573063438662627166 : True := trivial
theorem PySem.W.Fast.tw9386035973327834323 : True := trivial
theorem PySem.W.Fast.tw7653071936793394149 : True := trivial
theorem PySem.W.Fast.tw15618618859129579243 : True := trivial
theorem PySem.W.Fast.tw12263688578177599067 : True := trivial
theorem PySem.W.Fast.tw1694155290581938895 : True := trivial
theorem PySem.W.Fast.tw11149251558103725334 : True := trivial
theorem PySem.W.Fast.tw11766215946680225554 : True := trivial
theorem PySem.W.Fast.tw12443731514991889214 : True := trivial
theorem PySem.W.Fast.tw9629766626076714698 : True := trivial
theorem PySem.W.Fast.tw17542887237558274655 : True := trivial
theorem PySem.W.Fast.tw17532998836280390063 : True := trivial
theorem PySem.W.Fast.tw4658289282195529400 : True := trivial
theorem PySem.W.Fast.tw11454735980265855786 : True := trivial
theorem PySem.W.Fast.tw12701475727310707494 : True := trivial
theorem PySem.W.Fast.tw10525696355910776195 : True := trivial
theorem PySem.W.Fast.tw18188254355924983332 : True := trivial
theorem PySem.W.Fast.tw2605389350684219262 : True := trivial
theorem PySem.W.Fast.tw4775550974108825764 : True := trivial
theorem PySem.W.Fast.tw1169555402243393987 : True := trivial
theorem PySem.W.Fast.tw1484327947143842940 : True := trivial
theorem PySem.W.Fast.tw10435751167856842768 : True := trivial
theorem PySem.W.Fast.tw9975004863891556302 : True := trivial
theorem PySem.W.Fast.tw6331374750570533166 : True := trivial
theorem PySem.W.Fast.tw15112988686913286827 : True := trivial
theorem PySem.W.Fast.tw12565047526809245714 : True := trivial
theorem PySem.W.Fast.tw8366556202573208501 : True := trivial
theorem PySem.W.Fast.tw13648820681200579815 : True := trivial
theorem PySem.W.Fast.tw13436172267009973891 : True := trivial
theorem PySem.W.Fast.tw7808936096082084262 : True := trivial
theorem PySem.W.Fast.tw15225284807898287471 : True := trivial
theorem PySem.W.Fast.tw14206134763002806822 : True := trivial
theorem PySem.W.Fast.tw1938504153687006428 : True := trivial
theorem PySem.W.Fast.tw5992348277312848691 : True := trivial
theorem PySem.W.Fast.tw1621799417556710111 : True := trivial
theorem PySem.W.Fast.tw12093238629218954799 : True := trivial
theorem PySem.W.Fast.tw8638789978320835650 : True := trivial
theorem PySem.W.Fast.tw555207318964076226 : True := trivial
theorem PySem.W.Fast.tw9186498185085925765 : True := trivial
theorem PySem.W.Fast.tw2921985601961991173 : True := trivial
theorem PySem.W.Fast.tw5656756793504775824 : True := trivial
theorem PySem.W.Fast.tw15777263348035430323 : True := trivial
theorem PySem.W.Fast.tw15223247327793211562 : True := trivial
theorem PySem.W.Fast.tw14441046974072691813 : True := trivial
theorem PySem.W.Fast.tw2437721085629023121 : True := trivial
theorem PySem.W.Fast.tw5162867184861204697 : True := trivial
theorem PySem.W.Fast.tw620695957874338564 : True := trivial
theorem PySem.W.Fast.tw17564991002010530286 : True := trivial
theorem PySem.W.Fast.tw3175133545286061990 : True := trivial
theorem PySem.W.Fast.tw8661806570841595756 : True := trivial
theorem PySem.W.Fast.tw9649541371899470222 : True := trivial
theorem PySem.W.Fast.tw7756824504403239015 : True := trivial
theorem PySem.W.Fast.tw15657910826265303004 : True := trivial
theorem PySem.W.Fast.tw4584680532123174469 : True := trivial
theorem PySem.W.Fast.tw5429584547126379492 : True := trivial
theorem PySem.W.Fast.tw17069267687115696886 : True := trivial
theorem PySem.W.Fast.tw12869805015965656334 : True := trivial
theorem PySem.W.Fast.tw8014706839050785058 : True := trivial
theorem PySem.W.Fast.tw924109008496909210 : True := trivial
theorem PySem.W.Fast.tw8571006950245295320 : True := trivial
theorem PySem.W.Fast.tw10366958548020288056 : True := trivial
theorem PySem.W.Fast.tw11616678317787636559 : True := trivial
theorem PySem.W.Fast.tw7700510643114609563 : True := trivial
theorem PySem.W.Fast.tw574254481049067934 : True := trivial
theorem PySem.W.Fast.tw1171015418457304298 : True := trivial
theorem PySem.W.Fast.tw12309645234100190865 : True := trivial
theorem PySem.W.Fast.tw10486280545295145483 : True := trivial
theorem PySem.W.Fast.tw9412890680596407308 : True := trivial
theorem PySem.W.Fast.tw5193016842596015459 : True := trivial
theorem PySem.W.Fast.tw10278166958059968978 : True := trivial
theorem PySem.W.Fast.tw11266247907572853781 : True := trivial
theorem PySem.W.Fast.tw14751896369875506077 : True := trivial
theorem PySem.W.Fast.tw18219220599191643853 : True := trivial
theorem PySem.W.Fast.tw2549818051442072899 : True := trivial
theorem PySem.W.Fast.tw17305390029913700337 : True := trivial
theorem PySem.W.Fast.tw8091362430414683454 : True := trivial
theorem PySem.W.Fast.tw2561028350685499661 : True := trivial
theorem PySem.W.Fast.tw10401288196275692257 : True := trivial
theorem PySem.W.Fast.tw5432587008456445145 : True := trivial
theorem PySem.W.Fast.tw6210035795705659539 : True := trivial
theorem PySem.W.Fast.tw13892577946899214692 : True := trivial
theorem PySem.W.Fast.tw13314999508348828323 : True := trivial
theorem PySem.W.Fast.tw10900139271059193252 : True := trivial
theorem PySem.W.Fast.tw17437623037115252576 : True := trivial
theorem PySem.W.Fast.tw16447377041091296806 : True := trivial
theorem PySem.W.Fast.tw13653552466271213892 : True := trivial
theorem PySem.W.Fast.tw7516611015305970023 : True := trivial
theorem PySem.W.Fast.tw16742046286848455251 : True := trivial
theorem PySem.W.Fast.tw13445958134695084711 : True := trivial
theorem PySem.W.Fast.tw11276811546596078301 : True := trivial
theorem PySem.W.Fast.tw105660885892487165 : True := trivial
theorem PySem.W.Fast.tw6387182830288068098 : True := trivial
theorem PySem.W.Fast.tw6902862703146207953 : True := trivial
theorem PySem.W.Fast.tw12625048272186475366 : True := trivial
theorem PySem.W.Fast.tw16815350449649958140 : True := trivial
theorem PySem.W.Fast.tw3120081709198107889 : True := trivial
theorem PySem.W.Fast.tw13977737208329861556 : True := trivial
theorem PySem.W.Fast.tw14739937052155550090 : True := trivial
theorem PySem.W.Fast.tw12587628219234854182 : True := trivial
theorem PySem.W.Fast.tw16507092950434580620 : True := trivial
theorem PySem.W.Fast.tw14298970401166111441 : True := trivial
theorem PySem.W.Fast.tw11006729765253537645 : True := trivial
theorem PySem.W.Fast.tw7478050156613187789 : True := trivial
theorem PySem.W.Fast.tw1786601182990456956 : True := trivial
theorem PySem.W.Fast.tw16452620759723929155 : True := trivial
theorem PySem.W.Fast.tw15701463293704716367 : True := trivial
theorem PySem.W.Fast.tw17780017325906382333 : True := trivial
theorem PySem.W.Fast.tw5780048471796802733 : True := trivial
theorem PySem.W.Fast.tw13080431040960926859 : True := trivial
theorem PySem.W.Fast.tw18116676478829383585 : True := trivial
theorem PySem.W.Fast.tw14661001654193486415 : True := trivial
theorem PySem.W.Fast.tw4139038060955714482 : True := trivial
theorem PySem.W.Fast.tw13998335768673876302 : True := trivial
theorem PySem.W.Fast.tw10672175436830361132 : True := trivial
theorem PySem.W.Fast.tw2990772455441138944 : True := trivial
theorem PySem.W.Fast.tw13860661389690196152 : True := trivial
theorem PySem.W.Fast.tw507755234064727206 : True := trivial
theorem PySem.W.Fast.tw14779287478255075600 : True := trivial
theorem PySem.W.Fast.tw519158251886332822 : True := trivial
theorem PySem.W.Fast.tw7897485844339049175 : True := trivial
theorem PySem.W.Fast.tw4076678904525465722 : True := trivial
theorem PySem.W.Fast.tw9535175679742282994 : True := trivial
theorem PySem.W.Fast.tw13006552656442614671 : True := trivial
theorem PySem.W.Fast.tw8397201607246545467 : True := trivial
theorem PySem.W.Fast.tw4741961509816132908 : True := trivial
theorem PySem.W.Fast.tw12899396852457891901 : True := trivial
theorem PySem.W.Fast.tw3811010925818044105 : True := trivial
theorem PySem.W.Fast.tw5700703625443544209 : True := trivial
theorem PySem.W.Fast.tw8269672857718679165 : True := trivial
theorem PySem.W.Fast.tw5745677714498873876 : True := trivial
theorem PySem.W.Fast.tw15649072142433188561 : True := trivial
theorem PySem.W.Fast.tw12745311040842946167 : True := trivial
theorem PySem.W.Fast.tw14989409202586727107 : True := trivial
theorem PySem.W.Fast.tw9910983425352997624 : True := trivial
theorem PySem.W.Fast.tw2373477272064025538 : True := trivial
theorem PySem.W.Fast.tw8142967300324038477 : True := trivial
theorem PySem.W.Fast.tw5730924946827181449 : True := trivial
theorem PySem.W.Fast.tw11999837241227352574 : True := trivial
theorem PySem.W.Fast.tw3811227784849985335 : True := trivial
theorem PySem.W.Fast.tw8517777875082278144 : True := trivial
theorem PySem.W.Fast.tw12519812310673320994 : True := trivial
theorem PySem.W.Fast.tw18260475167933081816 : True := trivial
theorem PySem.W.Fast.tw6871421896359648024 : True := trivial
theorem PySem.W.Fast.tw13387872547333249103 : True := trivial
theorem PySem.W.Fast.tw2150645503222247718 : True := trivial
theorem PySem.W.Fast.tw16685363261467994151 : True := trivial
theorem PySem.W.Fast.tw7694323931882083509 : True := trivial
theorem PySem.W.Fast.tw9040877084346249805 : True := trivial
theorem PySem.W.Fast.tw9677621834189528818 : True := trivial
theorem PySem.W.Fast.tw11327709705154193233 : True := trivial
theorem PySem.W.Fast.tw17313369754286276202 : True := trivial
theorem PySem.W.Fast.tw7138133475312956311 : True := trivial
theorem PySem.W.Fast.tw11431808348375662887 : True := trivial
theorem PySem.W.Fast.tw1686727150828391375 : True := trivial
theorem PySem.W.Fast.tw318564215780509707 : True := trivial
theorem PySem.W.Fast.tw10463915287400719737 : True := trivial
theorem PySem.W.Fast.tw1025808763436450141 : True := trivial
theorem PySem.W.Fast.tw9369563645549798689 : True := trivial
theorem PySem.W.Fast.tw18004405261191955014 : True := trivial
theorem PySem.W.Fast.tw13833711081591624664 : True := trivial
theorem PySem.W.Fast.tw8386510347483735694 : True := trivial
theorem PySem.W.Fast.tw14449809811554416616 : True := trivial
theorem PySem.W.Fast.tw13733710927693345470 : True := trivial
theorem PySem.W.Fast.tw8858961576539876260 : True := trivial
theorem PySem.W.Fast.tw2149862547862402747 : True := trivial
theorem PySem.W.Fast.tw12615688249488362551 : True := trivial
theorem PySem.W.Fast.tw5646515020868457255 : True := trivial
theorem PySem.W.Fast.tw8992646870627869440 : True := trivial
theorem PySem.W.Fast.tw13664900263574021138 : True := trivial
theorem PySem.W.Fast.tw103657931499064334 : True := trivial
theorem PySem.W.Fast.tw3955891862960259102 : True := trivial
theorem PySem.W.Fast.tw10438599388843044099 : True := trivial
theorem PySem.W.Fast.tw962838355979489167 : True := trivial
theorem PySem.W.Fast.tw8981511681689545821 : True := trivial
theorem PySem.W.Fast.tw7096844534863246715 : True := trivial
theorem PySem.W.Fast.tw530414232077980154 : True := trivial
theorem PySem.W.Fast.tw2639080682016269383 : True := trivial
theorem PySem.W.Fast.tw6058562635976244365 : True := trivial
theorem PySem.W.Fast.tw1307046708367876493 : True := trivial
theorem PySem.W.Fast.tw10999331866618316903 : True := trivial
theorem PySem.W.Fast.tw12509614582371203626 : True := trivial
theorem PySem.W.Fast.tw17247335779702352970 : True := trivial
theorem PySem.W.Fast.tw11011241498395977410 : True := trivial
theorem PySem.W.Fast.tw10385974691013553002 : True := trivial
theorem PySem.W.Fast.tw15878168461621013310 : True := trivial
theorem PySem.W.Fast.tw6708047395577272639 : True := trivial
theorem PySem.W.Fast.tw12457918846190242440 : True := trivial
theorem PySem.W.Fast.tw1039789190011537076 : True := trivial
theorem PySem.W.Fast.tw2547613086698317560 : True := trivial
theorem PySem.W.Fast.tw14937489720554550578 : True := trivial
theorem PySem.W.Fast.tw8377599297702795053 : True := trivial
theorem PySem.W.Fast.tw8476101211064341171 : True := trivial
theorem PySem.W.Fast.tw13643293968350839571 : True := trivial
theorem PySem.W.Fast.tw16417788593455021807 : True := trivial
theorem PySem.W.Fast.tw6558180132614510950 : True := trivial
theorem PySem.W.Fast.tw2996492125293271821 : True := trivial
theorem PySem.W.Fast.tw16008120092460863398 : True := trivial
theorem PySem.W.Fast.tw11942308725839647908 : True := trivial
theorem PySem.W.Fast.tw16060681296846033343 : True := trivial
theorem PySem.W.Fast.tw10657094703156988010 : True := trivial
theorem PySem.W.Fast.tw14801608995563242100 : True := trivial
theorem PySem.W.Fast.tw5167765168622171939 : True := trivial
theorem PySem.W.Fast.tw16775797725699834785 : True := trivial
theorem PySem.W.Fast.tw4132749531920328919 : True := trivial
theorem PySem.W.Fast.tw3277070251676271666 : True := trivial
theorem PySem.W.Fast.tw482762587557169620 : True := trivial
theorem PySem.W.Fast.tw12887945326572830605 : True := trivial
theorem PySem.W.Fast.tw10431583454595634646 : True := trivial
theorem PySem.W.Fast.tw17824545666624645050 : True := trivial
theorem PySem.W.Fast.tw10598787602303583819 : True := trivial
theorem PySem.W.Fast.tw10996727996186338119 : True := trivial
theorem PySem.W.Fast.tw7181057246627619596 : True := trivial
theorem PySem.W.Fast.tw12347707416250153389 : True := trivial
theorem PySem.W.Fast.tw14595183684685437632 : True := trivial
theorem PySem.W.Fast.tw3291870797338137883 : True := trivial
theorem PySem.W.Fast.tw1150876196591700713 : True := trivial
theorem PySem.W.Fast.tw2795693789927208650 : True := trivial
theorem PySem.W.Fast.tw1962996863396886681 : True := trivial
theorem PySem.W.Fast.tw13827921747001893823 : True := trivial
theorem PySem.W.Fast.tw4669247774248089701 : True := trivial
theorem PySem.W.Fast.tw8321298037822837042 : True := trivial
theorem PySem.W.Fast.tw9205779688942825461 : True := trivial
theorem PySem.W.Fast.tw15737902974231441092 : True := trivial
theorem PySem.W.Fast.tw16091102178066414884 : True := trivial
theorem PySem.W.Fast.tw1553757658572429089 : True := trivial
theorem PySem.W.Fast.tw1617618192635701645 : True := trivial
theorem PySem.W.Fast.tw2374563244864822370 : True := trivial
theorem PySem.W.Fast.tw17039157068052892845 : True := trivial
theorem PySem.W.Fast.tw1045945000479131510 : True := trivial
theorem PySem.W.Fast.tw13377970942793420356 : True := trivial
theorem PySem.W.Fast.tw449843434076212756 : True := trivial
theorem PySem.W.Fast.tw13524804511225743898 : True := trivial
theorem PySem.W.Fast.tw16421868057829713369 : True := trivial
theorem PySem.W.Fast.tw16544863547404884992 : True := trivial
theorem PySem.W.Fast.tw9699799469986241883 : True := trivial
theorem PySem.W.Fast.tw6410409594534493646 : True := trivial
theorem PySem.W.Fast.tw4608506091096996028 : True := trivial
theorem PySem.W.Fast.tw9226386086504727993 : True := trivial
theorem PySem.W.Fast.tw17293708621764202391 : True := trivial
theorem PySem.W.Fast.tw2416668060613209708 : True := trivial
theorem PySem.W.Fast.tw7155504021125856826 : True := trivial
theorem PySem.W.Fast.tw5907256966114375552 : True := trivial
theorem PySem.W.Fast.tw2576894431263233181 : True := trivial
theorem PySem.W.Fast.tw13319762460719243848 : True := trivial
theorem PySem.W.Fast.tw17322671900553700272 : True := trivial
theorem PySem.W.Fast.tw5729977267095941384 : True := trivial
theorem PySem.W.Fast.tw1624118879797988565 : True := trivial
theorem PySem.W.Fast.tw882974206579431384 : True := trivial
theorem PySem.W.Fast.tw15329969870982524508 : True := trivial
theorem PySem.W.Fast.tw13672427353780144466 : True := trivial
theorem PySem.W.Fast.tw13568441921206850385 : True := trivial
theorem PySem.W.Fast.tw16530597016744720476 : True := trivial
theorem PySem.W.Fast.tw17168683114423559490 : True := trivial
theorem PySem.W.Fast.tw3621892496624813479 : True := trivial
theorem PySem.W.Fast.tw12640078920364808387 : True := trivial
theorem PySem.W.Fast.tw3801444149419413270 : True := trivial
theorem PySem.W.Fast.tw16026661450663536207 : True := trivial
theorem PySem.W.Fast.tw8514945915448818725 : True := trivial
theorem PySem.W.Fast.tw8120781356212251417 : True := trivial
theorem PySem.W.Fast.tw2854754637457787084 : True := trivial
theorem PySem.W.Fast.tw7733131267073288100 : True := trivial
theorem PySem.W.Fast.tw18358999878703500256 : True := trivial
theorem PySem.W.Fast.tw2231762372681350944 : True := trivial
theorem PySem.W.Fast.tw5544465826253594868 : True := trivial
theorem PySem.W.Fast.tw4106456238823972670 : True := trivial
theorem PySem.W.Fast.tw16805667020576320746 : True := trivial
theorem PySem.W.Fast.tw16184991335039165558 : True := trivial
theorem PySem.W.Fast.tw6731981636862500915 : True := trivial
theorem PySem.W.Fast.tw13894906706209183560 : True := trivial
theorem PySem.W.Fast.tw11056257167747754496 : True := trivial
theorem PySem.W.Fast.tw12511028121105069418 : True := trivial
theorem PySem.W.Fast.tw6213378039845320310 : True := trivial
theorem PySem.W.Fast.tw3824976927547490735 : True := trivial
theorem PySem.W.Fast.tw9167943028371539931 : True := trivial
theorem PySem.W.Fast.tw5627391217427484495 : True := trivial
theorem PySem.W.Fast.tw9616294089328190903 : True := trivial
theorem PySem.W.Fast.tw18067397502536213571 : True := trivial
theorem PySem.W.Fast.tw9812179071656089843 : True := trivial
theorem PySem.W.Fast.tw807605014312519948 : True := trivial
theorem PySem.W.Fast.tw17159473285574603421 : True := trivial
theorem PySem.W.Fast.tw969466227094170906 : True := trivial
theorem PySem.W.Fast.tw16985381637617757211 : True := trivial
theorem PySem.W.Fast.tw10105297668886356195 : True := trivial
theorem PySem.W.Fast.tw9210095170039118737 : True := trivial
theorem PySem.W.Fast.tw4340487079060157309 : True := trivial
theorem PySem.W.Fast.tw7916545492363534702 : True := trivial
theorem PySem.W.Fast.tw16446894792045211120 : True := trivial
theorem PySem.W.Fast.tw5842565175393295921 : True := trivial
theorem PySem.W.Fast.tw15405415035620836429 : True := trivial
theorem PySem.W.Fast.tw8979712697701321236 : True := trivial
theorem PySem.W.Fast.tw5546939529664718745 : True := trivial
theorem PySem.W.Fast.tw4967799695593857747 : True := trivial
theorem PySem.W.Fast.tw13669182636773051409 : True := trivial
theorem PySem.W.Fast.tw8550736137270809407 : True := trivial
theorem PySem.W.Fast.tw150846956406272180 : True := trivial
theorem PySem.W.Fast.tw17306385766041019884 : True := trivial
theorem PySem.W.Fast.tw11785317735876924223 : True := trivial
theorem PySem.W.Fast.tw17215658319826569960 : True := trivial
theorem PySem.W.Fast.tw10469911885206650013 : True := trivial
theorem PySem.W.Fast.tw16161649909643573920 : True := trivial
theorem PySem.W.Fast.tw3690329963859975323 : True := trivial
theorem PySem.W.Fast.tw12648670526593250614 : True := trivial
theorem PySem.W.Fast.tw194502018360087818 : True := trivial
theorem PySem.W.Fast.tw18088515640915116105 : True := trivial
theorem PySem.W.Fast.tw15539902509531394983 : True := trivial
theorem PySem.W.Fast.tw8823888203307036238 : True := trivial
theorem PySem.W.Fast.tw2290080967068719094 : True := trivial
theorem PySem.W.Fast.tw2588284663743252782 : True := trivial
theorem PySem.W.Fast.tw9840318559407665419 : True := trivial
theorem PySem.W.Fast.tw18147203036808094848 : True := trivial
theorem PySem.W.Fast.tw17033426788370194687 : True := trivial
theorem PySem.W.Fast.tw10312525814816846874 : True := trivial
theorem PySem.W.Fast.tw4617862726893702931 : True := trivial
theorem PySem.W.Fast.tw16593325806561683531 : True := trivial
theorem PySem.W.Fast.tw8543319126526208023 : True := trivial
theorem PySem.W.Fast.tw13306742222901782678 : True := trivial
theorem PySem.W.Fast.tw7042840369181561327 : True := trivial
theorem PySem.W.Fast.tw16782670674473043200 : True := trivial
theorem PySem.W.Fast.tw3568570872713019419 : True := trivial
theorem PySem.W.Fast.tw14959028793571820831 : True := trivial
theorem PySem.W.Fast.tw8637329288251895559 : True := trivial
theorem PySem.W.Fast.tw13532524933139669352 : True := trivial
theorem PySem.W.Fast.tw2912292166850481862 : True := trivial
theorem PySem.W.Fast.tw7111117635336695555 : True := trivial
theorem PySem.W.Fast.tw4807454312313438276 : True := trivial
theorem PySem.W.Fast.tw835594164360002136 : True := trivial
theorem PySem.W.Fast.tw2598190576117117996 : True := trivial
theorem PySem.W.Fast.tw7357393212644342196 : True := trivial
theorem PySem.W.Fast.tw2661527772358488141 : True := trivial
theorem PySem.W.Fast.tw5554512550352554186 : True := trivial
theorem PySem.W.Fast.tw270605519524834803 : True := trivial
theorem PySem.W.Fast.tw11709104270974626506 : True := trivial
theorem PySem.W.Fast.tw9903736975731692725 : True := trivial
theorem PySem.W.Fast.tw18005138966867788385 : True := trivial
theorem PySem.W.Fast.tw17630342489732441514 : True := trivial
theorem PySem.W.Fast.tw1574395794498380473 : True := trivial
theorem PySem.W.Fast.tw11213693565206858238 : True := trivial
theorem PySem.W.Fast.tw1776431479190750900 : True := trivial
theorem PySem.W.Fast.tw15531713961657868485 : True := trivial
theorem PySem.W.Fast.tw8770814276311217857 : True := trivial
theorem PySem.W.Fast.tw7286711524425953964 : True := trivial
theorem PySem.W.Fast.tw2866062084090480135 : True := trivial
theorem PySem.W.Fast.tw4656962332072906393 : True := trivial
theorem PySem.W.Fast.tw16841753205138280517 : True := trivial
theorem PySem.W.Fast.tw13395111381635974359 : True := trivial
theorem PySem.W.Fast.tw205661725019463446 : True := trivial
theorem PySem.W.Fast.tw4758515042391491195 : True := trivial
theorem PySem.W.Fast.tw2909779514140535231 : True := trivial
theorem PySem.W.Fast.tw7135442253696928670 : True := trivial
theorem PySem.W.Fast.tw9709957676880913938 : True := trivial
theorem PySem.W.Fast.tw1808462128252504271 : True := trivial
theorem PySem.W.Fast.tw17434969886451077230 : True := trivial
theorem PySem.W.Fast.tw10156712678932454957 : True := trivial
theorem PySem.W.Fast.tw1135342404748090938 : True := trivial
theorem PySem.W.Fast.tw5788514207639253498 : True := trivial
theorem PySem.W.Fast.tw17924565202570748433 : True := trivial
theorem PySem.W.Fast.tw7446861774059568199 : True := trivial
theorem PySem.W.Fast.tw6005682951312450574 : True := trivial
theorem PySem.W.Fast.tw2181192189815244712 : True := trivial
theorem PySem.W.Fast.tw3146578962094319920 : True := trivial
theorem PySem.W.Fast.tw17931154239538841883 : True := trivial
theorem PySem.W.Fast.tw16871137479048566182 : True := trivial
theorem PySem.W.Fast.tw1163183989611510181 : True := trivial
theorem PySem.W.Fast.tw620254357548514347 : True := trivial
theorem PySem.W.Fast.tw14434254129979251545 : True := trivial
theorem PySem.W.Fast.tw12638294601585482052 : True := trivial
theorem PySem.W.Fast.tw17661489105654131214 : True := trivial
theorem PySem.W.Fast.tw9184835908323765939 : True := trivial
theorem PySem.W.Fast.tw16554232290789780922 : True := trivial
theorem PySem.W.Fast.tw6061263924896277075 : True := trivial
theorem PySem.W.Fast.tw15522865629409734152 : True := trivial
theorem PySem.W.Fast.tw7172362274004515561 : True := trivial
theorem PySem.W.Fast.tw13458740023597185044 : True := trivial
theorem PySem.W.Fast.tw12535676286589963701 : True := trivial
theorem PySem.W.Fast.tw14586452341369331266 : True := trivial
theorem PySem.W.Fast.tw15998018116418662568 : True := trivial
theorem PySem.W.Fast.tw8120351595484905238 : True := trivial
theorem PySem.W.Fast.tw5119764040954202659 : True := trivial
theorem PySem.W.Fast.tw9431977646502453891 : True := trivial
theorem PySem.W.Fast.tw15709270992761304483 : True := trivial
theorem PySem.W.Fast.tw7421895492928765941 : True := trivial
theorem PySem.W.Fast.tw11854626246462769983 : True := trivial
theorem PySem.W.Fast.tw10676422215513880864 : True := trivial
theorem PySem.W.Fast.tw4840153443401823774 : True := trivial
theorem PySem.W.Fast.tw11078952177647741944 : True := trivial
theorem PySem.W.Fast.tw247246016751656074 : True := trivial
theorem PySem.W.Fast.tw13639737728151889836 : True := trivial
theorem PySem.W.Fast.tw7306415276236514371 : True := trivial
theorem PySem.W.Fast.tw8540848031597467134 : True := trivial
theorem PySem.W.Fast.tw6169103533648644960 : True := trivial
theorem PySem.W.Fast.tw5414183735470113566 : True := trivial
theorem PySem.W.Fast.tw6616363777644942903 : True := trivial
theorem PySem.W.Fast.tw9606698952978936251 : True := trivial
theorem PySem.W.Fast.tw4860694586410989674 : True := trivial
theorem PySem.W.Fast.tw9846183367803244239 : True := trivial
theorem PySem.W.Fast.tw8512533826358068268 : True := trivial
theorem PySem.W.Fast.tw3790524206808005981 : True := trivial
theorem PySem.W.Fast.tw8302412080820411751 : True := trivial
theorem PySem.W.Fast.tw660190374885612665 : True := trivial
theorem PySem.W.Fast.tw14384760189672483128 : True := trivial
theorem PySem.W.Fast.tw12930539858018177961 : True := trivial
theorem PySem.W.Fast.tw16992019539540166436 : True := trivial
theorem PySem.W.Fast.tw17826141684210721023 : True := trivial
theorem PySem.W.Fast.tw1290326474987310277 : True := trivial
theorem PySem.W.Fast.tw14945143674947261771 : True := trivial
theorem PySem.W.Fast.tw1217322277704595564 : True := trivial
theorem PySem.W.Fast.tw11450242129500397264 : True := trivial
theorem PySem.W.Fast.tw5207220440280610698 : True := trivial
theorem PySem.W.Fast.tw8640545893040789995 : True := trivial
theorem PySem.W.Fast.tw9171377102216144414 : True := trivial
theorem PySem.W.Fast.tw14699981556993384126 : True := trivial
theorem PySem.W.Fast.tw12108346574673321813 : True := trivial
theorem PySem.W.Fast.tw10095554539086176628 : True := trivial
theorem PySem.W.Fast.tw3467587805461381126 : True := trivial
theorem PySem.W.Fast.tw10768899355771454863 : True := trivial
theorem PySem.W.Fast.tw17585591295662694652 : True := trivial
theorem PySem.W.Fast.tw1968158045485662145 : True := trivial
theorem PySem.W.Fast.tw15291449358446776377 : True := trivial
theorem PySem.W.Fast.tw12150343994393642249 : True := trivial
theorem PySem.W.Fast.tw15049841341559524816 : True := trivial
theorem PySem.W.Fast.tw12098377113863683012 : True := trivial
theorem PySem.W.Fast.tw10671748067621347518 : True := trivial
theorem PySem.W.Fast.tw15015723933764218010 : True := trivial
theorem PySem.W.Fast.tw13248328618040798013 : True := trivial
theorem PySem.W.Fast.tw3598136428901384225 : True := trivial
theorem PySem.W.Fast.tw610690648977095681 : True := trivial
theorem PySem.W.Fast.tw17842251548372142720 : True := trivial
theorem PySem.W.Fast.tw6366999776232517105 : True := trivial
theorem PySem.W.Fast.tw1420387853899309297 : True := trivial
theorem PySem.W.Fast.tw10442798002892604005 : True := trivial
theorem PySem.W.Fast.tw8843116512462697511 : True := trivial
theorem PySem.W.Fast.tw7863118272044974989 : True := trivial
theorem PySem.W.Fast.tw8378630883022207777 : True := trivial
theorem PySem.W.Fast.tw15806628849765736184 : True := trivial
theorem PySem.W.Fast.tw17261515367145235737 : True := trivial
theorem PySem.W.Fast.tw1838426974365427053 : True := trivial
theorem PySem.W.Fast.tw5672332747567363808 : True := trivial
theorem PySem.W.Fast.tw1238476519689311315 : True := trivial
theorem PySem.W.Fast.tw11095553229856837751 : True := trivial
theorem PySem.W.Fast.tw11892685908565100505 : True := trivial
theorem PySem.W.Fast.tw8744120250362476052 : True := trivial
theorem PySem.W.Fast.tw3407666579793954070 : True := trivial
theorem PySem.W.Fast.tw11241562548349210426 : True := trivial
theorem PySem.W.Fast.tw8288767979974798744 : True := trivial
theorem PySem.W.Fast.tw17193186771909162117 : True := trivial
theorem PySem.W.Fast.tw14922783414075498509 : True := trivial
theorem PySem.W.Fast.tw2250650631771504961 : True := trivial
theorem PySem.W.Fast.tw16567772903038686855 : True := trivial
theorem PySem.W.Fast.tw136822376828533043 : True := trivial
theorem PySem.W.Fast.tw12032714506738861956 : True := trivial
theorem PySem.W.Fast.tw5943567195714406020 : True := trivial
theorem PySem.W.Fast.tw16071016644130786752 : True := trivial
theorem PySem.W.Fast.tw18355564279645990397 : True := trivial
theorem PySem.W.Fast.tw11591577437830575040 : True := trivial
theorem PySem.W.Fast.tw11975413928160454076 : True := trivial
theorem PySem.W.Fast.tw11626368236375525450 : True := trivial
theorem PySem.W.Fast.tw13788652731591964260 : True := trivial
theorem PySem.W.Fast.tw10627012705589007675 : True := trivial
theorem PySem.W.Fast.tw2774148092748600221 : True := trivial
theorem PySem.W.Fast.tw15190114054252109527 : True := trivial
theorem PySem.W.Fast.tw10417872070520563765 : True := trivial
theorem PySem.W.Fast.tw5824537671161327997 : True := trivial
theorem PySem.W.Fast.tw11202846976856149095 : True := trivial
theorem PySem.W.Fast.tw16229356413378568897 : True := trivial
theorem PySem.W.Fast.tw6695540990513472819 : True := trivial
theorem PySem.W.Fast.tw16668580612998511770 : True := trivial
theorem PySem.W.Fast.tw17575393022250610042 : True := trivial
theorem PySem.W.Fast.tw2865353113995551400 : True := trivial
theorem PySem.W.Fast.tw14971503373515641916 : True := trivial
theorem PySem.W.Fast.tw6934903834641316761 : True := trivial
theorem PySem.W.Fast.tw6780873234525783088 : True := trivial
theorem PySem.W.Fast.tw1128976931759396647 : True := trivial
theorem PySem.W.Fast.tw14889495231222285930 : True := trivial
theorem PySem.W.Fast.tw9685408338422503469 : True := trivial
theorem PySem.W.Fast.tw2852125771943923530 : True := trivial
theorem PySem.W.Fast.tw5768414495007561420 : True := trivial
theorem PySem.W.Fast.tw4330211879053504315 : True := trivial
theorem PySem.W.Fast.tw15241220037440638429 : True := trivial
theorem PySem.W.Fast.tw6276239173713599509 : True := trivial
theorem PySem.W.Fast.tw427124238682577750 : True := trivial
theorem PySem.W.Fast.tw9242266324766449681 : True := trivial
theorem PySem.W.Fast.tw3888161586009278714 : True := trivial
theorem PySem.W.Fast.tw5588702243022202888 : True := trivial
theorem PySem.W.Fast.tw13451408185462656104 : True := trivial
theorem PySem.W.Fast.tw2056993034478753771 : True := trivial
theorem PySem.W.Fast.tw9675793668033108858 : True := trivial
theorem PySem.W.Fast.tw1941410742752256232 : True := trivial
theorem PySem.W.Fast.tw16037828106046326432 : True := trivial
theorem PySem.W.Fast.tw10589882263666135717 : True := trivial
theorem PySem.W.Fast.tw1905714175503630421 : True := trivial
theorem PySem.W.Fast.tw7705029780511604952 : True := trivial
theorem PySem.W.Fast.tw14765232850988482964 : True := trivial
theorem PySem.W.Fast.tw2763749338960257350 : True := trivial
theorem PySem.W.Fast.tw8990075201396066004 : True := trivial
theorem PySem.W.Fast.tw12122009057481620352 : True := trivial
theorem PySem.W.Fast.tw12582010859128071297 : True := trivial
theorem PySem.W.Fast.tw9338899655376651673 : True := trivial
theorem PySem.W.Fast.tw12972976881348839467 : True := trivial
theorem PySem.W.Fast.tw15768066782953570909 : True := trivial
theorem PySem.W.Fast.tw17040641313884523638 : True := trivial
theorem PySem.W.Fast.tw11835988015761912458 : True := trivial
theorem PySem.W.Fast.tw8894575379443900110 : True := trivial
theorem PySem.W.Fast.tw14285064667670841554 : True := trivial
theorem PySem.W.Fast.tw3106915013749072403 : True := trivial
theorem PySem.W.Fast.tw1437201108005204581 : True := trivial
theorem PySem.W.Fast.tw10280207488722110668 : True := trivial
theorem PySem.W.Fast.tw9343988115211172411 : True := trivial
theorem PySem.W.Fast.tw12713643459037021662 : True := trivial
theorem PySem.W.Fast.tw2700608884901139208 : True := trivial
theorem PySem.W.Fast.tw7793028763842324027 : True := trivial
theorem PySem.W.Fast.tw4019946731007526215 : True := trivial
theorem PySem.W.Fast.tw12468982086687204452 : True := trivial
theorem PySem.W.Fast.tw1305519153981529046 : True := trivial
theorem PySem.W.Fast.tw16102118334980606947 : True := trivial
theorem PySem.W.Fast.tw5270367677984069076 : True := trivial
theorem PySem.W.Fast.tw4094864081971431502 : True := trivial
theorem PySem.W.Fast.tw14543614865283307591 : True := trivial
theorem PySem.W.Fast.tw7042759462741440368 : True := trivial
theorem PySem.W.Fast.tw11175591871219301874 : True := trivial
theorem PySem.W.Fast.tw15533508516281052913 : True := trivial
theorem PySem.W.Fast.tw7909315447692191575 : True := trivial
theorem PySem.W.Fast.tw3758870482388007901 : True := trivial
theorem PySem.W.Fast.tw2305223362013746025 : True := trivial
theorem PySem.W.Fast.tw10350357604737720579 : True := trivial
theorem PySem.W.Fast.tw10973533387022965634 : True := trivial
theorem PySem.W.Fast.tw8093426875284476168 : True := trivial
theorem PySem.W.Fast.tw4091454996601152482 : True := trivial
theorem PySem.W.Fast.tw756561678527845382 : True := trivial
theorem PySem.W.Fast.tw10285485097944430400 : True := trivial
theorem PySem.W.Fast.tw1465153717974876449 : True := trivial
theorem PySem.W.Fast.tw17589986131745658120 : True := trivial
theorem PySem.W.Fast.tw12683658322154937160 : True := trivial
theorem PySem.W.Fast.tw13403804901587713488 : True := trivial
theorem PySem.W.Fast.tw540134330384474481 : True := trivial
theorem PySem.W.Fast.tw11699227668688504693 : True := trivial
theorem PySem.W.Fast.tw6324443844804139836 : True := trivial
theorem PySem.W.Fast.tw408505773007511199 : True := trivial
theorem PySem.W.Fast.tw16634085777691796514 : True := trivial
theorem PySem.W.Fast.tw1752458630126154325 : True := trivial
theorem PySem.W.Fast.tw3656187563101292174 : True := trivial
theorem PySem.W.Fast.tw3354589329782315635 : True := trivial
theorem PySem.W.Fast.tw3110509850966815714 : True := trivial
theorem PySem.W.Fast.tw3323774324848682633 : True := trivial
theorem PySem.W.Fast.tw6205830635726516294 : True := trivial
theorem PySem.W.Fast.tw12975929991574513593 : True := trivial
theorem PySem.W.Fast.tw2348456183906072059 : True := trivial
theorem PySem.W.Fast.tw10658405900961975055 : True := trivial
theorem PySem.W.Fast.tw11005737228153251848 : True := trivial
theorem PySem.W.Fast.tw2534122502426127111 : True := trivial
theorem PySem.W.Fast.tw17191771041127311113 : True := trivial
theorem PySem.W.Fast.tw7464523679426681526 : True := trivial
theorem PySem.W.Fast.tw2131907539088375197 : True := trivial
theorem PySem.W.Fast.tw9383854442331860893 : True := trivial
theorem PySem.W.Fast.tw3996607799012022029 : True := trivial
theorem PySem.W.Fast.tw13680459007306284692 : True := trivial
theorem PySem.W.Fast.tw4459576014109744548 : True := trivial
theorem PySem.W.Fast.tw16644613739633082892 : True := trivial
theorem PySem.W.Fast.tw13181788706364627228 : True := trivial
theorem PySem.W.Fast.tw6450472664589399868 : True := trivial
theorem PySem.W.Fast.tw290644522667041936 : True := trivial
theorem PySem.W.Fast.tw18223648947596620196 : True := trivial
theorem PySem.W.Fast.tw15540784308127438613 : True := trivial
theorem PySem.W.Fast.tw5652965970975252097 : True := trivial
theorem PySem.W.Fast.tw6524135922147440138 : True := trivial
theorem PySem.W.Fast.tw8025988931142824171 : True := trivial
theorem PySem.W.Fast.tw4463019859010685051 : True := trivial
theorem PySem.W.Fast.tw11133168627846468318 : True := trivial
theorem PySem.W.Fast.tw3135742086658061373 : True := trivial
theorem PySem.W.Fast.tw4054172176190591668 : True := trivial
theorem PySem.W.Fast.tw17510376791952812558 : True := trivial
theorem PySem.W.Fast.tw17234350775216972025 : True := trivial
theorem PySem.W.Fast.tw3502096893538860646 : True := trivial
theorem PySem.W.Fast.tw1004258192410383943 : True := trivial
theorem PySem.W.Fast.tw15216995612142940396 : True := trivial
theorem PySem.W.Fast.tw8379059000260586990 : True := trivial
theorem PySem.W.Fast.tw7394866506610872979 : True := trivial
theorem PySem.W.Fast.tw17750492382849941747 : True := trivial
theorem PySem.W.Fast.tw3728794021003596550 : True := trivial
theorem PySem.W.Fast.tw15759261525410511429 : True := trivial
theorem PySem.W.Fast.tw8659812073649524172 : True := trivial
theorem PySem.W.Fast.tw3250910081457885798 : True := trivial
theorem PySem.W.Fast.tw6088836687948801017 : True := trivial
theorem PySem.W.Fast.tw4446612070234716850 : True := trivial
theorem PySem.W.Fast.tw1119422094334869797 : True := trivial
theorem PySem.W.Fast.tw3145848277181793248 : True := trivial
theorem PySem.W.Fast.tw12339885924797012636 : True := trivial
theorem PySem.W.Fast.tw15083386038169074983 : True := trivial
theorem PySem.W.Fast.tw8737674360280055933 : True := trivial
theorem PySem.W.Fast.tw10021354662212821799 : True := trivial
theorem PySem.W.Fast.tw2960880577342831529 : True := trivial
theorem PySem.W.Fast.tw9214921122781790547 : True := trivial
theorem PySem.W.Fast.tw12903006188133837089 : True := trivial
theorem PySem.W.Fast.tw10338567453520827134 : True := trivial
theorem PySem.W.Fast.tw13973983230052818059 : True := trivial
theorem PySem.W.Fast.tw17028589225549779193 : True := trivial
theorem PySem.W.Fast.tw9110808232859032468 : True := trivial
theorem PySem.W.Fast.tw4173951612215588105 : True := trivial
theorem PySem.W.Fast.tw1080186421029899830 : True := trivial
theorem PySem.W.Fast.tw13805114873563409647 : True := trivial
theorem PySem.W.Fast.tw9355818158106933829 : True := trivial
theorem PySem.W.Fast.tw4778709370912967446 : True := trivial
theorem PySem.W.Fast.tw8364672788462371277 : True := trivial
theorem PySem.W.Fast.tw638572695843117525 : True := trivial
theorem PySem.W.Fast.tw12697167511044664072 : True := trivial
theorem PySem.W.Fast.tw10986352747010396149 : True := trivial
theorem PySem.W.Fast.tw18052814214717198072 : True := trivial
theorem PySem.W.Fast.tw6283487390941034274 : True := trivial
theorem PySem.W.Fast.tw15209399351677142484 : True := trivial
theorem PySem.W.Fast.tw12113495006151993081 : True := trivial
theorem PySem.W.Fast.tw17170310057518271265 : True := trivial
theorem PySem.W.Fast.tw487699624643799679 : True := trivial
theorem PySem.W.Fast.tw17670118009065203334 : True := trivial
theorem PySem.W.Fast.tw4380824556110623840 : True := trivial
theorem PySem.W.Fast.tw4069235181636818247 : True := trivial
theorem PySem.W.Fast.tw4697344699580415156 : True := trivial
theorem PySem.W.Fast.tw6141896104747234241 : True := trivial
theorem PySem.W.Fast.tw12113622832211360407 : True := trivial
theorem PySem.W.Fast.tw11881625841051570681 : True := trivial
theorem PySem.W.Fast.tw2673060716081572392 : True := trivial
theorem PySem.W.Fast.tw18201919097949618592 : True := trivial
theorem PySem.W.Fast.tw9056332878596869227 : True := trivial
theorem PySem.W.Fast.tw780467385730049079 : True := trivial
theorem PySem.W.Fast.tw7967757313634178253 : True := trivial
theorem PySem.W.Fast.tw14145030407591513706 : True := trivial
theorem PySem.W.Fast.tw6901402247894635707 : True := trivial
theorem PySem.W.Fast.tw6348963493273877493 : True := trivial
theorem PySem.W.Fast.tw17153623034154377608 : True := trivial
theorem PySem.W.Fast.tw7310905604385835803 : True := trivial
theorem PySem.W.Fast.tw421851609179619495 : True := trivial
theorem PySem.W.Fast.tw3236460494539434635 : True := trivial
theorem PySem.W.Fast.tw10780496500807205060 : True := trivial
theorem PySem.W.Fast.tw3744242632084539323 : True := trivial
theorem PySem.W.Fast.tw7464996436606481633 : True := trivial
theorem PySem.W.Fast.tw2056037518259980314 : True := trivial
theorem PySem.W.Fast.tw15830363002739129569 : True := trivial
theorem PySem.W.Fast.tw16649226137696513130 : True := trivial
theorem PySem.W.Fast.tw10719057283481877369 : True := trivial
theorem PySem.W.Fast.tw13131482049909523750 : True := trivial
theorem PySem.W.Fast.tw14509850445123492794 : True := trivial
theorem PySem.W.Fast.tw15179712161077103593 : True := trivial
theorem PySem.W.Fast.tw12150046526798273905 : True := trivial
theorem PySem.W.Fast.tw6329642823807896468 : True := trivial
theorem PySem.W.Fast.tw8904621602971073394 : True := trivial
theorem PySem.W.Fast.tw4680613391358226698 : True := trivial
theorem PySem.W.Fast.tw12047469175954218384 : True := trivial
theorem PySem.W.Fast.tw4071808302274923066 : True := trivial
theorem PySem.W.Fast.tw10393905360240942218 : True := trivial
theorem PySem.W.Fast.tw1892283536450730166 : True := trivial
theorem PySem.W.Fast.tw1094057056584194826 : True := trivial
theorem PySem.W.Fast.tw17838059973008627590 : True := trivial
theorem PySem.W.Fast.tw10617154887062546840 : True := trivial
theorem PySem.W.Fast.tw9802112655912513668 : True := trivial
theorem PySem.W.Fast.tw503182924964276337 : True := trivial
theorem PySem.W.Fast.tw5764454301966035624 : True := trivial
theorem PySem.W.Fast.tw12726452256156338747 : True := trivial
theorem PySem.W.Fast.tw6632898892389849183 : True := trivial
theorem PySem.W.Fast.tw10980702853878725048 : True := trivial
theorem PySem.W.Fast.tw11004264349829883180 : True := trivial
theorem PySem.W.Fast.tw13126689911489227371 : True := trivial
theorem PySem.W.Fast.tw1119409548049625068 : True := trivial
theorem PySem.W.Fast.tw13904807957097212528 : True := trivial
theorem PySem.W.Fast.tw15208303551706560005 : True := trivial
theorem PySem.W.Fast.tw12128185055045213584 : True := trivial
theorem PySem.W.Fast.tw11063995696966837274 : True := trivial
theorem PySem.W.Fast.tw4185290666289700057 : True := trivial
theorem PySem.W.Fast.tw4914061386467167758 : True := trivial
theorem PySem.W.Fast.tw13703730878670838992 : True := trivial
theorem PySem.W.Fast.tw10988446547325942894 : True := trivial
theorem PySem.W.Fast.tw3754298822192304967 : True := trivial
theorem PySem.W.Fast.tw5847820346339535080 : True := trivial
theorem PySem.W.Fast.tw11071158731838414500 : True := trivial
theorem PySem.W.Fast.tw2521742076415634000 : True := trivial
theorem PySem.W.Fast.tw12261835772806152606 : True := trivial
theorem PySem.W.Fast.tw999908579064508868 : True := trivial
theorem PySem.W.Fast.tw15988944986424609278 : True := trivial
theorem PySem.W.Fast.tw6953633734003222491 : True := trivial
theorem PySem.W.Fast.tw6829034638726599666 : True := trivial
theorem PySem.W.Fast.tw3605857208369470921 : True := trivial
theorem PySem.W.Fast.tw137215928396203629 : True := trivial
theorem PySem.W.Fast.tw4249218723741198588 : True := trivial
theorem PySem.W.Fast.tw12516501724272040170 : True := trivial
theorem PySem.W.Fast.tw6173757342063393927 : True := trivial
theorem PySem.W.Fast.tw14910403620102932696 : True := trivial
theorem PySem.W.Fast.tw2122884892102158162 : True := trivial
theorem PySem.W.Fast.tw11377352800548154683 : True := trivial
theorem PySem.W.Fast.tw1246095916771758451 : True := trivial
theorem PySem.W.Fast.tw4435928647925196290 : True := trivial
theorem PySem.W.Fast.tw13322099053369570868 : True := trivial
theorem PySem.W.Fast.tw3074035848756427484 : True := trivial
theorem PySem.W.Fast.tw8351751557888542510 : True := trivial
theorem PySem.W.Fast.tw7005292102771279720 : True := trivial
theorem PySem.W.Fast.tw9477880073164900901 : True := trivial
theorem PySem.W.Fast.tw2741802555070095225 : True := trivial
theorem PySem.W.Fast.tw3125080303058914139 : True := trivial
theorem PySem.W.Fast.tw10403434289394439725 : True := trivial
theorem PySem.W.Fast.tw5092092525758358571 : True := trivial
theorem PySem.W.Fast.tw10319295446728594864 : True := trivial
theorem PySem.W.Fast.tw8389385199201609497 : True := trivial
theorem PySem.W.Fast.tw1842760966640642425 : True := trivial
theorem PySem.W.Fast.tw10923433872842168732 : True := trivial
theorem PySem.W.Fast.tw6255693156312869980 : True := trivial
theorem PySem.W.Fast.tw17539430437789403141 : True := trivial
theorem PySem.W.Fast.tw7071190236537594636 : True := trivial
theorem PySem.W.Fast.tw4529118959869378885 : True := trivial
theorem PySem.W.Fast.tw4278445840492219075 : True := trivial
theorem PySem.W.Fast.tw930463157791893691 : True := trivial
theorem PySem.W.Fast.tw6120514350776244997 : True := trivial
theorem PySem.W.Fast.tw17757268999049944370 : True := trivial
theorem PySem.W.Fast.tw785821843184001984 : True := trivial
theorem PySem.W.Fast.tw14468657775887835433 : True := trivial
theorem PySem.W.Fast.tw5521876851612741332 : True := trivial
theorem PySem.W.Fast.tw5631595778671139993 : True := trivial
theorem PySem.W.Fast.tw769873231753211901 : True := trivial
theorem PySem.W.Fast.tw6202542507464547240 : True := trivial
theorem PySem.W.Fast.tw17326884020019521356 : True := trivial
theorem PySem.W.Fast.tw3297253527464929819 : True := trivial
theorem PySem.W.Fast.tw5097104467673795251 : True := trivial
theorem PySem.W.Fast.tw4287941270559780282 : True := trivial
theorem PySem.W.Fast.tw8244816333278888853 : True := trivial
theorem PySem.W.Fast.tw859305243175136252 : True := trivial
theorem PySem.W.Fast.tw1350422578246673778 : True := trivial
theorem PySem.W.Fast.tw11236964714907234455 : True := trivial
theorem PySem.W.Fast.tw188413035426675562 : True := trivial
theorem PySem.W.Fast.tw8408961572749828550 : True := trivial
theorem PySem.W.Fast.tw12369141063370997832 : True := trivial
theorem PySem.W.Fast.tw4816875939147408821 : True := trivial
theorem PySem.W.Fast.tw14369905715702253244 : True := trivial
theorem PySem.W.Fast.tw5140836530629429674 : True := trivial
theorem PySem.W.Fast.tw16559160766584372333 : True := trivial
theorem PySem.W.Fast.tw9724994957922024458 : True := trivial
theorem PySem.W.Fast.tw7437770644696687166 : True := trivial
theorem PySem.W.Fast.tw3712136980447666549 : True := trivial
theorem PySem.W.Fast.tw14189303487526160505 : True := trivial
theorem PySem.W.Fast.tw17102397909114986597 : True := trivial
theorem PySem.W.Fast.tw12104717810103271482 : True := trivial
theorem PySem.W.Fast.tw3726272586396757450 : True := trivial
theorem PySem.W.Fast.tw15304292714238368369 : True := trivial
theorem PySem.W.Fast.tw17147832269007103028 : True := trivial
theorem PySem.W.Fast.tw17939861048202656329 : True := trivial
theorem PySem.W.Fast.tw15578687985324628793 : True := trivial
theorem PySem.W.Fast.tw17497402325368462379 : True := trivial
theorem PySem.W.Fast.tw8926165862226414299 : True := trivial
theorem PySem.W.Fast.tw17754588248266450872 : True := trivial
theorem PySem.W.Fast.tw6751961371333147116 : True := trivial
theorem PySem.W.Fast.tw6469848641273215729 : True := trivial
theorem PySem.W.Fast.tw18306823879687162907 : True := trivial
theorem PySem.W.Fast.tw16390464784329035778 : True := trivial
theorem PySem.W.Fast.tw3117909202662456301 : True := trivial
theorem PySem.W.Fast.tw15756677818617468837 : True := trivial
theorem PySem.W.Fast.tw13691962159925978811 : True := trivial
theorem PySem.W.Fast.tw16205812731728872746 : True := trivial
theorem PySem.W.Fast.tw1115491331464035725 : True := trivial
theorem PySem.W.Fast.tw14894313955850921828 : True := trivial
theorem PySem.W.Fast.tw4060563302296132726 : True := trivial
theorem PySem.W.Fast.tw8355050769895725060 : True := trivial
theorem PySem.W.Fast.tw5216214624908576858 : True := trivial
theorem PySem.W.Fast.tw11283115096165382311 : True := trivial
theorem PySem.W.Fast.tw16457299827527097039 : True := trivial
theorem PySem.W.Fast.tw1986939037088195473 : True := trivial
theorem PySem.W.Fast.tw12507783529420279821 : True := trivial
theorem PySem.W.Fast.tw368664813004217695 : True := trivial
theorem PySem.W.Fast.tw6130780131067115713 : True := trivial
theorem PySem.W.Fast.tw12882795342669289698 : True := trivial
theorem PySem.W.Fast.tw15350008626046154228 : True := trivial
theorem PySem.W.Fast.tw465969565888956695 : True := trivial
theorem PySem.W.Fast.tw10296198024951454957 : True := trivial
theorem PySem.W.Fast.tw16834579222609037661 : True := trivial
theorem PySem.W.Fast.tw554800696082519392 : True := trivial
theorem PySem.W.Fast.tw11913201153208461929 : True := trivial
theorem PySem.W.Fast.tw17617567580658439327 : True := trivial
theorem PySem.W.Fast.tw18038116560728064578 : True := trivial
theorem PySem.W.Fast.tw18355609471161646055 : True := trivial
theorem PySem.W.Fast.tw12416400233768246452 : True := trivial
theorem PySem.W.Fast.tw9491836586149067153 : True := trivial
theorem PySem.W.Fast.tw3460254491564332882 : True := trivial
theorem PySem.W.Fast.tw4002343375611552979 : True := trivial
theorem PySem.W.Fast.tw8906104812777365250 : True := trivial
theorem PySem.W.Fast.tw114715966099317510 : True := trivial
theorem PySem.W.Fast.tw5560311466553006743 : True := trivial
theorem PySem.W.Fast.tw5027488000836177919 : True := trivial
theorem PySem.W.Fast.tw16465593805737984664 : True := trivial
theorem PySem.W.Fast.tw7511121492216450416 : True := trivial
theorem PySem.W.Fast.tw12691290046031179629 : True := trivial
theorem PySem.W.Fast.tw14842898975457929295 : True := trivial
theorem PySem.W.Fast.tw16862195705468136350 : True := trivial
theorem PySem.W.Fast.tw235734332082721513 : True := trivial
theorem PySem.W.Fast.tw15242492399598068709 : True := trivial
theorem PySem.W.Fast.tw17453726155215810028 : True := trivial
theorem PySem.W.Fast.tw12210252797208016097 : True := trivial
theorem PySem.W.Fast.tw4069675735996882090 : True := trivial
theorem PySem.W.Fast.tw17721370383050550852 : True := trivial
theorem PySem.W.Fast.tw17178517649674098507 : True := trivial
theorem PySem.W.Fast.tw12591783387640803611 : True := trivial
theorem PySem.W.Fast.tw5412258084866512769 : True := trivial
theorem PySem.W.Fast.tw3363844665690127382 : True := trivial
theorem PySem.W.Fast.tw11830783570785419409 : True := trivial
theorem PySem.W.Fast.tw12611506175695843011 : True := trivial
theorem PySem.W.Fast.tw10397361519665153960 : True := trivial
theorem PySem.W.Fast.tw16499015234712023429 : True := trivial
theorem PySem.W.Fast.tw11493552391230467057 : True := trivial
theorem PySem.W.Fast.tw619245931372781536 : True := trivial
theorem PySem.W.Fast.tw5127646981198981764 : True := trivial
theorem PySem.W.Fast.tw11171436519050395178 : True := trivial
theorem PySem.W.Fast.tw8133754199348960248 : True := trivial
theorem PySem.W.Fast.tw4758862711547097532 : True := trivial
theorem PySem.W.Fast.tw4087267520373408122 : True := trivial
theorem PySem.W.Fast.tw11504157041807953407 : True := trivial
theorem PySem.W.Fast.tw3628018715751048898 : True := trivial
theorem PySem.W.Fast.tw15635943967441499724 : True := trivial
theorem PySem.W.Fast.tw7268891998733447482 : True := trivial
theorem PySem.W.Fast.tw13799044594937457708 : True := trivial
theorem PySem.W.Fast.tw2761224048841129530 : True := trivial
theorem PySem.W.Fast.tw16724855792560186555 : True := trivial
theorem PySem.W.Fast.tw13838536381266898241 : True := trivial
theorem PySem.W.Fast.tw13225176240128486563 : True := trivial
theorem PySem.W.Fast.tw9872198310438643946 : True := trivial
theorem PySem.W.Fast.tw15396452153381277526 : True := trivial
theorem PySem.W.Fast.tw4880700524298383679 : True := trivial
theorem PySem.W.Fast.tw1236939849772600881 : True := trivial
theorem PySem.W.Fast.tw980567710461381159 : True := trivial
theorem PySem.W.Fast.tw2575022359645086841 : True := trivial
theorem PySem.W.Fast.tw1059955907332158512 : True := trivial
theorem PySem.W.Fast.tw9432185985143277472 : True := trivial
theorem PySem.W.Fast.tw15336045838243851122 : True := trivial
theorem PySem.W.Fast.tw9175789199413821393 : True := trivial
theorem PySem.W.Fast.tw7353357239882678072 : True := trivial
theorem PySem.W.Fast.tw444549599266230490 : True := trivial
theorem PySem.W.Fast.tw16630255533077800411 : True := trivial
theorem PySem.W.Fast.tw13117533206590108622 : True := trivial
theorem PySem.W.Fast.tw4992414932233576555 : True := trivial
theorem PySem.W.Fast.tw13347805210272833211 : True := trivial
theorem PySem.W.Fast.tw8302121519887417882 : True := trivial
theorem PySem.W.Fast.tw14600451379570375988 : True := trivial
theorem PySem.W.Fast.tw7836031768647091910 : True := trivial
theorem PySem.W.Fast.tw16176828830102102227 : True := trivial
theorem PySem.W.Fast.tw11343495402645797384 : True := trivial
theorem PySem.W.Fast.tw7632338493383160856 : True := trivial
theorem PySem.W.Fast.tw4711704160015854651 : True := trivial
theorem PySem.W.Fast.tw17206814705428274302 : True := trivial
theorem PySem.W.Fast.tw5700915227048231412 : True := trivial
theorem PySem.W.Fast.tw5493071682287778107 : True := trivial
theorem PySem.W.Fast.tw12513834305441621738 : True := trivial
theorem PySem.W.Fast.tw11418143655630761242 : True := trivial
theorem PySem.W.Fast.tw2285733767809253281 : True := trivial
theorem PySem.W.Fast.tw10732194670606739125 : True := trivial
theorem PySem.W.Fast.tw16652353583659349503 : True := trivial
theorem PySem.W.Fast.tw4448721105361034661 : True := trivial
theorem PySem.W.Fast.tw4140387763128689213 : True := trivial
theorem PySem.W.Fast.tw12639874467435680114 : True := trivial
theorem PySem.W.Fast.tw8466469977171842533 : True := trivial
theorem PySem.W.Fast.tw8341816217091475816 : True := trivial
theorem PySem.W.Fast.tw10477648988641203008 : True := trivial
theorem PySem.W.Fast.tw15745710721685898523 : True := trivial
theorem PySem.W.Fast.tw6360310531627723565 : True := trivial
theorem PySem.W.Fast.tw4931030535670552771 : True := trivial
theorem PySem.W.Fast.tw15127565925812565391 : True := trivial
theorem PySem.W.Fast.tw11527602504919130607 : True := trivial
theorem PySem.W.Fast.tw4575518625329124461 : True := trivial
theorem PySem.W.Fast.tw15418471956094995445 : True := trivial
theorem PySem.W.Fast.tw13657899573538168474 : True := trivial
theorem PySem.W.Fast.tw12260084604427310084 : True := trivial
theorem PySem.W.Fast.tw3463928772599667814 : True := trivial
theorem PySem.W.Fast.tw9893705254522596774 : True := trivial
theorem PySem.W.Fast.tw16331294569398045206 : True := trivial
theorem PySem.W.Fast.tw14540953336273846216 : True := trivial
theorem PySem.W.Fast.tw18269087894603618439 : True := trivial
theorem PySem.W.Fast.tw600828165871160214 : True := trivial
theorem PySem.W.Fast.tw1065336331284388250 : True := trivial
theorem PySem.W.Fast.tw8022322501679842287 : True := trivial
theorem PySem.W.Fast.tw12860362302134515747 : True := trivial
theorem PySem.W.Fast.tw5908157067173209202 : True := trivial
theorem PySem.W.Fast.tw11505146105589801714 : True := trivial
theorem PySem.W.Fast.tw17704873089139237840 : True := trivial
theorem PySem.W.Fast.tw16819933773726791890 : True := trivial
theorem PySem.W.Fast.tw17478148034515968243 : True := trivial
theorem PySem.W.Fast.tw17911586729365907438 : True := trivial
theorem PySem.W.Fast.tw619456035177161293 : True := trivial
theorem PySem.W.Fast.tw7012597499140456836 : True := trivial
theorem PySem.W.Fast.tw6228951961657176230 : True := trivial
theorem PySem.W.Fast.tw12120848067322252482 : True := trivial
theorem PySem.W.Fast.tw8833783640642329934 : True := trivial
theorem PySem.W.Fast.tw15472522588917730784 : True := trivial
theorem PySem.W.Fast.tw17770299225642027661 : True := trivial
theorem PySem.W.Fast.tw4538397706973597575 : True := trivial
theorem PySem.W.Fast.tw14569435817945072387 : True := trivial
theorem PySem.W.Fast.tw5603261761908226353 : True := trivial
theorem PySem.W.Fast.tw17564932700780576129 : True := trivial
theorem PySem.W.Fast.tw14006232431236778088 : True := trivial
theorem PySem.W.Fast.tw12449681762832020866 : True := trivial
theorem PySem.W.Fast.tw9710911933453702346 : True := trivial
theorem PySem.W.Fast.tw12685204084213634090 : True := trivial
theorem PySem.W.Fast.tw16475883719484435140 : True := trivial
theorem PySem.W.Fast.tw18283518667076447806 : True := trivial
theorem PySem.W.Fast.tw15123448719836955960 : True := trivial
theorem PySem.W.Fast.tw10319270241245925507 : True := trivial
theorem PySem.W.Fast.tw9046582519214890953 : True := trivial
theorem PySem.W.Fast.tw3494245270304807829 : True := trivial
theorem PySem.W.Fast.tw13661617903963598160 : True := trivial
theorem PySem.W.Fast.tw13166336740676615631 : True := trivial
theorem PySem.W.Fast.tw8285371373290731042 : True := trivial
theorem PySem.W.Fast.tw4154519878152768310 : True := trivial
theorem PySem.W.Fast.tw11661732567451651372 : True := trivial
theorem PySem.W.Fast.tw17562646560750115900 : True := trivial
theorem PySem.W.Fast.tw3609613961633757991 : True := trivial
theorem PySem.W.Fast.tw2407796111345937932 : True := trivial
theorem PySem.W.Fast.tw15421973135606267456 : True := trivial
theorem PySem.W.Fast.tw13516390514484711017 : True := trivial
theorem PySem.W.Fast.tw3297045157402744794 : True := trivial
theorem PySem.W.Fast.tw3920681487451280152 : True := trivial
theorem PySem.W.Fast.tw15255279720210901426 : True := trivial
theorem PySem.W.Fast.tw17185726069020044401 : True := trivial
theorem PySem.W.Fast.tw10675876691408530396 : True := trivial
theorem PySem.W.Fast.tw13667572766602966056 : True := trivial
theorem PySem.W.Fast.tw6970954805281574580 : True := trivial
theorem PySem.W.Fast.tw11838373041396860417 : True := trivial
theorem PySem.W.Fast.tw10419456394251093287 : True := trivial
theorem PySem.W.Fast.tw9227964358679426608 : True := trivial
theorem PySem.W.Fast.tw7103220696559633445 : True := trivial
theorem PySem.W.Fast.tw3967699497884977865 : True := trivial
theorem PySem.W.Fast.tw13458021310539269482 : True := trivial
theorem PySem.W.Fast.tw15954084303988028311 : True := trivial
theorem PySem.W.Fast.tw12023679199018467119 : True := trivial
theorem PySem.W.Fast.tw306493825166497524 : True := trivial
theorem PySem.W.Fast.tw13054096438553692641 : True := trivial
theorem PySem.W.Fast.tw7300599212700160998 : True := trivial
theorem PySem.W.Fast.tw2220571778305370527 : True := trivial
theorem PySem.W.Fast.tw18396912511332201591 : True := trivial
theorem PySem.W.Fast.tw9355857517557736230 : True := trivial
theorem PySem.W.Fast.tw16063282550474992541 : True := trivial
theorem PySem.W.Fast.tw7687634123940177023 : True := trivial
theorem PySem.W.Fast.tw16836467232546919819 : True := trivial
theorem PySem.W.Fast.tw16598118117463958653 : True := trivial
theorem PySem.W.Fast.tw11879703532926892597 : True := trivial
theorem PySem.W.Fast.tw1148909340003867546 : True := trivial
theorem PySem.W.Fast.tw8604821602124530530 : True := trivial
theorem PySem.W.Fast.tw8808216601254665881 : True := trivial
theorem PySem.W.Fast.tw16719935129179506969 : True := trivial
theorem PySem.W.Fast.tw14390990711436466431 : True := trivial
theorem PySem.W.Fast.tw2195998969530549470 : True := trivial
theorem PySem.W.Fast.tw6285831299012211640 : True := trivial
theorem PySem.W.Fast.tw4280278097716124475 : True := trivial
theorem PySem.W.Fast.tw4373162151716105855 : True := trivial
theorem PySem.W.Fast.tw12463701722100485645 : True := trivial
theorem PySem.W.Fast.tw5928870923385244970 : True := trivial
theorem PySem.W.Fast.tw2233633926007305941 : True := trivial
theorem PySem.W.Fast.tw3770767660221957034 : True := trivial
theorem PySem.W.Fast.tw12071116264945675580 : True := trivial
theorem PySem.W.Fast.tw12097471285258290704 : True := trivial
theorem PySem.W.Fast.tw16521869073063001570 : True := trivial
theorem PySem.W.Fast.tw14217492756885079900 : True := trivial
theorem PySem.W.Fast.tw10127248299669913660 : True := trivial
theorem PySem.W.Fast.tw10906287588430455975 : True := trivial
theorem PySem.W.Fast.tw10607204584928287854 : True := trivial
theorem PySem.W.Fast.tw17089214128052550586 : True := trivial
theorem PySem.W.Fast.tw9301890497216031737 : True := trivial
theorem PySem.W.Fast.tw8260385115872568812 : True := trivial
theorem PySem.W.Fast.tw3002368444374333464 : True := trivial
theorem PySem.W.Fast.tw6901583080350701410 : True := trivial
theorem PySem.W.Fast.tw5230951796011496569 : True := trivial
theorem PySem.W.Fast.tw15495018938492390249 : True := trivial
theorem PySem.W.Fast.tw2451059155814084642 : True := trivial
theorem PySem.W.Fast.tw16064845744964525118 : True := trivial
theorem PySem.W.Fast.tw17802467020810913940 : True := trivial
theorem PySem.W.Fast.tw5560117929378995149 : True := trivial
theorem PySem.W.Fast.tw11075749583626663731 : True := trivial
theorem PySem.W.Fast.tw10620565848831997633 : True := trivial
theorem PySem.W.Fast.tw16349624345537196960 : True := trivial
theorem PySem.W.Fast.tw2674142640534854943 : True := trivial
theorem PySem.W.Fast.tw10863521499633207369 : True := trivial
theorem PySem.W.Fast.tw5752979535212728705 : True := trivial
theorem PySem.W.Fast.tw18393071089135155691 : True := trivial
theorem PySem.W.Fast.tw17750615931477149348 : True := trivial
theorem PySem.W.Fast.tw13549029578379631209 : True := trivial
theorem PySem.W.Fast.tw16411790115932628913 : True := trivial
theorem PySem.W.Fast.tw15847509458179088094 : True := trivial
theorem PySem.W.Fast.tw11130726267726774675 : True := trivial
theorem PySem.W.Fast.tw3011288938515592522 : True := trivial
theorem PySem.W.Fast.tw14456977185494853911 : True := trivial
theorem PySem.W.Fast.tw14860480460321682987 : True := trivial
theorem PySem.W.Fast.tw1982000421941061669 : True := trivial
theorem PySem.W.Fast.tw16072007080868820064 : True := trivial
theorem PySem.W.Fast.tw16377919639305442026 : True := trivial
theorem PySem.W.Fast.tw11370509441044713181 : True := trivial
theorem PySem.W.Fast.tw5106643645540343405 : True := trivial
theorem PySem.W.Fast.tw3409221883406160219 : True := trivial
theorem PySem.W.Fast.tw3462323377609376208 : True := trivial
theorem PySem.W.Fast.tw5576356193891884113 : True := trivial
theorem PySem.W.Fast.tw766710557132168976 : True := trivial
theorem PySem.W.Fast.tw8190462183804793246 : True := trivial
theorem PySem.W.Fast.tw16807230396874563143 : True := trivial
theorem PySem.W.Fast.tw15350520151853991330 : True := trivial
theorem PySem.W.Fast.tw8406928141823414390 : True := trivial
theorem PySem.W.Fast.tw1430084331257851494 : True := trivial
theorem PySem.W.Fast.tw8513317590652143543 : True := trivial
theorem PySem.W.Fast.tw1784387084582695009 : True := trivial
theorem PySem.W.Fast.tw17205100044490148847 : True := trivial
theorem PySem.W.Fast.tw3601195508510239653 : True := trivial
theorem PySem.W.Fast.tw10818194284492764579 : True := trivial
theorem PySem.W.Fast.tw17893820014776325333 : True := trivial
theorem PySem.W.Fast.tw17036767716077884338 : True := trivial
theorem PySem.W.Fast.tw7614211701216995778 : True := trivial
theorem PySem.W.Fast.tw12010521892893562887 : True := trivial
theorem PySem.W.Fast.tw9965758339401106782 : True := trivial
theorem PySem.W.Fast.tw1263637453157831145 : True := trivial
theorem PySem.W.Fast.tw8875257212111997858 : True := trivial
theorem PySem.W.Fast.tw12988502237032751920 : True := trivial
theorem PySem.W.Fast.tw6687418258541594217 : True := trivial
theorem PySem.W.Fast.tw6538527024072288763 : True := trivial
theorem PySem.W.Fast.tw15559666908486118845 : True := trivial
theorem PySem.W.Fast.tw3315890664137211790 : True := trivial
theorem PySem.W.Fast.tw18348411002956894884 : True := trivial
theorem PySem.W.Fast.tw15191962602801879371 : True := trivial
theorem PySem.W.Fast.tw15408317562152046233 : True := trivial
theorem PySem.W.Fast.tw16569388433470316640 : True := trivial
theorem PySem.W.Fast.tw14468683863017339016 : True := trivial
theorem PySem.W.Fast.tw11927629112285729491 : True := trivial
theorem PySem.W.Fast.tw8821666252341502860 : True := trivial
theorem PySem.W.Fast.tw2452621526543347267 : True := trivial
theorem PySem.W.Fast.tw8927239132852612154 : True := trivial
theorem PySem.W.Fast.tw10821883387710752104 : True := trivial
theorem PySem.W.Fast.tw15379564683582771845 : True := trivial
theorem PySem.W.Fast.tw14570839092529905429 : True := trivial
theorem PySem.W.Fast.tw8173848672387447703 : True := trivial
theorem PySem.W.Fast.tw2432068241246655066 : True := trivial
theorem PySem.W.Fast.tw5615527418257544318 : True := trivial
theorem PySem.W.Fast.tw1288803028178920390 : True := trivial
theorem PySem.W.Fast.tw4348690431102581018 : True := trivial
theorem PySem.W.Fast.tw8874457159671542358 : True := trivial
theorem PySem.W.Fast.tw6951997548739231938 : True := trivial
theorem PySem.W.Fast.tw11365348384847717747 : True := trivial
theorem PySem.W.Fast.tw609269351058438518 : True := trivial
theorem PySem.W.Fast.tw13681363269395770816 : True := trivial
theorem PySem.W.Fast.tw18382803958593613010 : True := trivial
theorem PySem.W.Fast.tw11832991308328295490 : True := trivial
theorem PySem.W.Fast.tw6286005172338456794 : True := trivial
theorem PySem.W.Fast.tw4585600722220047308 : True := trivial
theorem PySem.W.Fast.tw11578851203058866237 : True := trivial
theorem PySem.W.Fast.tw15333434011046768097 : True := trivial
theorem PySem.W.Fast.tw17676380518448373895 : True := trivial
theorem PySem.W.Fast.tw527017549171493339 : True := trivial
theorem PySem.W.Fast.tw7629332779414718202 : True := trivial
theorem PySem.W.Fast.tw13529129199259452697 : True := trivial
theorem PySem.W.Fast.tw14622281856694591591 : True := trivial
theorem PySem.W.Fast.tw16038591483527528420 : True := trivial
theorem PySem.W.Fast.tw742247669026824428 : True := trivial
theorem PySem.W.Fast.tw4132105139447137850 : True := trivial
theorem PySem.W.Fast.tw12673254211544289989 : True := trivial
theorem PySem.W.Fast.tw11445003380833497978 : True := trivial
theorem PySem.W.Fast.tw4658616557404884694 : True := trivial
theorem PySem.W.Fast.tw17461763276497637023 : True := trivial
theorem PySem.W.Fast.tw885217796356203695 : True := trivial
theorem PySem.W.Fast.tw14004630449029751458 : True := trivial
theorem PySem.W.Fast.tw17684076429634803119 : True := trivial
theorem PySem.W.Fast.tw14232593040630972753 : True := trivial
theorem PySem.W.Fast.tw1219729118434484610 : True := trivial
theorem PySem.W.Fast.tw10031269421717724727 : True := trivial
theorem PySem.W.Fast.tw9927139168094359461 : True := trivial
theorem PySem.W.Fast.tw15877191580218357515 : True := trivial
theorem PySem.W.Fast.tw7133282773856172336 : True := trivial
theorem PySem.W.Fast.tw13993808756415383230 : True := trivial
theorem PySem.W.Fast.tw15519520153735225223 : True := trivial
theorem PySem.W.Fast.tw1771495302013392463 : True := trivial
theorem PySem.W.Fast.tw598496889568614958 : True := trivial
theorem PySem.W.Fast.tw11301697159995687419 : True := trivial
theorem PySem.W.Fast.tw6821477755513640446 : True := trivial
theorem PySem.W.Fast.tw10675025966736921899 : True := trivial
theorem PySem.W.Fast.tw8359473270754589865 : True := trivial
theorem PySem.W.Fast.tw7833384836032590424 : True := trivial
theorem PySem.W.Fast.tw13964710975558854551 : True := trivial
theorem PySem.W.Fast.tw6955507686482887903 : True := trivial
theorem PySem.W.Fast.tw15912103139108003410 : True := trivial
theorem PySem.W.Fast.tw8024375001042091695 : True := trivial
theorem PySem.W.Fast.tw17289554169176476210 : True := trivial
theorem PySem.W.Fast.tw10434032359866753630 : True := trivial
theorem PySem.W.Fast.tw1143296438734603453 : True := trivial
theorem PySem.W.Fast.tw11443077153830740149 : True := trivial
theorem PySem.W.Fast.tw16632905051529249910 : True := trivial
theorem PySem.W.Fast.tw7452238712794877096 : True := trivial
theorem PySem.W.Fast.tw5575464494292939072 : True := trivial
theorem PySem.W.Fast.tw9207709631119107470 : True := trivial
theorem PySem.W.Fast.tw8839395620690211277 : True := trivial
theorem PySem.W.Fast.tw15837408761202978101 : True := trivial
theorem PySem.W.Fast.tw249287093089920847 : True := trivial
theorem PySem.W.Fast.tw1777301213112047982 : True := trivial
theorem PySem.W.Fast.tw5460090710217082220 : True := trivial
theorem PySem.W.Fast.tw2783752006121861520 : True := trivial
theorem PySem.W.Fast.tw10306901028664127071 : True := trivial
theorem PySem.W.Fast.tw714215729719498011 : True := trivial
theorem PySem.W.Fast.tw8920605659372993385 : True := trivial
theorem PySem.W.Fast.tw18371452149491055916 : True := trivial
theorem PySem.W.Fast.tw11355089312849629071 : True := trivial
theorem PySem.W.Fast.tw11169936309629697530 : True := trivial
theorem PySem.W.Fast.tw17366828987046504626 : True := trivial
theorem PySem.W.Fast.tw16932526349790547105 : True := trivial
theorem PySem.W.Fast.tw6006723228201674545 : True := trivial
theorem PySem.W.Fast.tw14502056514048193703 : True := trivial
theorem PySem.W.Fast.tw8996192008933513418 : True := trivial
theorem PySem.W.Fast.tw13730083301198332462 : True := trivial
theorem PySem.W.Fast.tw1491060898552222261 : True := trivial
theorem PySem.W.Fast.tw13676689704244758079 : True := trivial
theorem PySem.W.Fast.tw31277115773958869 : True := trivial
theorem PySem.W.Fast.tw17993076664357100045 : True := trivial
theorem PySem.W.Fast.tw8917506029080582034 : True := trivial
theorem PySem.W.Fast.tw10259341962755449173 : True := trivial
theorem PySem.W.Fast.tw8190519453558101311 : True := trivial
theorem PySem.W.Fast.tw16482520561896961641 : True := trivial
theorem PySem.W.Fast.tw18281745390581120843 : True := trivial
theorem PySem.W.Fast.tw4816238277566956546 : True := trivial
theorem PySem.W.Fast.tw5093490528999474850 : True := trivial
theorem PySem.W.Fast.tw13007367025752519521 : True := trivial
theorem PySem.W.Fast.tw7435251830779093222 : True := trivial
theorem PySem.W.Fast.tw14294755021291211987 : True := trivial
theorem PySem.W.Fast.tw1010872869178762168 : True := trivial
theorem PySem.W.Fast.tw7745631461612085476 : True := trivial
theorem PySem.W.Fast.tw17464705030226838786 : True := trivial
theorem PySem.W.Fast.tw67025962754353048 : True := trivial
theorem PySem.W.Fast.tw3194217915220004852 : True := trivial
theorem PySem.W.Fast.tw17663644925442223225 : True := trivial
theorem PySem.W.Fast.tw15027357927244474306 : True := trivial
theorem PySem.W.Fast.tw6511626914798996313 : True := trivial
theorem PySem.W.Fast.tw11195432302863941048 : True := trivial
theorem PySem.W.Fast.tw16202742250090620320 : True := trivial
theorem PySem.W.Fast.tw2968322956594175331 : True := trivial
theorem PySem.W.Fast.tw17726847835106787015 : True := trivial
theorem PySem.W.Fast.tw8856081038913538158 : True := trivial
theorem PySem.W.Fast.tw12005453594206533117 : True := trivial
theorem PySem.W.Fast.tw10337516651867071834 : True := trivial
theorem PySem.W.Fast.tw12372383428257987378 : True := trivial
theorem PySem.W.Fast.tw17940415301002295495 : True := trivial
theorem PySem.W.Fast.tw6463408949522225549 : True := trivial
theorem PySem.W.Fast.tw3791753861658097874 : True := trivial
theorem PySem.W.Fast.tw5718491293622572422 : True := trivial
theorem PySem.W.Fast.tw12884344955889321867 : True := trivial
theorem PySem.W.Fast.tw7831440175152726626 : True := trivial
theorem PySem.W.Fast.tw3515870719858331427 : True := trivial
theorem PySem.W.Fast.tw14074014309450948423 : True := trivial
theorem PySem.W.Fast.tw14009149191373251024 : True := trivial
theorem PySem.W.Fast.tw3857457759015161083 : True := trivial
theorem PySem.W.Fast.tw3076087646829831803 : True := trivial
theorem PySem.W.Fast.tw11402822879780868737 : True := trivial
theorem PySem.W.Fast.tw6216155568466893900 : True := trivial
theorem PySem.W.Fast.tw9960508993517547675 : True := trivial
theorem PySem.W.Fast.tw13649047299452222080 : True := trivial
theorem PySem.W.Fast.tw1629099696869302696 : True := trivial
theorem PySem.W.Fast.tw3585593483081245586 : True := trivial
theorem PySem.W.Fast.tw6714756240563400094 : True := trivial
theorem PySem.W.Fast.tw15786905522407593473 : True := trivial
theorem PySem.W.Fast.tw11031305684775021616 : True := trivial
theorem PySem.W.Fast.tw5361471902074462119 : True := trivial
theorem PySem.W.Fast.tw5578120585732226996 : True := trivial
theorem PySem.W.Fast.tw8535003459620032781 : True := trivial
theorem PySem.W.Fast.tw5896039003982177839 : True := trivial
theorem PySem.W.Fast.tw2854316553022564579 : True := trivial
theorem PySem.W.Fast.tw15066032227023142706 : True := trivial
theorem PySem.W.Fast.tw17755163829907211022 : True := trivial
theorem PySem.W.Fast.tw17725417790056502341 : True := trivial
theorem PySem.W.Fast.tw5653249838723035897 : True := trivial
theorem PySem.W.Fast.tw1597683344747361798 : True := trivial
theorem PySem.W.Fast.tw8015795427345727739 : True := trivial
theorem PySem.W.Fast.tw2590074085507324808 : True := trivial
theorem PySem.W.Fast.tw6059150265667050517 : True := trivial
theorem PySem.W.Fast.tw5778051835115629155 : True := trivial
theorem PySem.W.Fast.tw6024145284926740949 : True := trivial
theorem PySem.W.Fast.tw4531353354590687170 : True := trivial
theorem PySem.W.Fast.tw7758379113493115270 : True := trivial
theorem PySem.W.Fast.tw11691710415656662091 : True := trivial
theorem PySem.W.Fast.tw7833963009910761397 : True := trivial
theorem PySem.W.Fast.tw17542144876029146058 : True := trivial
theorem PySem.W.Fast.tw1059297855892415859 : True := trivial
theorem PySem.W.Fast.tw7186686791015245184 : True := trivial
theorem PySem.W.Fast.tw18225004887754070462 : True := trivial
theorem PySem.W.Fast.tw9005246440901730389 : True := trivial
theorem PySem.W.Fast.tw8883011258309596986 : True := trivial
theorem PySem.W.Fast.tw9283742622467142331 : True := trivial
theorem PySem.W.Fast.tw13286370172695321371 : True := trivial
theorem PySem.W.Fast.tw574028996371768526 : True := trivial
theorem PySem.W.Fast.tw11564540980244552163 : True := trivial
theorem PySem.W.Fast.tw4784711529514677578 : True := trivial
theorem PySem.W.Fast.tw14843314037782407822 : True := trivial
theorem PySem.W.Fast.tw1190060452155680051 : True := trivial
theorem PySem.W.Fast.tw9095768836921715034 : True := trivial
theorem PySem.W.Fast.tw16225613571599672961 : True := trivial
theorem PySem.W.Fast.tw11680347519100468043 : True := trivial
theorem PySem.W.Fast.tw3751637742384026423 : True := trivial
theorem PySem.W.Fast.tw15050965381748813256 : True := trivial
theorem PySem.W.Fast.tw18429869026450035268 : True := trivial
theorem PySem.W.Fast.tw3822112022485300744 : True := trivial
theorem PySem.W.Fast.tw10441299196750697205 : True := trivial
theorem PySem.W.Fast.tw8600039650331403312 : True := trivial
theorem PySem.W.Fast.tw15994838037823843921 : True := trivial
theorem PySem.W.Fast.tw159602258071694054 : True := trivial
theorem PySem.W.Fast.tw9461477324905144571 : True := trivial
theorem PySem.W.Fast.tw5568372752162762626 : True := trivial
theorem PySem.W.Fast.tw18250322073560058551 : True := trivial
theorem PySem.W.Fast.tw2482022017945409054 : True := trivial
theorem PySem.W.Fast.tw13992926422993655743 : True := trivial
theorem PySem.W.Fast.tw12267030814780408888 : True := trivial
theorem PySem.W.Fast.tw16710039552668619433 : True := trivial
theorem PySem.W.Fast.tw7458550283048971373 : True := trivial
theorem PySem.W.Fast.tw15399523124940550533 : True := trivial
theorem PySem.W.Fast.tw12161134986403036198 : True := trivial
theorem PySem.W.Fast.tw16113559422828346474 : True := trivial
theorem PySem.W.Fast.tw674460080344615273 : True := trivial
theorem PySem.W.Fast.tw12634105814096123150 : True := trivial
theorem PySem.W.Fast.tw2598877020361367816 : True := trivial
theorem PySem.W.Fast.tw13227755636931430760 : True := trivial
theorem PySem.W.Fast.tw8454810867324316212 : True := trivial
theorem PySem.W.Fast.tw16864260973657726988 : True := trivial
theorem PySem.W.Fast.tw1864139567864335869 : True := trivial
theorem PySem.W.Fast.tw3208763259168140820 : True := trivial
theorem PySem.W.Fast.tw16839634732620445604 : True := trivial
theorem PySem.W.Fast.tw12585764020825461348 : True := trivial
theorem PySem.W.Fast.tw4754324077916754196 : True := trivial
theorem PySem.W.Fast.tw5737926295562445041 : True := trivial
theorem PySem.W.Fast.tw5054201422058537713 : True := trivial
theorem PySem.W.Fast.tw4118995804769376013 : True := trivial
theorem PySem.W.Fast.tw369924102517883297 : True := trivial
theorem PySem.W.Fast.tw16400851447316108470 : True := trivial
theorem PySem.W.Fast.tw4146764951552475451 : True := trivial
theorem PySem.W.Fast.tw9882616920331796142 : True := trivial
theorem PySem.W.Fast.tw1523744840951731325 : True := trivial
theorem PySem.W.Fast.tw3453484895457635895 : True := trivial
theorem PySem.W.Fast.tw5676336977007243624 : True := trivial
theorem PySem.W.Fast.tw13492482864573963602 : True := trivial
theorem PySem.W.Fast.tw14844124695909184127 : True := trivial
theorem PySem.W.Fast.tw403792581212418682 : True := trivial
theorem PySem.W.Fast.tw292175284653098863 : True := trivial
theorem PySem.W.Fast.tw6353206078415415483 : True := trivial
theorem PySem.W.Fast.tw16897838883655397312 : True := trivial
theorem PySem.W.Fast.tw14331913386290985729 : True := trivial
theorem PySem.W.Fast.tw13161382810436780319 : True := trivial
theorem PySem.W.Fast.tw8016426708930586224 : True := trivial
theorem PySem.W.Fast.tw13417974804764377896 : True := trivial
theorem PySem.W.Fast.tw9128433206271490137 : True := trivial
theorem PySem.W.Fast.tw12794849538758434185 : True := trivial
theorem PySem.W.Fast.tw9655730202184882464 : True := trivial
theorem PySem.W.Fast.tw1344042914204905478 : True := trivial
theorem PySem.W.Fast.tw7574557445579909916 : True := trivial
theorem PySem.W.Fast.tw1223974684752730750 : True := trivial
theorem PySem.W.Fast.tw17346644667248170352 : True := trivial
theorem PySem.W.Fast.tw2362592473501769139 : True := trivial
theorem PySem.W.Fast.tw6858966346435091707 : True := trivial
theorem PySem.W.Fast.tw1261060258406695920 : True := trivial
theorem PySem.W.Fast.tw305031374212564973 : True := trivial
theorem PySem.W.Fast.tw8289078010561172882 : True := trivial
theorem PySem.W.Fast.tw5345766993362201444 : True := trivial
theorem PySem.W.Fast.tw122856891833472420 : True := trivial
theorem PySem.W.Fast.tw18387645556159825756 : True := trivial
theorem PySem.W.Fast.tw2227880685258705922 : True := trivial
theorem PySem.W.Fast.tw1697720172132550246 : True := trivial
theorem PySem.W.Fast.tw2435381092765851341 : True := trivial
theorem PySem.W.Fast.tw14309827515119974050 : True := trivial
theorem PySem.W.Fast.tw13885866564594258919 : True := trivial
theorem PySem.W.Fast.tw14080813539602650337 : True := trivial
theorem PySem.W.Fast.tw14670471887370130612 : True := trivial
theorem PySem.W.Fast.tw11402962696465865789 : True := trivial
theorem PySem.W.Fast.tw6907468573171624251 : True := trivial
theorem PySem.W.Fast.tw1276653124831242877 : True := trivial
theorem PySem.W.Fast.tw8610089166760208346 : True := trivial
theorem PySem.W.Fast.tw17612567981567619950 : True := trivial
theorem PySem.W.Fast.tw3589371122176283723 : True := trivial
theorem PySem.W.Fast.tw7937799335683330412 : True := trivial
theorem PySem.W.Fast.tw6178900187103467366 : True := trivial
theorem PySem.W.Fast.tw11594300478262349236 : True := trivial
theorem PySem.W.Fast.tw6830125451395884007 : True := trivial
theorem PySem.W.Fast.tw17583244802447984749 : True := trivial
theorem PySem.W.Fast.tw10159095633571268568 : True := trivial
theorem PySem.W.Fast.tw16012475976009079536 : True := trivial
theorem PySem.W.Fast.tw7901460581489542042 : True := trivial
theorem PySem.W.Fast.tw7102059659076567532 : True := trivial
theorem PySem.W.Fast.tw358540504731205947 : True := trivial
theorem PySem.W.Fast.tw12892533017112917721 : True := trivial
theorem PySem.W.Fast.tw16777211429559304584 : True := trivial
theorem PySem.W.Fast.tw10148817164820520783 : True := trivial
theorem PySem.W.Fast.tw10163006803721739814 : True := trivial
theorem PySem.W.Fast.tw1356055178783417639 : True := trivial
theorem PySem.W.Fast.tw17105236508485297361 : True := trivial
theorem PySem.W.Fast.tw13939433843699261865 : True := trivial
theorem PySem.W.Fast.tw5593171877465085510 : True := trivial
theorem PySem.W.Fast.tw1887574904722958060 : True := trivial
theorem PySem.W.Fast.tw3824822415863074975 : True := trivial
theorem PySem.W.Fast.tw16939348605128117300 : True := trivial
theorem PySem.W.Fast.tw2803588974001399499 : True := trivial
theorem PySem.W.Fast.tw3790757719484093360 : True := trivial
theorem PySem.W.Fast.tw11813400091831870027 : True := trivial
theorem PySem.W.Fast.tw17521685403684206002 : True := trivial
theorem PySem.W.Fast.tw12573133246904449188 : True := trivial
theorem PySem.W.Fast.tw3274957030222903882 : True := trivial
theorem PySem.W.Fast.tw14663730291222250466 : True := trivial
theorem PySem.W.Fast.tw16399612317793632081 : True := trivial
theorem PySem.W.Fast.tw11522560625370853471 : True := trivial
theorem PySem.W.Fast.tw8832938845708372328 : True := trivial
theorem PySem.W.Fast.tw7824725806306306640 : True := trivial
theorem PySem.W.Fast.tw5691592081187067429 : True := trivial
theorem PySem.W.Fast.tw5275026709075818898 : True := trivial
theorem PySem.W.Fast.tw2820699332485079355 : True := trivial
theorem PySem.W.Fast.tw2430754255652211150 : True := trivial
theorem PySem.W.Fast.tw10439126862291572440 : True := trivial
theorem PySem.W.Fast.tw8430820389740689369 : True := trivial
theorem PySem.W.Fast.tw3177799500668324683 : True := trivial
theorem PySem.W.Fast.tw652053530711469928 : True := trivial
theorem PySem.W.Fast.tw12443897164025543003 : True := trivial
theorem PySem.W.Fast.tw1174054100725397896 : True := trivial
theorem PySem.W.Fast.tw14938606307821582887 : True := trivial
theorem PySem.W.Fast.tw13455413013113852855 : True := trivial
theorem PySem.W.Fast.tw6870478904013752093 : True := trivial
theorem PySem.W.Fast.tw14217294535834054778 : True := trivial
theorem PySem.W.Fast.tw8658297319991498801 : True := trivial
theorem PySem.W.Fast.tw9815743034855773984 : True := trivial
theorem PySem.W.Fast.tw5850428591860936898 : True := trivial
theorem PySem.W.Fast.tw4598477602513334107 : True := trivial
theorem PySem.W.Fast.tw7877206369214066485 : True := trivial
theorem PySem.W.Fast.tw5020478752010770932 : True := trivial
theorem PySem.W.Fast.tw1269206239768860049 : True := trivial
theorem PySem.W.Fast.tw6021699301325628625 : True := trivial
theorem PySem.W.Fast.tw4043168361168852365 : True := trivial
theorem PySem.W.Fast.tw12742820827923009187 : True := trivial
theorem PySem.W.Fast.tw3721621786964151158 : True := trivial
theorem PySem.W.Fast.tw15629674705233497825 : True := trivial
theorem PySem.W.Fast.tw6848481272937859202 : True := trivial
theorem PySem.W.Fast.tw6235827140942162166 : True := trivial
theorem PySem.W.Fast.tw6994852755028112928 : True := trivial
theorem PySem.W.Fast.tw2642764347221366241 : True := trivial
theorem PySem.W.Fast.tw1144545751866336790 : True := trivial
theorem PySem.W.Fast.tw7438928084594289089 : True := trivial
theorem PySem.W.Fast.tw6823096255038644514 : True := trivial
theorem PySem.W.Fast.tw10344288640321301262 : True := trivial
theorem PySem.W.Fast.tw6936912294047010913 : True := trivial
theorem PySem.W.Fast.tw16748299727201385678 : True := trivial
theorem PySem.W.Fast.tw6760420194716943662 : True := trivial
theorem PySem.W.Fast.tw1103651938216135099 : True := trivial
theorem PySem.W.Fast.tw8285103732894655543 : True := trivial
theorem PySem.W.Fast.tw6515921004757198123 : True := trivial
theorem PySem.W.Fast.tw9681934060119199905 : True := trivial
theorem PySem.W.Fast.tw5498672607457717033 : True := trivial
theorem PySem.W.Fast.tw9828256889598055322 : True := trivial
theorem PySem.W.Fast.tw16253371433514662575 : True := trivial
theorem PySem.W.Fast.tw9595757247955674255 : True := trivial
theorem PySem.W.Fast.tw3852404037172315921 : True := trivial
theorem PySem.W.Fast.tw17726048961881469119 : True := trivial
theorem PySem.W.Fast.tw14698611823857035892 : True := trivial
theorem PySem.W.Fast.tw4378184035240652219 : True := trivial
theorem PySem.W.Fast.tw650611060850655502 : True := trivial
theorem PySem.W.Fast.tw9815587122647470684 : True := trivial
theorem PySem.W.Fast.tw13734913356702394291 : True := trivial
theorem PySem.W.Fast.tw15135242549296624268 : True := trivial
theorem PySem.W.Fast.tw9278209524383563722 : True := trivial
theorem PySem.W.Fast.tw5986757922246742168 : True := trivial
theorem PySem.W.Fast.tw7101059799976076307 : True := trivial
theorem PySem.W.Fast.tw7673901659097906901 : True := trivial
theorem PySem.W.Fast.tw1394973416003957407 : True := trivial
theorem PySem.W.Fast.tw8358929902862246013 : True := trivial
theorem PySem.W.Fast.tw13622715498140186275 : True := trivial
theorem PySem.W.Fast.tw7289996195125258293 : True := trivial
theorem PySem.W.Fast.tw16962347660211428664 : True := trivial
theorem PySem.W.Fast.tw4954523035184577242 : True := trivial
theorem PySem.W.Fast.tw1454420036484104652 : True := trivial
theorem PySem.W.Fast.tw7939778178804419538 : True := trivial
theorem PySem.W.Fast.tw17754617507629884419 : True := trivial
theorem PySem.W.Fast.tw3941461689698443158 : True := trivial
theorem PySem.W.Fast.tw15975992908905030580 : True := trivial
theorem PySem.W.Fast.tw9858986557952485133 : True := trivial
theorem PySem.W.Fast.tw11833768108649012396 : True := trivial
theorem PySem.W.Fast.tw4405942422342918211 : True := trivial
theorem PySem.W.Fast.tw1414691425576509831 : True := trivial
theorem PySem.W.Fast.tw13753849807059018459 : True := trivial
theorem PySem.W.Fast.tw1514354569350898272 : True := trivial
theorem PySem.W.Fast.tw7658964184468887769 : True := trivial
theorem PySem.W.Fast.tw7576105610271610997 : True := trivial
theorem PySem.W.Fast.tw8533545396607398278 : True := trivial
theorem PySem.W.Fast.tw11102713086718433601 : True := trivial
theorem PySem.W.Fast.tw14663112137666184376 : True := trivial
theorem PySem.W.Fast.tw11990277928749248039 : True := trivial
theorem PySem.W.Fast.tw3789797916116365572 : True := trivial
theorem PySem.W.Fast.tw11049347625855539386 : True := trivial
theorem PySem.W.Fast.tw596958176261617847 : True := trivial
theorem PySem.W.Fast.tw4369229940582862312 : True := trivial
theorem PySem.W.Fast.tw12076173446795877395 : True := trivial
theorem PySem.W.Fast.tw10381088501140112987 : True := trivial
theorem PySem.W.Fast.tw7958936582484290375 : True := trivial
theorem PySem.W.Fast.tw8684522902001506537 : True := trivial
theorem PySem.W.Fast.tw10087799329710176730 : True := trivial
theorem PySem.W.Fast.tw3218004428914239280 : True := trivial
theorem PySem.W.Fast.tw2768653493593556486 : True := trivial
theorem PySem.W.Fast.tw8959148758045209923 : True := trivial
theorem PySem.W.Fast.tw12503722575996255822 : True := trivial
theorem PySem.W.Fast.tw10034327861818558978 : True := trivial
theorem PySem.W.Fast.tw18250888689953795726 : True := trivial
theorem PySem.W.Fast.tw18211260428844045044 : True := trivial
theorem PySem.W.Fast.tw2269931431697133446 : True := trivial
theorem PySem.W.Fast.tw8656224917882399182 : True := trivial
theorem PySem.W.Fast.tw12229419367864282666 : True := trivial
theorem PySem.W.Fast.tw17569658926402459510 : True := trivial
theorem PySem.W.Fast.tw9092047849992247036 : True := trivial
theorem PySem.W.Fast.tw11310473976683255696 : True := trivial
theorem PySem.W.Fast.tw8568365811534373700 : True := trivial
theorem PySem.W.Fast.tw13823743167204888079 : True := trivial
theorem PySem.W.Fast.tw9266556184939544874 : True := trivial
theorem PySem.W.Fast.tw9168325906706084208 : True := trivial
theorem PySem.W.Fast.tw17955945210962294641 : True := trivial
theorem PySem.W.Fast.tw14403109237210727541 : True := trivial
theorem PySem.W.Fast.tw14846533970984369130 : True := trivial
theorem PySem.W.Fast.tw9208833895024331905 : True := trivial
theorem PySem.W.Fast.tw5409537055942930457 : True := trivial
theorem PySem.W.Fast.tw3293388287670037444 : True := trivial
theorem PySem.W.Fast.tw3728299484786107622 : True := trivial
theorem PySem.W.Fast.tw4040014868625135759 : True := trivial
theorem PySem.W.Fast.tw14559947130455478838 : True := trivial
theorem PySem.W.Fast.tw17044762939230332280 : True := trivial
theorem PySem.W.Fast.tw13375713308130487946 : True := trivial
theorem PySem.W.Fast.tw12403706171423782899 : True := trivial
theorem PySem.W.Fast.tw14419887027560533374 : True := trivial
theorem PySem.W.Fast.tw18339433644343953365 : True := trivial
theorem PySem.W.Fast.tw415253391093170054 : True := trivial
theorem PySem.W.Fast.tw12983950234160318929 : True := trivial
theorem PySem.W.Fast.tw16040519427978255623 : True := trivial
theorem PySem.W.Fast.tw8532654544581272970 : True := trivial
theorem PySem.W.Fast.tw18086551415048852636 : True := trivial
theorem PySem.W.Fast.tw8453047457909488753 : True := trivial
theorem PySem.W.Fast.tw18308494765762961393 : True := trivial
theorem PySem.W.Fast.tw8364633089935112285 : True := trivial
theorem PySem.W.Fast.tw10511793620794322605 : True := trivial
theorem PySem.W.Fast.tw13412385238398599832 : True := trivial
theorem PySem.W.Fast.tw7529559097028232734 : True := trivial
theorem PySem.W.Fast.tw18169645355859942630 : True := trivial
theorem PySem.W.Fast.tw15176720955719334955 : True := trivial
theorem PySem.W.Fast.tw15893840503486279786 : True := trivial
theorem PySem.W.Fast.tw16955709092822681016 : True := trivial
theorem PySem.W.Fast.tw7743545188558070694 : True := trivial
theorem PySem.W.Fast.tw843891372310660312 : True := trivial
theorem PySem.W.Fast.tw15983198447154101304 : True := trivial
theorem PySem.W.Fast.tw13633999891725032803 : True := trivial
theorem PySem.W.Fast.tw3154932694188939575 : True := trivial
theorem PySem.W.Fast.tw2518902167512747748 : True := trivial
theorem PySem.W.Fast.tw1470481031724946562 : True := trivial
theorem PySem.W.Fast.tw6795804028986229846 : True := trivial
theorem PySem.W.Fast.tw7406317833128160758 : True := trivial
theorem PySem.W.Fast.tw2284438254409009330 : True := trivial
theorem PySem.W.Fast.tw18031552355390437960 : True := trivial
theorem PySem.W.Fast.tw13199289833971312696 : True := trivial
theorem PySem.W.Fast.tw9146304760134904080 : True := trivial
theorem PySem.W.Fast.tw1229983890917280603 : True := trivial
theorem PySem.W.Fast.tw12132967466955419151 : True := trivial
theorem PySem.W.Fast.tw523617886369483192 : True := trivial
theorem PySem.W.Fast.tw8136289335838317474 : True := trivial
theorem PySem.W.Fast.tw3677750957484980385 : True := trivial
theorem PySem.W.Fast.tw13579657982059506447 : True := trivial
theorem PySem.W.Fast.tw13283045265255066430 : True := trivial
theorem PySem.W.Fast.tw10341237172804468978 : True := trivial
theorem PySem.W.Fast.tw9057586537479348006 : True := trivial
theorem PySem.W.Fast.tw11648481000721754890 : True := trivial
theorem PySem.W.Fast.tw7176655334162394337 : True := trivial
theorem PySem.W.Fast.tw4351732618989720242 : True := trivial
theorem PySem.W.Fast.tw913672047248226083 : True := trivial
theorem PySem.W.Fast.tw2538376344286004463 : True := trivial
theorem PySem.W.Fast.tw18020353180675642453 : True := trivial
theorem PySem.W.Fast.tw15908975575898090907 : True := trivial
theorem PySem.W.Fast.tw9029563998068058190 : True := trivial
theorem PySem.W.Fast.tw18222737751065882685 : True := trivial
theorem PySem.W.Fast.tw5941388218771077816 : True := trivial
theorem PySem.W.Fast.tw8350441030978383906 : True := trivial
theorem PySem.W.Fast.tw15196647446603223751 : True := trivial
theorem PySem.W.Fast.tw2305684786438085885 : True := trivial
theorem PySem.W.Fast.tw9963215085951996012 : True := trivial
theorem PySem.W.Fast.tw3524567009255451683 : True := trivial
theorem PySem.W.Fast.tw1860884413435142803 : True := trivial
theorem PySem.W.Fast.tw8090058389165030845 : True := trivial
theorem PySem.W.Fast.tw5411243494751658910 : True := trivial
theorem PySem.W.Fast.tw10090940671059496098 : True := trivial
theorem PySem.W.Fast.tw3135656236739155140 : True := trivial
theorem PySem.W.Fast.tw179659880454953043 : True := trivial
theorem PySem.W.Fast.tw1635935350037746236 : True := trivial
theorem PySem.W.Fast.tw16121932727590624773 : True := trivial
theorem PySem.W.Fast.tw11061698858007282616 : True := trivial
theorem PySem.W.Fast.tw5879984993991076730 : True := trivial
theorem PySem.W.Fast.tw11022106318930414586 : True := trivial
theorem PySem.W.Fast.tw10145018079881150620 : True := trivial
theorem PySem.W.Fast.tw16692642847906252198 : True := trivial
theorem PySem.W.Fast.tw11352050815692812670 : True := trivial
theorem PySem.W.Fast.tw15037122462018689924 : True := trivial
theorem PySem.W.Fast.tw3802568661985111847 : True := trivial
theorem PySem.W.Fast.tw16683080868484510772 : True := trivial
theorem PySem.W.Fast.tw2981490754572057029 : True := trivial
theorem PySem.W.Fast.tw4011339304913292494 : True := trivial
theorem PySem.W.Fast.tw9896976242644454849 : True := trivial
theorem PySem.W.Fast.tw15364295562259492706 : True := trivial
theorem PySem.W.Fast.tw11850965794235485071 : True := trivial
theorem PySem.W.Fast.tw15277077163493359051 : True := trivial
theorem PySem.W.Fast.tw5657530796244258572 : True := trivial
theorem PySem.W.Fast.tw15501233357103436337 : True := trivial
theorem PySem.W.Fast.tw5426093174778922134 : True := trivial
theorem PySem.W.Fast.tw516713571049863535 : True := trivial
theorem PySem.W.Fast.tw17244876354392236176 : True := trivial
theorem PySem.W.Fast.tw17535212706092413236 : True := trivial
theorem PySem.W.Fast.tw2494497294141516437 : True := trivial
theorem PySem.W.Fast.tw11345596150262443499 : True := trivial
theorem PySem.W.Fast.tw2194856257866686655 : True := trivial
theorem PySem.W.Fast.tw10597812445562825924 : True := trivial
theorem PySem.W.Fast.tw13762541068839654898 : True := trivial
theorem PySem.W.Fast.tw15611040184539536615 : True := trivial
theorem PySem.W.Fast.tw5910158791544268349 : True := trivial
theorem PySem.W.Fast.tw10195462594557900449 : True := trivial
theorem PySem.W.Fast.tw4366654508098274239 : True := trivial
theorem PySem.W.Fast.tw7920712824001243711 : True := trivial
theorem PySem.W.Fast.tw17904388799866655160 : True := trivial
theorem PySem.W.Fast.tw5480038190686662994 : True := trivial
theorem PySem.W.Fast.tw15139604481073939053 : True := trivial
theorem PySem.W.Fast.tw4260176525971297631 : True := trivial
theorem PySem.W.Fast.tw14638880340449892579 : True := trivial
theorem PySem.W.Fast.tw15015484431453884787 : True := trivial
theorem PySem.W.Fast.tw11865837566429619048 : True := trivial
theorem PySem.W.Fast.tw16943475590805007923 : True := trivial
theorem PySem.W.Fast.tw79875243271462894 : True := trivial
theorem PySem.W.Fast.tw10137939607240465671 : True := trivial
theorem PySem.W.Fast.tw17568858105982688299 : True := trivial
theorem PySem.W.Fast.tw3656460181001327207 : True := trivial
theorem PySem.W.Fast.tw14429994355806604527 : True := trivial
theorem PySem.W.Fast.tw13878518271044875565 : True := trivial
theorem PySem.W.Fast.tw7354790010970115139 : True := trivial
theorem PySem.W.Fast.tw11794178309654558767 : True := trivial
theorem PySem.W.Fast.tw18422297930634541237 : True := trivial
theorem PySem.W.Fast.tw9425586793182629241 : True := trivial
theorem PySem.W.Fast.tw2946246880619036445 : True := trivial
theorem PySem.W.Fast.tw7027792676431471972 : True := trivial
theorem PySem.W.Fast.tw6868537522770995154 : True := trivial
theorem PySem.W.Fast.tw15876888347059613011 : True := trivial
theorem PySem.W.Fast.tw15198339581138035289 : True := trivial
theorem PySem.W.Fast.tw10877875651921144093 : True := trivial
theorem PySem.W.Fast.tw17272300118576358984 : True := trivial
theorem PySem.W.Fast.tw3685864386820253268 : True := trivial
theorem PySem.W.Fast.tw11692843981426751860 : True := trivial
theorem PySem.W.Fast.tw18417858980486793307 : True := trivial
theorem PySem.W.Fast.tw9694809184156614827 : True := trivial
theorem PySem.W.Fast.tw4446593969994672957 : True := trivial
theorem PySem.W.Fast.tw2506115762660566024 : True := trivial
theorem PySem.W.Fast.tw14895933234272426194 : True := trivial
theorem PySem.W.Fast.tw11064021934890424881 : True := trivial
theorem PySem.W.Fast.tw5507471483515586947 : True := trivial
theorem PySem.W.Fast.tw15931327722701581820 : True := trivial
theorem PySem.W.Fast.tw4624635470453363431 : True := trivial
theorem PySem.W.Fast.tw6564649784072345701 : True := trivial
theorem PySem.W.Fast.tw15328054532130974162 : True := trivial
theorem PySem.W.Fast.tw4804906974685868304 : True := trivial
theorem PySem.W.Fast.tw14913034405340710840 : True := trivial
theorem PySem.W.Fast.tw11341822701210286253 : True := trivial
theorem PySem.W.Fast.tw7041966319907277324 : True := trivial
theorem PySem.W.Fast.tw6360815122713303834 : True := trivial
theorem PySem.W.Fast.tw11902353143728609277 : True := trivial
theorem PySem.W.Fast.tw13562101474838532569 : True := trivial
theorem PySem.W.Fast.tw15178627495706301488 : True := trivial
theorem PySem.W.Fast.tw256416753230980070 : True := trivial
theorem PySem.W.Fast.tw65262436659012151 : True := trivial
theorem PySem.W.Fast.tw941406145497621682 : True := trivial
theorem PySem.W.Fast.tw479651219458929939 : True := trivial
theorem PySem.W.Fast.tw6710110661043582835 : True := trivial
theorem PySem.W.Fast.tw1714296681911528385 : True := trivial
theorem PySem.W.Fast.tw16501238690633511438 : True := trivial
theorem PySem.W.Fast.tw4180846845784090035 : True := trivial
theorem PySem.W.Fast.tw5017249673046422954 : True := trivial
theorem PySem.W.Fast.tw12593004196397336988 : True := trivial
theorem PySem.W.Fast.tw16909325460490413528 : True := trivial
theorem PySem.W.Fast.tw7450911863616289676 : True := trivial
theorem PySem.W.Fast.tw16779003511409053457 : True := trivial
theorem PySem.W.Fast.tw11407184716155537266 : True := trivial
theorem PySem.W.Fast.tw2013416974737193099 : True := trivial
theorem PySem.W.Fast.tw10103116831097923905 : True := trivial
theorem PySem.W.Fast.tw2552287599867945950 : True := trivial
theorem PySem.W.Fast.tw1634543410970036453 : True := trivial
theorem PySem.W.Fast.tw8528068409603160961 : True := trivial
theorem PySem.W.Fast.tw13076927308870402256 : True := trivial
theorem PySem.W.Fast.tw2838685781704483354 : True := trivial
theorem PySem.W.Fast.tw2398086830040189981 : True := trivial
theorem PySem.W.Fast.tw17855342740878565798 : True := trivial
theorem PySem.W.Fast.tw4435257911212256805 : True := trivial
theorem PySem.W.Fast.tw12548498147637946223 : True := trivial
theorem PySem.W.Fast.tw16136320329756445520 : True := trivial
theorem PySem.W.Fast.tw10762658550176847440 : True := trivial
theorem PySem.W.Fast.tw10831731649690932365 : True := trivial
theorem PySem.W.Fast.tw11917975788026459804 : True := trivial
theorem PySem.W.Fast.tw9622329658945713523 : True := trivial
theorem PySem.W.Fast.tw5364721536353873794 : True := trivial
theorem PySem.W.Fast.tw8475477938778481859 : True := trivial
theorem PySem.W.Fast.tw18218500197571823561 : True := trivial
theorem PySem.W.Fast.tw11739077697424653956 : True := trivial
theorem PySem.W.Fast.tw10880240553407010938 : True := trivial
theorem PySem.W.Fast.tw16965274631589280680 : True := trivial
theorem PySem.W.Fast.tw15484609593770237580 : True := trivial
theorem PySem.W.Fast.tw1156615780925919479 : True := trivial
theorem PySem.W.Fast.tw13643632263485080127 : True := trivial
theorem PySem.W.Fast.tw12264102074788191012 : True := trivial
theorem PySem.W.Fast.tw1235269103868685986 : True := trivial
theorem PySem.W.Fast.tw5772600424694888777 : True := trivial
theorem PySem.W.Fast.tw16859928462551411341 : True := trivial
theorem PySem.W.Fast.tw14925336567956518988 : True := trivial
theorem PySem.W.Fast.tw12606644786394032346 : True := trivial
theorem PySem.W.Fast.tw2981731328680196918 : True := trivial
theorem PySem.W.Fast.tw9945333452745425433 : True := trivial
theorem PySem.W.Fast.tw4988638646812248922 : True := trivial
theorem PySem.W.Fast.tw10072827597369880279 : True := trivial
theorem PySem.W.Fast.tw5652176876963595541 : True := trivial
theorem PySem.W.Fast.tw4534505887350632740 : True := trivial
theorem PySem.W.Fast.tw3604748539766811769 : True := trivial
theorem PySem.W.Fast.tw949137764573878520 : True := trivial
theorem PySem.W.Fast.tw785091881603289631 : True := trivial
theorem PySem.W.Fast.tw15404283494328343242 : True := trivial
theorem PySem.W.Fast.tw186573977622978586 : True := trivial
theorem PySem.W.Fast.tw4115796705081815811 : True := trivial
theorem PySem.W.Fast.tw15202697199961027395 : True := trivial
theorem PySem.W.Fast.tw16821077453120858719 : True := trivial
theorem PySem.W.Fast.tw17892891847835367779 : True := trivial
theorem PySem.W.Fast.tw16124841725567742033 : True := trivial
theorem PySem.W.Fast.tw14835268987689145265 : True := trivial
theorem PySem.W.Fast.tw10312497092092644114 : True := trivial
theorem PySem.W.Fast.tw7334078544118369828 : True := trivial
theorem PySem.W.Fast.tw2072614091271457635 : True := trivial
theorem PySem.W.Fast.tw70059249591290875 : True := trivial
theorem PySem.W.Fast.tw13929995393931277915 : True := trivial
theorem PySem.W.Fast.tw13416429835662496975 : True := trivial
theorem PySem.W.Fast.tw5132530627135470963 : True := trivial
theorem PySem.W.Fast.tw13172745751012303388 : True := trivial
theorem PySem.W.Fast.tw14748992816201378324 : True := trivial
theorem PySem.W.Fast.tw17106548853945043458 : True := trivial
theorem PySem.W.Fast.tw14924002986072142599 : True := trivial
theorem PySem.W.Fast.tw17531850425048796190 : True := trivial
theorem PySem.W.Fast.tw17899657689919183510 : True := trivial
theorem PySem.W.Fast.tw17120013878294390565 : True := trivial
theorem PySem.W.Fast.tw15638816661160024816 : True := trivial
theorem PySem.W.Fast.tw11749793094092643221 : True := trivial
theorem PySem.W.Fast.tw1316853205656653994 : True := trivial
theorem PySem.W.Fast.tw3443592302610057108 : True := trivial
theorem PySem.W.Fast.tw18104015072076257713 : True := trivial
theorem PySem.W.Fast.tw5526106419871304216 : True := trivial
theorem PySem.W.Fast.tw12517076425028777575 : True := trivial
theorem PySem.W.Fast.tw2965553472351662400 : True := trivial
theorem PySem.W.Fast.tw3000701945071308388 : True := trivial
theorem PySem.W.Fast.tw8154529495869487733 : True := trivial
theorem PySem.W.Fast.tw13761990429835297674 : True := trivial
theorem PySem.W.Fast.tw4890772280212593749 : True := trivial
theorem PySem.W.Fast.tw2748585664538690960 : True := trivial
theorem PySem.W.Fast.tw3683449646323628721 : True := trivial
theorem PySem.W.Fast.tw5686402033880857611 : True := trivial
theorem PySem.W.Fast.tw14945030135508634193 : True := trivial
theorem PySem.W.Fast.tw7982310755280777734 : True := trivial
theorem PySem.W.Fast.tw7313284344831542642 : True := trivial
theorem PySem.W.Fast.tw312113795190626902 : True := trivial
theorem PySem.W.Fast.tw13058186719864888437 : True := trivial
theorem PySem.W.Fast.tw5043417439859897254 : True := trivial
theorem PySem.W.Fast.tw519454301873398169 : True := trivial
theorem PySem.W.Fast.tw3602578965831508189 : True := trivial
theorem PySem.W.Fast.tw15363111971969018098 : True := trivial
theorem PySem.W.Fast.tw18388924238411212413 : True := trivial
theorem PySem.W.Fast.tw5682683035706557099 : True := trivial
theorem PySem.W.Fast.tw15635738036684066033 : True := trivial
theorem PySem.W.Fast.tw18037300715766030208 : True := trivial
theorem PySem.W.Fast.tw15351408035927972084 : True := trivial
theorem PySem.W.Fast.tw5320864388425707907 : True := trivial
theorem PySem.W.Fast.tw7292863468790856836 : True := trivial
theorem PySem.W.Fast.tw2351397568146515186 : True := trivial
theorem PySem.W.Fast.tw15264253612330735364 : True := trivial
theorem PySem.W.Fast.tw667260300464338076 : True := trivial
theorem PySem.W.Fast.tw11337359378954720909 : True := trivial
theorem PySem.W.Fast.tw12489083505563382930 : True := trivial
theorem PySem.W.Fast.tw3170296134917748894 : True := trivial
theorem PySem.W.Fast.tw12229456240563439313 : True := trivial
theorem PySem.W.Fast.tw9406870008791189586 : True := trivial
theorem PySem.W.Fast.tw6507238190815850719 : True := trivial
theorem PySem.W.Fast.tw6628869670769336024 : True := trivial
theorem PySem.W.Fast.tw6453909371159240236 : True := trivial
theorem PySem.W.Fast.tw13848853553630468041 : True := trivial
theorem PySem.W.Fast.tw12064612263569606078 : True := trivial
theorem PySem.W.Fast.tw12295754639098151345 : True := trivial
theorem PySem.W.Fast.tw6585927826330111115 : True := trivial
theorem PySem.W.Fast.tw9867872524531694283 : True := trivial
theorem PySem.W.Fast.tw14569795314795716504 : True := trivial
theorem PySem.W.Fast.tw1969172333489747129 : True := trivial
theorem PySem.W.Fast.tw9013680515865293933 : True := trivial
theorem PySem.W.Fast.tw16608916437669776847 : True := trivial
theorem PySem.W.Fast.tw3500913048906556376 : True := trivial
theorem PySem.W.Fast.tw8805313318897904889 : True := trivial
theorem PySem.W.Fast.tw14337481475019691958 : True := trivial
theorem PySem.W.Fast.tw17459422597882609950 : True := trivial
theorem PySem.W.Fast.tw2730398899575225672 : True := trivial
theorem PySem.W.Fast.tw14958859794670130623 : True := trivial
theorem PySem.W.Fast.tw8451825838789448134 : True := trivial
theorem PySem.W.Fast.tw17160819925489912624 : True := trivial
theorem PySem.W.Fast.tw12393052331155615955 : True := trivial
theorem PySem.W.Fast.tw659855717702559122 : True := trivial
theorem PySem.W.Fast.tw16615589831112788393 : True := trivial
theorem PySem.W.Fast.tw7180936314770494392 : True := trivial
theorem PySem.W.Fast.tw18318751952893765004 : True := trivial
theorem PySem.W.Fast.tw4708942259008560791 : True := trivial
theorem PySem.W.Fast.tw967758027072971729 : True := trivial
theorem PySem.W.Fast.tw12648494025251492308 : True := trivial
theorem PySem.W.Fast.tw7704646008292935760 : True := trivial
theorem PySem.W.Fast.tw11365927685943018353 : True := trivial
theorem PySem.W.Fast.tw17179598973110134748 : True := trivial
theorem PySem.W.Fast.tw17262951269384762446 : True := trivial
theorem PySem.W.Fast.tw14335315797420771684 : True := trivial
theorem PySem.W.Fast.tw16112557267564612565 : True := trivial
theorem PySem.W.Fast.tw2606713214663896661 : True := trivial
theorem PySem.W.Fast.tw5335602402647557757 : True := trivial
theorem PySem.W.Fast.tw9805620741301061809 : True := trivial
theorem PySem.W.Fast.tw801533843655349028 : True := trivial
theorem PySem.W.Fast.tw4996768043096163273 : True := trivial
theorem PySem.W.Fast.tw14942984943134683772 : True := trivial
theorem PySem.W.Fast.tw14506702984598940789 : True := trivial
theorem PySem.W.Fast.tw16701748078334559837 : True := trivial
theorem PySem.W.Fast.tw8828612792595393093 : True := trivial
theorem PySem.W.Fast.tw8682170286687108312 : True := trivial
theorem PySem.W.Fast.tw16013704325751547285 : True := trivial
theorem PySem.W.Fast.tw11270023333990775419 : True := trivial
theorem PySem.W.Fast.tw14251106714534339273 : True := trivial
theorem PySem.W.Fast.tw3684142783162113976 : True := trivial
theorem PySem.W.Fast.tw16565796623917460965 : True := trivial
theorem PySem.W.Fast.tw3435468260350736177 : True := trivial
theorem PySem.W.Fast.tw7212237259937875845 : True := trivial
theorem PySem.W.Fast.tw13615177887791163351 : True := trivial
theorem PySem.W.Fast.tw17045863197606115956 : True := trivial
theorem PySem.W.Fast.tw3144043198919251309 : True := trivial
theorem PySem.W.Fast.tw15255828296285893759 : True := trivial
theorem PySem.W.Fast.tw17109799336270093725 : True := trivial
theorem PySem.W.Fast.tw1805710565549048683 : True := trivial
theorem PySem.W.Fast.tw14716322538128365875 : True := trivial
theorem PySem.W.Fast.tw15476721667052367946 : True := trivial
theorem PySem.W.Fast.tw1558595302939315927 : True := trivial
theorem PySem.W.Fast.tw11354412767981878776 : True := trivial
theorem PySem.W.Fast.tw14134570231584111705 : True := trivial
theorem PySem.W.Fast.tw18434700258963662059 : True := trivial
theorem PySem.W.Fast.tw5561191199398191640 : True := trivial
theorem PySem.W.Fast.tw6676537507138042349 : True := trivial
theorem PySem.W.Fast.tw10216916990665754570 : True := trivial
theorem PySem.W.Fast.tw2077269674532510927 : True := trivial
theorem PySem.W.Fast.tw3794399189001570580 : True := trivial
theorem PySem.W.Fast.tw18024511853998597222 : True := trivial
theorem PySem.W.Fast.tw14649986345556290751 : True := trivial
theorem PySem.W.Fast.tw11987157172929512722 : True := trivial
theorem PySem.W.Fast.tw9242429484380821151 : True := trivial
theorem PySem.W.Fast.tw11132224979533063913 : True := trivial
theorem PySem.W.Fast.tw10292222504282527330 : True := trivial
theorem PySem.W.Fast.tw10566224341963138056 : True := trivial
theorem PySem.W.Fast.tw10395892816686452737 : True := trivial
theorem PySem.W.Fast.tw18337636615079953484 : True := trivial
theorem PySem.W.Fast.tw8891739200598139552 : True := trivial
theorem PySem.W.Fast.tw6049105874020744428 : True := trivial
theorem PySem.W.Fast.tw13573977749106985321 : True := trivial
theorem PySem.W.Fast.tw12129807806550785057 : True := trivial
theorem PySem.W.Fast.tw10848066214228108818 : True := trivial
theorem PySem.W.Fast.tw13550048346956326397 : True := trivial
theorem PySem.W.Fast.tw17683120577283962527 : True := trivial
theorem PySem.W.Fast.tw14558977308142605005 : True := trivial
theorem PySem.W.Fast.tw4562182536990882582 : True := trivial
theorem PySem.W.Fast.tw158587542844437353 : True := trivial
theorem PySem.W.Fast.tw316218155610393314 : True := trivial
theorem PySem.W.Fast.tw11263711939061122434 : True := trivial
theorem PySem.W.Fast.tw13740524578022763951 : True := trivial
theorem PySem.W.Fast.tw5318139125816737969 : True := trivial
theorem PySem.W.Fast.tw13037333417736445392 : True := trivial
theorem PySem.W.Fast.tw7482763264673890990 : True := trivial
theorem PySem.W.Fast.tw6216927933144528093 : True := trivial
theorem PySem.W.Fast.tw4381932038589983947 : True := trivial
theorem PySem.W.Fast.tw3563450968523860139 : True := trivial
theorem PySem.W.Fast.tw11673227684670675464 : True := trivial
theorem PySem.W.Fast.tw8319439702235112359 : True := trivial
theorem PySem.W.Fast.tw179272955043238227 : True := trivial
theorem PySem.W.Fast.tw14160344329412481588 : True := trivial
theorem PySem.W.Fast.tw9716227087733294207 : True := trivial
theorem PySem.W.Fast.tw7008765587441243624 : True := trivial
theorem PySem.W.Fast.tw6673680924143408944 : True := trivial
theorem PySem.W.Fast.tw3898963498742044629 : True := trivial
theorem PySem.W.Fast.tw2032177536435538533 : True := trivial
theorem PySem.W.Fast.tw16137781035835801382 : True := trivial
theorem PySem.W.Fast.tw12140587666302116276 : True := trivial
theorem PySem.W.Fast.tw10328672295694132316 : True := trivial
theorem PySem.W.Fast.tw11308668294939916425 : True := trivial
theorem PySem.W.Fast.tw2177647354499518652 : True := trivial
theorem PySem.W.Fast.tw10845477321110650788 : True := trivial
theorem PySem.W.Fast.tw7731558033380824534 : True := trivial
theorem PySem.W.Fast.tw7808262852602882866 : True := trivial
theorem PySem.W.Fast.tw1966944440093942871 : True := trivial
theorem PySem.W.Fast.tw15451512993586196211 : True := trivial
theorem PySem.W.Fast.tw12350949924901130620 : True := trivial
theorem PySem.W.Fast.tw4105542957948315726 : True := trivial
theorem PySem.W.Fast.tw6828915959335702359 : True := trivial
theorem PySem.W.Fast.tw12903005894941287224 : True := trivial
theorem PySem.W.Fast.tw3784500255380875498 : True := trivial
theorem PySem.W.Fast.tw722230976953767780 : True := trivial
theorem PySem.W.Fast.tw4712803237978580710 : True := trivial
theorem PySem.W.Fast.tw8112895243810371627 : True := trivial
theorem PySem.W.Fast.tw5194839488811962444 : True := trivial
theorem PySem.W.Fast.tw6499085826380417911 : True := trivial
theorem PySem.W.Fast.tw706072874164480511 : True := trivial
theorem PySem.W.Fast.tw13718866921858924998 : True := trivial
theorem PySem.W.Fast.tw9200990649812648768 : True := trivial
theorem PySem.W.Fast.tw10195557337163692088 : True := trivial
theorem PySem.W.Fast.tw12362189362999624910 : True := trivial
theorem PySem.W.Fast.tw17269029078799176266 : True := trivial
theorem PySem.W.Fast.tw15546602579450849453 : True := trivial
theorem PySem.W.Fast.tw14929843011508341507 : True := trivial
theorem PySem.W.Fast.tw2987891706424030337 : True := trivial
theorem PySem.W.Fast.tw10838457425004809731 : True := trivial
theorem PySem.W.Fast.tw7187534451697735726 : True := trivial
theorem PySem.W.Fast.tw15662656352665027938 : True := trivial
theorem PySem.W.Fast.tw5488715622845121059 : True := trivial
theorem PySem.W.Fast.tw8597759803422479222 : True := trivial
theorem PySem.W.Fast.tw10928856561608100887 : True := trivial
theorem PySem.W.Fast.tw2942273469542381165 : True := trivial
theorem PySem.W.Fast.tw2597645164226505279 : True := trivial
theorem PySem.W.Fast.tw17828188494132398037 : True := trivial
theorem PySem.W.Fast.tw16533371166804827756 : True := trivial
theorem PySem.W.Fast.tw17857513483708915384 : True := trivial
theorem PySem.W.Fast.tw9811545533172114499 : True := trivial
theorem PySem.W.Fast.tw1943059124678451392 : True := trivial
theorem PySem.W.Fast.tw6956212916640216116 : True := trivial
theorem PySem.W.Fast.tw5713518269662297183 : True := trivial
theorem PySem.W.Fast.tw17180091723750841194 : True := trivial
theorem PySem.W.Fast.tw6758962759076882610 : True := trivial
theorem PySem.W.Fast.tw11983175685248479646 : True := trivial
theorem PySem.W.Fast.tw6237810429524179314 : True := trivial
theorem PySem.W.Fast.tw3967343113494486534 : True := trivial
theorem PySem.W.Fast.tw4951628049493797703 : True := trivial
theorem PySem.W.Fast.tw860713910741667367 : True := trivial
theorem PySem.W.Fast.tw3807564013048425021 : True := trivial
theorem PySem.W.Fast.tw15978735892147282841 : True := trivial
theorem PySem.W.Fast.tw15741527427172430434 : True := trivial
theorem PySem.W.Fast.tw14042104637453789607 : True := trivial
theorem PySem.W.Fast.tw9645687780382119300 : True := trivial
theorem PySem.W.Fast.tw15298192501936935827 : True := trivial
theorem PySem.W.Fast.tw11470082269876963448 : True := trivial
theorem PySem.W.Fast.tw17261893335649268517 : True := trivial
theorem PySem.W.Fast.tw5121359959067309049 : True := trivial
theorem PySem.W.Fast.tw15705454920275446043 : True := trivial
theorem PySem.W.Fast.tw10178838525210908473 : True := trivial
theorem PySem.W.Fast.tw15091916578073713770 : True := trivial
theorem PySem.W.Fast.tw12754654890072645662 : True := trivial
theorem PySem.W.Fast.tw556862427909608326 : True := trivial
theorem PySem.W.Fast.tw6755429693278261066 : True := trivial
theorem PySem.W.Fast.tw1940823960924459961 : True := trivial
theorem PySem.W.Fast.tw7805425496382749288 : True := trivial
theorem PySem.W.Fast.tw1617066333492247728 : True := trivial
theorem PySem.W.Fast.tw9226933018161425101 : True := trivial
theorem PySem.W.Fast.tw15616042632915082075 : True := trivial
theorem PySem.W.Fast.tw6443345384702681352 : True := trivial
theorem PySem.W.Fast.tw10111756813033451600 : True := trivial
theorem PySem.W.Fast.tw4802019377138831963 : True := trivial
theorem PySem.W.Fast.tw6995774621837435307 : True := trivial
theorem PySem.W.Fast.tw2803634560135556069 : True := trivial
theorem PySem.W.Fast.tw13780833566514728149 : True := trivial
theorem PySem.W.Fast.tw2450883421619494063 : True := trivial
theorem PySem.W.Fast.tw8444575130011411869 : True := trivial
theorem PySem.W.Fast.tw17869380078598688060 : True := trivial
theorem PySem.W.Fast.tw16873755263909220654 : True := trivial
theorem PySem.W.Fast.tw1990437795082345071 : True := trivial
theorem PySem.W.Fast.tw1783439824025794117 : True := trivial
theorem PySem.W.Fast.tw5614584298059644126 : True := trivial
theorem PySem.W.Fast.tw2013735494958481990 : True := trivial
theorem PySem.W.Fast.tw14565334970476586457 : True := trivial
theorem PySem.W.Fast.tw4614735346740796845 : True := trivial
theorem PySem.W.Fast.tw2690907549029734372 : True := trivial
theorem PySem.W.Fast.tw1207958438392619616 : True := trivial
theorem PySem.W.Fast.tw5551027810593961282 : True := trivial
theorem PySem.W.Fast.tw6547171529381578005 : True := trivial
theorem PySem.W.Fast.tw494443692268812202 : True := trivial
theorem PySem.W.Fast.tw3505199896663117068 : True := trivial
theorem PySem.W.Fast.tw16688755162293524449 : True := trivial
theorem PySem.W.Fast.tw5682815760261001565 : True := trivial
theorem PySem.W.Fast.tw5498750213149230738 : True := trivial
theorem PySem.W.Fast.tw294097981216370319 : True := trivial
theorem PySem.W.Fast.tw5823155818734839749 : True := trivial
theorem PySem.W.Fast.tw9189279695674059512 : True := trivial
theorem PySem.W.Fast.tw323885792175561258 : True := trivial
theorem PySem.W.Fast.tw3380497072248587095 : True := trivial
theorem PySem.W.Fast.tw8088713942783789831 : True := trivial
theorem PySem.W.Fast.tw2918879050054196763 : True := trivial
theorem PySem.W.Fast.tw52330242646403415 : True := trivial
theorem PySem.W.Fast.tw2397576437352949309 : True := trivial
theorem PySem.W.Fast.tw7110562835295746582 : True := trivial
theorem PySem.W.Fast.tw15059572161736338517 : True := trivial
theorem PySem.W.Fast.tw17463556160556675781 : True := trivial
theorem PySem.W.Fast.tw10283175822801535766 : True := trivial
theorem PySem.W.Fast.tw3949149011499738855 : True := trivial
theorem PySem.W.Fast.tw15399843535833900793 : True := trivial
theorem PySem.W.Fast.tw4816411041339358647 : True := trivial
theorem PySem.W.Fast.tw2340508284645173078 : True := trivial
theorem PySem.W.Fast.tw17594496539793947708 : True := trivial
theorem PySem.W.Fast.tw5601700592855625452 : True := trivial
theorem PySem.W.Fast.tw3947125214061993777 : True := trivial
theorem PySem.W.Fast.tw8483666771439921017 : True := trivial
theorem PySem.W.Fast.tw13768412778847908224 : True := trivial
theorem PySem.W.Fast.tw14483528596440297650 : True := trivial
theorem PySem.W.Fast.tw9383206170193295314 : True := trivial
theorem PySem.W.Fast.tw7201896022225028300 : True := trivial
theorem PySem.W.Fast.tw11211821854595853582 : True := trivial
theorem PySem.W.Fast.tw15229177070963596316 : True := trivial
theorem PySem.W.Fast.tw174007221151894400 : True := trivial
theorem PySem.W.Fast.tw16062822020018500754 : True := trivial
theorem PySem.W.Fast.tw17264613159099658874 : True := trivial
theorem PySem.W.Fast.tw817315925293456404 : True := trivial
theorem PySem.W.Fast.tw1160544827701159841 : True := trivial
theorem PySem.W.Fast.tw13722444238783300817 : True := trivial
theorem PySem.W.Fast.tw14171190661052768436 : True := trivial
theorem PySem.W.Fast.tw17493428483599238334 : True := trivial
theorem PySem.W.Fast.tw16728374723955391747 : True := trivial
theorem PySem.W.Fast.tw12460314312081162585 : True := trivial
theorem PySem.W.Fast.tw11465238708547450685 : True := trivial
theorem PySem.W.Fast.tw16585625639310238404 : True := trivial
theorem PySem.W.Fast.tw8328559281396778081 : True := trivial
theorem PySem.W.Fast.tw6632798922090032230 : True := trivial
theorem PySem.W.Fast.tw12370486908726438347 : True := trivial
theorem PySem.W.Fast.tw18137604956914772451 : True := trivial
theorem PySem.W.Fast.tw4085370663281267656 : True := trivial
theorem PySem.W.Fast.tw5619622165468816214 : True := trivial
theorem PySem.W.Fast.tw10640600946843914192 : True := trivial
theorem PySem.W.Fast.tw2961815067277690769 : True := trivial
theorem PySem.W.Fast.tw14803878903879269711 : True := trivial
theorem PySem.W.Fast.tw10038119370662677116 : True := trivial
theorem PySem.W.Fast.tw8122927114318837019 : True := trivial
theorem PySem.W.Fast.tw2880541488449916162 : True := trivial
theorem PySem.W.Fast.tw8915390172399856978 : True := trivial
theorem PySem.W.Fast.tw13480888047560664568 : True := trivial
theorem PySem.W.Fast.tw10083308703183662175 : True := trivial
theorem PySem.W.Fast.tw15038526267048605761 : True := trivial
theorem PySem.W.Fast.tw12602944005473054021 : True := trivial
theorem PySem.W.Fast.tw6182618805981663818 : True := trivial
theorem PySem.W.Fast.tw14991231955381180148 : True := trivial
theorem PySem.W.Fast.tw10935635190146942081 : True := trivial
theorem PySem.W.Fast.tw2166222793830179826 : True := trivial
theorem PySem.W.Fast.tw8827845519694621368 : True := trivial
theorem PySem.W.Fast.tw11142472309746385397 : True := trivial
theorem PySem.W.Fast.tw11237053655413570743 : True := trivial
theorem PySem.W.Fast.tw813316449189836991 : True := trivial
theorem PySem.W.Fast.tw1634259371112034510 : True := trivial
theorem PySem.W.Fast.tw12015551815604528418 : True := trivial
theorem PySem.W.Fast.tw1032743487360844161 : True := trivial
theorem PySem.W.Fast.tw9459906564109514580 : True := trivial
theorem PySem.W.Fast.tw9375154458405813789 : True := trivial
theorem PySem.W.Fast.tw14600031879440272623 : True := trivial
theorem PySem.W.Fast.tw17614281677322497729 : True := trivial
theorem PySem.W.Fast.tw656414456132637783 : True := trivial
theorem PySem.W.Fast.tw16657427592461600634 : True := trivial
theorem PySem.W.Fast.tw12751713582852447568 : True := trivial
theorem PySem.W.Fast.tw14158097693039721315 : True := trivial
theorem PySem.W.Fast.tw4428481485633522615 : True := trivial
theorem PySem.W.Fast.tw5021947074984068378 : True := trivial
theorem PySem.W.Fast.tw13329519216483667079 : True := trivial
theorem PySem.W.Fast.tw10855426034658222071 : True := trivial
theorem PySem.W.Fast.tw1382334657565987212 : True := trivial
theorem PySem.W.Fast.tw13026927888487716328 : True := trivial
theorem PySem.W.Fast.tw5788835002581269999 : True := trivial
theorem PySem.W.Fast.tw10565735396763516597 : True := trivial
theorem PySem.W.Fast.tw2844328672728501124 : True := trivial
theorem PySem.W.Fast.tw3548573266569905661 : True := trivial
theorem PySem.W.Fast.tw15766186930808700141 : True := trivial
theorem PySem.W.Fast.tw4873086190891902477 : True := trivial
theorem PySem.W.Fast.tw14699113637070035288 : True := trivial
theorem PySem.W.Fast.tw15774780247336259715 : True := trivial
theorem PySem.W.Fast.tw1984667886539010268 : True := trivial
theorem PySem.W.Fast.tw8254861862513379796 : True := trivial
theorem PySem.W.Fast.tw18415538028829512664 : True := trivial
theorem PySem.W.Fast.tw16286010188303640825 : True := trivial
theorem PySem.W.Fast.tw9313678660602995783 : True := trivial
theorem PySem.W.Fast.tw18254625994910436593 : True := trivial
theorem PySem.W.Fast.tw7598274036379933227 : True := trivial
theorem PySem.W.Fast.tw5607033035127209517 : True := trivial
theorem PySem.W.Fast.tw12339662300769705942 : True := trivial
theorem PySem.W.Fast.tw10364996012613550154 : True := trivial
theorem PySem.W.Fast.tw2422426966660643286 : True := trivial
theorem PySem.W.Fast.tw9379304815011970389 : True := trivial
theorem PySem.W.Fast.tw12992190056983374195 : True := trivial
theorem PySem.W.Fast.tw6974603694657622479 : True := trivial
theorem PySem.W.Fast.tw4934811075471964726 : True := trivial
theorem PySem.W.Fast.tw10561726803197953517 : True := trivial
theorem PySem.W.Fast.tw5078870667870880843 : True := trivial
theorem PySem.W.Fast.tw15025279069459709289 : True := trivial
theorem PySem.W.Fast.tw8519021637793905738 : True := trivial
theorem PySem.W.Fast.tw6742948421555851766 : True := trivial
theorem PySem.W.Fast.tw17339623776044546528 : True := trivial
theorem PySem.W.Fast.tw17581812113581146636 : True := trivial
theorem PySem.W.Fast.tw1176999120395559461 : True := trivial
theorem PySem.W.Fast.tw12556136511116587910 : True := trivial
theorem PySem.W.Fast.tw3126718603298107299 : True := trivial
theorem PySem.W.Fast.tw3037429871158504558 : True := trivial
theorem PySem.W.Fast.tw14340177684613515979 : True := trivial
theorem PySem.W.Fast.tw13478200322918247130 : True := trivial
theorem PySem.W.Fast.tw17132945661868319675 : True := trivial
theorem PySem.W.Fast.tw10336247187511073998 : True := trivial
theorem PySem.W.Fast.tw28679800255542722 : True := trivial
theorem PySem.W.Fast.tw3706699049486206340 : True := trivial
theorem PySem.W.Fast.tw14350420740395168443 : True := trivial
theorem PySem.W.Fast.tw5481717757317629717 : True := trivial
theorem PySem.W.Fast.tw3030760796728319315 : True := trivial
theorem PySem.W.Fast.tw13932660311593183599 : True := trivial
theorem PySem.W.Fast.tw11895492985065021572 : True := trivial
theorem PySem.W.Fast.tw14050922056360662376 : True := trivial
theorem PySem.W.Fast.tw17988098891566075299 : True := trivial
theorem PySem.W.Fast.tw14957074202138081722 : True := trivial
theorem PySem.W.Fast.tw7616552646906608037 : True := trivial
theorem PySem.W.Fast.tw3333682594706624730 : True := trivial
theorem PySem.W.Fast.tw9729609047103819848 : True := trivial
theorem PySem.W.Fast.tw767861707653038607 : True := trivial
theorem PySem.W.Fast.tw12147860037723403933 : True := trivial
theorem PySem.W.Fast.tw8339781624166393335 : True := trivial
theorem PySem.W.Fast.tw18150439364131486576 : True := trivial
theorem PySem.W.Fast.tw5346281288624654095 : True := trivial
theorem PySem.W.Fast.tw6722593472986656075 : True := trivial
theorem PySem.W.Fast.tw2624390257009582863 : True := trivial
theorem PySem.W.Fast.tw6113881926431627878 : True := trivial
theorem PySem.W.Fast.tw644620383338615852 : True := trivial
theorem PySem.W.Fast.tw5958816926630532543 : True := trivial
theorem PySem.W.Fast.tw15471972699340669459 : True := trivial
theorem PySem.W.Fast.tw11966966605889752046 : True := trivial
theorem PySem.W.Fast.tw5844624969339697803 : True := trivial
theorem PySem.W.Fast.tw16015735683630990317 : True := trivial
theorem PySem.W.Fast.tw937641293813104571 : True := trivial
theorem PySem.W.Fast.tw13627694710284533066 : True := trivial
theorem PySem.W.Fast.tw16484788680808724726 : True := trivial
theorem PySem.W.Fast.tw3613760139027732317 : True := trivial
theorem PySem.W.Fast.tw11512940165123805334 : True := trivial
theorem PySem.W.Fast.tw5459758473120201884 : True := trivial
theorem PySem.W.Fast.tw2666692191962356032 : True := trivial
theorem PySem.W.Fast.tw15623329592510247362 : True := trivial
theorem PySem.W.Fast.tw9716756399494514075 : True := trivial
theorem PySem.W.Fast.tw5807459163412152353 : True := trivial
theorem PySem.W.Fast.tw11869401119687373528 : True := trivial
theorem PySem.W.Fast.tw13231333623801405758 : True := trivial
theorem PySem.W.Fast.tw6526277909135957091 : True := trivial
theorem PySem.W.Fast.tw3278296948150772914 : True := trivial
theorem PySem.W.Fast.tw10261967662569614752 : True := trivial
theorem PySem.W.Fast.tw4537665736144505267 : True := trivial
theorem PySem.W.Fast.tw4863453468168996267 : True := trivial
theorem PySem.W.Fast.tw13690163506475239145 : True := trivial
theorem PySem.W.Fast.tw10457764605276167549 : True := trivial
theorem PySem.W.Fast.tw8377967009725698090 : True := trivial
theorem PySem.W.Fast.tw15016132965096743805 : True := trivial
theorem PySem.W.Fast.tw2974861942408295771 : True := trivial
theorem PySem.W.Fast.tw10975571721413592753 : True := trivial
theorem PySem.W.Fast.tw7195502623141272196 : True := trivial
theorem PySem.W.Fast.tw7380394957253865483 : True := trivial
theorem PySem.W.Fast.tw4249019601364903694 : True := trivial
theorem PySem.W.Fast.tw5035362368088407117 : True := trivial
theorem PySem.W.Fast.tw6714263470425262515 : True := trivial
theorem PySem.W.Fast.tw17145652846459836612 : True := trivial
theorem PySem.W.Fast.tw3712870675953099599 : True := trivial
theorem PySem.W.Fast.tw1059400016253934235 : True := trivial
theorem PySem.W.Fast.tw8960763246594654468 : True := trivial
theorem PySem.W.Fast.tw3476478744445624802 : True := trivial
theorem PySem.W.Fast.tw10744057014490859295 : True := trivial
theorem PySem.W.Fast.tw3824075019890140342 : True := trivial
theorem PySem.W.Fast.tw17211893172801701977 : True := trivial
theorem PySem.W.Fast.tw1935036814788083219 : True := trivial
theorem PySem.W.Fast.tw7316925907730835902 : True := trivial
theorem PySem.W.Fast.tw11950044924226510868 : True := trivial
theorem PySem.W.Fast.tw15779267366788386718 : True := trivial
theorem PySem.W.Fast.tw6572348402664209424 : True := trivial
theorem PySem.W.Fast.tw12786383985383507266 : True := trivial
theorem PySem.W.Fast.tw17483017847554536489 : True := trivial
theorem PySem.W.Fast.tw15918006704155920228 : True := trivial
theorem PySem.W.Fast.tw6998082194476752537 : True := trivial
theorem PySem.W.Fast.tw11792478276666860324 : True := trivial
theorem PySem.W.Fast.tw14515152277958086217 : True := trivial
theorem PySem.W.Fast.tw17101127874868493363 : True := trivial
theorem PySem.W.Fast.tw17758062442131029669 : True := trivial
theorem PySem.W.Fast.tw2949815100576998386 : True := trivial
theorem PySem.W.Fast.tw3898251259241627235 : True := trivial
theorem PySem.W.Fast.tw12285200567477751818 : True := trivial
theorem PySem.W.Fast.tw12078768716182285347 : True := trivial
theorem PySem.W.Fast.tw12336290591481865701 : True := trivial
theorem PySem.W.Fast.tw14630815109930355840 : True := trivial
theorem PySem.W.Fast.tw2259997318139341411 : True := trivial
theorem PySem.W.Fast.tw1135094359054118262 : True := trivial
theorem PySem.W.Fast.tw17383771574581367245 : True := trivial
theorem PySem.W.Fast.tw13641327911340732106 : True := trivial
theorem PySem.W.Fast.tw4503315671505462362 : True := trivial
theorem PySem.W.Fast.tw1714993614052038009 : True := trivial
theorem PySem.W.Fast.tw7557340765496325309 : True := trivial
theorem PySem.W.Fast.tw2857168724283336311 : True := trivial
theorem PySem.W.Fast.tw6359744461950664024 : True := trivial
theorem PySem.W.Fast.tw13200707982755723738 : True := trivial
theorem PySem.W.Fast.tw3711465333765009158 : True := trivial
theorem PySem.W.Fast.tw4510513836414399590 : True := trivial
theorem PySem.W.Fast.tw4486694831677150780 : True := trivial
theorem PySem.W.Fast.tw15707046808022498342 : True := trivial
theorem PySem.W.Fast.tw7125554713685197614 : True := trivial
theorem PySem.W.Fast.tw8838159988982936265 : True := trivial
theorem PySem.W.Fast.tw10403066204306449138 : True := trivial
theorem PySem.W.Fast.tw11179407181634854041 : True := trivial
theorem PySem.W.Fast.tw12486191048689070449 : True := trivial
theorem PySem.W.Fast.tw7678045570016246488 : True := trivial
theorem PySem.W.Fast.tw9790907931686089777 : True := trivial
theorem PySem.W.Fast.tw13741396492296723724 : True := trivial
theorem PySem.W.Fast.tw8571642777811427186 : True := trivial
theorem PySem.W.Fast.tw10754600155903477329 : True := trivial
theorem PySem.W.Fast.tw3165312054588856917 : True := trivial
theorem PySem.W.Fast.tw9656280908607295384 : True := trivial
theorem PySem.W.Fast.tw9741386553665073165 : True := trivial
theorem PySem.W.Fast.tw6496582177643865937 : True := trivial
theorem PySem.W.Fast.tw7813429780689912322 : True := trivial
theorem PySem.W.Fast.tw13186289337421686909 : True := trivial
theorem PySem.W.Fast.tw10033320739278012312 : True := trivial
theorem PySem.W.Fast.tw5423475490871603943 : True := trivial
theorem PySem.W.Fast.tw16740149931652425642 : True := trivial
theorem PySem.W.Fast.tw5078666742327522555 : True := trivial
theorem PySem.W.Fast.tw1858394526796713314 : True := trivial
theorem PySem.W.Fast.tw16873624029359412497 : True := trivial
theorem PySem.W.Fast.tw70100451167474091 : True := trivial
theorem PySem.W.Fast.tw14520237489685509841 : True := trivial
theorem PySem.W.Fast.tw12971630344620949603 : True := trivial
theorem PySem.W.Fast.tw8565317862491662267 : True := trivial
theorem PySem.W.Fast.tw17312276275212974986 : True := trivial
theorem PySem.W.Fast.tw13224657294769144575 : True := trivial
theorem PySem.W.Fast.tw10427271100258786804 : True := trivial
theorem PySem.W.Fast.tw1835807835695826467 : True := trivial
theorem PySem.W.Fast.tw10390932428604058727 : True := trivial
theorem PySem.W.Fast.tw9607402796879177671 : True := trivial
theorem PySem.W.Fast.tw15986727072506322436 : True := trivial
theorem PySem.W.Fast.tw866486577370068399 : True := trivial
theorem PySem.W.Fast.tw7118315321548461214 : True := trivial
theorem PySem.W.Fast.tw15332841800271960797 : True := trivial
theorem PySem.W.Fast.tw14749941941863969377 : True := trivial
theorem PySem.W.Fast.tw2771752779076676194 : True := trivial
theorem PySem.W.Fast.tw1931389397007446858 : True := trivial
theorem PySem.W.Fast.tw4306461476177722544 : True := trivial
theorem PySem.W.Fast.tw7817315872961735673 : True := trivial
theorem PySem.W.Fast.tw3485301761423213570 : True := trivial
theorem PySem.W.Fast.tw309768027256512831 : True := trivial
theorem PySem.W.Fast.tw1585302054234194627 : True := trivial
theorem PySem.W.Fast.tw7897502929022095631 : True := trivial
theorem PySem.W.Fast.tw15589595619244429792 : True := trivial
theorem PySem.W.Fast.tw13606490826887130385 : True := trivial
theorem PySem.W.Fast.tw11514035026668399612 : True := trivial
theorem PySem.W.Fast.tw3436721436304781697 : True := trivial
theorem PySem.W.Fast.tw17337013654642197864 : True := trivial
theorem PySem.W.Fast.tw146048582259081909 : True := trivial
theorem PySem.W.Fast.tw16381591915249398683 : True := trivial
theorem PySem.W.Fast.tw7121647174351117354 : True := trivial
theorem PySem.W.Fast.tw12126636327455696589 : True := trivial
theorem PySem.W.Fast.tw1092879458173847960 : True := trivial
theorem PySem.W.Fast.tw9499956162617980724 : True := trivial
theorem PySem.W.Fast.tw12872823364484286802 : True := trivial
theorem PySem.W.Fast.tw1808036916928839467 : True := trivial
theorem PySem.W.Fast.tw9733989923973873135 : True := trivial
theorem PySem.W.Fast.tw5863957117019342235 : True := trivial
theorem PySem.W.Fast.tw6407987263035875242 : True := trivial
theorem PySem.W.Fast.tw6635331970671371825 : True := trivial
theorem PySem.W.Fast.tw510636023733149757 : True := trivial
theorem PySem.W.Fast.tw9541755327894053840 : True := trivial
theorem PySem.W.Fast.tw13761984750979418518 : True := trivial
theorem PySem.W.Fast.tw12954028206465565460 : True := trivial
theorem PySem.W.Fast.tw9383163401023207276 : True := trivial
theorem PySem.W.Fast.tw11049220652126598715 : True := trivial
theorem PySem.W.Fast.tw6457694489176011862 : True := trivial
theorem PySem.W.Fast.tw8349193516016907880 : True := trivial
theorem PySem.W.Fast.tw10400048052874997049 : True := trivial
theorem PySem.W.Fast.tw6834280418093998562 : True := trivial
theorem PySem.W.Fast.tw5598066275391424271 : True := trivial
theorem PySem.W.Fast.tw4032791555881371883 : True := trivial
theorem PySem.W.Fast.tw12650259695617652424 : True := trivial
theorem PySem.W.Fast.tw15031909558806289646 : True := trivial
theorem PySem.W.Fast.tw5943576919611089321 : True := trivial
theorem PySem.W.Fast.tw3304849796016820027 : True := trivial
theorem PySem.W.Fast.tw910409642453519483 : True := trivial
theorem PySem.W.Fast.tw9491522926691611596 : True := trivial
theorem PySem.W.Fast.tw5182962728591572428 : True := trivial
theorem PySem.W.Fast.tw16396235855291008521 : True := trivial
theorem PySem.W.Fast.tw15791736265113517510 : True := trivial
theorem PySem.W.Fast.tw2011425401817224630 : True := trivial
theorem PySem.W.Fast.tw12211672457622265010 : True := trivial
theorem PySem.W.Fast.tw313694415718449596 : True := trivial
theorem PySem.W.Fast.tw7812458403075919641 : True := trivial
theorem PySem.W.Fast.tw10855597151712406118 : True := trivial
theorem PySem.W.Fast.tw121304318461920401 : True := trivial
theorem PySem.W.Fast.tw12811547704206795108 : True := trivial
theorem PySem.W.Fast.tw13760675230822381572 : True := trivial
theorem PySem.W.Fast.tw18440250764932358833 : True := trivial
theorem PySem.W.Fast.tw16064532399352976838 : True := trivial
theorem PySem.W.Fast.tw3071045171842676224 : True := trivial
theorem PySem.W.Fast.tw7177657452340832817 : True := trivial
theorem PySem.W.Fast.tw6245345672900126451 : True := trivial
theorem PySem.W.Fast.tw17638224852040120464 : True := trivial
theorem PySem.W.Fast.tw5584965383801585188 : True := trivial
theorem PySem.W.Fast.tw4516268773970611805 : True := trivial
theorem PySem.W.Fast.tw12071134969980882048 : True := trivial
theorem PySem.W.Fast.tw12735349406518658899 : True := trivial
theorem PySem.W.Fast.tw5476158649425507819 : True := trivial
theorem PySem.W.Fast.tw13869225745437380393 : True := trivial
theorem PySem.W.Fast.tw4573139630977244728 : True := trivial
theorem PySem.W.Fast.tw2696035867816503414 : True := trivial
theorem PySem.W.Fast.tw6394450361097990438 : True := trivial
theorem PySem.W.Fast.tw7579537480095526064 : True := trivial
theorem PySem.W.Fast.tw9929163996576859461 : True := trivial
theorem PySem.W.Fast.tw14531388258359642105 : True := trivial
theorem PySem.W.Fast.tw10468991022566147026 : True := trivial
theorem PySem.W.Fast.tw3532989695896510897 : True := trivial
theorem PySem.W.Fast.tw4700493247656195059 : True := trivial
theorem PySem.W.Fast.tw9025941963579031240 : True := trivial
theorem PySem.W.Fast.tw2001777746535469305 : True := trivial
theorem PySem.W.Fast.tw16310332103135066356 : True := trivial
theorem PySem.W.Fast.tw5426629632199477782 : True := trivial
theorem PySem.W.Fast.tw1176069096290541285 : True := trivial
theorem PySem.W.Fast.tw5338756840127318279 : True := trivial
theorem PySem.W.Fast.tw7757224934220213037 : True := trivial
theorem PySem.W.Fast.tw11718052870024758936 : True := trivial
theorem PySem.W.Fast.tw12829361137710566632 : True := trivial
theorem PySem.W.Fast.tw4709949462859734801 : True := trivial
theorem PySem.W.Fast.tw1238956810710759004 : True := trivial
theorem PySem.W.Fast.tw3297586020410730872 : True := trivial
theorem PySem.W.Fast.tw17106220437844261669 : True := trivial
theorem PySem.W.Fast.tw900162656978856968 : True := trivial
theorem PySem.W.Fast.tw8596947450459732647 : True := trivial
theorem PySem.W.Fast.tw17436132727225255776 : True := trivial
theorem PySem.W.Fast.tw10772362320155523752 : True := trivial
theorem PySem.W.Fast.tw7195956621027702102 : True := trivial
theorem PySem.W.Fast.tw9646805000500312595 : True := trivial
theorem PySem.W.Fast.tw7259357641360837143 : True := trivial
theorem PySem.W.Fast.tw10637074599062010770 : True := trivial
theorem PySem.W.Fast.tw378945391060501373 : True := trivial
theorem PySem.W.Fast.tw10923703449253762502 : True := trivial
theorem PySem.W.Fast.tw10437150169918169187 : True := trivial
theorem PySem.W.Fast.tw2161647472474503524 : True := trivial
theorem PySem.W.Fast.tw4431155511463634529 : True := trivial
theorem PySem.W.Fast.tw6242424735069531589 : True := trivial
theorem PySem.W.Fast.tw1411613042229856925 : True := trivial
theorem PySem.W.Fast.tw3748309730584493517 : True := trivial
theorem PySem.W.Fast.tw7582310319057030636 : True := trivial
theorem PySem.W.Fast.tw12913037175512270354 : True := trivial
theorem PySem.W.Fast.tw16091162965214044705 : True := trivial
theorem PySem.W.Fast.tw16502036206632068975 : True := trivial
theorem PySem.W.Fast.tw2226597036467068716 : True := trivial
theorem PySem.W.Fast.tw18082277069371873627 : True := trivial
theorem PySem.W.Fast.tw6479271840359345689 : True := trivial
theorem PySem.W.Fast.tw4745244383549053193 : True := trivial
theorem PySem.W.Fast.tw3910101645233969929 : True := trivial
theorem PySem.W.Fast.tw2543765467898223231 : True := trivial
theorem PySem.W.Fast.tw246783618081973762 : True := trivial
theorem PySem.W.Fast.tw1347495933570699880 : True := trivial
theorem PySem.W.Fast.tw6233709115946960394 : True := trivial
theorem PySem.W.Fast.tw3023512618353189498 : True := trivial
theorem PySem.W.Fast.tw14609699682263939104 : True := trivial
theorem PySem.W.Fast.tw15499386307861088277 : True := trivial
theorem PySem.W.Fast.tw5205270331563837680 : True := trivial
theorem PySem.W.Fast.tw7602314927362272791 : True := trivial
theorem PySem.W.Fast.tw14213245376347395170 : True := trivial
theorem PySem.W.Fast.tw5237781694944272597 : True := trivial
theorem PySem.W.Fast.tw4133024797453988434 : True := trivial
theorem PySem.W.Fast.tw17523312103779593995 : True := trivial
theorem PySem.W.Fast.tw14827523633224695705 : True := trivial
theorem PySem.W.Fast.tw17884602594221456772 : True := trivial
theorem PySem.W.Fast.tw17406676062515006567 : True := trivial
theorem PySem.W.Fast.tw13286267909176444693 : True := trivial
theorem PySem.W.Fast.tw2608199846236727569 : True := trivial
theorem PySem.W.Fast.tw9773776829498867600 : True := trivial
theorem PySem.W.Fast.tw14067936737174098917 : True := trivial
theorem PySem.W.Fast.tw7463235326490125736 : True := trivial
theorem PySem.W.Fast.tw16964228451794581831 : True := trivial
theorem PySem.W.Fast.tw4121019108516533200 : True := trivial
theorem PySem.W.Fast.tw2233979136856180143 : True := trivial
theorem PySem.W.Fast.tw5399835839638082142 : True := trivial
theorem PySem.W.Fast.tw4008513318645986491 : True := trivial
theorem PySem.W.Fast.tw8788750315550985522 : True := trivial
theorem PySem.W.Fast.tw8900755323263776617 : True := trivial
theorem PySem.W.Fast.tw7985974493290899609 : True := trivial
theorem PySem.W.Fast.tw5007225291602525902 : True := trivial
theorem PySem.W.Fast.tw2754684500612082359 : True := trivial
theorem PySem.W.Fast.tw7319020360310202733 : True := trivial
theorem PySem.W.Fast.tw11218576172613204604 : True := trivial
theorem PySem.W.Fast.tw3255152121581911897 : True := trivial
theorem PySem.W.Fast.tw17935834836350247834 : True := trivial
theorem PySem.W.Fast.tw6475508349356890676 : True := trivial
theorem PySem.W.Fast.tw4802011456971603558 : True := trivial
theorem PySem.W.Fast.tw12905461575377069826 : True := trivial
theorem PySem.W.Fast.tw3568199427008113496 : True := trivial
theorem PySem.W.Fast.tw9886963688338282341 : True := trivial
theorem PySem.W.Fast.tw5897613059699642941 : True := trivial
theorem PySem.W.Fast.tw9019088509295527686 : True := trivial
theorem PySem.W.Fast.tw17020505689641274901 : True := trivial
theorem PySem.W.Fast.tw3040864675140488623 : True := trivial
theorem PySem.W.Fast.tw14611922829773093210 : True := trivial
theorem PySem.W.Fast.tw780947415609710687 : True := trivial
theorem PySem.W.Fast.tw4205338119332213978 : True := trivial
theorem PySem.W.Fast.tw12215889301691774392 : True := trivial
theorem PySem.W.Fast.tw14763360904421705462 : True := trivial
theorem PySem.W.Fast.tw3943387658608853460 : True := trivial
theorem PySem.W.Fast.tw5211769498084984211 : True := trivial
theorem PySem.W.Fast.tw734157598104251802 : True := trivial
theorem PySem.W.Fast.tw3089946286575250823 : True := trivial
theorem PySem.W.Fast.tw14552361989920117315 : True := trivial
theorem PySem.W.Fast.tw6247293648560490639 : True := trivial
theorem PySem.W.Fast.tw14787825298874601254 : True := trivial
theorem PySem.W.Fast.tw11498322911625770329 : True := trivial
theorem PySem.W.Fast.tw12877162122163105216 : True := trivial
theorem PySem.W.Fast.tw5154306707710901710 : True := trivial
theorem PySem.W.Fast.tw7536131043787181527 : True := trivial
theorem PySem.W.Fast.tw8766183213390814587 : True := trivial
theorem PySem.W.Fast.tw6580813565303649227 : True := trivial
theorem PySem.W.Fast.tw4838961599716889502 : True := trivial
theorem PySem.W.Fast.tw18218161968519306604 : True := trivial
theorem PySem.W.Fast.tw209448947418797286 : True := trivial
theorem PySem.W.Fast.tw17869110619434486693 : True := trivial
theorem PySem.W.Fast.tw811337996861840592 : True := trivial
theorem PySem.W.Fast.tw14669068011531859029 : True := trivial
theorem PySem.W.Fast.tw17771443933038780676 : True := trivial
theorem PySem.W.Fast.tw5948954462423136097 : True := trivial
theorem PySem.W.Fast.tw3560179196843672468 : True := trivial
theorem PySem.W.Fast.tw15164965429876900321 : True := trivial
theorem PySem.W.Fast.tw5480859126670257341 : True := trivial
theorem PySem.W.Fast.tw11873755654334771344 : True := trivial
theorem PySem.W.Fast.tw7865965815157993830 : True := trivial
theorem PySem.W.Fast.tw17367807725066182121 : True := trivial
theorem PySem.W.Fast.tw10966158953871682303 : True := trivial
theorem PySem.W.Fast.tw9961297354604165094 : True := trivial
theorem PySem.W.Fast.tw3982802807910456112 : True := trivial
theorem PySem.W.Fast.tw6628238948612943721 : True := trivial
theorem PySem.W.Fast.tw3282732653339966042 : True := trivial
theorem PySem.W.Fast.tw3416538624165146035 : True := trivial
theorem PySem.W.Fast.tw15789562246034008799 : True := trivial
theorem PySem.W.Fast.tw7005399503804876859 : True := trivial
theorem PySem.W.Fast.tw13466105349097843241 : True := trivial
theorem PySem.W.Fast.tw11963791963969834541 : True := trivial
theorem PySem.W.Fast.tw1353470341144805130 : True := trivial
theorem PySem.W.Fast.tw4276600153975027900 : True := trivial
theorem PySem.W.Fast.tw15677223458600013324 : True := trivial
theorem PySem.W.Fast.tw13934363663074297953 : True := trivial
theorem PySem.W.Fast.tw15465882984233556580 : True := trivial
theorem PySem.W.Fast.tw1185470186651863087 : True := trivial
theorem PySem.W.Fast.tw11277901089336991301 : True := trivial
theorem PySem.W.Fast.tw6483587420885048203 : True := trivial
theorem PySem.W.Fast.tw15147764331475209740 : True := trivial
theorem PySem.W.Fast.tw4633763390807470231 : True := trivial
theorem PySem.W.Fast.tw1405049171187656333 : True := trivial
theorem PySem.W.Fast.tw9314144234662004795 : True := trivial
theorem PySem.W.Fast.tw7608777716641215726 : True := trivial
theorem PySem.W.Fast.tw12368310066896552041 : True := trivial
theorem PySem.W.Fast.tw8783951277778723941 : True := trivial
theorem PySem.W.Fast.tw12229402231830982574 : True := trivial
theorem PySem.W.Fast.tw11951237787850397764 : True := trivial
theorem PySem.W.Fast.tw2516865248520865240 : True := trivial
theorem PySem.W.Fast.tw10171054077785571716 : True := trivial
theorem PySem.W.Fast.tw14617563578679745290 : True := trivial
theorem PySem.W.Fast.tw3469674366112116929 : True := trivial
theorem PySem.W.Fast.tw12958377454081759479 : True := trivial
theorem PySem.W.Fast.tw1532811679136559802 : True := trivial
theorem PySem.W.Fast.tw10573823445983632802 : True := trivial
theorem PySem.W.Fast.tw15107022918259772605 : True := trivial
theorem PySem.W.Fast.tw1268149043806056588 : True := trivial
theorem PySem.W.Fast.tw8606396360941822399 : True := trivial
theorem PySem.W.Fast.tw491257481148067601 : True := trivial
theorem PySem.W.Fast.tw10254913835394531997 : True := trivial
theorem PySem.W.Fast.tw13576873460616546169 : True := trivial
theorem PySem.W.Fast.tw9256704442164811667 : True := trivial
theorem PySem.W.Fast.tw15487476988637642877 : True := trivial
theorem PySem.W.Fast.tw4782083358218840300 : True := trivial
theorem PySem.W.Fast.tw8770027929778499774 : True := trivial
theorem PySem.W.Fast.tw12037678818175077046 : True := trivial
theorem PySem.W.Fast.tw697292346445346218 : True := trivial
theorem PySem.W.Fast.tw5840643676066532190 : True := trivial
theorem PySem.W.Fast.tw5780177961896730736 : True := trivial
theorem PySem.W.Fast.tw5333434921710624897 : True := trivial
theorem PySem.W.Fast.tw16567084173964650340 : True := trivial
theorem PySem.W.Fast.tw11148817433622976521 : True := trivial
theorem PySem.W.Fast.tw4808396332080536891 : True := trivial
theorem PySem.W.Fast.tw17060479514084246527 : True := trivial
theorem PySem.W.Fast.tw14153994339275632921 : True := trivial
theorem PySem.W.Fast.tw9485193125495910246 : True := trivial
theorem PySem.W.Fast.tw14866339317386931582 : True := trivial
theorem PySem.W.Fast.tw8517815435546495251 : True := trivial
theorem PySem.W.Fast.tw15706122550166252157 : True := trivial
theorem PySem.W.Fast.tw14214455057475397208 : True := trivial
theorem PySem.W.Fast.tw10617128843641085267 : True := trivial
theorem PySem.W.Fast.tw16315760365923874928 : True := trivial
theorem PySem.W.Fast.tw5545855994829073354 : True := trivial
theorem PySem.W.Fast.tw6478035527924057402 : True := trivial
theorem PySem.W.Fast.tw16712575540549887329 : True := trivial
theorem PySem.W.Fast.tw17186220167301456067 : True := trivial
theorem PySem.W.Fast.tw1428099402658804395 : True := trivial
theorem PySem.W.Fast.tw6929589338480583517 : True := trivial
theorem PySem.W.Fast.tw16088788499867849644 : True := trivial
theorem PySem.W.Fast.tw6530443321670380202 : True := trivial
theorem PySem.W.Fast.tw13489382676137399173 : True := trivial
theorem PySem.W.Fast.tw13855734666683858754 : True := trivial
theorem PySem.W.Fast.tw5321703910160336423 : True := trivial
theorem PySem.W.Fast.tw15722084910500269012 : True := trivial
theorem PySem.W.Fast.tw5241559088725671300 : True := trivial
theorem PySem.W.Fast.tw6613714961829266726 : True := trivial
theorem PySem.W.Fast.tw4650497455911453092 : True := trivial
theorem PySem.W.Fast.tw4896604651923004634 : True := trivial
theorem PySem.W.Fast.tw7652552147489210063 : True := trivial
theorem PySem.W.Fast.tw3353613550600205081 : True := trivial
theorem PySem.W.Fast.tw4644057375698272813 : True := trivial
theorem PySem.W.Fast.tw7990250807355375313 : True := trivial
theorem PySem.W.Fast.tw6424154785918406993 : True := trivial
theorem PySem.W.Fast.tw15230590465322540959 : True := trivial
theorem PySem.W.Fast.tw13590999828413457862 : True := trivial
theorem PySem.W.Fast.tw16113250174135185647 : True := trivial
theorem PySem.W.Fast.tw12410644051263757037 : True := trivial
theorem PySem.W.Fast.tw15109954175633763023 : True := trivial
theorem PySem.W.Fast.tw1855262025720019921 : True := trivial
theorem PySem.W.Fast.tw15511893633916084382 : True := trivial
theorem PySem.W.Fast.tw4110308891202974807 : True := trivial
theorem PySem.W.Fast.tw8452195626551013918 : True := trivial
theorem PySem.W.Fast.tw4434685878831706752 : True := trivial
theorem PySem.W.Fast.tw5853280044429774744 : True := trivial
theorem PySem.W.Fast.tw517068256465974283 : True := trivial
theorem PySem.W.Fast.tw13911234933371911869 : True := trivial
theorem PySem.W.Fast.tw9222307086770262412 : True := trivial
theorem PySem.W.Fast.tw6976963892307478129 : True := trivial
theorem PySem.W.Fast.tw3579324054674237471 : True := trivial
theorem PySem.W.Fast.tw12401633707979583100 : True := trivial
theorem PySem.W.Fast.tw9066714977856399231 : True := trivial
theorem PySem.W.Fast.tw16836613354311865418 : True := trivial
theorem PySem.W.Fast.tw12010625934266340292 : True := trivial
theorem PySem.W.Fast.tw10383455570462865060 : True := trivial
theorem PySem.W.Fast.tw10637001652546826354 : True := trivial
theorem PySem.W.Fast.tw17906665978034530073 : True := trivial
theorem PySem.W.Fast.tw1370344067509204059 : True := trivial
theorem PySem.W.Fast.tw3513056092083225547 : True := trivial
theorem PySem.W.Fast.tw6692140510679016354 : True := trivial
theorem PySem.W.Fast.tw17481713625347306166 : True := trivial
theorem PySem.W.Fast.tw15948660240408071165 : True := trivial
theorem PySem.W.Fast.tw17544691872788588988 : True := trivial
theorem PySem.W.Fast.tw12764365151215356951 : True := trivial
theorem PySem.W.Fast.tw8036398170631271290 : True := trivial
theorem PySem.W.Fast.tw15561086858839587960 : True := trivial
theorem PySem.W.Fast.tw4626694592068266314 : True := trivial
theorem PySem.W.Fast.tw5478639807675201226 : True := trivial
theorem PySem.W.Fast.tw8634706692415743056 : True := trivial
theorem PySem.W.Fast.tw10487938633555825819 : True := trivial
theorem PySem.W.Fast.tw6394457202098806293 : True := trivial
theorem PySem.W.Fast.tw863447634803014097 : True := trivial
theorem PySem.W.Fast.tw10587186708422974741 : True := trivial
theorem PySem.W.Fast.tw10972798832057502583 : True := trivial
theorem PySem.W.Fast.tw4198921831868302050 : True := trivial
theorem PySem.W.Fast.tw12622388468679802677 : True := trivial
theorem PySem.W.Fast.tw3743976236721383365 : True := trivial
theorem PySem.W.Fast.tw11404092827963625075 : True := trivial
theorem PySem.W.Fast.tw5695074364819488267 : True := trivial
theorem PySem.W.Fast.tw13241185271715091549 : True := trivial
theorem PySem.W.Fast.tw10517963995917431750 : True := trivial
theorem PySem.W.Fast.tw11450737539317800488 : True := trivial
theorem PySem.W.Fast.tw6454993855336639615 : True := trivial
theorem PySem.W.Fast.tw4773786491321894969 : True := trivial
theorem PySem.W.Fast.tw8612700173560365063 : True := trivial
theorem PySem.W.Fast.tw9341998167083281334 : True := trivial
theorem PySem.W.Fast.tw11123306256109131813 : True := trivial
theorem PySem.W.Fast.tw7153758147654725361 : True := trivial
theorem PySem.W.Fast.tw8416252589284147066 : True := trivial
theorem PySem.W.Fast.tw10503222780820047078 : True := trivial
theorem PySem.W.Fast.tw13028203514628965429 : True := trivial
theorem PySem.W.Fast.tw15403246982183274237 : True := trivial
theorem PySem.W.Fast.tw7605339789879359956 : True := trivial
theorem PySem.W.Fast.tw11531685694643064911 : True := trivial
theorem PySem.W.Fast.tw14113676349973120646 : True := trivial
theorem PySem.W.Fast.tw4350224176613919305 : True := trivial
theorem PySem.W.Fast.tw828958881303176183 : True := trivial
theorem PySem.W.Fast.tw8463739893201148318 : True := trivial
theorem PySem.W.Fast.tw1999058619556263423 : True := trivial
theorem PySem.W.Fast.tw3008470622544003232 : True := trivial
theorem PySem.W.Fast.tw18060200115359096681 : True := trivial
theorem PySem.W.Fast.tw2501547270265730882 : True := trivial
theorem PySem.W.Fast.tw12771726237612451628 : True := trivial
theorem PySem.W.Fast.tw4583574313540865063 : True := trivial
theorem PySem.W.Fast.tw15031072075721920394 : True := trivial
theorem PySem.W.Fast.tw6552129997108409286 : True := trivial
theorem PySem.W.Fast.tw15921446440081643895 : True := trivial
theorem PySem.W.Fast.tw16588011133905056036 : True := trivial
theorem PySem.W.Fast.tw14043348802821836710 : True := trivial
theorem PySem.W.Fast.tw7002108626387754215 : True := trivial
theorem PySem.W.Fast.tw2907724894192615054 : True := trivial
theorem PySem.W.Fast.tw1384443517755242438 : True := trivial
theorem PySem.W.Fast.tw13478370654905793925 : True := trivial
theorem PySem.W.Fast.tw17958248174686678339 : True := trivial
theorem PySem.W.Fast.tw5201254961726260005 : True := trivial
theorem PySem.W.Fast.tw619911014384606066 : True := trivial
theorem PySem.W.Fast.tw9557812793340186828 : True := trivial
theorem PySem.W.Fast.tw17499021805184318948 : True := trivial
theorem PySem.W.Fast.tw1936205679139190343 : True := trivial
theorem PySem.W.Fast.tw15064674403990196480 : True := trivial
theorem PySem.W.Fast.tw10027067983819817565 : True := trivial
theorem PySem.W.Fast.tw17006152363449131481 : True := trivial
theorem PySem.W.Fast.tw12161871219954128311 : True := trivial
theorem PySem.W.Fast.tw6988734538159078680 : True := trivial
theorem PySem.W.Fast.tw2755442441420704165 : True := trivial
theorem PySem.W.Fast.tw15991235953625511373 : True := trivial
theorem PySem.W.Fast.tw9952359926348003901 : True := trivial
theorem PySem.W.Fast.tw2415052572648466942 : True := trivial
theorem PySem.W.Fast.tw11470551242912513016 : True := trivial
theorem PySem.W.Fast.tw1664825893592235157 : True := trivial
theorem PySem.W.Fast.tw15956098729675636727 : True := trivial
theorem PySem.W.Fast.tw14511508266304039305 : True := trivial
theorem PySem.W.Fast.tw727643155889352475 : True := trivial
theorem PySem.W.Fast.tw1603969271132317281 : True := trivial
theorem PySem.W.Fast.tw4056627788140618426 : True := trivial
theorem PySem.W.Fast.tw837791824650849317 : True := trivial
theorem PySem.W.Fast.tw3565502553305801980 : True := trivial
theorem PySem.W.Fast.tw8668794592139636836 : True := trivial
theorem PySem.W.Fast.tw2046275981844095783 : True := trivial
theorem PySem.W.Fast.tw13649260307342966302 : True := trivial
theorem PySem.W.Fast.tw15048047943564212265 : True := trivial
theorem PySem.W.Fast.tw10221516657408691746 : True := trivial
theorem PySem.W.Fast.tw16656280621618231615 : True := trivial
theorem PySem.W.Fast.tw1604423721168515429 : True := trivial
theorem PySem.W.Fast.tw17949534665023376099 : True := trivial
theorem PySem.W.Fast.tw7732321048147632614 : True := trivial
theorem PySem.W.Fast.tw10600099709184408685 : True := trivial
theorem PySem.W.Fast.tw3250923861174905555 : True := trivial
theorem PySem.W.Fast.tw6475579914570274357 : True := trivial
theorem PySem.W.Fast.tw13225247637434044679 : True := trivial
theorem PySem.W.Fast.tw7535232658805751753 : True := trivial
theorem PySem.W.Fast.tw8426831208351483062 : True := trivial
theorem PySem.W.Fast.tw15120785260042144388 : True := trivial
theorem PySem.W.Fast.tw15016684596812164050 : True := trivial
theorem PySem.W.Fast.tw1498628340835757157 : True := trivial
theorem PySem.W.Fast.tw6846782975546967651 : True := trivial
theorem PySem.W.Fast.tw18301322469076770461 : True := trivial
theorem PySem.W.Fast.tw2181945732611079874 : True := trivial
theorem PySem.W.Fast.tw2119764652325726754 : True := trivial
theorem PySem.W.Fast.tw6333752758263398811 : True := trivial
theorem PySem.W.Fast.tw5067539035471256031 : True := trivial
theorem PySem.W.Fast.tw4730856191687143249 : True := trivial
theorem PySem.W.Fast.tw2288835970055709566 : True := trivial
theorem PySem.W.Fast.tw6665202659905186076 : True := trivial
theorem PySem.W.Fast.tw5904765636084553262 : True := trivial
theorem PySem.W.Fast.tw15439454638688531420 : True := trivial
theorem PySem.W.Fast.tw17155704723977875598 : True := trivial
theorem PySem.W.Fast.tw1792378888008117706 : True := trivial
theorem PySem.W.Fast.tw4012131616194812329 : True := trivial
theorem PySem.W.Fast.tw17436518893053084486 : True := trivial
theorem PySem.W.Fast.tw7728365130532176369 : True := trivial
theorem PySem.W.Fast.tw12509168096784869391 : True := trivial
theorem PySem.W.Fast.tw4767321585646676219 : True := trivial
theorem PySem.W.Fast.tw863946535501142984 : True := trivial
theorem PySem.W.Fast.tw3721349418821714850 : True := trivial
theorem PySem.W.Fast.tw2807220659611663127 : True := trivial
theorem PySem.W.Fast.tw11237818537343279429 : True := trivial
theorem PySem.W.Fast.tw2218306018737292178 : True := trivial
theorem PySem.W.Fast.tw3313047336535710297 : True := trivial
theorem PySem.W.Fast.tw5627565004818382728 : True := trivial
theorem PySem.W.Fast.tw17281065284569237697 : True := trivial
theorem PySem.W.Fast.tw10766097063886998493 : True := trivial
theorem PySem.W.Fast.tw9279610626814743277 : True := trivial
theorem PySem.W.Fast.tw11870541228057836791 : True := trivial
theorem PySem.W.Fast.tw1503507676049037517 : True := trivial
theorem PySem.W.Fast.tw10256617762696712589 : True := trivial
theorem PySem.W.Fast.tw7738971476643117051 : True := trivial
theorem PySem.W.Fast.tw15848098390180759308 : True := trivial
theorem PySem.W.Fast.tw2679681338898480337 : True := trivial
theorem PySem.W.Fast.tw15123799358488983814 : True := trivial
theorem PySem.W.Fast.tw8415306587437576850 : True := trivial
theorem PySem.W.Fast.tw12695735991129648814 : True := trivial
theorem PySem.W.Fast.tw4103366975881841389 : True := trivial
theorem PySem.W.Fast.tw16541607986997646591 : True := trivial
theorem PySem.W.Fast.tw6810084787333024451 : True := trivial
theorem PySem.W.Fast.tw10741334802975827476 : True := trivial
theorem PySem.W.Fast.tw2125544287956483653 : True := trivial
theorem PySem.W.Fast.tw1606856775197070448 : True := trivial
theorem PySem.W.Fast.tw14396677647891280283 : True := trivial
theorem PySem.W.Fast.tw4589210663055777333 : True := trivial
theorem PySem.W.Fast.tw18039106076445957356 : True := trivial
theorem PySem.W.Fast.tw6700974051342500992 : True := trivial
theorem PySem.W.Fast.tw4575572356123375418 : True := trivial
theorem PySem.W.Fast.tw12675498339078886752 : True := trivial
theorem PySem.W.Fast.tw13802548398386761541 : True := trivial
theorem PySem.W.Fast.tw9188306693292237383 : True := trivial
theorem PySem.W.Fast.tw17680069902565036560 : True := trivial
theorem PySem.W.Fast.tw17934687629794447431 : True := trivial
theorem PySem.W.Fast.tw11380235167663726621 : True := trivial
theorem PySem.W.Fast.tw7318767617046642629 : True := trivial
theorem PySem.W.Fast.tw4556109746151585027 : True := trivial
theorem PySem.W.Fast.tw14327744834396869161 : True := trivial
theorem PySem.W.Fast.tw14368787797365985835 : True := trivial
theorem PySem.W.Fast.tw608526964205104306 : True := trivial
theorem PySem.W.Fast.tw15508174050460941021 : True := trivial
theorem PySem.W.Fast.tw11584952007941908835 : True := trivial
theorem PySem.W.Fast.tw14011087198527443736 : True := trivial
theorem PySem.W.Fast.tw8142746958189135027 : True := trivial
theorem PySem.W.Fast.tw9501310451298697164 : True := trivial
theorem PySem.W.Fast.tw8802646681545261774 : True := trivial
theorem PySem.W.Fast.tw7327515556714841540 : True := trivial
theorem PySem.W.Fast.tw9519597066749557163 : True := trivial
theorem PySem.W.Fast.tw13753342503542244779 : True := trivial
theorem PySem.W.Fast.tw8238424616990874027 : True := trivial
theorem PySem.W.Fast.tw3341866425598156647 : True := trivial
theorem PySem.W.Fast.tw17937408451375186686 : True := trivial
theorem PySem.W.Fast.tw10330317119041561377 : True := trivial
theorem PySem.W.Fast.tw15025539764950891177 : True := trivial
theorem PySem.W.Fast.tw15137990652546740024 : True := trivial
theorem PySem.W.Fast.tw18015227552303695112 : True := trivial
theorem PySem.W.Fast.tw10866795595768928489 : True := trivial
theorem PySem.W.Fast.tw16166418490935769380 : True := trivial
theorem PySem.W.Fast.tw16931807216168063107 : True := trivial
theorem PySem.W.Fast.tw11395632345502784169 : True := trivial
theorem PySem.W.Fast.tw2326031886929195126 : True := trivial
theorem PySem.W.Fast.tw2385983788475788229 : True := trivial
theorem PySem.W.Fast.tw6401347668288587090 : True := trivial
theorem PySem.W.Fast.tw7964173892231959964 : True := trivial
theorem PySem.W.Fast.tw16248128804874740303 : True := trivial
theorem PySem.W.Fast.tw13105259334330880189 : True := trivial
theorem PySem.W.Fast.tw16422762811917300844 : True := trivial
theorem PySem.W.Fast.tw8908238100514861909 : True := trivial
theorem PySem.W.Fast.tw4526483950870264567 : True := trivial
theorem PySem.W.Fast.tw17607443274355336974 : True := trivial
theorem PySem.W.Fast.tw17238419852452463603 : True := trivial
theorem PySem.W.Fast.tw7875368456063678744 : True := trivial
theorem PySem.W.Fast.tw5616000887584600633 : True := trivial
theorem PySem.W.Fast.tw714977335515108252 : True := trivial
theorem PySem.W.Fast.tw14203360425959220209 : True := trivial
theorem PySem.W.Fast.tw5607875641132196667 : True := trivial
theorem PySem.W.Fast.tw10731248163761656211 : True := trivial
theorem PySem.W.Fast.tw6545811857621498759 : True := trivial
theorem PySem.W.Fast.tw9937700677314070736 : True := trivial
theorem PySem.W.Fast.tw17960350345837680316 : True := trivial
theorem PySem.W.Fast.tw7186273045517205178 : True := trivial
theorem PySem.W.Fast.tw15574377533263417493 : True := trivial
theorem PySem.W.Fast.tw8488333405855609297 : True := trivial
theorem PySem.W.Fast.tw13140982631561227607 : True := trivial
theorem PySem.W.Fast.tw6203795757776156468 : True := trivial
theorem PySem.W.Fast.tw6548143357632986284 : True := trivial
theorem PySem.W.Fast.tw2940740157253270991 : True := trivial
theorem PySem.W.Fast.tw8479728966467418296 : True := trivial
theorem PySem.W.Fast.tw14760978532241643395 : True := trivial
theorem PySem.W.Fast.tw13082226115639840563 : True := trivial
theorem PySem.W.Fast.tw3049018934226422636 : True := trivial
theorem PySem.W.Fast.tw9621022797512089240 : True := trivial
theorem PySem.W.Fast.tw10263221781962206028 : True := trivial
theorem PySem.W.Fast.tw11675947482719855033 : True := trivial
theorem PySem.W.Fast.tw12350565694582762834 : True := trivial
theorem PySem.W.Fast.tw12556975113244022287 : True := trivial
theorem PySem.W.Fast.tw12325391601876878349 : True := trivial
theorem PySem.W.Fast.tw10620383583433514780 : True := trivial
theorem PySem.W.Fast.tw11063006046856482705 : True := trivial
theorem PySem.W.Fast.tw16495484013097939881 : True := trivial
theorem PySem.W.Fast.tw6967414926124912676 : True := trivial
theorem PySem.W.Fast.tw15490419864023586551 : True := trivial
theorem PySem.W.Fast.tw3891592027399460971 : True := trivial
theorem PySem.W.Fast.tw17965580551476529564 : True := trivial
theorem PySem.W.Fast.tw2400092268786981011 : True := trivial
theorem PySem.W.Fast.tw17721973331599044529 : True := trivial
theorem PySem.W.Fast.tw13139271137825993415 : True := trivial
theorem PySem.W.Fast.tw8779501589106857292 : True := trivial
theorem PySem.W.Fast.tw3212353235091523706 : True := trivial
theorem PySem.W.Fast.tw3615518403123299221 : True := trivial
theorem PySem.W.Fast.tw11340470505146306716 : True := trivial
theorem PySem.W.Fast.tw15448906852436655059 : True := trivial
theorem PySem.W.Fast.tw1105062915917134783 : True := trivial
theorem PySem.W.Fast.tw17195011172350463673 : True := trivial
theorem PySem.W.Fast.tw658339323728401788 : True := trivial
theorem PySem.W.Fast.tw10723569088593152710 : True := trivial
theorem PySem.W.Fast.tw15242439200762223597 : True := trivial
theorem PySem.W.Fast.tw7365970221780830582 : True := trivial
theorem PySem.W.Fast.tw9330366929547920477 : True := trivial
theorem PySem.W.Fast.tw11426443122163152334 : True := trivial
theorem PySem.W.Fast.tw9467822016718255173 : True := trivial
theorem PySem.W.Fast.tw4757462060883247528 : True := trivial
theorem PySem.W.Fast.tw10146188152842961907 : True := trivial
theorem PySem.W.Fast.tw12164361732250184521 : True := trivial
theorem PySem.W.Fast.tw5079656060119132608 : True := trivial
theorem PySem.W.Fast.tw10632554431733233799 : True := trivial
theorem PySem.W.Fast.tw8770773154162547313 : True := trivial
theorem PySem.W.Fast.tw8464070810419019526 : True := trivial
theorem PySem.W.Fast.tw12631010022083247035 : True := trivial
theorem PySem.W.Fast.tw138166214880058449 : True := trivial
theorem PySem.W.Fast.tw16956539008637667257 : True := trivial
theorem PySem.W.Fast.tw15098183087354777100 : True := trivial
theorem PySem.W.Fast.tw13223577638551091481 : True := trivial
theorem PySem.W.Fast.tw15642134865986965914 : True := trivial
theorem PySem.W.Fast.tw5533061340007433262 : True := trivial
theorem PySem.W.Fast.tw273486806646772955 : True := trivial
theorem PySem.W.Fast.tw3101031862371550417 : True := trivial
theorem PySem.W.Fast.tw10089122918100273964 : True := trivial
theorem PySem.W.Fast.tw12519413481344671526 : True := trivial
theorem PySem.W.Fast.tw6271692645647842578 : True := trivial
theorem PySem.W.Fast.tw4797161871977200756 : True := trivial
theorem PySem.W.Fast.tw4370265123720605348 : True := trivial
theorem PySem.W.Fast.tw5975244759169994592 : True := trivial
theorem PySem.W.Fast.tw3600032137897888859 : True := trivial
theorem PySem.W.Fast.tw8982110369976094837 : True := trivial
theorem PySem.W.Fast.tw5245209652819544501 : True := trivial
theorem PySem.W.Fast.tw5303326031287915684 : True := trivial
theorem PySem.W.Fast.tw1169834197076180386 : True := trivial
theorem PySem.W.Fast.tw1710626534415862405 : True := trivial
theorem PySem.W.Fast.tw14661764858387726963 : True := trivial
theorem PySem.W.Fast.tw7948478322638047867 : True := trivial
theorem PySem.W.Fast.tw11629186189557183406 : True := trivial
theorem PySem.W.Fast.tw12403012100830043232 : True := trivial
theorem PySem.W.Fast.tw9137186011215835300 : True := trivial
theorem PySem.W.Fast.tw3125973202636161275 : True := trivial
theorem PySem.W.Fast.tw16192502261589618002 : True := trivial
theorem PySem.W.Fast.tw11036531439314913160 : True := trivial
theorem PySem.W.Fast.tw5045843712917336973 : True := trivial
theorem PySem.W.Fast.tw272322509236741936 : True := trivial
theorem PySem.W.Fast.tw15269782301240644349 : True := trivial
theorem PySem.W.Fast.tw18380217736888218425 : True := trivial
theorem PySem.W.Fast.tw7522079059477511345 : True := trivial
theorem PySem.W.Fast.tw10661661150406784570 : True := trivial
theorem PySem.W.Fast.tw10031456607194339850 : True := trivial
theorem PySem.W.Fast.tw9396810318288637046 : True := trivial
theorem PySem.W.Fast.tw9432038885155367068 : True := trivial
theorem PySem.W.Fast.tw13876019238474096257 : True := trivial
theorem PySem.W.Fast.tw7999795723529798391 : True := trivial
theorem PySem.W.Fast.tw17916178551884330183 : True := trivial
theorem PySem.W.Fast.tw8256721673749245432 : True := trivial
theorem PySem.W.Fast.tw7077669176259503509 : True := trivial
theorem PySem.W.Fast.tw7049392422215071771 : True := trivial
theorem PySem.W.Fast.tw15318302289905602959 : True := trivial
theorem PySem.W.Fast.tw8454456824088811305 : True := trivial
theorem PySem.W.Fast.tw11604337575134988650 : True := trivial
theorem PySem.W.Fast.tw9371571543474522372 : True := trivial
theorem PySem.W.Fast.tw17722612314784470277 : True := trivial
theorem PySem.W.Fast.tw8566998000557150858 : True := trivial
theorem PySem.W.Fast.tw3746143927972724803 : True := trivial
theorem PySem.W.Fast.tw10091048416345968919 : True := trivial
theorem PySem.W.Fast.tw1111126473471261286 : True := trivial
theorem PySem.W.Fast.tw10666633809818874404 : True := trivial
theorem PySem.W.Fast.tw9663204589104031905 : True := trivial
theorem PySem.W.Fast.tw5268093376729157378 : True := trivial
theorem PySem.W.Fast.tw9558623794846305644 : True := trivial
theorem PySem.W.Fast.tw15836974147353071383 : True := trivial
theorem PySem.W.Fast.tw14800038151548147731 : True := trivial
theorem PySem.W.Fast.tw1562321125234961628 : True := trivial
theorem PySem.W.Fast.tw16050713552296915443 : True := trivial
theorem PySem.W.Fast.tw11834375913076986503 : True := trivial
theorem PySem.W.Fast.tw1654101080713182895 : True := trivial
theorem PySem.W.Fast.tw5816058996506315318 : True := trivial
theorem PySem.W.Fast.tw7713494929326865320 : True := trivial
theorem PySem.W.Fast.tw15274689733193734165 : True := trivial
theorem PySem.W.Fast.tw15899618785082698531 : True := trivial
theorem PySem.W.Fast.tw15874871024311516349 : True := trivial
theorem PySem.W.Fast.tw6726521167214838643 : True := trivial
theorem PySem.W.Fast.tw8557244835434948082 : True := trivial
theorem PySem.W.Fast.tw7844790379254519853 : True := trivial
theorem PySem.W.Fast.tw5193652591750865504 : True := trivial
theorem PySem.W.Fast.tw8501114140038891160 : True := trivial
theorem PySem.W.Fast.tw10857441358372845658 : True := trivial
theorem PySem.W.Fast.tw18346677400747091110 : True := trivial
theorem PySem.W.Fast.tw14934321986136743281 : True := trivial
theorem PySem.W.Fast.tw8137622658091957980 : True := trivial
theorem PySem.W.Fast.tw1113553328768405283 : True := trivial
theorem PySem.W.Fast.tw14753994859267386955 : True := trivial
theorem PySem.W.Fast.tw6124261170136784088 : True := trivial
theorem PySem.W.Fast.tw13674107831347568638 : True := trivial
theorem PySem.W.Fast.tw4292487301561055110 : True := trivial
theorem PySem.W.Fast.tw6037913508470593730 : True := trivial
theorem PySem.W.Fast.tw15022261451727595031 : True := trivial
theorem PySem.W.Fast.tw5693613713201512523 : True := trivial
theorem PySem.W.Fast.tw17083469776705694479 : True := trivial
theorem PySem.W.Fast.tw14174763398367010164 : True := trivial
theorem PySem.W.Fast.tw3251153715328402698 : True := trivial
theorem PySem.W.Fast.tw8689453704171445220 : True := trivial
theorem PySem.W.Fast.tw989936959994962488 : True := trivial
theorem PySem.W.Fast.tw17755283507037077310 : True := trivial
theorem PySem.W.Fast.tw6344161951461605566 : True := trivial
theorem PySem.W.Fast.tw6818867039908954133 : True := trivial
theorem PySem.W.Fast.tw8965952998709698532 : True := trivial
theorem PySem.W.Fast.tw17516235038194996116 : True := trivial
theorem PySem.W.Fast.tw4311016990469694001 : True := trivial
theorem PySem.W.Fast.tw14164907581240558678 : True := trivial
theorem PySem.W.Fast.tw12900770710359332630 : True := trivial
theorem PySem.W.Fast.tw6550421421442940110 : True := trivial
theorem PySem.W.Fast.tw18390251808822695593 : True := trivial
theorem PySem.W.Fast.tw3109940609031916130 : True := trivial
theorem PySem.W.Fast.tw11849339967894579387 : True := trivial
theorem PySem.W.Fast.tw14578302721132612963 : True := trivial
theorem PySem.W.Fast.tw1095933815432657560 : True := trivial
theorem PySem.W.Fast.tw10497187713384429945 : True := trivial
theorem PySem.W.Fast.tw16967971144423566451 : True := trivial
theorem PySem.W.Fast.tw1734619709914035317 : True := trivial
theorem PySem.W.Fast.tw10989383818815479248 : True := trivial
theorem PySem.W.Fast.tw7651032536875606993 : True := trivial
theorem PySem.W.Fast.tw9245531154779348096 : True := trivial
theorem PySem.W.Fast.tw15795622259375275894 : True := trivial
theorem PySem.W.Fast.tw606290756176147201 : True := trivial
theorem PySem.W.Fast.tw4666087101646802835 : True := trivial
theorem PySem.W.Fast.tw9725714925102818171 : True := trivial
theorem PySem.W.Fast.tw4265750527916351345 : True := trivial
theorem PySem.W.Fast.tw602252356745847885 : True := trivial
theorem PySem.W.Fast.tw13567541081969020182 : True := trivial
theorem PySem.W.Fast.tw2974402039787860321 : True := trivial
theorem PySem.W.Fast.tw6382746482509572124 : True := trivial
theorem PySem.W.Fast.tw5624857531246747899 : True := trivial
theorem PySem.W.Fast.tw199117222220378468 : True := trivial
theorem PySem.W.Fast.tw12209267350452943453 : True := trivial
theorem PySem.W.Fast.tw3717415400836899128 : True := trivial
theorem PySem.W.Fast.tw3209081444744667626 : True := trivial
theorem PySem.W.Fast.tw6745770267737508484 : True := trivial
theorem PySem.W.Fast.tw15672848631164006891 : True := trivial
theorem PySem.W.Fast.tw13191457342762193894 : True := trivial
theorem PySem.W.Fast.tw17959450214423772262 : True := trivial
theorem PySem.W.Fast.tw216473280086322992 : True := trivial
theorem PySem.W.Fast.tw7503003356586114853 : True := trivial
theorem PySem.W.Fast.tw13006734706711427390 : True := trivial
theorem PySem.W.Fast.tw4315327850640124291 : True := trivial
theorem PySem.W.Fast.tw8626416880750190216 : True := trivial
theorem PySem.W.Fast.tw15677484312399448270 : True := trivial
theorem PySem.W.Fast.tw7383010943256692973 : True := trivial
theorem PySem.W.Fast.tw3514083074415765974 : True := trivial
theorem PySem.W.Fast.tw2729560091499755825 : True := trivial
theorem PySem.W.Fast.tw8548127334677141516 : True := trivial
theorem PySem.W.Fast.tw17492295264237903849 : True := trivial
theorem PySem.W.Fast.tw6180098467701451783 : True := trivial
theorem PySem.W.Fast.tw4299972629726085885 : True := trivial
theorem PySem.W.Fast.tw8736107773245321423 : True := trivial
theorem PySem.W.Fast.tw17018219168638535132 : True := trivial
theorem PySem.W.Fast.tw17897393141745207398 : True := trivial
theorem PySem.W.Fast.tw7063337032501311845 : True := trivial
theorem PySem.W.Fast.tw2578168967495466914 : True := trivial
theorem PySem.W.Fast.tw10362075952426839809 : True := trivial
theorem PySem.W.Fast.tw14055084713406001121 : True := trivial
theorem PySem.W.Fast.tw8218939628066944409 : True := trivial
theorem PySem.W.Fast.tw6570214414561692994 : True := trivial
theorem PySem.W.Fast.tw16666810533222028283 : True := trivial
theorem PySem.W.Fast.tw226054989764828691 : True := trivial
theorem PySem.W.Fast.tw3157181939531920431 : True := trivial
theorem PySem.W.Fast.tw16699687092509818404 : True := trivial
theorem PySem.W.Fast.tw13832440621509119759 : True := trivial
theorem PySem.W.Fast.tw14494940783041016414 : True := trivial
theorem PySem.W.Fast.tw1853440756147997133 : True := trivial
theorem PySem.W.Fast.tw10464832704755955595 : True := trivial
theorem PySem.W.Fast.tw7225807395660291340 : True := trivial
theorem PySem.W.Fast.tw5445287752664092762 : True := trivial
theorem PySem.W.Fast.tw11417744272321639956 : True := trivial
theorem PySem.W.Fast.tw513188656367117267 : True := trivial
theorem PySem.W.Fast.tw5997139422284748510 : True := trivial
theorem PySem.W.Fast.tw6605627626791487368 : True := trivial
theorem PySem.W.Fast.tw17245184193432677287 : True := trivial
theorem PySem.W.Fast.tw7474879469187675453 : True := trivial
theorem PySem.W.Fast.tw3323135031418916873 : True := trivial
theorem PySem.W.Fast.tw15067904052356517052 : True := trivial
theorem PySem.W.Fast.tw180617460200058093 : True := trivial
theorem PySem.W.Fast.tw14251619854727888645 : True := trivial
theorem PySem.W.Fast.tw3260821722469327067 : True := trivial
theorem PySem.W.Fast.tw12511014340450260970 : True := trivial
theorem PySem.W.Fast.tw3557660851616084593 : True := trivial
theorem PySem.W.Fast.tw18270740879170238889 : True := trivial
theorem PySem.W.Fast.tw14420268851685681988 : True := trivial
theorem PySem.W.Fast.tw10980336801180466962 : True := trivial
theorem PySem.W.Fast.tw13997971455195280707 : True := trivial
theorem PySem.W.Fast.tw18039384486575294804 : True := trivial
theorem PySem.W.Fast.tw198931128301446343 : True := trivial
theorem PySem.W.Fast.tw6700998064037146228 : True := trivial
theorem PySem.W.Fast.tw8000921049374115880 : True := trivial
theorem PySem.W.Fast.tw15740269766786693992 : True := trivial
theorem PySem.W.Fast.tw12006357893866449624 : True := trivial
theorem PySem.W.Fast.tw6581773973468888440 : True := trivial
theorem PySem.W.Fast.tw6102049303332883873 : True := trivial
theorem PySem.W.Fast.tw7065093132708303331 : True := trivial
theorem PySem.W.Fast.tw7223221861524722245 : True := trivial
theorem PySem.W.Fast.tw13714791112519554534 : True := trivial
theorem PySem.W.Fast.tw2607952631876328672 : True := trivial
theorem PySem.W.Fast.tw7830606102542415112 : True := trivial
theorem PySem.W.Fast.tw16162279326921046435 : True := trivial
theorem PySem.W.Fast.tw1594956577870798406 : True := trivial
theorem PySem.W.Fast.tw1399925310847731845 : True := trivial
theorem PySem.W.Fast.tw11789559358785288016 : True := trivial
theorem PySem.W.Fast.tw17117261619720592596 : True := trivial
theorem PySem.W.Fast.tw10923858753638941929 : True := trivial
theorem PySem.W.Fast.tw16365184484319681862 : True := trivial
theorem PySem.W.Fast.tw10401330654800512159 : True := trivial
theorem PySem.W.Fast.tw1866103867881560714 : True := trivial
theorem PySem.W.Fast.tw6009978670149177300 : True := trivial
theorem PySem.W.Fast.tw12160098002317849241 : True := trivial
theorem PySem.W.Fast.tw13132995922973932219 : True := trivial
theorem PySem.W.Fast.tw3016022758425923655 : True := trivial
theorem PySem.W.Fast.tw18383181900369666905 : True := trivial
theorem PySem.W.Fast.tw3748652368887939683 : True := trivial
theorem PySem.W.Fast.tw3721378006209612673 : True := trivial
theorem PySem.W.Fast.tw10073892089402313023 : True := trivial
theorem PySem.W.Fast.tw13155604609637023522 : True := trivial
theorem PySem.W.Fast.tw878543858470036349 : True := trivial
theorem PySem.W.Fast.tw4711579940572114168 : True := trivial
theorem PySem.W.Fast.tw998114193772098219 : True := trivial
theorem PySem.W.Fast.tw14545106225694421208 : True := trivial
theorem PySem.W.Fast.tw9593038589175728201 : True := trivial
theorem PySem.W.Fast.tw3182034816248200500 : True := trivial
theorem PySem.W.Fast.tw7707352111218488984 : True := trivial
theorem PySem.W.Fast.tw8864732560078606509 : True := trivial
theorem PySem.W.Fast.tw15130815625143792277 : True := trivial
theorem PySem.W.Fast.tw7765241714010166116 : True := trivial
theorem PySem.W.Fast.tw4676773534650649138 : True := trivial
theorem PySem.W.Fast.tw16203019337183072865 : True := trivial
theorem PySem.W.Fast.tw2789081529443708549 : True := trivial
theorem PySem.W.Fast.tw11392950439699213392 : True := trivial
theorem PySem.W.Fast.tw4487277456442354471 : True := trivial
theorem PySem.W.Fast.tw15521702260713720784 : True := trivial
theorem PySem.W.Fast.tw10950126521034738914 : True := trivial
theorem PySem.W.Fast.tw17987756960946917567 : True := trivial
theorem PySem.W.Fast.tw15349765588557295609 : True := trivial
theorem PySem.W.Fast.tw17366993940740754416 : True := trivial
theorem PySem.W.Fast.tw14366913391459426756 : True := trivial
theorem PySem.W.Fast.tw84720821104118235 : True := trivial
theorem PySem.W.Fast.tw1900958233063599923 : True := trivial
theorem PySem.W.Fast.tw4615168838977485896 : True := trivial
theorem PySem.W.Fast.tw4618993169694852229 : True := trivial
theorem PySem.W.Fast.tw6679378724545850600 : True := trivial
theorem PySem.W.Fast.tw17703228151076154482 : True := trivial
theorem PySem.W.Fast.tw14731032881305236412 : True := trivial
theorem PySem.W.Fast.tw431075795072951927 : True := trivial
theorem PySem.W.Fast.tw2699853618390922035 : True := trivial
theorem PySem.W.Fast.tw7042535206141456241 : True := trivial
theorem PySem.W.Fast.tw12574753379469520112 : True := trivial
theorem PySem.W.Fast.tw9773713385636269543 : True := trivial
theorem PySem.W.Fast.tw14053654501477274891 : True := trivial
theorem PySem.W.Fast.tw11998909014083100396 : True := trivial
theorem PySem.W.Fast.tw3197666517275157721 : True := trivial
theorem PySem.W.Fast.tw15246426018372741625 : True := trivial
theorem PySem.W.Fast.tw9023403198812841973 : True := trivial
theorem PySem.W.Fast.tw13209152760173819739 : True := trivial
theorem PySem.W.Fast.tw9426504254039880495 : True := trivial
theorem PySem.W.Fast.tw16646892999239646740 : True := trivial
theorem PySem.W.Fast.tw5692212092003109932 : True := trivial
theorem PySem.W.Fast.tw10279417098094874677 : True := trivial
theorem PySem.W.Fast.tw8257103534148858895 : True := trivial
theorem PySem.W.Fast.tw6673128095233852800 : True := trivial
theorem PySem.W.Fast.tw16254044790142653457 : True := trivial
theorem PySem.W.Fast.tw15143143073795681679 : True := trivial
theorem PySem.W.Fast.tw7993546656415788715 : True := trivial
theorem PySem.W.Fast.tw9454329426804763724 : True := trivial
theorem PySem.W.Fast.tw4195040540697028204 : True := trivial
theorem PySem.W.Fast.tw13620118520454460709 : True := trivial
theorem PySem.W.Fast.tw15056668892132638650 : True := trivial
theorem PySem.W.Fast.tw1202779437611707323 : True := trivial
theorem PySem.W.Fast.tw14716543890881454742 : True := trivial
theorem PySem.W.Fast.tw13676678034786020027 : True := trivial
theorem PySem.W.Fast.tw381211649236307438 : True := trivial
theorem PySem.W.Fast.tw2005509281557683788 : True := trivial
theorem PySem.W.Fast.tw9332968633047106727 : True := trivial
theorem PySem.W.Fast.tw871822652546697044 : True := trivial
theorem PySem.W.Fast.tw17917195834839772599 : True := trivial
theorem PySem.W.Fast.tw8884533818387334877 : True := trivial
theorem PySem.W.Fast.tw12366552746796825076 : True := trivial
theorem PySem.W.Fast.tw5675774729616872282 : True := trivial
theorem PySem.W.Fast.tw683464109848699047 : True := trivial
theorem PySem.W.Fast.tw4456344370745084375 : True := trivial
theorem PySem.W.Fast.tw17994398295433400334 : True := trivial
theorem PySem.W.Fast.tw303395731300337005 : True := trivial
theorem PySem.W.Fast.tw5382541194534356629 : True := trivial
theorem PySem.W.Fast.tw3096505993536458783 : True := trivial
theorem PySem.W.Fast.tw3463160335233089966 : True := trivial
theorem PySem.W.Fast.tw12350214414804847132 : True := trivial
theorem PySem.W.Fast.tw5063292100328666907 : True := trivial
theorem PySem.W.Fast.tw12600222401067037245 : True := trivial
theorem PySem.W.Fast.tw2026567630133138600 : True := trivial
theorem PySem.W.Fast.tw7969473685897467815 : True := trivial
theorem PySem.W.Fast.tw11588359175634768254 : True := trivial
theorem PySem.W.Fast.tw8008409211137285241 : True := trivial
theorem PySem.W.Fast.tw389266550693633242 : True := trivial
theorem PySem.W.Fast.tw3499638440435112084 : True := trivial
theorem PySem.W.Fast.tw989747645038908145 : True := trivial
theorem PySem.W.Fast.tw2565275602496323741 : True := trivial
theorem PySem.W.Fast.tw506693990789663689 : True := trivial
theorem PySem.W.Fast.tw14306572217608923422 : True := trivial
theorem PySem.W.Fast.tw5698511485249101891 : True := trivial
theorem PySem.W.Fast.tw7012273554028867187 : True := trivial
theorem PySem.W.Fast.tw1484471717525217462 : True := trivial
theorem PySem.W.Fast.tw15617757895756097700 : True := trivial
theorem PySem.W.Fast.tw10237728842546417277 : True := trivial
theorem PySem.W.Fast.tw7109885877491481025 : True := trivial
theorem PySem.W.Fast.tw3896287448577763630 : True := trivial
theorem PySem.W.Fast.tw13031621390464281452 : True := trivial
theorem PySem.W.Fast.tw16408039523420023556 : True := trivial
theorem PySem.W.Fast.tw5260887268014296131 : True := trivial
theorem PySem.W.Fast.tw9842545505311475015 : True := trivial
theorem PySem.W.Fast.tw4931108729479165735 : True := trivial
theorem PySem.W.Fast.tw17218924264640424 : True := trivial
theorem PySem.W.Fast.tw12911512696548238121 : True := trivial
theorem PySem.W.Fast.tw7844912937488619370 : True := trivial
theorem PySem.W.Fast.tw10002442017419517969 : True := trivial
theorem PySem.W.Fast.tw16679212336287055522 : True := trivial
theorem PySem.W.Fast.tw12218089351834743917 : True := trivial
theorem PySem.W.Fast.tw11816381797156058681 : True := trivial
theorem PySem.W.Fast.tw17196338911968678473 : True := trivial
theorem PySem.W.Fast.tw5778952950086958289 : True := trivial
theorem PySem.W.Fast.tw14026086079297618429 : True := trivial
theorem PySem.W.Fast.tw6487401483247035820 : True := trivial
theorem PySem.W.Fast.tw8030179067540914657 : True := trivial
theorem PySem.W.Fast.tw8983070575836641318 : True := trivial
theorem PySem.W.Fast.tw7336408617246302420 : True := trivial
theorem PySem.W.Fast.tw11550369576071624719 : True := trivial
theorem PySem.W.Fast.tw11302032064612937572 : True := trivial
theorem PySem.W.Fast.tw9831574700839134131 : True := trivial
theorem PySem.W.Fast.tw2946115147065119519 : True := trivial
theorem PySem.W.Fast.tw6198585418260693129 : True := trivial
theorem PySem.W.Fast.tw908351389346427308 : True := trivial
theorem PySem.W.Fast.tw3871907671468689204 : True := trivial
theorem PySem.W.Fast.tw16219175811713395141 : True := trivial
theorem PySem.W.Fast.tw13564215843672890190 : True := trivial
theorem PySem.W.Fast.tw10948453719411061667 : True := trivial
theorem PySem.W.Fast.tw16417829667565440695 : True := trivial
theorem PySem.W.Fast.tw8188002840087268373 : True := trivial
theorem PySem.W.Fast.tw11467948483093855843 : True := trivial
theorem PySem.W.Fast.tw5409134960092096379 : True := trivial
theorem PySem.W.Fast.tw412536517340941615 : True := trivial
theorem PySem.W.Fast.tw3875608560158414927 : True := trivial
theorem PySem.W.Fast.tw18077414773905536595 : True := trivial
theorem PySem.W.Fast.tw264688488280720806 : True := trivial
theorem PySem.W.Fast.tw11636863930311993054 : True := trivial
theorem PySem.W.Fast.tw1437209992239238729 : True := trivial
theorem PySem.W.Fast.tw7701980091184455354 : True := trivial
theorem PySem.W.Fast.tw15094663134906565714 : True := trivial
theorem PySem.W.Fast.tw12210789876257611265 : True := trivial
theorem PySem.W.Fast.tw2239639633035889264 : True := trivial
theorem PySem.W.Fast.tw13295945961367571528 : True := trivial
theorem PySem.W.Fast.tw504945650609701381 : True := trivial
theorem PySem.W.Fast.tw15005981491227109010 : True := trivial
theorem PySem.W.Fast.tw10722763077684196629 : True := trivial
theorem PySem.W.Fast.tw13237557223664185631 : True := trivial
theorem PySem.W.Fast.tw724404517209656028 : True := trivial
theorem PySem.W.Fast.tw17293522269441242551 : True := trivial
theorem PySem.W.Fast.tw5602157498738104543 : True := trivial
theorem PySem.W.Fast.tw10540363896518416602 : True := trivial
theorem PySem.W.Fast.tw16370942992834316629 : True := trivial
theorem PySem.W.Fast.tw13507763225750442812 : True := trivial
theorem PySem.W.Fast.tw222742244507520786 : True := trivial
theorem PySem.W.Fast.tw9202322031926607673 : True := trivial
theorem PySem.W.Fast.tw6846706978006042554 : True := trivial
theorem PySem.W.Fast.tw11022115149227839548 : True := trivial
theorem PySem.W.Fast.tw5644096221450427496 : True := trivial
theorem PySem.W.Fast.tw708382741836751936 : True := trivial
theorem PySem.W.Fast.tw11656408025837707876 : True := trivial
theorem PySem.W.Fast.tw11689759507273984455 : True := trivial
theorem PySem.W.Fast.tw3787754195851854753 : True := trivial
theorem PySem.W.Fast.tw7573508190094596486 : True := trivial
theorem PySem.W.Fast.tw1065212732244119534 : True := trivial
theorem PySem.W.Fast.tw10751925822079113500 : True := trivial
theorem PySem.W.Fast.tw15617195165933813300 : True := trivial
theorem PySem.W.Fast.tw12555240740481178354 : True := trivial
theorem PySem.W.Fast.tw7586233580366013451 : True := trivial
theorem PySem.W.Fast.tw17247244034849293105 : True := trivial
theorem PySem.W.Fast.tw1419994853958978731 : True := trivial
theorem PySem.W.Fast.tw3182537859924500225 : True := trivial
theorem PySem.W.Fast.tw13203542654711607574 : True := trivial
theorem PySem.W.Fast.tw12289766996967780443 : True := trivial
theorem PySem.W.Fast.tw17995612585957610187 : True := trivial
theorem PySem.W.Fast.tw13358781472970998482 : True := trivial
theorem PySem.W.Fast.tw12082736407340078841 : True := trivial
theorem PySem.W.Fast.tw1133402690850912637 : True := trivial
theorem PySem.W.Fast.tw1565729594545721736 : True := trivial
theorem PySem.W.Fast.tw4485939797456209074 : True := trivial
theorem PySem.W.Fast.tw12569338280845006589 : True := trivial
theorem PySem.W.Fast.tw13120460212906621483 : True := trivial
theorem PySem.W.Fast.tw10327773637813174654 : True := trivial
theorem PySem.W.Fast.tw10069252172015518077 : True := trivial
theorem PySem.W.Fast.tw2998710240901070492 : True := trivial
theorem PySem.W.Fast.tw5567843923461914705 : True := trivial
theorem PySem.W.Fast.tw17339457419849600944 : True := trivial
theorem PySem.W.Fast.tw12144377220077773104 : True := trivial
theorem PySem.W.Fast.tw15705270667094169986 : True := trivial
theorem PySem.W.Fast.tw745519097412516705 : True := trivial
theorem PySem.W.Fast.tw7333384930298626653 : True := trivial
theorem PySem.W.Fast.tw11485879633009809839 : True := trivial
theorem PySem.W.Fast.tw6618123221030306700 : True := trivial
theorem PySem.W.Fast.tw9668050100659363787 : True := trivial
theorem PySem.W.Fast.tw4102929430411647160 : True := trivial
theorem PySem.W.Fast.tw9740943266820199550 : True := trivial
theorem PySem.W.Fast.tw17363671985568119622 : True := trivial
theorem PySem.W.Fast.tw9049253157447545806 : True := trivial
theorem PySem.W.Fast.tw9486321243891646924 : True := trivial
theorem PySem.W.Fast.tw12187075517522393391 : True := trivial
theorem PySem.W.Fast.tw12970246312142512928 : True := trivial
theorem PySem.W.Fast.tw12319846605325706278 : True := trivial
theorem PySem.W.Fast.tw13301489269197312781 : True := trivial
theorem PySem.W.Fast.tw15883388931652110035 : True := trivial
theorem PySem.W.Fast.tw6716427742041489590 : True := trivial
theorem PySem.W.Fast.tw12227542795525642333 : True := trivial
theorem PySem.W.Fast.tw15211683676492323243 : True := trivial
theorem PySem.W.Fast.tw1942461052291398378 : True := trivial
theorem PySem.W.Fast.tw12856498561294889077 : True := trivial
theorem PySem.W.Fast.tw781352166938863982 : True := trivial
theorem PySem.W.Fast.tw11769773009323490031 : True := trivial
theorem PySem.W.Fast.tw2149500816159175526 : True := trivial
theorem PySem.W.Fast.tw11069420265472924381 : True := trivial
theorem PySem.W.Fast.tw4673632256970013274 : True := trivial
theorem PySem.W.Fast.tw4560444793256811056 : True := trivial
theorem PySem.W.Fast.tw5301822781777806690 : True := trivial
theorem PySem.W.Fast.tw1333257039439963479 : True := trivial
theorem PySem.W.Fast.tw15093844079794479301 : True := trivial
theorem PySem.W.Fast.tw14125843805137888681 : True := trivial
theorem PySem.W.Fast.tw2003001702579983446 : True := trivial
theorem PySem.W.Fast.tw8022805889979037196 : True := trivial
theorem PySem.W.Fast.tw5674832656384895012 : True := trivial
theorem PySem.W.Fast.tw11139985150468702866 : True := trivial
theorem PySem.W.Fast.tw1400969484574493971 : True := trivial
theorem PySem.W.Fast.tw13304377031303622488 : True := trivial
theorem PySem.W.Fast.tw12116251657973540347 : True := trivial
theorem PySem.W.Fast.tw12481260961202866256 : True := trivial
theorem PySem.W.Fast.tw15163466170315446985 : True := trivial
theorem PySem.W.Fast.tw14217526725810701557 : True := trivial
theorem PySem.W.Fast.tw13238668381727871707 : True := trivial
theorem PySem.W.Fast.tw7782779146300827178 : True := trivial
theorem PySem.W.Fast.tw1427842934409923358 : True := trivial
theorem PySem.W.Fast.tw9344699016970571577 : True := trivial
theorem PySem.W.Fast.tw16779254313787108995 : True := trivial
theorem PySem.W.Fast.tw11071061997621181946 : True := trivial
theorem PySem.W.Fast.tw6784948225274577074 : True := trivial
theorem PySem.W.Fast.tw8175620316139367058 : True := trivial
theorem PySem.W.Fast.tw7178274631501360788 : True := trivial
theorem PySem.W.Fast.tw370212231192433362 : True := trivial
theorem PySem.W.Fast.tw7573167858921613673 : True := trivial
theorem PySem.W.Fast.tw16758362321117775581 : True := trivial
theorem PySem.W.Fast.tw13140127605972236543 : True := trivial
theorem PySem.W.Fast.tw4164722983308619465 : True := trivial
theorem PySem.W.Fast.tw17679097956442254468 : True := trivial
theorem PySem.W.Fast.tw9397603671613581743 : True := trivial
theorem PySem.W.Fast.tw620265323641320691 : True := trivial
theorem PySem.W.Fast.tw10715469487848620677 : True := trivial
theorem PySem.W.Fast.tw14046568417460425636 : True := trivial
theorem PySem.W.Fast.tw15099875311034654189 : True := trivial
theorem PySem.W.Fast.tw10137942193766703680 : True := trivial
theorem PySem.W.Fast.tw5058260659452821408 : True := trivial
theorem PySem.W.Fast.tw10176009337796528155 : True := trivial
theorem PySem.W.Fast.tw5115987598427045488 : True := trivial
theorem PySem.W.Fast.tw1169860655091085812 : True := trivial
theorem PySem.W.Fast.tw18392350779020384114 : True := trivial
theorem PySem.W.Fast.tw10569143032034584610 : True := trivial
theorem PySem.W.Fast.tw2646008563049327202 : True := trivial
theorem PySem.W.Fast.tw4306956272822510932 : True := trivial
theorem PySem.W.Fast.tw3388655741511175834 : True := trivial
theorem PySem.W.Fast.tw6191156876656087384 : True := trivial
theorem PySem.W.Fast.tw164687869231457657 : True := trivial
theorem PySem.W.Fast.tw6925297990720841735 : True := trivial
theorem PySem.W.Fast.tw15372335090430843646 : True := trivial
theorem PySem.W.Fast.tw4557522952571877445 : True := trivial
theorem PySem.W.Fast.tw1900443801891538040 : True := trivial
theorem PySem.W.Fast.tw12106032475464394873 : True := trivial
theorem PySem.W.Fast.tw5140611606238020089 : True := trivial
theorem PySem.W.Fast.tw13448969112179400077 : True := trivial
theorem PySem.W.Fast.tw14005830203517932752 : True := trivial
theorem PySem.W.Fast.tw10217185128963055143 : True := trivial
theorem PySem.W.Fast.tw11955446418714147705 : True := trivial
theorem PySem.W.Fast.tw8604653735848563679 : True := trivial
theorem PySem.W.Fast.tw5954112900405835761 : True := trivial
theorem PySem.W.Fast.tw13244753257220037889 : True := trivial
theorem PySem.W.Fast.tw6995373794715030197 : True := trivial
theorem PySem.W.Fast.tw16376632496607777113 : True := trivial
theorem PySem.W.Fast.tw1017031650752835642 : True := trivial
theorem PySem.W.Fast.tw3258424345199064463 : True := trivial
theorem PySem.W.Fast.tw4474122992711350781 : True := trivial
theorem PySem.W.Fast.tw5366383915537555739 : True := trivial
theorem PySem.W.Fast.tw6130850259430135094 : True := trivial
theorem PySem.W.Fast.tw4630384195563092367 : True := trivial
theorem PySem.W.Fast.tw6853286851824835112 : True := trivial
theorem PySem.W.Fast.tw12937558822603419668 : True := trivial
theorem PySem.W.Fast.tw2768901386042661503 : True := trivial
theorem PySem.W.Fast.tw3481256163103592639 : True := trivial
theorem PySem.W.Fast.tw2152016473785471082 : True := trivial
theorem PySem.W.Fast.tw3616244206092126421 : True := trivial
theorem PySem.W.Fast.tw12984268428001727994 : True := trivial
theorem PySem.W.Fast.tw13800440996538900089 : True := trivial
theorem PySem.W.Fast.tw16139875155937239421 : True := trivial
theorem PySem.W.Fast.tw8379537389234197945 : True := trivial
theorem PySem.W.Fast.tw8284151839488854830 : True := trivial
theorem PySem.W.Fast.tw7731275306056722987 : True := trivial
theorem PySem.W.Fast.tw3165618539926890444 : True := trivial
theorem PySem.W.Fast.tw1127943095672067373 : True := trivial
theorem PySem.W.Fast.tw12553324168176915310 : True := trivial
theorem PySem.W.Fast.tw11077405421053391495 : True := trivial
theorem PySem.W.Fast.tw4519705815965946533 : True := trivial
theorem PySem.W.Fast.tw3488970237156478747 : True := trivial
theorem PySem.W.Fast.tw4979095831325017096 : True := trivial
theorem PySem.W.Fast.tw5706194435447616163 : True := trivial
theorem PySem.W.Fast.tw6349983267571738884 : True := trivial
theorem PySem.W.Fast.tw16064700683827170263 : True := trivial
theorem PySem.W.Fast.tw2616362505086318291 : True := trivial
theorem PySem.W.Fast.tw1159927469919409042 : True := trivial
theorem PySem.W.Fast.tw17118580707588063398 : True := trivial
theorem PySem.W.Fast.tw10070254963374861056 : True := trivial
theorem PySem.W.Fast.tw7965463824780489523 : True := trivial
theorem PySem.W.Fast.tw17262803602228374835 : True := trivial
theorem PySem.W.Fast.tw13437267703267764786 : True := trivial
theorem PySem.W.Fast.tw14306890764882924970 : True := trivial
theorem PySem.W.Fast.tw10766619370881351547 : True := trivial
theorem PySem.W.Fast.tw866265068542425478 : True := trivial
theorem PySem.W.Fast.tw14719455866085935302 : True := trivial
theorem PySem.W.Fast.tw10531854933240046825 : True := trivial
theorem PySem.W.Fast.tw12018138078351299997 : True := trivial
theorem PySem.W.Fast.tw14284521391745695984 : True := trivial
theorem PySem.W.Fast.tw8436671901714347649 : True := trivial
theorem PySem.W.Fast.tw7106654752813352409 : True := trivial
theorem PySem.W.Fast.tw18251589854659264452 : True := trivial
theorem PySem.W.Fast.tw14975972017153916445 : True := trivial
theorem PySem.W.Fast.tw3717201722296987012 : True := trivial
theorem PySem.W.Fast.tw7879677255056273412 : True := trivial
theorem PySem.W.Fast.tw7894743619434114277 : True := trivial
theorem PySem.W.Fast.tw17868009287406644858 : True := trivial
theorem PySem.W.Fast.tw7778644148036056547 : True := trivial
theorem PySem.W.Fast.tw4719256641202004974 : True := trivial
theorem PySem.W.Fast.tw441410929838744580 : True := trivial
theorem PySem.W.Fast.tw1572428872699369611 : True := trivial
theorem PySem.W.Fast.tw5320988887228931213 : True := trivial
theorem PySem.W.Fast.tw3791524430318230977 : True := trivial
theorem PySem.W.Fast.tw3848450446543951995 : True := trivial
theorem PySem.W.Fast.tw12944139924222043540 : True := trivial
theorem PySem.W.Fast.tw8107237729696059144 : True := trivial
theorem PySem.W.Fast.tw7763690441747047188 : True := trivial
theorem PySem.W.Fast.tw12520999139096384645 : True := trivial
theorem PySem.W.Fast.tw13901283183691620450 : True := trivial
theorem PySem.W.Fast.tw1757814726513537861 : True := trivial
theorem PySem.W.Fast.tw8184068448198099742 : True := trivial
theorem PySem.W.Fast.tw18141738166182917591 : True := trivial
theorem PySem.W.Fast.tw10521244191190401506 : True := trivial
theorem PySem.W.Fast.tw3449648387608497912 : True := trivial
theorem PySem.W.Fast.tw2286754644049253232 : True := trivial
theorem PySem.W.Fast.tw17653737471851734564 : True := trivial
theorem PySem.W.Fast.tw8058122617366261717 : True := trivial
theorem PySem.W.Fast.tw726598226650699382 : True := trivial
theorem PySem.W.Fast.tw2751894418133479508 : True := trivial
theorem PySem.W.Fast.tw1883671251041954872 : True := trivial
theorem PySem.W.Fast.tw14778998018553753789 : True := trivial
theorem PySem.W.Fast.tw4961971923912730181 : True := trivial
theorem PySem.W.Fast.tw3645318361278282395 : True := trivial
theorem PySem.W.Fast.tw7009955154784175675 : True := trivial
theorem PySem.W.Fast.tw16252874884470118277 : True := trivial
theorem PySem.W.Fast.tw6479749288478271214 : True := trivial
theorem PySem.W.Fast.tw15694979074850175656 : True := trivial
theorem PySem.W.Fast.tw569239364053227352 : True := trivial
theorem PySem.W.Fast.tw10573991548213791015 : True := trivial
theorem PySem.W.Fast.tw8569387093930601088 : True := trivial
theorem PySem.W.Fast.tw13333506946502861314 : True := trivial
theorem PySem.W.Fast.tw2653491817908276927 : True := trivial
theorem PySem.W.Fast.tw4301169841655293023 : True := trivial
theorem PySem.W.Fast.tw12725497083810852068 : True := trivial
theorem PySem.W.Fast.tw14746358864160268506 : True := trivial
theorem PySem.W.Fast.tw11911387881710459156 : True := trivial
theorem PySem.W.Fast.tw2284279098755927856 : True := trivial
theorem PySem.W.Fast.tw8846723976783902562 : True := trivial
theorem PySem.W.Fast.tw16752474772613725513 : True := trivial
theorem PySem.W.Fast.tw1178274515079965553 : True := trivial
theorem PySem.W.Fast.tw12840235462737023809 : True := trivial
theorem PySem.W.Fast.tw2348548181412257672 : True := trivial
theorem PySem.W.Fast.tw13031785625424554949 : True := trivial
theorem PySem.W.Fast.tw16066570537065331233 : True := trivial
theorem PySem.W.Fast.tw11967422800079915000 : True := trivial
theorem PySem.W.Fast.tw12049585628954008601 : True := trivial
theorem PySem.W.Fast.tw6411738206337115594 : True := trivial
theorem PySem.W.Fast.tw3684085916484202047 : True := trivial
theorem PySem.W.Fast.tw18341095895485483874 : True := trivial
theorem PySem.W.Fast.tw2167127937648262387 : True := trivial
theorem PySem.W.Fast.tw16142499005588603546 : True := trivial
theorem PySem.W.Fast.tw9789195202295667284 : True := trivial
theorem PySem.W.Fast.tw12131200366081961261 : True := trivial
theorem PySem.W.Fast.tw1962140928909041880 : True := trivial
theorem PySem.W.Fast.tw8328267929231872122 : True := trivial
theorem PySem.W.Fast.tw8552316208906064081 : True := trivial
theorem PySem.W.Fast.tw12540926411357089752 : True := trivial
theorem PySem.W.Fast.tw18250053303832229847 : True := trivial
theorem PySem.W.Fast.tw18421919735443005355 : True := trivial
theorem PySem.W.Fast.tw1190905874504072769 : True := trivial
theorem PySem.W.Fast.tw15802267879754592672 : True := trivial
theorem PySem.W.Fast.tw11603885106734202123 : True := trivial
theorem PySem.W.Fast.tw7727276800961258234 : True := trivial
theorem PySem.W.Fast.tw1760103728607008280 : True := trivial
theorem PySem.W.Fast.tw2318137258144926275 : True := trivial
theorem PySem.W.Fast.tw15972406823958027821 : True := trivial
theorem PySem.W.Fast.tw13656371425762886268 : True := trivial
theorem PySem.W.Fast.tw6885781372002571263 : True := trivial
theorem PySem.W.Fast.tw15086798045348339762 : True := trivial
theorem PySem.W.Fast.tw11507068613612823579 : True := trivial
theorem PySem.W.Fast.tw17020609663971721054 : True := trivial
theorem PySem.W.Fast.tw13420738152235133082 : True := trivial
theorem PySem.W.Fast.tw4751033469117797292 : True := trivial
theorem PySem.W.Fast.tw13574354755009579233 : True := trivial
theorem PySem.W.Fast.tw14469208751210783805 : True := trivial
theorem PySem.W.Fast.tw3450822132778823619 : True := trivial
theorem PySem.W.Fast.tw11041774382700366761 : True := trivial
theorem PySem.W.Fast.tw14189973385259615379 : True := trivial
theorem PySem.W.Fast.tw10493584041008328262 : True := trivial
theorem PySem.W.Fast.tw798421964291766120 : True := trivial
theorem PySem.W.Fast.tw17342609362976626 : True := trivial
theorem PySem.W.Fast.tw12096953661317090054 : True := trivial
theorem PySem.W.Fast.tw13234921885438066971 : True := trivial
theorem PySem.W.Fast.tw18327236843366823376 : True := trivial
theorem PySem.W.Fast.tw9339433750569213137 : True := trivial
theorem PySem.W.Fast.tw6510104938636407144 : True := trivial
theorem PySem.W.Fast.tw8811488599557223885 : True := trivial
theorem PySem.W.Fast.tw3692866652119005254 : True := trivial
theorem PySem.W.Fast.tw11689297745476342826 : True := trivial
theorem PySem.W.Fast.tw10303197405670162246 : True := trivial
theorem PySem.W.Fast.tw5672105155712261922 : True := trivial
theorem PySem.W.Fast.tw7814908534844201723 : True := trivial
theorem PySem.W.Fast.tw7565971830494833715 : True := trivial
theorem PySem.W.Fast.tw1309973310588600004 : True := trivial
theorem PySem.W.Fast.tw11609263906694032170 : True := trivial
theorem PySem.W.Fast.tw15081586595902778826 : True := trivial
theorem PySem.W.Fast.tw10695663647041567492 : True := trivial
theorem PySem.W.Fast.tw1685613244326924348 : True := trivial
theorem PySem.W.Fast.tw16780582159255853191 : True := trivial
theorem PySem.W.Fast.tw4478854558558827683 : True := trivial
theorem PySem.W.Fast.tw14855357052834271568 : True := trivial
theorem PySem.W.Fast.tw11862910355963272540 : True := trivial
theorem PySem.W.Fast.tw17358593570852146355 : True := trivial
theorem PySem.W.Fast.tw1843705153824756687 : True := trivial
theorem PySem.W.Fast.tw15691005442377588774 : True := trivial
theorem PySem.W.Fast.tw1782583930659588955 : True := trivial
theorem PySem.W.Fast.tw12997225293772337135 : True := trivial
theorem PySem.W.Fast.tw17501171185191671670 : True := trivial
theorem PySem.W.Fast.tw7764688126443204187 : True := trivial
theorem PySem.W.Fast.tw56486212623631777 : True := trivial
theorem PySem.W.Fast.tw15074740062585670986 : True := trivial
theorem PySem.W.Fast.tw15728568662607632692 : True := trivial
theorem PySem.W.Fast.tw16181039489791559125 : True := trivial
theorem PySem.W.Fast.tw167234877875669189 : True := trivial
theorem PySem.W.Fast.tw12183162370808432550 : True := trivial
theorem PySem.W.Fast.tw18364661688170830960 : True := trivial
theorem PySem.W.Fast.tw13227829651631030890 : True := trivial
theorem PySem.W.Fast.tw10701716541051672444 : True := trivial
theorem PySem.W.Fast.tw3634323928683885648 : True := trivial
theorem PySem.W.Fast.tw8604866843930797245 : True := trivial
theorem PySem.W.Fast.tw6986037062778979950 : True := trivial
theorem PySem.W.Fast.tw1215551959307449350 : True := trivial
theorem PySem.W.Fast.tw9994708603063918889 : True := trivial
theorem PySem.W.Fast.tw6330896684774493851 : True := trivial
theorem PySem.W.Fast.tw14268005998203348128 : True := trivial
theorem PySem.W.Fast.tw14178028694367935029 : True := trivial
theorem PySem.W.Fast.tw18197186461255421699 : True := trivial
theorem PySem.W.Fast.tw11256031725304538480 : True := trivial
theorem PySem.W.Fast.tw6779152224375615725 : True := trivial
theorem PySem.W.Fast.tw3273274982426238932 : True := trivial
theorem PySem.W.Fast.tw13160202508247152847 : True := trivial
theorem PySem.W.Fast.tw14448933307606966133 : True := trivial
theorem PySem.W.Fast.tw3099375497223396532 : True := trivial
theorem PySem.W.Fast.tw13345889078143787505 : True := trivial
theorem PySem.W.Fast.tw2222469253950511153 : True := trivial
theorem PySem.W.Fast.tw12459825379788115726 : True := trivial
theorem PySem.W.Fast.tw3959848161856027384 : True := trivial
theorem PySem.W.Fast.tw9213362829902658000 : True := trivial
theorem PySem.W.Fast.tw8269182197558123171 : True := trivial
theorem PySem.W.Fast.tw4210807250756903150 : True := trivial
theorem PySem.W.Fast.tw3694323905640672983 : True := trivial
theorem PySem.W.Fast.tw4844543787188853457 : True := trivial
theorem PySem.W.Fast.tw14602610478906528970 : True := trivial
theorem PySem.W.Fast.tw13307858204568179950 : True := trivial
theorem PySem.W.Fast.tw9431828466543762885 : True := trivial
theorem PySem.W.Fast.tw13525030068955885653 : True := trivial
theorem PySem.W.Fast.tw16879198760017951374 : True := trivial
theorem PySem.W.Fast.tw6146907002979326479 : True := trivial
theorem PySem.W.Fast.tw12665007095050993052 : True := trivial
theorem PySem.W.Fast.tw1572873225887751614 : True := trivial
theorem PySem.W.Fast.tw9376179489555190273 : True := trivial
theorem PySem.W.Fast.tw12164226457213277454 : True := trivial
theorem PySem.W.Fast.tw6876574199015314325 : True := trivial
theorem PySem.W.Fast.tw17910248576055295472 : True := trivial
theorem PySem.W.Fast.tw10914057458082917604 : True := trivial
theorem PySem.W.Fast.tw5196401568765624612 : True := trivial
theorem PySem.W.Fast.tw16298276753351174124 : True := trivial
theorem PySem.W.Fast.tw14620988064315218767 : True := trivial
theorem PySem.W.Fast.tw6571608405236547154 : True := trivial
theorem PySem.W.Fast.tw1354795111112026814 : True := trivial
theorem PySem.W.Fast.tw9068877091338455312 : True := trivial
theorem PySem.W.Fast.tw2467595350567444364 : True := trivial
theorem PySem.W.Fast.tw3199839858907613325 : True := trivial
theorem PySem.W.Fast.tw2529933531702346045 : True := trivial
theorem PySem.W.Fast.tw14356318253852014907 : True := trivial
theorem PySem.W.Fast.tw885528375880341664 : True := trivial
theorem PySem.W.Fast.tw3802610792619888796 : True := trivial
theorem PySem.W.Fast.tw5516293177154398415 : True := trivial
theorem PySem.W.Fast.tw10200280908343081353 : True := trivial
theorem PySem.W.Fast.tw15706281812700079706 : True := trivial
theorem PySem.W.Fast.tw6627152675694996491 : True := trivial
theorem PySem.W.Fast.tw3190974499572385351 : True := trivial
theorem PySem.W.Fast.tw12151166285027113650 : True := trivial
theorem PySem.W.Fast.tw4639690770091317483 : True := trivial
theorem PySem.W.Fast.tw6948906586529963747 : True := trivial
theorem PySem.W.Fast.tw1077737728840430085 : True := trivial
theorem PySem.W.Fast.tw4281927524462238848 : True := trivial
theorem PySem.W.Fast.tw1654196778760088050 : True := trivial
theorem PySem.W.Fast.tw11202897127269334208 : True := trivial
theorem PySem.W.Fast.tw632922792526651244 : True := trivial
theorem PySem.W.Fast.tw147148002876092843 : True := trivial
theorem PySem.W.Fast.tw3903144507260426511 : True := trivial
theorem PySem.W.Fast.tw6023552438317795197 : True := trivial
theorem PySem.W.Fast.tw10695709413700338667 : True := trivial
theorem PySem.W.Fast.tw6433242965624145707 : True := trivial
theorem PySem.W.Fast.tw15876682758039034158 : True := trivial
theorem PySem.W.Fast.tw2250621274321699192 : True := trivial
theorem PySem.W.Fast.tw17312016335356512 : True := trivial
theorem PySem.W.Fast.tw4543470412068400095 : True := trivial
theorem PySem.W.Fast.tw10813296272287284611 : True := trivial
theorem PySem.W.Fast.tw7720151603764404971 : True := trivial
theorem PySem.W.Fast.tw1558310887734231978 : True := trivial
theorem PySem.W.Fast.tw10808061860435988306 : True := trivial
theorem PySem.W.Fast.tw5285346181974610062 : True := trivial
theorem PySem.W.Fast.tw10112024391857503254 : True := trivial
theorem PySem.W.Fast.tw12872334299612870681 : True := trivial
theorem PySem.W.Fast.tw4418566682781780503 : True := trivial
theorem PySem.W.Fast.tw12912018624715885391 : True := trivial
theorem PySem.W.Fast.tw7924850265562643930 : True := trivial
theorem PySem.W.Fast.tw14943841503656921689 : True := trivial
theorem PySem.W.Fast.tw14529222097034648170 : True := trivial
theorem PySem.W.Fast.tw11304774939833267209 : True := trivial
theorem PySem.W.Fast.tw10594663960340726896 : True := trivial
theorem PySem.W.Fast.tw42721642268280870 : True := trivial
theorem PySem.W.Fast.tw17406446086653271506 : True := trivial
theorem PySem.W.Fast.tw13333662818180740817 : True := trivial
theorem PySem.W.Fast.tw15945562477304611311 : True := trivial
theorem PySem.W.Fast.tw9883310700441538221 : True := trivial
theorem PySem.W.Fast.tw6806909530934888630 : True := trivial
theorem PySem.W.Fast.tw14601694906453782071 : True := trivial
theorem PySem.W.Fast.tw3081471693610404874 : True := trivial
theorem PySem.W.Fast.tw587020324398285555 : True := trivial
theorem PySem.W.Fast.tw11848210039047069812 : True := trivial
theorem PySem.W.Fast.tw4863424085761514216 : True := trivial
theorem PySem.W.Fast.tw5783196733837777409 : True := trivial
theorem PySem.W.Fast.tw8589270618069620423 : True := trivial
theorem PySem.W.Fast.tw2949862057801437749 : True := trivial
theorem PySem.W.Fast.tw2382370521169132286 : True := trivial
theorem PySem.W.Fast.tw14546661647130011155 : True := trivial
theorem PySem.W.Fast.tw8415863332152243910 : True := trivial
theorem PySem.W.Fast.tw10965912928039241582 : True := trivial
theorem PySem.W.Fast.tw1992572192848439264 : True := trivial
theorem PySem.W.Fast.tw14985515781774063273 : True := trivial
theorem PySem.W.Fast.tw7499291779806676865 : True := trivial
theorem PySem.W.Fast.tw7711143370176874827 : True := trivial
theorem PySem.W.Fast.tw4569222034649701728 : True := trivial
theorem PySem.W.Fast.tw17952049675978197087 : True := trivial
theorem PySem.W.Fast.tw11202260380035198298 : True := trivial
theorem PySem.W.Fast.tw9685499871980825775 : True := trivial
theorem PySem.W.Fast.tw9207776047394184809 : True := trivial
theorem PySem.W.Fast.tw11035231410343982366 : True := trivial
theorem PySem.W.Fast.tw15648923536065444863 : True := trivial
theorem PySem.W.Fast.tw4928666944782865890 : True := trivial
theorem PySem.W.Fast.tw1993052061482778465 : True := trivial
theorem PySem.W.Fast.tw9111390835010920520 : True := trivial
theorem PySem.W.Fast.tw11355436361442907786 : True := trivial
theorem PySem.W.Fast.tw770735714067811052 : True := trivial
theorem PySem.W.Fast.tw2000919762172346987 : True := trivial
theorem PySem.W.Fast.tw17627499043686041317 : True := trivial
theorem PySem.W.Fast.tw8371536834929532042 : True := trivial
theorem PySem.W.Fast.tw12953169607303215269 : True := trivial
theorem PySem.W.Fast.tw3304334770753125191 : True := trivial
theorem PySem.W.Fast.tw10543649700310596302 : True := trivial
theorem PySem.W.Fast.tw15404681085883891487 : True := trivial
theorem PySem.W.Fast.tw16223262621306727661 : True := trivial
theorem PySem.W.Fast.tw16868524680593008939 : True := trivial
theorem PySem.W.Fast.tw9930785597298095459 : True := trivial
theorem PySem.W.Fast.tw11034798811090586539 : True := trivial
theorem PySem.W.Fast.tw12677526963088614309 : True := trivial
theorem PySem.W.Fast.tw12261378929366930667 : True := trivial
theorem PySem.W.Fast.tw1246734991880772679 : True := trivial
theorem PySem.W.Fast.tw2147885306225704058 : True := trivial
theorem PySem.W.Fast.tw1667700253514209619 : True := trivial
theorem PySem.W.Fast.tw4255513026744669813 : True := trivial
theorem PySem.W.Fast.tw3243270583757798850 : True := trivial
theorem PySem.W.Fast.tw17756277234987021905 : True := trivial
theorem PySem.W.Fast.tw13580245301764271852 : True := trivial
theorem PySem.W.Fast.tw6244893789239216339 : True := trivial
theorem PySem.W.Fast.tw4703443601531608264 : True := trivial
theorem PySem.W.Fast.tw13775303414235155993 : True := trivial
theorem PySem.W.Fast.tw17752301995444266326 : True := trivial
theorem PySem.W.Fast.tw8435013855937302871 : True := trivial
theorem PySem.W.Fast.tw6184864517690928642 : True := trivial
theorem PySem.W.Fast.tw11159881317096557095 : True := trivial
theorem PySem.W.Fast.tw4360398321730758431 : True := trivial
theorem PySem.W.Fast.tw2094469674236852211 : True := trivial
theorem PySem.W.Fast.tw2009535970163343867 : True := trivial
theorem PySem.W.Fast.tw68833206879873122 : True := trivial
theorem PySem.W.Fast.tw5197067512007810357 : True := trivial
theorem PySem.W.Fast.tw12807508003520751854 : True := trivial
theorem PySem.W.Fast.tw18233333241478603460 : True := trivial
theorem PySem.W.Fast.tw13633075432100319851 : True := trivial
theorem PySem.W.Fast.tw11515493927952887428 : True := trivial
theorem PySem.W.Fast.tw9920446465697398827 : True := trivial
theorem PySem.W.Fast.tw8937304677649712172 : True := trivial
theorem PySem.W.Fast.tw17550913627651028432 : True := trivial
theorem PySem.W.Fast.tw14851283289994541811 : True := trivial
theorem PySem.W.Fast.tw12751011923836450600 : True := trivial
theorem PySem.W.Fast.tw9452714241653000518 : True := trivial
theorem PySem.W.Fast.tw2075999488832391454 : True := trivial
theorem PySem.W.Fast.tw5354728556608421496 : True := trivial
theorem PySem.W.Fast.tw11893663761485826042 : True := trivial
theorem PySem.W.Fast.tw4969733863729645334 : True := trivial
theorem PySem.W.Fast.tw6396659357556253407 : True := trivial
theorem PySem.W.Fast.tw2310704713848658090 : True := trivial
theorem PySem.W.Fast.tw2952482910708335140 : True := trivial
theorem PySem.W.Fast.tw3425603009331817499 : True := trivial
theorem PySem.W.Fast.tw4182609144187070182 : True := trivial
theorem PySem.W.Fast.tw8312320663531531395 : True := trivial
theorem PySem.W.Fast.tw8482494720407479250 : True := trivial
theorem PySem.W.Fast.tw9141679982744997481 : True := trivial
theorem PySem.W.Fast.tw1203145925693076821 : True := trivial
theorem PySem.W.Fast.tw9557776879702154556 : True := trivial
theorem PySem.W.Fast.tw5666116676466951650 : True := trivial
theorem PySem.W.Fast.tw4087550520045099848 : True := trivial
theorem PySem.W.Fast.tw8917978499629072105 : True := trivial
theorem PySem.W.Fast.tw16161726831226760558 : True := trivial
theorem PySem.W.Fast.tw5123258178218024939 : True := trivial
theorem PySem.W.Fast.tw8967726570976420734 : True := trivial
theorem PySem.W.Fast.tw4160201559164015353 : True := trivial
theorem PySem.W.Fast.tw14499895433345877823 : True := trivial
theorem PySem.W.Fast.tw4987424204432926930 : True := trivial
theorem PySem.W.Fast.tw14687359438872350043 : True := trivial
theorem PySem.W.Fast.tw7996082105848534186 : True := trivial
theorem PySem.W.Fast.tw6146606714759575243 : True := trivial
theorem PySem.W.Fast.tw881263861539282109 : True := trivial
theorem PySem.W.Fast.tw15176972861753017722 : True := trivial
theorem PySem.W.Fast.tw840668366629414191 : True := trivial
theorem PySem.W.Fast.tw5433003344452944573 : True := trivial
theorem PySem.W.Fast.tw9009919018478125654 : True := trivial
theorem PySem.W.Fast.tw4051223109528631099 : True := trivial
theorem PySem.W.Fast.tw16102651982884753155 : True := trivial
theorem PySem.W.Fast.tw10341666511376892032 : True := trivial
theorem PySem.W.Fast.tw4548103694103580169 : True := trivial
theorem PySem.W.Fast.tw11893350677727328736 : True := trivial
theorem PySem.W.Fast.tw11664622942611394494 : True := trivial
theorem PySem.W.Fast.tw3600781760733992252 : True := trivial
theorem PySem.W.Fast.tw5746136635105729890 : True := trivial
theorem PySem.W.Fast.tw2090327588656295531 : True := trivial
theorem PySem.W.Fast.tw15967070492553470272 : True := trivial
theorem PySem.W.Fast.tw14060607283246187355 : True := trivial
theorem PySem.W.Fast.tw11629123285356579132 : True := trivial
theorem PySem.W.Fast.tw9727124499633582549 : True := trivial
theorem PySem.W.Fast.tw9396532092813416588 : True := trivial
theorem PySem.W.Fast.tw14143102010760078995 : True := trivial
theorem PySem.W.Fast.tw11036288921264882622 : True := trivial
theorem PySem.W.Fast.tw6168986824566089537 : True := trivial
theorem PySem.W.Fast.tw15977832821911688386 : True := trivial
theorem PySem.W.Fast.tw348311028359879172 : True := trivial
theorem PySem.W.Fast.tw1516856252063152952 : True := trivial
theorem PySem.W.Fast.tw15632980505269476806 : True := trivial
theorem PySem.W.Fast.tw17299377387383118540 : True := trivial
theorem PySem.W.Fast.tw5274581953025576523 : True := trivial
theorem PySem.W.Fast.tw8411174713753019303 : True := trivial
theorem PySem.W.Fast.tw15601164675882874276 : True := trivial
theorem PySem.W.Fast.tw13795735603044596250 : True := trivial
theorem PySem.W.Fast.tw14001683961246191534 : True := trivial
theorem PySem.W.Fast.tw7475191946915569002 : True := trivial
theorem PySem.W.Fast.tw16625885901038003418 : True := trivial
theorem PySem.W.Fast.tw16568590950237219107 : True := trivial
theorem PySem.W.Fast.tw3947613901150355597 : True := trivial
theorem PySem.W.Fast.tw5665006641233251152 : True := trivial
theorem PySem.W.Fast.tw13301469808320640081 : True := trivial
theorem PySem.W.Fast.tw18120456523290207225 : True := trivial
theorem PySem.W.Fast.tw16643029910105131234 : True := trivial
theorem PySem.W.Fast.tw18005385193523824657 : True := trivial
theorem PySem.W.Fast.tw14236981387532100440 : True := trivial
theorem PySem.W.Fast.tw1545089098015709266 : True := trivial
theorem PySem.W.Fast.tw4300020127393888802 : True := trivial
theorem PySem.W.Fast.tw9314355490730646048 : True := trivial
theorem PySem.W.Fast.tw10946038950896630833 : True := trivial
theorem PySem.W.Fast.tw13812225295447083615 : True := trivial
theorem PySem.W.Fast.tw13191111383943780987 : True := trivial
theorem PySem.W.Fast.tw8548387615295395947 : True := trivial
theorem PySem.W.Fast.tw6739874872479890952 : True := trivial
theorem PySem.W.Fast.tw14512544965238153794 : True := trivial
theorem PySem.W.Fast.tw14702845300248003227 : True := trivial
theorem PySem.W.Fast.tw16310569821641461488 : True := trivial
theorem PySem.W.Fast.tw2594877818150968606 : True := trivial
theorem PySem.W.Fast.tw11598871039183850838 : True := trivial
theorem PySem.W.Fast.tw8915610763789264548 : True := trivial
theorem PySem.W.Fast.tw1857647506385548562 : True := trivial
theorem PySem.W.Fast.tw6357742967414363487 : True := trivial
theorem PySem.W.Fast.tw12011213829815918462 : True := trivial
theorem PySem.W.Fast.tw10111285535299808505 : True := trivial
theorem PySem.W.Fast.tw8638041365729216086 : True := trivial
theorem PySem.W.Fast.tw5260615592587689176 : True := trivial
theorem PySem.W.Fast.tw15137147958150504301 : True := trivial
theorem PySem.W.Fast.tw11590657216907231397 : True := trivial
theorem PySem.W.Fast.tw16747751317076068027 : True := trivial
theorem PySem.W.Fast.tw8973396477807638804 : True := trivial
theorem PySem.W.Fast.tw7216725941948198698 : True := trivial
theorem PySem.W.Fast.tw17869555186223716986 : True := trivial
theorem PySem.W.Fast.tw11751320891671134391 : True := trivial
theorem PySem.W.Fast.tw13831397259243873471 : True := trivial
theorem PySem.W.Fast.tw5221348028306894245 : True := trivial
theorem PySem.W.Fast.tw17956987097568681654 : True := trivial
theorem PySem.W.Fast.tw10968622406410184460 : True := trivial
theorem PySem.W.Fast.tw16095482191412392376 : True := trivial
theorem PySem.W.Fast.tw14246200873182801577 : True := trivial
theorem PySem.W.Fast.tw13026610212669023783 : True := trivial
theorem PySem.W.Fast.tw14096226101948506165 : True := trivial
theorem PySem.W.Fast.tw7078503222475345518 : True := trivial
theorem PySem.W.Fast.tw8296670440087298963 : True := trivial
theorem PySem.W.Fast.tw8446867250318336399 : True := trivial
theorem PySem.W.Fast.tw17617372234217318635 : True := trivial
theorem PySem.W.Fast.tw4980540850216853789 : True := trivial
theorem PySem.W.Fast.tw1377943897800563253 : True := trivial
theorem PySem.W.Fast.tw180644920923170299 : True := trivial
theorem PySem.W.Fast.tw13159186527630150451 : True := trivial
theorem PySem.W.Fast.tw3678638194475441268 : True := trivial
theorem PySem.W.Fast.tw5854200162992000907 : True := trivial
theorem PySem.W.Fast.tw17517169865334258165 : True := trivial
theorem PySem.W.Fast.tw6880456233231137668 : True := trivial
theorem PySem.W.Fast.tw2901350127769063500 : True := trivial
theorem PySem.W.Fast.tw13284725350597834745 : True := trivial
theorem PySem.W.Fast.tw3438575509689000083 : True := trivial
theorem PySem.W.Fast.tw5305905743516185213 : True := trivial
theorem PySem.W.Fast.tw7849078979490494074 : True := trivial
theorem PySem.W.Fast.tw16379646845556665340 : True := trivial
theorem PySem.W.Fast.tw13976301112500825310 : True := trivial
theorem PySem.W.Fast.tw5492177789767867745 : True := trivial
theorem PySem.W.Fast.tw7295392906791527538 : True := trivial
theorem PySem.W.Fast.tw10819034116668320604 : True := trivial
theorem PySem.W.Fast.tw765131526293314973 : True := trivial
theorem PySem.W.Fast.tw45138168172561827 : True := trivial
theorem PySem.W.Fast.tw15467045291320950781 : True := trivial
theorem PySem.W.Fast.tw13500842493697630250 : True := trivial
theorem PySem.W.Fast.tw12911568420529038250 : True := trivial
theorem PySem.W.Fast.tw47206109777971074 : True := trivial
theorem PySem.W.Fast.tw12671330762009703052 : True := trivial
theorem PySem.W.Fast.tw7091867407469642350 : True := trivial
theorem PySem.W.Fast.tw13412481707015293311 : True := trivial
theorem PySem.W.Fast.tw6303981454617082049 : True := trivial
theorem PySem.W.Fast.tw3974796539941169652 : True := trivial
theorem PySem.W.Fast.tw6729962091473558252 : True := trivial
theorem PySem.W.Fast.tw10826071487446344906 : True := trivial
theorem PySem.W.Fast.tw10827322862144061358 : True := trivial
theorem PySem.W.Fast.tw9943618087394562358 : True := trivial
theorem PySem.W.Fast.tw12357120685212469989 : True := trivial
theorem PySem.W.Fast.tw18029478474772005649 : True := trivial
theorem PySem.W.Fast.tw1529830190734689150 : True := trivial
theorem PySem.W.Fast.tw11819418550241244353 : True := trivial
theorem PySem.W.Fast.tw351045524429032947 : True := trivial
theorem PySem.W.Fast.tw15463369050226056838 : True := trivial
theorem PySem.W.Fast.tw7955653794313580910 : True := trivial
theorem PySem.W.Fast.tw2658293188635772306 : True := trivial
theorem PySem.W.Fast.tw6758678402260233020 : True := trivial
theorem PySem.W.Fast.tw9752747978800757398 : True := trivial
theorem PySem.W.Fast.tw2315034682838947639 : True := trivial
theorem PySem.W.Fast.tw13953271180728664557 : True := trivial
theorem PySem.W.Fast.tw5998114395377219367 : True := trivial
theorem PySem.W.Fast.tw6266583773128154312 : True := trivial
theorem PySem.W.Fast.tw4804346821566185495 : True := trivial
theorem PySem.W.Fast.tw4652750815696731064 : True := trivial
theorem PySem.W.Fast.tw13442438462630771209 : True := trivial
theorem PySem.W.Fast.tw4525811352750582297 : True := trivial
theorem PySem.W.Fast.tw3534286295879051518 : True := trivial
theorem PySem.W.Fast.tw13364338672056402649 : True := trivial
theorem PySem.W.Fast.tw16308241892784966483 : True := trivial
theorem PySem.W.Fast.tw10511810849416104039 : True := trivial
theorem PySem.W.Fast.tw10348875434356405667 : True := trivial
theorem PySem.W.Fast.tw4471263144144904574 : True := trivial
theorem PySem.W.Fast.tw778800725295860445 : True := trivial
theorem PySem.W.Fast.tw9065663804562727879 : True := trivial
theorem PySem.W.Fast.tw10303109316253368419 : True := trivial
theorem PySem.W.Fast.tw14948551743263708968 : True := trivial
theorem PySem.W.Fast.tw18373118134189527307 : True := trivial
theorem PySem.W.Fast.tw15802679589598258430 : True := trivial
theorem PySem.W.Fast.tw13460064954604848282 : True := trivial
theorem PySem.W.Fast.tw7053827963440588996 : True := trivial
theorem PySem.W.Fast.tw10607295794941298658 : True := trivial
theorem PySem.W.Fast.tw2722202444479020655 : True := trivial
theorem PySem.W.Fast.tw13018826424473936114 : True := trivial
theorem PySem.W.Fast.tw15346364541936753192 : True := trivial
theorem PySem.W.Fast.tw14805623322031169141 : True := trivial
theorem PySem.W.Fast.tw3259602167381911275 : True := trivial
theorem PySem.W.Fast.tw1293869945433029199 : True := trivial
theorem PySem.W.Fast.tw6442753411653185610 : True := trivial
theorem PySem.W.Fast.tw6533615164417342765 : True := trivial
theorem PySem.W.Fast.tw7202458363868219748 : True := trivial
theorem PySem.W.Fast.tw15454003249376481890 : True := trivial
theorem PySem.W.Fast.tw2184682655001328395 : True := trivial
theorem PySem.W.Fast.tw1015387994943312819 : True := trivial
theorem PySem.W.Fast.tw9935882416390226213 : True := trivial
theorem PySem.W.Fast.tw2950746276162238306 : True := trivial
theorem PySem.W.Fast.tw10366278652491241992 : True := trivial
theorem PySem.W.Fast.tw692434751545808924 : True := trivial
theorem PySem.W.Fast.tw2296631021074907043 : True := trivial
theorem PySem.W.Fast.tw18177211060709189055 : True := trivial
theorem PySem.W.Fast.tw9014008025947740201 : True := trivial
theorem PySem.W.Fast.tw5842980307991293831 : True := trivial
theorem PySem.W.Fast.tw5779253877809442238 : True := trivial
theorem PySem.W.Fast.tw6577133503484639439 : True := trivial
theorem PySem.W.Fast.tw94557807035610257 : True := trivial
theorem PySem.W.Fast.tw10696239487021457589 : True := trivial
theorem PySem.W.Fast.tw17412972511237141933 : True := trivial
theorem PySem.W.Fast.tw13974988245437667201 : True := trivial
theorem PySem.W.Fast.tw15195228357427752140 : True := trivial
theorem PySem.W.Fast.tw10348547154831323401 : True := trivial
theorem PySem.W.Fast.tw2318560766934240112 : True := trivial
theorem PySem.W.Fast.tw7351573762969182576 : True := trivial
theorem PySem.W.Fast.tw3834234916072642795 : True := trivial
theorem PySem.W.Fast.tw15956577045888423090 : True := trivial
theorem PySem.W.Fast.tw9350269399570904781 : True := trivial
theorem PySem.W.Fast.tw592560885721465069 : True := trivial
theorem PySem.W.Fast.tw13699592732542452707 : True := trivial
theorem PySem.W.Fast.tw2159668071220300382 : True := trivial
theorem PySem.W.Fast.tw4122129693671665435 : True := trivial
theorem PySem.W.Fast.tw10064713710953864477 : True := trivial
theorem PySem.W.Fast.tw6182276586729767911 : True := trivial
theorem PySem.W.Fast.tw5163952234640171975 : True := trivial
theorem PySem.W.Fast.tw12740460671763795896 : True := trivial
theorem PySem.W.Fast.tw6564133523195456748 : True := trivial
theorem PySem.W.Fast.tw18297826614364641340 : True := trivial
theorem PySem.W.Fast.tw9354701823428050848 : True := trivial
theorem PySem.W.Fast.tw16448233082323645855 : True := trivial
theorem PySem.W.Fast.tw1638697962904137098 : True := trivial
theorem PySem.W.Fast.tw17723824699612849720 : True := trivial
theorem PySem.W.Fast.tw11413995128325059871 : True := trivial
theorem PySem.W.Fast.tw15576837320377183320 : True := trivial
theorem PySem.W.Fast.tw5714677991342346982 : True := trivial
theorem PySem.W.Fast.tw15170630488817807704 : True := trivial
theorem PySem.W.Fast.tw11256117596933210928 : True := trivial
theorem PySem.W.Fast.tw5369636992789725241 : True := trivial
theorem PySem.W.Fast.tw2679489809257887092 : True := trivial
theorem PySem.W.Fast.tw12208244309385350687 : True := trivial
theorem PySem.W.Fast.tw3698754677320490380 : True := trivial
theorem PySem.W.Fast.tw9328026469545441009 : True := trivial
theorem PySem.W.Fast.tw15772732493681058213 : True := trivial
theorem PySem.W.Fast.tw1193125635943747014 : True := trivial
theorem PySem.W.Fast.tw6579847020460694731 : True := trivial
theorem PySem.W.Fast.tw2960073779382108544 : True := trivial
theorem PySem.W.Fast.tw12021632202120165677 : True := trivial
theorem PySem.W.Fast.tw18397108574886467701 : True := trivial
theorem PySem.W.Fast.tw3527037451493479227 : True := trivial
theorem PySem.W.Fast.tw6244416436376334847 : True := trivial
theorem PySem.W.Fast.tw13837977280850142356 : True := trivial
theorem PySem.W.Fast.tw2884350430817941605 : True := trivial
theorem PySem.W.Fast.tw8441512555442976206 : True := trivial
theorem PySem.W.Fast.tw2716157404828883824 : True := trivial
theorem PySem.W.Fast.tw9536545001332322876 : True := trivial
theorem PySem.W.Fast.tw420489139658098609 : True := trivial
theorem PySem.W.Fast.tw12097318797134175384 : True := trivial
theorem PySem.W.Fast.tw4157238751327128822 : True := trivial
theorem PySem.W.Fast.tw10806374043759945662 : True := trivial
theorem PySem.W.Fast.tw5750866168587759192 : True := trivial
theorem PySem.W.Fast.tw5608951836769777282 : True := trivial
theorem PySem.W.Fast.tw2183760759336095040 : True := trivial
theorem PySem.W.Fast.tw4493411900443030317 : True := trivial
theorem PySem.W.Fast.tw8508883706890694622 : True := trivial
theorem PySem.W.Fast.tw2860801199688817371 : True := trivial
theorem PySem.W.Fast.tw15506667633623248384 : True := trivial
theorem PySem.W.Fast.tw17922997671676758266 : True := trivial
theorem PySem.W.Fast.tw15677061429891744830 : True := trivial
theorem PySem.W.Fast.tw5461046187797056470 : True := trivial
theorem PySem.W.Fast.tw6812388263395549367 : True := trivial
theorem PySem.W.Fast.tw13312101286532730490 : True := trivial
theorem PySem.W.Fast.tw2198433683261811279 : True := trivial
theorem PySem.W.Fast.tw7984380331060633731 : True := trivial
theorem PySem.W.Fast.tw1072120887807959271 : True := trivial
theorem PySem.W.Fast.tw16237463432558845086 : True := trivial
theorem PySem.W.Fast.tw4321179559697730882 : True := trivial
theorem PySem.W.Fast.tw2551486773066702292 : True := trivial
theorem PySem.W.Fast.tw8491770371241949722 : True := trivial
theorem PySem.W.Fast.tw14506691938313613937 : True := trivial
theorem PySem.W.Fast.tw10084695812509003360 : True := trivial
theorem PySem.W.Fast.tw5474805216451833440 : True := trivial
theorem PySem.W.Fast.tw4475681698668960167 : True := trivial
theorem PySem.W.Fast.tw9895758092365968021 : True := trivial
theorem PySem.W.Fast.tw14819936649674074377 : True := trivial
theorem PySem.W.Fast.tw9784798473563885581 : True := trivial
theorem PySem.W.Fast.tw16867884701066166405 : True := trivial
theorem PySem.W.Fast.tw17359799471758894385 : True := trivial
theorem PySem.W.Fast.tw3939736469119031075 : True := trivial
theorem PySem.W.Fast.tw4604019546391753306 : True := trivial
theorem PySem.W.Fast.tw431438113611863283 : True := trivial
theorem PySem.W.Fast.tw6048688426760555711 : True := trivial
theorem PySem.W.Fast.tw16821794572932277360 : True := trivial
theorem PySem.W.Fast.tw5044616698015749423 : True := trivial
theorem PySem.W.Fast.tw6058522748299421771 : True := trivial
theorem PySem.W.Fast.tw11257697584266713693 : True := trivial
theorem PySem.W.Fast.tw10736985918033243484 : True := trivial
theorem PySem.W.Fast.tw16859795266671325892 : True := trivial
theorem PySem.W.Fast.tw6451361412915707766 : True := trivial
theorem PySem.W.Fast.tw15537729799963416456 : True := trivial
theorem PySem.W.Fast.tw11860987546122107912 : True := trivial
theorem PySem.W.Fast.tw6792566989211737252 : True := trivial
theorem PySem.W.Fast.tw9759840202515975385 : True := trivial
theorem PySem.W.Fast.tw1368405358042872999 : True := trivial
theorem PySem.W.Fast.tw5659155069124277628 : True := trivial
theorem PySem.W.Fast.tw12177520969078699293 : True := trivial
theorem PySem.W.Fast.tw16883925636157164468 : True := trivial
theorem PySem.W.Fast.tw8515294295549392939 : True := trivial
theorem PySem.W.Fast.tw16465550598584899874 : True := trivial
theorem PySem.W.Fast.tw15209400817864714227 : True := trivial
theorem PySem.W.Fast.tw6226517899406015320 : True := trivial
theorem PySem.W.Fast.tw14601369003073201339 : True := trivial
theorem PySem.W.Fast.tw13086968274905936245 : True := trivial
theorem PySem.W.Fast.tw3753356766183993098 : True := trivial
theorem PySem.W.Fast.tw15683871445380204330 : True := trivial
theorem PySem.W.Fast.tw4893102088872044226 : True := trivial
theorem PySem.W.Fast.tw14233528396964427724 : True := trivial
theorem PySem.W.Fast.tw16650668817960641736 : True := trivial
theorem PySem.W.Fast.tw10631522545757993365 : True := trivial
theorem PySem.W.Fast.tw10296806907553337717 : True := trivial
theorem PySem.W.Fast.tw4531275399733471293 : True := trivial
theorem PySem.W.Fast.tw14289451033321076978 : True := trivial
theorem PySem.W.Fast.tw13173582711626427002 : True := trivial
theorem PySem.W.Fast.tw10089035733804323060 : True := trivial
theorem PySem.W.Fast.tw15337491505559804875 : True := trivial
theorem PySem.W.Fast.tw4595595169172631397 : True := trivial
theorem PySem.W.Fast.tw16472424670061163966 : True := trivial
theorem PySem.W.Fast.tw3358231224065354638 : True := trivial
theorem PySem.W.Fast.tw9431819180471570441 : True := trivial
theorem PySem.W.Fast.tw276759844796559425 : True := trivial
theorem PySem.W.Fast.tw4126336455139969061 : True := trivial
theorem PySem.W.Fast.tw26287956741201949 : True := trivial
theorem PySem.W.Fast.tw14704301316892021749 : True := trivial
theorem PySem.W.Fast.tw4963015751872535168 : True := trivial
theorem PySem.W.Fast.tw8106603147304323910 : True := trivial
theorem PySem.W.Fast.tw2156143150330592298 : True := trivial
theorem PySem.W.Fast.tw10194184704953536100 : True := trivial
theorem PySem.W.Fast.tw13055524143041570893 : True := trivial
theorem PySem.W.Fast.tw1481979011487403559 : True := trivial
theorem PySem.W.Fast.tw6456075050951541636 : True := trivial
theorem PySem.W.Fast.tw3008873644168651148 : True := trivial
theorem PySem.W.Fast.tw82555334112950557 : True := trivial
theorem PySem.W.Fast.tw6771432455897996841 : True := trivial
theorem PySem.W.Fast.tw7669491646460612084 : True := trivial
theorem PySem.W.Fast.tw795920157874502960 : True := trivial
theorem PySem.W.Fast.tw5613985072747915972 : True := trivial
theorem PySem.W.Fast.tw377302337717642247 : True := trivial
theorem PySem.W.Fast.tw7003865789810797211 : True := trivial
theorem PySem.W.Fast.tw2638463969926000856 : True := trivial
theorem PySem.W.Fast.tw13924382229504137082 : True := trivial
theorem PySem.W.Fast.tw10826517537284170637 : True := trivial
theorem PySem.W.Fast.tw12608803976367313948 : True := trivial
theorem PySem.W.Fast.tw17837577040088887974 : True := trivial
theorem PySem.W.Fast.tw15148678686540021320 : True := trivial
theorem PySem.W.Fast.tw6317958478379011626 : True := trivial
theorem PySem.W.Fast.tw2173270444736309362 : True := trivial
theorem PySem.W.Fast.tw8546774920522604402 : True := trivial
theorem PySem.W.Fast.tw13449055097489446375 : True := trivial
theorem PySem.W.Fast.tw9983726165344150156 : True := trivial
theorem PySem.W.Fast.tw14386841476618650932 : True := trivial
set_option maxRecDepth 100000 in
set_option maxHeartbeats 0 in
theorem PySem.Challenge.cw_asofhall_k76_forms_told_holds : PySem.Challenge.rw_asofhall_k76_forms_told.Holds := by
  w_on; o_law; k_head; (case hw => w_witness2)
  k_fill
  refine Ash.walk (l := PySem.Challenge.rw_asofhall_k76_forms_told) rfl rfl (fun w h Y => PySem.W.kIn_of Y) ?F
  case F =>
    intro w mg fa h KX G hmg
    refine' Ash.all_mk KX G hmg ?law0 ?law1 ?law2 ?law3
      { len := (PySem.W.mg_none_of KX G ?h_B_len), int := (PySem.W.mg_none_of KX G ?h_B_int), bool := (PySem.W.mg_none_of KX G ?h_B_bool), str := (PySem.W.mg_none_of KX G ?h_B_str), list := (PySem.W.mg_none_of KX G ?h_B_list), tuple := (PySem.W.mg_none_of KX G ?h_B_tuple), dict := (PySem.W.mg_none_of KX G ?h_B_dict), isinstance := (PySem.W.mg_none_of KX G ?h_B_isinstance), all := (PySem.W.mg_none_of KX G ?h_B_all), range := (PySem.W.mg_none_of KX G ?h_B_range), enumerate := (PySem.W.mg_none_of KX G ?h_B_enumerate), sorted := (PySem.W.mg_none_of KX G ?h_B_sorted), min := (PySem.W.mg_none_of KX G ?h_B_min), max := (PySem.W.mg_none_of KX G ?h_B_max), set := (PySem.W.mg_none_of KX G ?h_B_set), sum := (PySem.W.mg_none_of KX G ?h_B_sum), abs := (PySem.W.mg_none_of KX G ?h_B_abs) }
      ⟨?h_cF_0, ?h_cF_1, ?h_cF_2, ?h_cF_3⟩
      ?h_nF
      (PySem.W.mg_of KX G ?h_gF)
      (PySem.W.mg_of KX G ?h_gE)
      (PySem.W.mg_of KX G ?h_gH)
      ⟨?h_bk_0, ?h_bk_1, ?h_bk_2, ?h_bk_3⟩
      (Ash.txt_mk KX G ?h_TE_0 ?h_TE_1 ?h_TE_2 ?h_TE_3 ?h_TE_4 ?h_TE_5 ?h_TE_6 ?h_TE_7 ?h_TE_8 ?h_TE_9 ?h_TE_10 ?h_TE_11 ?h_TE_12 ?h_TE_13 ?h_TE_14 ?h_TE_15 ?h_TE_16 ?h_TE_17 ?h_TE_18 ?h_TE_19 ?h_TE_20 ?h_TE_21 ?h_TE_22 ?h_TE_23 ?h_TE_24 ?h_TE_25 ?h_TE_26 ?h_TE_27 ?h_TE_28 ?h_TE_29)
      ⟨?h_XC_0, ?h_XC_1, ?h_XC_2, ?h_XC_3, ?h_XC_4, ?h_XC_5, ?h_XC_6, ?h_XC_7⟩
      ?h_hcE
      (Ash.kit_yes ?h_kE_0 ?h_kE_1 ?h_kE_2)
      (PySem.W.mg_of KX G ?h_gFd)
      (Ash.kd_mk ?h_kd1_0 ?h_kd1_1 ?h_kd1_2)
      (Ash.kd_mk ?h_kd2_0 ?h_kd2_1 ?h_kd2_2)
      (Ash.kd_mk ?h_kd3_0 ?h_kd3_1 ?h_kd3_2)
      (Ash.sqt_mk ?h_sq1_0 ?h_sq1_1 ?h_sq1_2)
      (Ash.sqt_mk ?h_sq2_0 ?h_sq2_1 ?h_sq2_2)
      (Ash.sqt_mk ?h_sq3_0 ?h_sq3_1 ?h_sq3_2)
      (Ash.ex_int KX G ?h_xLM)
      (Ash.ex_int KX G ?h_xMP)
      ?h_mk
      ?h_kp
      ?h_nq
      ?h_eq
      ?h_ob
      (Ash.d1 KX G ?h_d__law_stream_0 ?h_d__law_stream_1 ?h_d__law_stream_2 ?h_d__law_stream_3)
      (Ash.d1 KX G ?h_d__law_draw_0 ?h_d__law_draw_1 ?h_d__law_draw_2 ?h_d__law_draw_3)
      (Ash.d1 KX G ?h_d__law_fields_0 ?h_d__law_fields_1 ?h_d__law_fields_2 ?h_d__law_fields_3)
      (Ash.d1 KX G ?h_d__law_order_0 ?h_d__law_order_1 ?h_d__law_order_2 ?h_d__law_order_3)
      (Ash.d1 KX G ?h_d__law_mark_0 ?h_d__law_mark_1 ?h_d__law_mark_2 ?h_d__law_mark_3)
      (Ash.d1 KX G ?h_d__law_signs_0 ?h_d__law_signs_1 ?h_d__law_signs_2 ?h_d__law_signs_3)
      (Ash.d1 KX G ?h_d__law_shape_0 ?h_d__law_shape_1 ?h_d__law_shape_2 ?h_d__law_shape_3)
      (Ash.d1 KX G ?h_d__law_odd_0 ?h_d__law_odd_1 ?h_d__law_odd_2 ?h_d__law_odd_3)
      (Ash.d1 KX G ?h_d__law_spoiled_0 ?h_d__law_spoiled_1 ?h_d__law_spoiled_2 ?h_d__law_spoiled_3)
      (Ash.d1 KX G ?h_d_is_row_0 ?h_d_is_row_1 ?h_d_is_row_2 ?h_d_is_row_3)
      (Ash.d1 KX G ?h_d_is_mark_0 ?h_d_is_mark_1 ?h_d_is_mark_2 ?h_d_is_mark_3)
      (Ash.d1 KX G ?h_d_is_shape_0 ?h_d_is_shape_1 ?h_d_is_shape_2 ?h_d_is_shape_3)
      (Ash.d1 KX G ?h_d__law_is_text_0 ?h_d__law_is_text_1 ?h_d__law_is_text_2 ?h_d__law_is_text_3)
      (Ash.d1 KX G ?h_d__law_is_shape_0 ?h_d__law_is_shape_1 ?h_d__law_is_shape_2 ?h_d__law_is_shape_3)
      (Ash.d1 KX G ?h_d__law_unknown_0 ?h_d__law_unknown_1 ?h_d__law_unknown_2 ?h_d__law_unknown_3)
      (Ash.d1 KX G ?h_d__law_told_0 ?h_d__law_told_1 ?h_d__law_told_2 ?h_d__law_told_3)
      (Ash.d1 KX G ?h_d__law_made_0 ?h_d__law_made_1 ?h_d__law_made_2 ?h_d__law_made_3)
      (Ash.dm ?h_m_FI_0 ?h_m_FI_1 ?h_m_FI_2 ?h_m_FI_3 ?h_m_FI_4)
      (Ash.dm ?h_m_SH_0 ?h_m_SH_1 ?h_m_SH_2 ?h_m_SH_3 ?h_m_SH_4)
      (Ash.dq ?h_m_eq_0 ?h_m_eq_1 ?h_m_eq_2 ?h_m_eq_3 ?h_m_eq_4)
    (case h_gF => k_is)
    (case h_gE => k_is)
    (case h_gH => k_is)
    (case h_gFd => k_is)
    (case h_xLM => k_is)
    (case h_xMP => k_is)
    (case law0 => k_is)
    (case law1 => k_is)
    (case law2 => k_is)
    (case law3 => k_is)
    (case h_B_len => k_is)
    (case h_B_int => k_is)
    (case h_B_bool => k_is)
    (case h_B_str => k_is)
    (case h_B_list => k_is)
    (case h_B_tuple => k_is)
    (case h_B_dict => k_is)
    (case h_B_isinstance => k_is)
    (case h_B_all => k_is)
    (case h_B_range => k_is)
    (case h_B_enumerate => k_is)
    (case h_B_sorted => k_is)
    (case h_B_min => k_is)
    (case h_B_max => k_is)
    (case h_B_set => k_is)
    (case h_B_sum => k_is)
    (case h_B_abs => k_is)
    (case h_cF_0 => k_is)
    (case h_cF_1 => k_is)
    (case h_cF_2 => k_is)
    (case h_cF_3 => k_is)
    (case h_nF => delta L2.NoAttr; k_is)
    (case h_bk_0 => k_is)
    (case h_bk_1 => k_is)
    (case h_bk_2 => k_is)
    (case h_bk_3 => k_is)
    (case h_TE_0 => k_is)
    (case h_TE_2 => k_is)
    (case h_TE_3 => k_is)
    (case h_TE_4 => k_is)
    (case h_TE_5 => k_is)
    (case h_TE_6 => k_is)
    (case h_TE_7 => k_is)
    (case h_TE_8 => k_is)
    (case h_TE_9 => k_is)
    (case h_TE_10 => k_is)
    (case h_TE_11 => k_is)
    (case h_TE_12 => k_is)
    (case h_TE_13 => k_is)
    (case h_TE_14 => k_is)
    (case h_TE_15 => k_is)
    (case h_TE_17 => k_is)
    (case h_TE_18 => k_is)
    (case h_TE_20 => k_is)
    (case h_TE_21 => k_is)
    (case h_TE_25 => k_is)
    (case h_TE_29 => k_is)
    (case h_XC_0 => k_is)
    (case h_XC_1 => k_is)
    (case h_XC_2 => k_is)
    (case h_XC_3 => k_is)
    (case h_XC_4 => k_is)
    (case h_XC_5 => k_is)
    (case h_XC_6 => k_is)
    (case h_XC_7 => k_is)
    (case h_hcE => k_is)
    (case h_kE_0 => k_is)
    (case h_kE_1 => k_is)
    (case h_kE_2 => k_is)
    (case h_kd1_0 => k_is)
    (case h_kd1_2 => k_is)
    (case h_kd2_0 => k_is)
    (case h_kd2_2 => k_is)
    (case h_kd3_0 => k_is)
    (case h_kd3_2 => k_is)
    (case h_sq1_0 => k_is)
    (case h_sq2_0 => k_is)
    (case h_sq3_0 => k_is)
    (case h_mk => k_is)
    (case h_kp => k_is)
    (case h_nq => k_is)
    (case h_eq => k_is)
    (case h_ob => k_is)
    (case h_d__law_stream_0 => k_is)
    (case h_d__law_stream_1 => k_is)
    (case h_d__law_stream_2 => k_is)
    (case h_d__law_stream_3 => k_is)
    (case h_d__law_draw_0 => k_is)
    (case h_d__law_draw_1 => k_is)
    (case h_d__law_draw_2 => k_is)
    (case h_d__law_draw_3 => k_is)
    (case h_d__law_fields_0 => k_is)
    (case h_d__law_fields_1 => k_is)
    (case h_d__law_fields_2 => k_is)
    (case h_d__law_fields_3 => k_is)
    (case h_d__law_order_0 => k_is)
    (case h_d__law_order_1 => k_is)
    (case h_d__law_order_2 => k_is)
    (case h_d__law_order_3 => k_is)
    (case h_d__law_mark_0 => k_is)
    (case h_d__law_mark_1 => k_is)
    (case h_d__law_mark_2 => k_is)
    (case h_d__law_mark_3 => k_is)
    (case h_d__law_signs_0 => k_is)
    (case h_d__law_signs_1 => k_is)
    (case h_d__law_signs_2 => k_is)
    (case h_d__law_signs_3 => k_is)
    (case h_d__law_shape_0 => k_is)
    (case h_d__law_shape_1 => k_is)
    (case h_d__law_shape_2 => k_is)
    (case h_d__law_shape_3 => k_is)
    (case h_d__law_odd_0 => k_is)
    (case h_d__law_odd_1 => k_is)
    (case h_d__law_odd_2 => k_is)
    (case h_d__law_odd_3 => k_is)
    (case h_d__law_spoiled_0 => k_is)
    (case h_d__law_spoiled_1 => k_is)
    (case h_d__law_spoiled_2 => k_is)
    (case h_d__law_spoiled_3 => k_is)
    (case h_d_is_row_0 => k_is)
    (case h_d_is_row_1 => k_is)
    (case h_d_is_row_2 => k_is)
    (case h_d_is_row_3 => k_is)
    (case h_d_is_mark_0 => k_is)
    (case h_d_is_mark_1 => k_is)
    (case h_d_is_mark_2 => k_is)
    (case h_d_is_mark_3 => k_is)
    (case h_d_is_shape_0 => k_is)
    (case h_d_is_shape_1 => k_is)
    (case h_d_is_shape_2 => k_is)
    (case h_d_is_shape_3 => k_is)
    (case h_d__law_is_text_0 => k_is)
    (case h_d__law_is_text_1 => k_is)
    (case h_d__law_is_text_2 => k_is)
    (case h_d__law_is_text_3 => k_is)
    (case h_d__law_is_shape_0 => k_is)
    (case h_d__law_is_shape_1 => k_is)
    (case h_d__law_is_shape_2 => k_is)
    (case h_d__law_is_shape_3 => k_is)
    (case h_d__law_unknown_0 => k_is)
    (case h_d__law_unknown_1 => k_is)
    (case h_d__law_unknown_2 => k_is)
    (case h_d__law_unknown_3 => k_is)
    (case h_d__law_told_0 => k_is)
    (case h_d__law_told_1 => k_is)
    (case h_d__law_told_2 => k_is)
    (case h_d__law_told_3 => k_is)
    (case h_d__law_made_0 => k_is)
    (case h_d__law_made_1 => k_is)
    (case h_d__law_made_2 => k_is)
    (case h_d__law_made_3 => k_is)
    (case h_m_FI_0 => k_is)
    (case h_m_FI_1 => k_is)
    (case h_m_FI_2 => k_is)
    (case h_m_FI_3 => k_is)
    (case h_m_FI_4 => k_is)
    (case h_m_SH_0 => k_is)
    (case h_m_SH_1 => k_is)
    (case h_m_SH_2 => k_is)
    (case h_m_SH_3 => k_is)
    (case h_m_SH_4 => k_is)
    (case h_m_eq_0 => k_is)
    (case h_m_eq_1 => k_is)
    (case h_m_eq_2 => k_is)
    (case h_m_eq_3 => k_is)
    (case h_m_eq_4 => k_is)
    (case h_TE_1 => decide +kernel)
    (case h_TE_16 => ks_is)
    (case h_TE_19 => decide +kernel)
    (case h_TE_22 => exact rfl)
    (case h_TE_23 => exact rfl)
    (case h_TE_24 => exact fun s u v => .of_eq rfl)
    (case h_TE_26 => exact rfl)
    (case h_TE_27 => decide +kernel)
    (case h_TE_28 => decide +kernel)
    (case h_kd1_1 => exact ⟨⟨_, _, rfl, rfl⟩, ⟨_, _, rfl, rfl⟩, ⟨_, _, rfl, rfl⟩, trivial⟩)
    (case h_kd2_1 => exact ⟨⟨_, _, rfl, rfl⟩, ⟨_, _, rfl, rfl⟩, ⟨_, _, rfl, rfl⟩, trivial⟩)
    (case h_kd3_1 => exact ⟨⟨_, _, rfl, rfl⟩, ⟨_, _, rfl, rfl⟩, ⟨_, _, rfl, rfl⟩, trivial⟩)
    (case h_sq1_1 => first | exact .cons ⟨_, rfl⟩ (.cons ⟨_, rfl⟩ .nil) | exact .cons ⟨_, rfl⟩ (.cons ⟨_, rfl⟩ (.cons ⟨_, rfl⟩ (.cons ⟨_, rfl⟩ .nil))) | exact .cons ⟨_, rfl⟩ (.cons ⟨_, rfl⟩ (.cons ⟨_, rfl⟩ (.cons ⟨_, rfl⟩ (.cons ⟨_, rfl⟩ (.cons ⟨_, rfl⟩ .nil))))))
    (case h_sq1_2 => decide)
    (case h_sq2_1 => first | exact .cons ⟨_, rfl⟩ (.cons ⟨_, rfl⟩ .nil) | exact .cons ⟨_, rfl⟩ (.cons ⟨_, rfl⟩ (.cons ⟨_, rfl⟩ (.cons ⟨_, rfl⟩ .nil))) | exact .cons ⟨_, rfl⟩ (.cons ⟨_, rfl⟩ (.cons ⟨_, rfl⟩ (.cons ⟨_, rfl⟩ (.cons ⟨_, rfl⟩ (.cons ⟨_, rfl⟩ .nil))))))
    (case h_sq2_2 => decide)
    (case h_sq3_1 => first | exact .cons ⟨_, rfl⟩ (.cons ⟨_, rfl⟩ .nil) | exact .cons ⟨_, rfl⟩ (.cons ⟨_, rfl⟩ (.cons ⟨_, rfl⟩ (.cons ⟨_, rfl⟩ .nil))) | exact .cons ⟨_, rfl⟩ (.cons ⟨_, rfl⟩ (.cons ⟨_, rfl⟩ (.cons ⟨_, rfl⟩ (.cons ⟨_, rfl⟩ (.cons ⟨_, rfl⟩ .nil))))))
    (case h_sq3_2 => decide)

