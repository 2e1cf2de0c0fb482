import PyProof.Rows.All
import Wide.All
import OpenK.AllK
import Wide.FinOn
import PyProof.EqAt
import PyProof.EqKinds
import PyProof.TupleCall
import KE.KExcSuper
import HandS.ForMost
import HandS.ForExc
import HandS.ExcInit
import HandS.IsInst
import HandS.Wide
import HandS.Star
import HandS.CallSlots
import HandS.DictComp
import HandS.OwnEq
import HandS.Codes
import HandS.Defaults
import HandS.Walk
import PySem.Challenge.RW_asofhall_k85_whole_journals_cut_and_join
import HandS.More
import KE.GoesMore
import PyProof.NeKinds
import HandS.SortRule
import HandS.Deep
import PyProof.InstNe
import OpenK.KOwn
import OpenK.KOps
import HandS.Sort
import KE.KSortKeySt
import HandS.SortKw
import PyProof.Rows.SortShellAny
import HandS.SetFor
import HandS.SetKeys
import OpenK.KMeth
import HandS.SlotsOwn
import KE.KDictSum
set_option Elab.async false
set_option linter.all false
set_option maxRecDepth 100000
set_option maxHeartbeats 4000000
namespace PySem
namespace BadX
open PySem.W PySem.Calls PyProof.Rows PySem.HandSPX
/-- super().__init__(text); self.fl = par -/
def shape (tx par fl : Str) (p0 p1 p2 p3 p4 p5 p6 p7 p8 p9 : Pos) (j : Nat) : List Stmt :=
  [.Expr (.Call (.Attribute (.Call (.Name "super" p0) [] [] p1) "__init__" p2) [.Constant (.str tx) j p3] [] p4) p5,
   .Assign [.Attribute (.Name "self" p6) fl p7] (.Name par p8) p9]
def sco (par : Str) : Scope := { kind := .function, names := [(PySem.Str.ofString "self", .local), (par, .local), (PySem.Str.ofString "__class__", .free), (PySem.Str.ofString "super", .globalImplicit)], isGenerator := false, isCoroutine := false, more := [] }
/-- what the written part says of an own error's class at C, its __init__ at fI, whose one field is fl -/
structure Txt (P : Program) (K : Frag) (mg : Str → Option Value) (par fl : Str) (C fI : Addr) : Prop where
  cls : ∃ nm q N bs bm sn sub ab col dd k0 k1 k2 k3 k5, K.lookup C = some (excClassObj nm q C N bs bm true sn sub ab col dd k0 k1 k2 k3 k5 "ValueError.__new__") ∧ refsVE bm = true
  sa : findIn K (.ref C) "__setattr__" = some (some (.builtin "object.__setattr__"))
  ga : findIn K (.ref C) "__getattribute__" = some (some (.builtin "BaseException.__getattribute__"))
  gg : findIn K (.ref C) "__getattr__" = some none
  noN : findIn K (.ref C) fl = some none
  iC : findIn K (.ref C) "__init__" = some (some (.ref fI))
  tC : typeIn K (.ref fI) = some (.type "function")
  kC : keepIn K (.ref C) = true
  exC : subIn K (.ref C) (.type "BaseException") = some true
  veC : subIn K (.ref C) (.type "ValueError") = some true
  slf : mroIn K C (.ref C) = some true
  tyC : typeIn K (.ref C) = some (.type "type")
  hdC : hasDictIn K C = true
  te : exmOne K (.ref C) (.ref C) = some true
  along : ks_superIn K C C "__init__" = some (some (.builtin "ValueError.__init__"))
  opq : nsIn K cStatics "thirdparty.any" = some none
  sup : mg "super" = none
  top : (P.main.scope.names.lookup ("super" : Str)).isSome = false
  fn : ∃ (oc : Value) (od : Option Addr) (qual tx : Str) (doc pm : Value) (an : Option Addr) (cda cc : Addr) (ct : Value) (osl : Array (Option Value)) (pa : Arguments) (p0 p1 p2 p3 p4 p5 p6 p7 p8 p9 : Pos) (j : Nat) (a0 : Arg),
    K.lookup fI = some ⟨oc, od, .func (ksFn "__init__" qual pa (shape tx par fl p0 p1 p2 p3 p4 p5 p6 p7 p8 p9 j) (sco par) .none .none doc pm an (.ref cda) ct cc), osl⟩ ∧ codeIn K (.ref cda) qual = true ∧
    (pa.posonlyargs ++ pa.args).head? = some a0 ∧ a0.arg = "self" ∧
    (∀ (s : Shared) (u v : Value), BindsTo s (ksFn "__init__" qual pa (shape tx par fl p0 p1 p2 p3 p4 p5 p6 p7 p8 p9 j) (sco par) .none .none doc pm an (.ref cda) ct cc) ⟨[u, v], []⟩ [("self", u), (par, v)]) ∧
    (∃ ccl cdd vs ccs file tf, K.lookup cda = some ⟨ccl, cdd, .fields vs, ccs⟩ ∧ vs[2]? = some (.str file tf) ∧ ((P.main.file : Str) == file) = true) ∧
    (p2.endLine == p4.line) = true ∧
    (∃ cl cld csl, K.lookup cc = some ⟨cl, cld, .cell (some (.ref C)), csl⟩)
/-- what __init__ leaves of a fresh exception at x -/
structure Left (fl : Str) (h h' : Heap) (x C dx t1 : Addr) (v : Value) : Prop where
  keep : ∀ b o, b ≠ x → h.get? b = some o → h'.get? b = some o
  obj : h'.get? x = some { cls := .ref C, dict := some dx, data := .fields #[.ref t1, .none, .none, .none, .bool false, .none] }
  dbig : h.objs.size ≤ dx
  dne : dx ≠ x
  ns : h'.Ns1 dx (fun y => if y = fl then some v else none)
section
variable {prog : Program} {w : World} {A : Around} {E : Value → Shared → Prop} {R : Result → Shared → Prop} {s : Shared} {K : Frag} {mg mb : Str → Option Value} {C fI : Addr} {par fl : Str}
/-- the wrapper of ValueError.__init__, bound to x, called -/
theorem call_bound {h : Heap} {g : Array GenState} {d : Drawn} {t : Nat} {os : OsState} {u x t0 : Addr} {rest : List Value} {Q : Value → Shared → Prop} {nm q : Str} {N : Addr} {bs bm : List Value} {sn : List Str} {sub : List Value} {ab : Bool} {col : Option Bool} {dd : Option Addr} {k0 k1 k2 k3 k5 : Option Value}
    (hC : h.get? C = some (excClassObj nm q C N bs bm true sn sub ab col dd k0 k1 k2 k3 k5 "ValueError.__new__")) (hx : h.get? x = some (excO C t0)) (hu : h.get? u = some (kxs_mw "ValueError.__init__" x)) (hr : rest.length ≤ sizeLine)
    (hq : ∀ h', (∀ b o, b ≠ x → h.get? b = some o → h'.get? b = some o) → h'.get? x = some (excO C h.objs.size) → Q .none ⟨h', g, d, t, os⟩) :
    wpAny (model prog w) A (call (.ref u) rest) Q E ⟨h, g, d, t, os⟩ := by
  have FB := F.excBase_ValueError
  refine wpAny_call (codeAny_of_tree ?_)
  show wpAny _ A.in1 (callAny (.ref u) ⟨rest, []⟩) _ _ _
  simp only [callAny]
  refine wpAny_bind (wpAny_load hu ?_)
  have c1 : (Value.type "method-wrapper" == Value.type "method" || Value.type "method-wrapper" == Value.type "builtin_function_or_method" || Value.type "method-wrapper" == Value.type "method-wrapper") = true := by decide
  simp only [kxs_mw, c1, if_true]
  refine KFB.if_so (by decide) (wpAny_bind (check_bound_init FB.toExcCallFacts hC hx rfl (wpAny_bind (wpAny_pure (wpAny_pure ⟨plainId_quiet FB.init.plain _, codeAny_builtin FB.initEntry ?_⟩)))))
  exact exc_init_tree (cls := .ref C) (t0 := t0) (dv := none) (c2 := .none) (c3 := .none) (b4 := .bool false) hx hr fun h' k e' _ => hq h' k e'
theorem init_ok {x t0 : Addr} {v : Value} (T : Txt prog K mg par fl C fI) (X : K.In s.heap) (G : s.heap.Ns mainGlobals mg) (B : s.heap.Ns builtinsNs mb) (hb : mb "super" = some (.type "super")) (hlim : s.heap.NoLimit)
    (hx : s.heap.get? x = some (excO C t0)) (hnx : K.lookup x = none) (hroom : A.depth < recursionLimit) (hp1 : (par == ("__debug__" : Str)) = false) (hp2 : ¬ par = "self")
    (hloc : (sco par).names.lookup par = some .local) (hks : (sco par).names.lookup ("super" : Str) = some .globalImplicit) (hkc : (sco par).names.lookup ("__class__" : Str) = some .free)
    (hq : ∀ h' tk t1 dx, Left fl s.heap h' x C dx t1 v → R (.ok (.ret .none)) { s with heap := h', toks := tk }) :
    codeAny (model prog w) A (.call (.ref fI) ⟨[.ref x, v], []⟩) R s := by
  obtain ⟨oc, od, qual, tx, doc, pm, an, cda, cc, ct, osl, pa, p0, p1, p2, p3, p4, p5, p6, p7, p8, p9, j, a0, ho, hcd, ha0, ha1, hbd, ⟨ccl, cdd, vs, ccs, file, tf, hcode, hvs, hfile⟩, hpe, ⟨cl, cld, csl, hcell⟩⟩ := T.fn
  obtain ⟨nm, q, N, bs, bm, sn, sub, ab, col, dd, k0, k1, k2, k3, k5, hC, hbm⟩ := T.cls
  have hcl : clsIn K C = some { name := nm, bases := bs, mro := .ref C :: bm, ns := N, qualname := q, hasDict := true, slotNames := sn, subclasses := sub, abstract := ab, collection := col, hasDel := false } := by unfold clsIn; rw [hC] <;> rfl
  refine ks_codeAny_call_defAt (binds := [("self", .ref x), (par, v)]) hroom (X _ _ ho) rfl hlim (codeRec_of X hcd) rfl (hbd s (.ref x) v) ?_ ?_ (fun h₁ hns hk₁ => ?_)
  · intro y hy
    have : y ∈ [(PySem.Str.ofString "self", NameKind.local), (par, .local), (PySem.Str.ofString "__class__", .free), (PySem.Str.ofString "super", .globalImplicit)] := hy
    simp only [List.mem_cons, List.not_mem_nil, or_false] at this
    rcases this with rfl | rfl | rfl | rfl <;> (intro z; cases z)
  · intro y hy
    simp only [List.mem_cons, List.not_mem_nil, or_false] at hy
    rcases hy with rfl | rfl
    · exact (by rfl : (sco par).names.lookup ("self" : Str) = some .local)
    · exact hloc
  have hself : ([(("self" : Str), Value.ref x), (par, v)] : List (Str × Value)).reverse.lookup ("self" : Str) = some (Value.ref x) := by
    show List.lookup ("self" : Str) [(par, v), (("self" : Str), Value.ref x)] = _
    have e1 : (("self" : Str) == par) = false := by simpa using fun z => hp2 z.symm
    simp [List.lookup, e1]
  have hpar : ([(("self" : Str), Value.ref x), (par, v)] : List (Str × Value)).reverse.lookup par = some v := by
    show List.lookup par [(par, v), (("self" : Str), Value.ref x)] = _
    simp [List.lookup]
  have X₁ : K.In h₁ := X.keeps hk₁
  have hx₁ := hk₁ _ _ hx
  refine ks_wpAt_execs_cons (ks_wpAt_Expr_any (ks_wpAt_MethodCall (pl := ?pl) ?_ ?he))
  case he =>
    rw [arm_eval_Call]
    unfold methodCall methodCallPos
    rw [hpe]
    with_unfolding_all rfl
  refine ks_wpAt_super_base (hks := hks) (hkc := hkc) (by decide +kernel) rfl (X₁ _ _ ho) rfl ha0 rfl (X₁ _ _ hcode) rfl hvs hfile T.top ?_
  refine ks_loadName_global rfl hks (loadGlobal_builtin (G.keeps hk₁) T.sup (B.keeps hk₁) hb ⟨rfl, ?_⟩)
  refine wpAny_loadName_free rfl hkc rfl ⟨_, X₁ _ _ hcell, rfl⟩ ?_
  rw [ha1]
  refine wpAny_loadName_local rfl rfl hns hself ?_
  refine ks_wpAny_isType_cls (X₁ _ _ hC) rfl ⟨rfl, ?_⟩
  refine ks_wpAny_call_super (X₁ _ _ hC) rfl hx₁ rfl (fun c e => by cases e) (looks_mroIn X₁ T.slf) (fun h₂ e₂ k₂ => ?_)
  have X₂ : K.In h₂ := X₁.keeps k₂
  have hx₂ := k₂ _ _ hx₁
  have I₂ : InstAt h₂ x (excO C t0) C none := ⟨hx₂, rfl, rfl, trivial⟩
  have hal := T.along
  unfold ks_superIn at hal
  rw [hcl] at hal
  refine kxs_getMethod kxs_ValueError e₂ (looks_opaque X₂ T.opq) (l₀ := .ref C :: bm) ?_ rfl X₂ hal (I₂.type.andThen (looks_subIn X₂ T.veC)) (ks_ne X₂ I₂ hcl) (by decide +kernel) ?_
  · exact fun A Q E s k q => wpAny_bind ((looks_clsIn X₂ hcl) A _ E s k (wpAny_pure q))
  have hu : (h₂.push (kxs_mw "ValueError.__init__" x)).get? h₂.objs.size = some (kxs_mw "ValueError.__init__" x) := Heap.get?_push_at rfl rfl
  have k₃ : ∀ b o, h₂.get? b = some o → (h₂.push (kxs_mw "ValueError.__init__" x)).get? b = some o := fun b o e => Heap.get?_push_of_some _ e
  let H₃ := h₂.push (kxs_mw "ValueError.__init__" x)
  refine kxs_callWith1 (i := "ValueError.__init__") (x := x) (u := h₂.objs.size) (h₀ := Att.noObjs H₃) (L := h₂.objs.size + 7) (news := [(h₂.objs.size, kxs_mw "ValueError.__init__" x)]) (fun q hq => ?_) (List.Mem.head _) ?_
  · rcases List.mem_cons.mp hq with rfl | hq
    · exact ⟨hu, by show h₂.objs.size ≠ h₂.objs.size + 7; omega, Att.noObjs_get _ _⟩
    · cases hq
  refine wpAny_items_cons (Constant_str ?_)
  refine wpAny_items_nil ⟨hu, ?_⟩
  have X₃ : K.In (h₂.push (kxs_mw "ValueError.__init__" x)) := X₂.keeps k₃
  refine call_bound (X₃ _ _ hC) (k₃ _ _ hx₂) hu (by rw [sizeLine_eq]; exact (by decide : 1 ≤ 16777216)) fun h₄ k₄ e₄ => ?_
  -- self.fl = par
  have k14 : ∀ b o, b ≠ x → h₁.get? b = some o → h₄.get? b = some o := fun b o hb e => k₄ b o hb (k₃ b o (k₂ b o e))
  have xL : s.heap.objs.size ≠ x := Nat.ne_of_gt (Heap.lt_size hx)
  obtain ⟨oL, es, ep, hL, hr⟩ := hns
  have hns₄ : h₄.Ns s.heap.objs.size (fun y => ([(("self" : Str), Value.ref x), (par, v)] : List (Str × Value)).reverse.lookup y) := ⟨oL, es, ep, k14 _ _ xL hL, hr⟩
  have X₄ : K.In h₄ := fun a o e => k₄ a o (fun z => by rw [z, hnx] at e; cases e) (X₃ a o e)
  refine wpAt_of_wpAny (wpAny_execs_cons (plainObj_wpAny_Assign_Attribute ?_))
  refine wpAny_Name (wpAny_loadName_local rfl hloc hns₄ hpar ?_) hp1
  refine wpAny_Name (wpAny_loadName_local rfl rfl hns₄ hself ?_) (by decide)
  refine set_plain X₄ (ox := excO C h₂.objs.size.succ) (od := none) ⟨?_, rfl, rfl, trivial⟩ T.sa ?_
  · show h₄.get? x = some (excO C h₂.objs.size.succ)
    rw [e₄, Heap.size_push]
  have e₄' : h₄.get? x = some (excO C h₂.objs.size.succ) := by
    rw [e₄, Heap.size_push]
  refine exc_osa X₄ e₄' hcl (show refsVE (.ref C :: bm) = true from hbm) rfl T.noN (fun h₅ tk₅ dx k₅ dn dne hx₅ hn₅ => ?_)
  have z1 : s.heap.objs.size < h₄.objs.size := Heap.lt_size (k14 _ _ xL hL)
  refine wpAny_execs_nil (hq h₅ tk₅ _ dx ⟨fun b o hb e => k₅ b o hb (k14 b o hb (hk₁ b o e)), hx₅, Nat.le_of_lt (Nat.lt_of_lt_of_le z1 dn), dne, hn₅⟩)
theorem one_le (v : Value) : [v].length ≤ sizeLine := by
  rw [sizeLine_eq]
  exact (by decide : 1 ≤ 16777216)
/-- a made error -/
structure Made (fl : Str) (h h' : Heap) (e C d : Addr) (v : Value) : Prop where
  keep : ∀ b o, h.get? b = some o → h'.get? b = some o
  new : h.objs.size ≤ e
  obj : ∃ oe vs, h'.get? e = some oe ∧ oe.cls = .ref C ∧ oe.dict = some d ∧ oe.data = .fields vs ∧ vs[1]? = some .none
  dbig : h.objs.size ≤ d
  dne : d ≠ e
  ns : h'.Ns1 d (fun y => if y = fl then some v else none)
/-- the names of such an __init__ -/
structure Par (par : Str) : Prop where
  p1 : (par == ("__debug__" : Str)) = false
  p2 : ¬ par = "self"
  p3 : (sco par).names.lookup par = some .local
  p4 : (sco par).names.lookup ("super" : Str) = some .globalImplicit
  p5 : (sco par).names.lookup ("__class__" : Str) = some .free
theorem made_ok {v : Value} (T : Txt prog K mg par fl C fI) (p : Par par) (X : K.In s.heap) (G : s.heap.Ns mainGlobals mg) (B : s.heap.Ns builtinsNs mb) (hb : mb "super" = some (.type "super")) (hlim : s.heap.NoLimit) (hroom : A.depth + 1 < recursionLimit)
    (hq : ∀ h' tk e d, Made fl s.heap h' e C d v → R (.ok (.ret (.ref e))) { s with heap := h', toks := tk }) :
    codeAny (model prog w) A (.call (.ref C) ⟨[v], []⟩) R s := by
  obtain ⟨nm, q, N, bs, bm, sn, sub, ab, col, dd, k0, k1, k2, k3, k5, hC, hbm⟩ := T.cls
  obtain ⟨hp, g, dr, tk, os⟩ := s
  let hp2 := (hp.push (kdv_tup [v])).push (excO C hp.objs.size)
  have k : ∀ b o, hp.get? b = some o → hp2.get? b = some o := fun b o e => Heap.get?_push_of_some _ (Heap.get?_push_of_some _ e)
  have hget : hp2.get? (hp.objs.size + 1) = some (excO C hp.objs.size) := by
    show ((hp.push (kdv_tup [v])).push (excO C hp.objs.size)).get? (hp.objs.size + 1) = _
    heap_get
  have hsz : hp2.objs.size = hp.objs.size + 2 := by
    show ((hp.push (kdv_tup [v])).push (excO C hp.objs.size)).objs.size = _
    rw [Heap.size_push, Heap.size_push]
  have hnx : K.lookup (hp.objs.size + 1) = none := by
    cases e : K.lookup (hp.objs.size + 1) with
    | none => rfl
    | some o => exact absurd (Nat.lt_of_succ_lt (Heap.lt_size (show hp.get? _ = some o from X _ _ e))) (Nat.lt_irrefl _)
  refine call_own F.excBase_ValueError (fun Y => refsVE_contains Y bm hbm) (X _ _ hC) (looks_findIn X T.iC) (fun self => bind_fn X self T.tC) (one_le v) ?_
  refine init_ok (s := ⟨hp2, g, dr, tk, os⟩) T (X.keeps k) (G.keeps k) (B.keeps k) hb (hlim.keeps k) hget hnx (show A.depth + 1 < recursionLimit from hroom) p.p1 p.p2 p.p3 p.p4 p.p5 fun h' tk' t1 dx ⟨k', hx, dn, dne, hns⟩ => ?_
  have old : ∀ b o, hp.get? b = some o → h'.get? b = some o := fun b o e => k' b o (Nat.ne_of_lt (Nat.lt_succ_of_lt (Heap.lt_size e))) (k b o e)
  have dn' : hp2.objs.size ≤ dx := dn
  rw [hsz] at dn'
  exact ⟨rfl, hq h' tk' (hp.objs.size + 1) dx ⟨old, Nat.le_succ _, ⟨_, _, hx, rfl, rfl, rfl, rfl⟩, (by show hp.objs.size ≤ dx; omega), dne, hns⟩⟩
end
end BadX
end PySem
namespace L2
open PySem PySem.Spec PyProof.Rows
theorem relO_one {v : V} {v' : Value} (r : RelV v v') (fl f : Str) : RelO (List.lookup f [(fl, v)]) (if f = fl then some v' else none) := by
  by_cases hw : f = fl
  · subst hw
    rw [if_pos rfl]
    have q : List.lookup f [(f, v)] = some v := by simp [List.lookup]
    rw [q]
    exact r
  · rw [if_neg hw]
    have qw : (f == fl) = false := by simpa using hw
    have q2 : List.lookup f [(fl, v)] = none := by simp [List.lookup, qw]
    rw [q2]
    trivial
section
variable {X : Cx} {C fI : Addr}
/-- Cls(e), an own error with the one field fl -/
def tMkB (fl : Str) (C : Addr) (ta : TA) : St → Hp → XK → Prop := fun σ H Q => ta σ H fun vs H1 => ∃ v, vs = [v] ∧ ∀ d, H1 d = none → Q (.ref C) (some d) (upd H1 d (.xd [(fl, v)]))
theorem pmk_bad {x par fl : Str} {a : Expr} {ta : TA} {p pos : Pos} {k : Nat} (T : PySem.BadX.Txt X.prog X.K X.mg par fl C fI) (pr : PySem.BadX.Par par) (hm : X.mg x = some (.ref C)) (hr : Room k X.A) (ha : PA X [a] ta) (hg : Gl X x)
    (hdb : (x == ("__debug__" : Str)) = false := by decide)
    (he : starEach (a :: []) X.env = (false, eval a X.env) :: starEach [] X.env := by rfl) (hpl : (backTo pos (starEach [] X.env)).any (·.1) = false := by rfl) :
    PMk X (.Call (.Name x p) [a] [] pos) (tMkB fl C ta) := by
  intro pins s σ H Q I h
  refine wpAny_Call_Name_kw (ld_glob I hg hm ?_ hdb)
  refine PySem.W.callWith_K (h₀ := X.base) I.ok.mod.kin T.kC (thn (ha.run pos pins s σ H _ I h) fun us s1 hh => ?_) he hpl
  obtain ⟨vs, H1, I1, r1, v, ev, q1⟩ := hh
  subst ev
  refine ⟨I1.kIn, ?_⟩
  cases r1 with
  | cons rv rn =>
    rename_i v' us'
    cases rn
    show wpAny _ _ (call (.ref C) [v']) _ _ _
    have hlim := I1.nolimit
    obtain ⟨mb, hb1, hb2⟩ := I1.mod.blt
    have Gn : s1.heap.Ns mainGlobals X.mg := I1.mod.glob.keeps I1.bk
    have Bn : s1.heap.Ns builtinsNs mb := hb1.keeps I1.bk
    have hbs : mb "super" = some (.type "super") := (hb2 _ (by decide +kernel)).trans (by first | boot_by_name | rfl | kernel_rfl)
    obtain ⟨hp, g, dr, tk, os⟩ := s1
    refine wpAny_call (PySem.BadX.made_ok T pr I1.kIn Gn Bn hbs hlim (by have := hr.dp; omega) fun h' tk' e d M => ?_)
    show MkP X pins σ Q (.ref e) ⟨h', g, dr, tk', os⟩
    obtain ⟨oe, fv, hoe, hc, hd, hdat, h1⟩ := M.obj
    have hns := M.ns
    obtain ⟨G', g1, g2⟩ := restrict h' fun b => decide (b ≠ e)
    have gk : ∀ b, b ≠ e → G'.get? b = h'.get? b := fun b hb => g1 b (decide_eq_true hb)
    have ge : G'.get? e = none := g2 e (by simp)
    have old : ∀ b o, hp.get? b = some o → G'.get? b = some o := fun b o q => (gk b (Nat.ne_of_lt (Nat.lt_of_lt_of_le (Heap.lt_size q) M.new))).trans (M.keep b o q)
    have ob : ObjOk X.prog X.w (upd H1 d (.xd [(fl, v)])) G' d (.xd [(fl, v)]) :=
      ⟨_, hns.at (fun o q => (gk d M.dne).trans q), fun f => relO_one rv fl f⟩
    have J : Inv X pins σ (upd H1 d (.xd [(fl, v)])) ⟨G', g, dr, tk', os⟩ := I1.laid (t' := tk') old M.dbig ob
    refine ⟨e, oe, fv, ⟨G', g, dr, tk', os⟩, _, .ref C, some d, rfl, J, fun b o q => ?_, ge, hoe, ⟨hc, hd⟩, hdat, h1, ?_, rfl, I1.bare, raises_own T.exC T.tyC, q1 d (I1.hok.fresh M.dbig)⟩
    · by_cases hb : b = e
      · have q' : G'.get? b = some o := q
        rw [hb, ge] at q'; cases q'
      · exact (gk b hb).symm.trans q
    · rw [upd_ne (Ne.symm M.dne)]
      exact I1.hok.fresh M.new
/-- raise Cls(e) -/
def tRaiseB (fl : Str) (C : Addr) (W : WX) (ta : TA) : TS := fun _ σ H => tMkB fl C ta σ H fun cls d H' => W cls d σ H'
theorem ps_raiseB {x par fl : Str} {a : Expr} {ta : TA} {W : WX} {p pos pos2 : Pos} {k : Nat} (hc : X.calm = true) (T : PySem.BadX.Txt X.prog X.K X.mg par fl C fI) (pr : PySem.BadX.Par par) (hm : X.mg x = some (.ref C)) (hr : Room k X.A) (tk : Takes X W) (ha : PA X [a] ta) (hg : Gl X x)
    (hdb : (x == ("__debug__" : Str)) = false := by decide)
    (he : starEach (a :: []) X.env = (false, eval a X.env) :: starEach [] X.env := by rfl) (hpl : (backTo pos (starEach [] X.env)).any (·.1) = false := by rfl) :
    PS X (.Raise (some (.Call (.Name x p) [a] [] pos)) none pos2) (tRaiseB fl C W ta) := ps_raise hc tk (pmk_bad T pr hm hr ha hg hdb he hpl)
end
end L2

set_option Elab.async false
set_option linter.all false
set_option maxRecDepth 100000
set_option maxHeartbeats 4000000
namespace Ash
open PySem PySem.Spec PyProof.Rows L2
abbrev topS (i : Nat) : Stmt := PySem.Challenge.pw_asofhall_k85_whole_journals_cut_and_join.main.body.getD i (.Pass ⟨0, 0, 0, 0⟩)
/-- a def of the top by its name, with its promise -/
structure Cal (P : Program) (w : World) (K : PySem.W.Frag) (mg : Str → Option Value) (base : Heap) (CX : CXT) (x : Str) (k : Nat) (ps : List Str) (sp : Sp) : Prop where
  ex : ∃ f fd, mg x = some (.ref f) ∧ PySem.W.keepIn K (.ref f) = true ∧ Binds K fd ps [] ∧ FnOk P w K mg base CX k f fd ps sp
section
variable {X : Cx} {CX : CXT} {k j : Nat} {ps : List Str} {sp : Sp} {E : XK} {x : Str} {p pos : Pos} {e : Expr} {es : List Expr} {t : TA}
theorem pe_cal (G : Cal X.prog X.w X.K X.mg X.base CX x k ps sp) (hr : Room k X.A) (hx : Passes CX X E) (ha : PA X (e :: es) t) (hg : Gl X x := by rfl)
    (hdb : (x == ("__debug__" : Str)) = false := by decide) (he : starEach (e :: es) X.env = (false, eval e X.env) :: starEach es X.env := by rfl) (hpl : (backTo pos (starEach es X.env)).any (·.1) = false := by rfl) :
    PE X (.Call (.Name x p) (e :: es) [] pos) (tCall sp [] E t) := by
  obtain ⟨f, fd, hm, hk, hb, F⟩ := G.ex
  exact pe_call F hr hg hm hk hb .nil hx ha hdb he hpl
theorem pe_calS {E : L2.St → XK} (G : Cal X.prog X.w X.K X.mg X.base CX x k ps sp) (hr : Room k X.A) (hx : ∀ σ, PassesAt CX X σ (E σ)) (ha : PA X (e :: es) t) (hg : Gl X x := by rfl)
    (hdb : (x == ("__debug__" : Str)) = false := by decide) (he : starEach (e :: es) X.env = (false, eval e X.env) :: starEach es X.env := by rfl) (hpl : (backTo pos (starEach es X.env)).any (·.1) = false := by rfl) :
    PE X (.Call (.Name x p) (e :: es) [] pos) (tCallSD sp [] E t) := by
  obtain ⟨f, fd, hm, hk, hb, F⟩ := G.ex
  exact pe_callSD F hr hg hm hk hb .nil hx ha hdb he hpl
/-- a class by its name, with its __init__'s promise -/
structure Mak (P : Program) (w : World) (K : PySem.W.Frag) (mg : Str → Option Value) (base : Heap) (CX : CXT) (x : Str) (C : Addr) (k : Nat) (ps : List Str) (sp : Sp) : Prop where
  ex : ∃ f fd, Mk K C f ∧ mg x = some (.ref C) ∧ Binds K fd ps [] ∧ FnOk P w K mg base CX k f fd ps sp
theorem pe_mak {C : Addr} (G : Mak X.prog X.w X.K X.mg X.base CX x C k ps sp) (hr : Room (k + 1) X.A) (hx : Passes CX X E) (ha : PA X (e :: es) t) (hg : Gl X x := by rfl)
    (hdb : (x == ("__debug__" : Str)) = false := by decide) (he : starEach (e :: es) X.env = (false, eval e X.env) :: starEach es X.env := by rfl) (hpl : (backTo pos (starEach es X.env)).any (·.1) = false := by rfl) :
    PE X (.Call (.Name x p) (e :: es) [] pos) (tMake C sp [] E t) := by
  obtain ⟨f, fd, M, hm, hb, F⟩ := G.ex
  exact pe_make M F hr hg hm hb .nil hx ha hdb he hpl
/-- int(n) of an int -/
theorem call_intI : CallR X (.type "int") (fun xs H Q => ∃ i, xs = [.int i] ∧ Q (.int i) H) := by
  intro pins s σ H xs us Q I r h
  exact call_int1 pins s σ H xs us Q I r (.inl h)
end
/-- what is wanted of an exception at any slots of the def -/
def WEl (X : Cx) (W : WX) : XK := fun cls d H => ∀ σ : L2.St, σ.length = X.N.length → W cls d σ H
theorem passW {X : Cx} {W : WX} (tk : Takes X W) : Passes (L2.CX X.prog X.w) X (WEl X W) := fun _ σ _ _ e s' I c => tk e s' (XE.of_call I (fun cls d H' h => h σ I.len) c)
theorem passE {X : Cx} {E : XK} (tk : Takes X (fun cls d _ H => E cls d H)) : Passes (L2.CX X.prog X.w) X E := passes_call tk fun _ _ _ _ h => h
/-- a method of a class, with its promise -/
structure Met (P : Program) (w : World) (K : PySem.W.Frag) (mg : Str → Option Value) (base : Heap) (CX : CXT) (C : Addr) (m : Str) (k : Nat) (ps : List Str) (sp : Sp) : Prop where
  ex : ∃ f fd, Meth K C m f ∧ Binds K fd ps [] ∧ FnOk P w K mg base CX k f fd ps sp
/-- a dict comprehension over a walk: as lc_it -/
theorem dc_it {J : It} {n : Nat} {W0 : Hp → Prop} {Y : Nat → Hp → V → Hp → Prop} (wk : Walk J n W0 Y) {g : TG} {tt : TT} {tk tv : TE} {vs : List Nat} {σ : L2.St} {H1 : Hp} {D : Addr} {Qd : Hp → Prop} (Pv : Nat → Hp → Prop) (h0 : Pv 0 (upd H1 D (.dK []))) (hG : ∀ i H, i ≤ n → Pv i H → W0 H)
    (hs : ∀ i x H H', i < n → Pv i H → Y i H x H' → g x (wipe σ vs) H' fun σ2 H2 => wipe σ2 vs = wipe σ vs ∧ tt σ2 H2 fun b H3 =>
      if b = true then tk σ2 H3 fun y H4 => tv σ2 H4 fun z H5 => ∃ kvs k, y = kV k ∧ H5 D = some (.dK kvs) ∧ kvs.length < sizeLine ∧ Pv (i + 1) (upd H5 D (.dK (putK kvs k z))) else Pv (i + 1) H3) (hd : ∀ H, Pv n H → Qd H) :
    ∃ W : Nat → Nat → Hp → Prop, (∃ m, W 0 m (upd H1 D (.dK []))) ∧ ∀ i m H, W i m H →
      (J.stop i H ∧ Qd H) ∨ (J.go i H ∧ ∃ Nx : Hp → Prop, (∀ H', Nx H' → ∃ m', m' < m ∧ W (i + 1) m' H') ∧ ∀ x H', J.yld i H x H' → g x (wipe σ vs) H' fun σ2 H2 => wipe σ2 vs = wipe σ vs ∧ tt σ2 H2 fun b H3 =>
        if b = true then tk σ2 H3 fun y H4 => tv σ2 H4 fun z H5 => ∃ kvs k, y = kV k ∧ H5 D = some (.dK kvs) ∧ kvs.length < sizeLine ∧ Nx (upd H5 D (.dK (putK kvs k z))) else Nx H3) := by
  refine ⟨fun i m H => (m + i = n) ∧ Pv i H, ⟨n, rfl, h0⟩, ?_⟩
  rintro i m H ⟨hm, pv⟩
  by_cases c : i < n
  · refine .inr ⟨wk.goes i H c (hG i H (by omega) pv), Pv (i + 1), fun H' pv' => ⟨m - 1, by omega, by omega, pv'⟩, fun x H' y => ?_⟩
    exact hs i x H H' c pv (wk.yields i H x H' c (hG i H (by omega) pv) y)
  · have : i = n := by omega
    subst this
    exact .inl ⟨wk.stops H (hG _ H (Nat.le_refl _) pv), hd H pv⟩
/-- the built-in names that the top leaves alone -/
structure Blt (mg : Str → Option Value) : Prop where
  len : mg "len" = none
  int : mg "int" = none
  bool : mg "bool" = none
  str : mg "str" = none
  list : mg "list" = none
  tuple : mg "tuple" = none
  dict : mg "dict" = none
  isinstance : mg "isinstance" = none
  all : mg "all" = none
  range : mg "range" = none
  enumerate : mg "enumerate" = none
  sorted : mg "sorted" = none
  min : mg "min" = none
  max : mg "max" = none
  set : mg "set" = none
/-- data without depth -/
def flatD : PyData → Bool
  | .none => true
  | .bool _ => true
  | .int _ => true
  | .str x => PyData.strOk x
  | _ => false
theorem flat_lay : ∀ {ds : List PyData}, ds.all flatD = true → PyData.canLayAll0 ds = true ∧ PyData.depthAll ds ≤ 1
  | [], _ => by simp [PyData.canLayAll0, PyData.depthAll]
  | d :: ds, h => by
    rw [List.all_cons, Bool.and_eq_true] at h
    obtain ⟨h1, h2⟩ := flat_lay h.2
    cases d with
    | none => simp [PyData.canLayAll0, PyData.depthAll, PyData.canLay0, PyData.depth, h1, h2]
    | bool b => simp [PyData.canLayAll0, PyData.depthAll, PyData.canLay0, PyData.depth, h1, h2]
    | int b => simp [PyData.canLayAll0, PyData.depthAll, PyData.canLay0, PyData.depth, h1, h2]
    | str b =>
      have hb : PyData.strOk b = true := h.1
      simp [PyData.canLayAll0, PyData.depthAll, PyData.canLay0, PyData.depth, h1, h2, hb]
    | _ => exact absurd h.1 (by simp [flatD])
theorem shaped_flat {ds : List PyData} (h : ds.all flatD = true) : SeqAt.shaped (.tuple ds) = true := by
  obtain ⟨h1, h2⟩ := flat_lay h
  unfold SeqAt.shaped
  simp [PyData.canLay0, PyData.depth, h1]
  omega
/-- all but p stands -/
def But (p : Addr) (H H' : Hp) : Prop := ∀ b o, H b = some o → b ≠ p → H' b = some o
theorem But.refl (p : Addr) (H : Hp) : But p H H := fun _ _ h _ => h
theorem But.trans {p : Addr} {H H1 H2 : Hp} (a : But p H H1) (b : But p H1 H2) : But p H H2 := fun c o h n => b c o (a c o h n) n
theorem But.upd {p : Addr} {H H' : Hp} {o : HO} (a : But p H H') : But p H (L2.upd H' p o) := fun c u h n => by rw [upd_ne n]; exact a c u h n
theorem But.new {p q : Addr} {H H' : Hp} {o : HO} (a : But p H H') (h : H' q = none) (hp : H q = none ∨ q ≠ p := by first | exact .inl ‹_› | exact .inr ‹_›) : But p H (L2.upd H' q o) := fun c u hc n => by
  rw [upd_ne]
  · exact a c u hc n
  · intro z
    subst z
    rw [a c u hc n] at h
    cases h
theorem But.at {p q : Addr} {H H' : Hp} {o : HO} (a : But p H H') (h : H q = none) : But p H (L2.upd H' q o) := fun c u hc n => by
  rw [upd_ne (ne_of_none hc h)]
  exact a c u hc n
theorem sameAt {q : Addr} {H H' : Hp} {o : HO} (a : Same H H') (h : H q = none) : Same H (L2.upd H' q o) := fun c u hc => by
  rw [upd_ne (ne_of_none hc h)]
  exact a c u hc
theorem But.same {p : Addr} {H H' : Hp} (a : Same H H') : But p H H' := fun c o h _ => a c o h
theorem Same.new {q : Addr} {H H' : Hp} {o : HO} (a : Same H H') (h : H' q = none) : Same H (upd H' q o) := fun c u hc => by
  rw [upd_ne (ne_of_none (a c u hc) h)]
  exact a c u hc
theorem But.seq {K : PySem.W.Frag} {p a : Addr} {H H' : Hp} {xs : List V} (e : But p H H') (hn : ∀ o, H p = some o → ∀ ys, o ≠ .lst ys → True) (h : H a = some (.lst xs)) (n : a ≠ p) : SqL K H' a xs := .of (e _ _ h n)
end Ash

set_option Elab.async false
set_option linter.all false
set_option maxRecDepth 100000
set_option maxHeartbeats 4000000
namespace Ash
open PySem PySem.Spec PyProof.Rows L2
open C8 (pss_cut)
/-- the pool of drawn numbers at p, the script's copy at s -/
def PoolAt (H : Hp) (p s : Addr) : Prop := ∃ (ns : List Int) (i c k n : Int), H p = some (.lst [.ref s, .int i, .int c, .int k, .int n]) ∧ H s = some (.lst (ns.map V.int)) ∧ 0 ≤ i ∧ s ≠ p
theorem PoolAt.same {H H' : Hp} {p s : Addr} (h : PoolAt H p s) (e : Same H H') : PoolAt H' p s := by
  obtain ⟨ns, i, c, k, n, h1, h2, h3, h4⟩ := h
  exact ⟨ns, i, c, k, n, e _ _ h1, e _ _ h2, h3, h4⟩
theorem PoolAt.off {H : Hp} {p s q : Addr} {o : HO} (h : PoolAt H p s) (hp : q ≠ p) (hs : q ≠ s) : PoolAt (L2.upd H q o) p s := by
  obtain ⟨ns, i, c, k, n, h1, h2, h3, h4⟩ := h
  exact ⟨ns, i, c, k, n, by rw [upd_ne hp.symm]; exact h1, by rw [upd_ne hs.symm]; exact h2, h3, h4⟩
/-- from H0 to H nothing that was tracked has changed but the pool -/
structure Pl (H0 H : Hp) (p s : Addr) : Prop where
  now : PoolAt H p s
  op : H0 p ≠ none
  os : H0 s ≠ none
  but : But p H0 H
section
variable {H0 H H1 : Hp} {p s q : Addr} {o : HO}
theorem PoolAt.ne (h : PoolAt H p s) : H p ≠ none ∧ H s ≠ none := by
  obtain ⟨ns, i, c, k, n, h1, h2, h3, h4⟩ := h
  rw [h1, h2]
  exact ⟨Option.some_ne_none _, Option.some_ne_none _⟩
theorem Pl.refl (h : PoolAt H p s) : Pl H H p s := ⟨h, h.ne.1, h.ne.2, But.refl p H⟩
theorem Pl.at (h : Pl H0 H p s) (hq : H0 q = none) : Pl H0 (L2.upd H q o) p s :=
  ⟨h.now.off (fun z => h.op (z ▸ hq)) (fun z => h.os (z ▸ hq)), h.op, h.os, h.but.at hq⟩
theorem Pl.keep (h : Pl H0 H p s) {b : Addr} {u : HO} (e : H0 b = some u) (n : b ≠ p) : H b = some u := h.but b u e n
theorem Pl.free (h : Pl H0 H p s) (hq : H q = none) : H0 q = none := by
  cases e : H0 q with
  | none => rfl
  | some u =>
    by_cases hp : q = p
    · exact absurd (hp ▸ hq) h.now.ne.1
    · rw [h.but q u e hp] at hq
      cases hq
theorem Pl.trans (a : Pl H0 H p s) (b : Pl H H1 p s) : Pl H0 H1 p s := ⟨b.now, a.op, a.os, a.but.trans b.but⟩
/-- a new thing -/
theorem Pl.new (h : Pl H0 H p s) (hq : H q = none) : Pl H0 (L2.upd H q o) p s := h.at (h.free hq)
theorem Pl.same (h : Pl H0 H p s) (e : Same H H1) : Pl H0 H1 p s := ⟨h.now.same e, h.op, h.os, fun b u hb n => e b u (h.but b u hb n)⟩
end
def spPool (K : PySem.W.Frag) : Sp := fun vs H Q _ => ∃ (a : Addr) (ns : List Int), vs = [.ref a] ∧ SqL K H a (ns.map V.int) ∧ ∀ p s H', H p = none → PoolAt H' p s → Same H H' → Q (.ref p) H'
def spDraw : Sp := fun vs H Q _ => ∃ (p s : Addr) (many : Int), vs = [.ref p, .int many] ∧ PoolAt H p s ∧ 0 < many ∧ many < 2 ^ 200 ∧ ∀ (d : Int) H', 0 ≤ d → d < many → Pl H H' p s → Q (.int d) H'
section
variable {P : Program} {w : World} {K : PySem.W.Frag} {mg : Str → Option Value} {base : Heap}
abbrev s_l_pool : Stmt := topS 37
theorem sc_l_pool : FnScope ["script"] ["script"] (defScope s_l_pool) := ⟨rfl, rfl, rfl, by decide +kernel, rfl, by decide +kernel, by decide +kernel⟩
theorem ok_pool {f : Addr} {fd : FuncData} (F : Fun K "_law_pool" "_law_pool" s_l_pool f fd) (B : Blt mg) : FnOk P w K mg base CX0 1 f fd ["script"] (spPool K) := by
  refine F.ok sc_l_pool (fun vs H Q E h => ?_) (fun cdv A outer s H vs Q E hr h => ?_)
  · obtain ⟨a, ns, rfl, _⟩ := h
    rfl
  · obtain ⟨a, ns, rfl, hS, k⟩ := h
    refine ⟨_, (pss_one (ps_ret (pe_lst (pa_cons (pe_callTy call_list_of (by rfl) B.list (by decide +kernel) (pa_cons (pv 0) pa_nil)) (pa_cons pe_int (pa_cons pe_int (pa_cons pe_int (pa_cons pe_int pa_nil)))))))), ?_⟩
    refine ⟨_, rfl, _, _, rfl, .inl hS, fun l hl => ⟨(by show 5 ≤ sizeLine; decide), fun p hp => ?_⟩⟩
    have hpl : l ≠ p := fun z => by rw [z, upd_same] at hp; cases hp
    have hp0 : H p = none := by rw [upd_ne (Ne.symm hpl)] at hp; exact hp
    refine k p l _ hp0 ⟨ns, _, _, _, _, upd_same, (by rw [upd_ne hpl, upd_same]), (by decide), hpl⟩ ?_
    exact Same.new (Same.new (Same.refl H) hl) hp
abbrev s_l_draw : Stmt := topS 38
theorem sc_l_draw : FnScope ["pool", "many", "cell", "digit", "number"] ["pool", "many"] (defScope s_l_draw) := ⟨rfl, rfl, rfl, by decide +kernel, rfl, by decide +kernel, by decide +kernel⟩
theorem ok_draw {f : Addr} {fd : FuncData} (F : Fun K "_law_draw" "_law_draw" s_l_draw f fd) (B : Blt mg) : FnOk P w K mg base CX0 1 f fd ["pool", "many"] spDraw := by
  refine F.ok sc_l_draw (fun vs H Q E h => ?_) (fun cdv A outer s H vs Q E hr h => ?_)
  · obtain ⟨p, _, many, rfl, _⟩ := h
    rfl
  · obtain ⟨p, s, many, rfl, hPP, hm, hm2, kk⟩ := h
    obtain ⟨ns, i, c, k, n, hp, hs, hi, hsp⟩ := id hPP
    refine ⟨_, (pss_cons (ps_asg (pe_op op_add (pe_ix ix_list (pv 0) pe_int (fun _ _ => rfl)) pe_int) (pg_sub (pv 0) pe_int set_list))
    (pss_cut (ps_if (PW.pt (pw_and (pt_cmpR op_eq (pe_ix ix_list (pv 0) pe_int (fun _ _ => rfl)) pe_int (nomark _)) (pw_and1 (pt_cmpR op_lt (pe_ix ix_list (pv 0) pe_int (fun _ _ => rfl)) (pe_callB call_len_seq (by rfl) B.len (by decide +kernel) (pa_cons (pe_ix ix_list (pv 0) pe_int (fun _ _ => rfl)) pa_nil)) (nomark _)))))
      (pss_cons (ps_set (i := 2) sc_l_draw.nd rfl (Or.inl rfl) (pe_callTy call_intI (by rfl) B.int (by decide +kernel) (pa_cons (pe_ix ix_list (pe_ix ix_list (pv 0) pe_int (fun _ _ => rfl)) (pe_ix ix_list (pv 0) pe_int (fun _ _ => rfl)) (fun _ _ => rfl)) pa_nil)))
      (pss_cons (ps_asg (pe_op op_add (pe_ix ix_list (pv 0) pe_int (fun _ _ => rfl)) pe_int) (pg_sub (pv 0) pe_int set_list))
      (pss_one (ps_if (pt_cmpR op_ge (pv 2) (pe_op op_pow pe_int pe_int) (nomark _))
        (pss_one (ps_asg (pv 2) (pg_sub (pv 0) pe_int set_list)))
        (pss_one (ps_asg (pe_op op_mod (pe_callTy call_intI (by rfl) B.int (by decide +kernel) (pa_cons (pe_op op_add (pe_op op_add (pe_op op_mul (pe_ix ix_list (pv 0) pe_int (fun _ _ => rfl)) pe_int) (pe_op op_mul (pv 2) pe_int)) pe_int) pa_nil)) pe_int) (pg_sub (pv 0) pe_int set_list)))))))
      pss_nil)
    (pss_cons (ps_if (pt_cmpR op_gt (pe_ix ix_list (pv 0) pe_int (fun _ _ => rfl)) pe_int (nomark _))
      (pss_cons (ps_set (i := 3) sc_l_draw.nd rfl (Or.inl rfl) (pe_op op_mod (pe_callTy call_intI (by rfl) B.int (by decide +kernel) (pa_cons (pe_ix ix_list (pv 0) pe_int (fun _ _ => rfl)) pa_nil)) (pv 1)))
      (pss_cons (ps_asg (pe_op op_fdivW (pe_callTy call_intI (by rfl) B.int (by decide +kernel) (pa_cons (pe_ix ix_list (pv 0) pe_int (fun _ _ => rfl)) pa_nil)) (pv 1)) (pg_sub (pv 0) pe_int set_list))
      (pss_one (ps_ret (pv 3)))))
      pss_nil)
    (pss_cons (ps_set (i := 4) sc_l_draw.nd rfl (Or.inl rfl) (pe_op op_mod (pe_callTy call_intI (by rfl) B.int (by decide +kernel) (pa_cons (pe_op op_add (pe_op op_add (pe_ix ix_list (pv 0) pe_int (fun _ _ => rfl)) (pe_op op_mul (pe_ix ix_list (pv 0) pe_int (fun _ _ => rfl)) pe_int)) pe_int) pa_nil)) pe_int))
    (pss_cons (ps_set (i := 4) sc_l_draw.nd rfl (Or.inl rfl) (pe_op op_mod (pe_callTy call_intI (by rfl) B.int (by decide +kernel) (pa_cons (pe_op op_mul (pv 4) (pe_op op_add (pe_op op_fdiv (pv 4) pe_int) pe_int)) pa_nil)) pe_int))
    (pss_cons (ps_set (i := 4) sc_l_draw.nd rfl (Or.inl rfl) (pe_op op_mod (pe_callTy call_intI (by rfl) B.int (by decide +kernel) (pa_cons (pe_op op_mul (pv 4) (pe_op op_add (pe_op op_fdiv (pv 4) pe_int) pe_int)) pa_nil)) pe_int))
    (pss_cons (ps_asg (pv 4) (pg_sub (pv 0) pe_int set_list))
    (pss_one (ps_ret (pe_op op_mod (pe_callTy call_intI (by rfl) B.int (by decide +kernel) (pa_cons (pe_op op_fdiv (pv 4) pe_int) pa_nil)) (pv 1))))))))))), ?_⟩
    -- pool[3] = pool[3] + 1
    refine ⟨_, rfl, _, _, _, _, rfl, rfl, SqL.of hp, rfl, _, _, rfl, rfl, _, rfl, _, _, _, _, rfl, rfl, hp, rfl, ?_⟩
    -- the first if
    refine ⟨fun σ H1 => (∃ cell, σ = [some (.ref p), some (.int many), cell, none, none]) ∧ ∃ (i c k n : Int), H1 p = some (.lst [.ref s, .int i, .int c, .int k, .int n]) ∧ H1 s = some (.lst (ns.map V.int)) ∧ 0 ≤ i ∧ But p H H1, ?_, ?_⟩
    · generalize eH : upd H p (.lst _) = H1
      have hp1 : H1 p = some (.lst [.ref s, .int i, .int c, .int (k + 1), .int n]) := by rw [← eH]; exact upd_same
      have hs1 : H1 s = some (.lst (ns.map V.int)) := by rw [← eH, upd_ne hsp]; exact hs
      have hb1 : But p H H1 := by rw [← eH]; exact (But.refl p H).upd
      clear eH
      refine ⟨_, rfl, _, _, _, _, rfl, rfl, SqL.of hp1, rfl, rfl, _, rfl, ?_⟩
      refine ite2 (fun c2 => ?_) (fun c2 => ?_)
      · refine ⟨_, rfl, _, _, _, _, rfl, rfl, SqL.of hp1, rfl, _, rfl, _, _, _, _, rfl, rfl, SqL.of hp1, rfl, _, _, rfl, .inl (SqL.of hs1), _, _, rfl, rfl, _, rfl, ?_⟩
        refine ite2 (fun c3 => ?_) (fun c3 => ?_)
        · have c3' : i < (ns.map V.int).length := of_decide_eq_true c3
          obtain ⟨j, rfl⟩ : ∃ j : Nat, i = (j : Int) := ⟨i.toNat, by omega⟩
          have hj : j < ns.length := by rw [List.length_map] at c3'; omega
          -- cell = int(pool[0][pool[1]])
          refine ⟨_, rfl, _, _, _, _, rfl, rfl, SqL.of hp1, rfl, _, rfl, _, _, _, _, rfl, rfl, SqL.of hp1, rfl, _, _, _, V.int ns[j], rfl, rfl, SqL.of hs1, atI_nat (by rw [List.getElem?_map, List.getElem?_eq_getElem hj]; rfl), _, rfl, ?_⟩
          refine ⟨_, rfl, _, _, _, _, rfl, rfl, SqL.of hp1, rfl, _, _, rfl, rfl, _, rfl, _, _, _, _, rfl, rfl, hp1, rfl, ?_⟩
          refine ⟨_, rfl, _, _, rfl, rfl, ⟨by decide, by decide, by decide⟩, _, _, rfl, rfl, _, rfl, ?_⟩
          refine ite2 (fun c4 => ?_) (fun c4 => ?_)
          · refine ⟨_, rfl, _, rfl, _, _, _, _, rfl, rfl, upd_same, rfl, ⟨_, rfl⟩, _, _, _, _, upd_same, (by rw [upd_ne hsp, upd_ne hsp]; exact hs1), (by omega), hb1.upd.upd⟩
          · refine ⟨_, rfl, _, _, _, _, rfl, rfl, SqL.of upd_same, rfl, _, _, rfl, rfl, .inr ⟨by decide, by decide⟩, _, rfl, _, _, rfl, rfl, .inr ⟨by decide, by decide⟩, _, _, rfl, rfl, _, _, rfl, rfl, _, rfl, _, _, rfl, rfl, (by show (0 : Int) < 2147483647; decide), _, rfl, _, _, _, _, rfl, rfl, upd_same, rfl, ⟨_, rfl⟩, _, _, _, _, upd_same, (by rw [upd_ne hsp, upd_ne hsp]; exact hs1), (by omega), hb1.upd.upd⟩
        · exact ⟨⟨_, rfl⟩, _, _, _, _, hp1, hs1, hi, hb1⟩
      · exact ⟨⟨_, rfl⟩, _, _, _, _, hp1, hs1, hi, hb1⟩
    · rintro σ' H1 ⟨⟨cell, rfl⟩, i, c, k, n, hp1, hs1, hi, hb1⟩
      refine ⟨_, rfl, _, _, _, _, rfl, rfl, SqL.of hp1, rfl, _, _, rfl, rfl, _, rfl, ?_⟩
      refine ite2 (fun c2 => ?_) (fun c2 => ?_)
      · refine ⟨_, rfl, _, _, _, _, rfl, rfl, SqL.of hp1, rfl, _, rfl, _, rfl, _, _, rfl, rfl, hm, _, rfl, _, _, _, _, rfl, rfl, SqL.of hp1, rfl, _, rfl, _, rfl, _, _, rfl, rfl, wide_div (b := 200) hm (by omega) (by decide) (by decide), _, rfl, _, _, _, _, rfl, rfl, hp1, rfl, _, rfl, ?_⟩
        refine kk _ _ (Int.emod_nonneg _ (by omega)) (Int.emod_lt_of_pos _ hm) ⟨⟨ns, _, _, _, _, upd_same, (by rw [upd_ne hsp]; exact hs1), hi, hsp⟩, hPP.ne.1, hPP.ne.2, hb1.upd⟩
      · refine ⟨_, rfl, _, _, _, _, rfl, rfl, SqL.of hp1, rfl, _, rfl, _, _, _, _, rfl, rfl, SqL.of hp1, rfl, _, _, rfl, rfl, .inr ⟨by decide, by decide⟩, _, _, rfl, rfl, _, _, rfl, rfl, _, rfl, _, _, rfl, rfl, (by show (0 : Int) < 2147483647; decide), ?_⟩
        generalize ea : (n + k * 104729 + 1) % 2147483647 = a
        have a0 : 0 ≤ a := by rw [← ea]; exact Int.emod_nonneg _ (by decide)
        have a1 : a < 2147483647 := by rw [← ea]; exact Int.emod_lt_of_pos _ (by decide)
        refine ⟨_, rfl, _, rfl, _, _, rfl, rfl, ⟨by decide, by decide⟩, _, _, rfl, rfl, _, _, rfl, rfl, .inl ⟨by omega, by omega⟩, _, rfl, _, _, rfl, rfl, (by show (0 : Int) < 2147483647; decide), ?_⟩
        generalize eb : a * (a / 1009 + 69621) % 2147483647 = b
        have b0 : 0 ≤ b := by rw [← eb]; exact Int.emod_nonneg _ (by decide)
        have b1 : b < 2147483647 := by rw [← eb]; exact Int.emod_lt_of_pos _ (by decide)
        refine ⟨_, rfl, _, rfl, _, _, rfl, rfl, ⟨by decide, by decide⟩, _, _, rfl, rfl, _, _, rfl, rfl, .inl ⟨by omega, by omega⟩, _, rfl, _, _, rfl, rfl, (by show (0 : Int) < 2147483399; decide), ?_⟩
        refine ⟨_, rfl, _, rfl, _, _, _, _, rfl, rfl, hp1, rfl, _, rfl, _, _, rfl, rfl, ⟨by decide, by decide⟩, _, rfl, _, rfl, _, _, rfl, rfl, hm, ?_⟩
        refine kk _ _ (Int.emod_nonneg _ (by omega)) (Int.emod_lt_of_pos _ hm) ⟨⟨ns, _, _, _, _, upd_same, (by rw [upd_ne hsp]; exact hs1), hi, hsp⟩, hPP.ne.1, hPP.ne.2, hb1.upd⟩
end
end Ash

set_option Elab.async false
set_option linter.all false
set_option maxRecDepth 100000
set_option maxHeartbeats 4000000
namespace Ash
open PySem PySem.Spec PyProof.Rows L2
open C8 (pss_cut)
/-! ### names -/
def LET : List Nat := [97, 98, 99, 100, 101, 102, 103, 104, 105, 106, 107, 108, 109, 110, 111, 112, 113, 114, 115, 116, 117, 118, 119, 120, 121, 122]
abbrev abc : Str := "abcdefghijklmnopqrstuvwxyz"
theorem abc_let : abc.cps.toList = LET := by decide +kernel
theorem abc_size : abc.cps.size = 26 := by decide +kernel
/-- a name: 1 to 8 letters -/
def IsNm (z : Str) : Prop := 1 ≤ z.length ∧ z.length ≤ 8 ∧ ∀ c ∈ z.cps.toList, c ∈ LET
theorem let_small : ∀ c ∈ LET, c < 0x110000 := by decide
theorem nm_ok {z : Str} (h : IsNm z) : PyData.strOk z = true := by
  unfold PyData.strOk
  rw [← Array.all_toList, List.all_eq_true]
  exact fun c hc => decide_eq_true (let_small c (h.2.2 c hc))
theorem append_length (a b : Str) : (a ++ b).length = a.length + b.length := by
  show (a.cps ++ b.cps).size = a.cps.size + b.cps.size
  rw [Array.size_append]
theorem append_list (a b : Str) : (a ++ b).cps.toList = a.cps.toList ++ b.cps.toList := by
  show (a.cps ++ b.cps).toList = _
  rw [Array.toList_append]
theorem one_nm {c : Nat} (h : c ∈ LET) : IsNm ⟨#[c]⟩ := ⟨Nat.le_refl 1, (by show 1 ≤ 8; decide), fun d hd => by
  have e : d = c := by simpa using hd
  rw [e]
  exact h⟩
theorem inV_str {z : Str} : ∀ {l : List Str}, inV (.str z) (l.map V.str) = decide (z ∈ l)
  | [] => by simp [inV]
  | a :: l => by
    have ih := inV_str (z := z) (l := l)
    unfold inV at ih ⊢
    rw [List.map_cons, List.any_cons, ih]
    show ((a == z) || decide (z ∈ l)) = decide (z ∈ a :: l)
    by_cases h : a = z
    · subst h
      simp
    · have h' : ¬ z = a := fun q => h q.symm
      by_cases h2 : z ∈ l <;> simp [h, h', h2]
theorem flat_strs (l : List Str) : (l.map V.str).all flatV = true := by
  induction l with
  | nil => rfl
  | cons a l ih =>
    rw [List.map_cons, List.all_cons, ih]
    rfl
theorem sub_len {α : Type} [DecidableEq α] : ∀ {l m : List α}, l.Nodup → (∀ x ∈ l, x ∈ m) → l.length ≤ m.length
  | [], m, _, _ => Nat.zero_le _
  | a :: l, m, hn, h => by
    obtain ⟨h1, h2⟩ := List.nodup_cons.mp hn
    have ha : a ∈ m := h a List.mem_cons_self
    have ih := sub_len (l := l) (m := m.erase a) h2 fun x hx => (List.mem_erase_of_ne (fun z => h1 (by rw [← z]; exact hx))).mpr (h x (List.mem_cons_of_mem _ hx))
    rw [List.length_erase_of_mem ha] at ih
    have : 0 < m.length := List.length_pos_of_mem ha
    rw [List.length_cons]
    omega
theorem atI_natC {α : Type} {xs : List α} {j : Nat} (h : j < xs.length) : atI xs (j : Int) = some xs[j] := by
  unfold atI ixN
  rw [if_pos (by omega), if_pos (by omega), Option.bind_some, Int.toNat_natCast]
  exact List.getElem?_eq_getElem h
theorem let_strs : (LET.map fun c => (⟨#[c]⟩ : Str)).Nodup := by decide +kernel
theorem not_all {l : List Str} (hl : l.length ≤ 25) (h : ∀ c ∈ LET, (⟨#[c]⟩ : Str) ∈ l) : False := by
  have := sub_len let_strs (m := l) fun x hx => by
    obtain ⟨c, hc, rfl⟩ := List.mem_map.mp hx
    exact h c hc
  have e : (LET.map fun c => (⟨#[c]⟩ : Str)).length = 26 := by decide +kernel
  omega
def spNames : Sp := fun vs H Q _ => ∃ (p s : Addr) (many : Int), vs = [.ref p, .int many] ∧ PoolAt H p s ∧ 0 ≤ many ∧ many ≤ 25 ∧
  ∀ (q : Addr) (l : List Str) H', H q = none → H' q = some (.lst (l.map V.str)) → l.length = many.toNat → l.Nodup → (∀ z ∈ l, IsNm z) → Pl H H' p s → Q (.ref q) H'
section
variable {P : Program} {w : World} {K : PySem.W.Frag} {mg : Str → Option Value} {base : Heap}
abbrev CDraw (P : Program) (w : World) (K : PySem.W.Frag) (mg : Str → Option Value) (base : Heap) : Prop := Cal P w K mg base CX0 "_law_draw" 1 ["pool", "many"] spDraw
structure G1 (P : Program) (w : World) (K : PySem.W.Frag) (mg : Str → Option Value) (base : Heap) : Prop where
  law_draw : CDraw P w K mg base
abbrev s_l_names : Stmt := topS 39
theorem sc_l_names : FnScope ["pool", "many", "letters", "names", "k", "length", "name", "at", "letter"] ["pool", "many"] (defScope s_l_names) := ⟨rfl, rfl, rfl, by decide +kernel, rfl, by decide +kernel, by decide +kernel⟩
theorem ok_names {f : Addr} {fd : FuncData} (F : Fun K "_law_names" "_law_names" s_l_names f fd) (B : Blt mg) (G : G1 P w K mg base) : FnOk P w K mg base CX0 2 f fd ["pool", "many"] spNames := by
  refine F.ok sc_l_names (fun vs H Q E h => ?_) (fun cdv A outer s H vs Q E hr h => ?_)
  · obtain ⟨p, _, many, rfl, _⟩ := h
    rfl
  · obtain ⟨p, s0, many, rfl, hP, hm, hm2, kk⟩ := h
    refine ⟨_, (pss_cons (ps_set (i := 2) sc_l_names.nd rfl (Or.inl rfl) pe_str)
    (pss_cons (ps_set (i := 3) sc_l_names.nd rfl (Or.inl rfl) (pe_lst pa_nil))
    (pss_cons (ps_for PassesOwn.never rfl (pi_range1 (by rfl) B.range (pa_cons (pv 1) pa_nil)) (pg_name (i := 4) sc_l_names.nd rfl (Or.inl rfl))
      (pss_cons (ps_set (i := 5) sc_l_names.nd rfl (Or.inl rfl) pe_int)
      (pss_cut (ps_if (pt_cmpR op_eq (pe_cal G.law_draw (hr.mono (by decide)) pass0 (pa_cons (pv 0) (pa_cons pe_int pa_nil))) pe_int (nomark _))
        (pss_one (ps_set (i := 5) sc_l_names.nd rfl (Or.inl rfl) (pe_op op_add pe_int (pe_cal G.law_draw (hr.mono (by decide)) pass0 (pa_cons (pv 0) (pa_cons pe_int pa_nil))))))
        pss_nil)
      (pss_cons (ps_set (i := 6) sc_l_names.nd rfl (Or.inl rfl) pe_str)
      (pss_cut (ps_for PassesOwn.never rfl (pi_range1 (by rfl) B.range (pa_cons (pv 5) pa_nil)) (pg_name (i := 7) sc_l_names.nd rfl (Or.inl rfl))
        (pss_one (ps_set (i := 6) sc_l_names.nd rfl (Or.inl rfl) (pe_op op_add_str (pv 6) (pe_ix ix_str (pv 2) (pe_cal G.law_draw (hr.mono (by decide)) pass0 (pa_cons (pv 0) (pa_cons pe_int pa_nil))) (fun _ _ => rfl))))))
      (pss_cut (ps_for PassesOwn.never rfl (pi_str (pv 2)) (pg_name (i := 8) sc_l_names.nd rfl (Or.inl rfl))
        (pss_one (ps_if (PW.pt (pw_and (pt_cmpR op_in_seq (pv 6) (pv 3) rfl) (pw_and1 (pt_cmpR op_notIn_seq (pv 8) (pv 3) rfl))))
          (pss_one (ps_set (i := 6) sc_l_names.nd rfl (Or.inl rfl) (pv 8)))
          pss_nil)))
      (pss_one (ps_expr (pe_bm PySem.F.plainAttrs_list PySem.F.slot_list_append PySem.F.type_list_append mt_append (pv 3) (pa_cons (pv 6) pa_nil))))))))))
    (pss_one (ps_ret (pv 3)))))), ?_⟩
    refine ⟨(by show 0 ≤ sizeLine; decide), fun q hq => ?_⟩
    have hr1 : Room 1 _ := hr.mono (by decide)
    refine ⟨_, rfl, _, rfl, (by omega), (by omega), for_range (n := many.toNat) (fun i σ H1 => (∃ a b c d e, σ = [some (.ref p), some (.int many), some (.str abc), some (.ref q), a, b, c, d, e]) ∧ ∃ l : List Str, H1 q = some (.lst (l.map V.str)) ∧ l.length = i ∧ l.Nodup ∧ (∀ z ∈ l, IsNm z) ∧ Pl H H1 p s0) ?_ ?_ ?_⟩
    · exact ⟨⟨_, _, _, _, _, rfl⟩, [], upd_same, rfl, List.nodup_nil, (fun z hz => nomatch hz), (Pl.refl hP).at hq⟩
    · rintro i σ H1 hi ⟨⟨a, b, c, d, e, rfl⟩, l, hl, hlen, hnd, hnm, PL⟩
      have hqp : q ≠ p := fun z => hP.ne.1 (z ▸ hq)
      -- length
      refine ⟨fun σ H2 => (∃ k len c d e, σ = [some (.ref p), some (.int many), some (.str abc), some (.ref q), k, some (.int len), c, d, e] ∧ 1 ≤ len ∧ len ≤ 8) ∧ Pl H1 H2 p s0, ?_, ?_⟩
      · refine ⟨_, rfl, p, s0, 3, rfl, PL.now, (by decide), (by decide), fun x H2 h0 h3 P2 => ⟨rfl, _, rfl, ?_⟩⟩
        refine ite2 (fun c2 => ?_) (fun c2 => ?_)
        · refine ⟨_, rfl, p, s0, 8, rfl, P2.now, (by decide), (by decide), fun y H3 y0 y8 P3 => ?_⟩
          exact ⟨_, _, rfl, rfl, ⟨_, _, _, _, _, rfl, by omega, by omega⟩, P2.trans P3⟩
        · exact ⟨⟨_, _, _, _, _, rfl, by omega, by omega⟩, P2⟩
      rintro σ H2 ⟨⟨k, len, c, d, e, rfl, hlo, hhi⟩, P2⟩
      -- name
      refine ⟨fun σ H3 => (∃ k len nm d e, σ = [some (.ref p), some (.int many), some (.str abc), some (.ref q), k, len, some (.str nm), d, e] ∧ IsNm nm) ∧ Pl H1 H3 p s0, ?_, ?_⟩
      · refine ⟨_, rfl, _, rfl, (by omega), (by omega), for_range (n := len.toNat) (fun j σ H3 => (∃ d nm, σ = [some (.ref p), some (.int many), some (.str abc), some (.ref q), k, some (.int len), some (.str nm), d, e] ∧ nm.length = j ∧ ∀ c ∈ nm.cps.toList, c ∈ LET) ∧ Pl H1 H3 p s0) ?_ ?_ ?_⟩
        · exact ⟨⟨_, _, rfl, rfl, fun c hc => by cases hc⟩, P2⟩
        · rintro j σ H3 hj ⟨⟨d, nm, rfl, hnl, hnc⟩, P3⟩
          refine ⟨_, rfl, _, rfl, _, rfl, p, s0, 26, rfl, P3.now, (by decide), (by decide), fun x H4 x0 x26 P4 => ?_⟩
          obtain ⟨g, rfl⟩ : ∃ g : Nat, x = (g : Int) := ⟨x.toNat, by omega⟩
          have hg : g < LET.length := by show g < 26; omega
          refine ⟨_, _, LET[g], rfl, rfl, (by show abc.cps.size ≤ sizeLine; rw [abc_size]; decide), (by rw [abc_let]; exact atI_natC hg), _, _, rfl, rfl, ?_, ?_⟩
          · show nm.length + 1 ≤ sizeLine
            rw [sizeLine_eq]
            omega
          · refine ⟨⟨_, _, rfl, ?_, ?_⟩, P3.trans P4⟩
            · rw [append_length, hnl]
              rfl
            · intro c hc
              rw [append_list] at hc
              rcases List.mem_append.mp hc with hc | hc
              · exact hnc c hc
              · have e : c = LET[g] := by simpa using hc
                rw [e]
                exact List.getElem_mem hg
        · rintro σ H3 ⟨⟨d, nm, rfl, hnl, hnc⟩, P3⟩
          exact ⟨⟨_, _, _, _, _, rfl, by omega, by omega, hnc⟩, P3⟩
      rintro σ H3 ⟨⟨k, len, nm, d, e, rfl, hN⟩, P3⟩
      -- another name
      have hq3 : H3 q = some (.lst (l.map V.str)) := P3.keep hl hqp
      refine ⟨fun σ H4 => (∃ k len nm d e, σ = [some (.ref p), some (.int many), some (.str abc), some (.ref q), k, len, some (.str nm), d, e] ∧ IsNm nm ∧ nm ∉ l) ∧ H4 = H3, ?_, ?_⟩
      · refine ⟨_, rfl, _, rfl, for_it (walk_str (z := abc)) (fun j σ H4 => (∃ nm e, σ = [some (.ref p), some (.int many), some (.str abc), some (.ref q), k, len, some (.str nm), d, e] ∧ IsNm nm ∧ (nm ∈ l → ∀ (i : Nat) (x : Nat), i < j → LET[i]? = some x → (⟨#[x]⟩ : Str) ∈ l)) ∧ H4 = H3) ?_ (fun _ _ _ _ _ => trivial) ?_ ?_⟩
        · exact ⟨⟨_, _, rfl, hN, fun _ i x hi => by omega⟩, rfl⟩
        · rintro j x σ H4 H5 hj ⟨⟨nm, e, rfl, hN, hall⟩, rfl⟩ ⟨rfl, c, hc, rfl⟩
          have hc' : LET[j]? = some c := by
            rw [← abc_let, Array.getElem?_toList]
            exact hc
          have hcm : c ∈ LET := List.mem_of_getElem? hc'
          refine ⟨_, rfl, _, rfl, _, _, rfl, .inl (SqL.of hq3), rfl, flat_strs l, _, rfl, ?_⟩
          rw [if_neg (by decide), inV_str]
          refine ite2 (fun c2 => ?_) (fun c2 => ?_)
          · have c2 : nm ∈ l := of_decide_eq_true c2
            refine ⟨_, rfl, _, rfl, _, _, rfl, .inl (SqL.of hq3), rfl, flat_strs l, _, rfl, ?_⟩
            rw [if_pos rfl, inV_str]
            refine ite2 (fun c3 => ?_) (fun c3 => ?_)
            · have c3 : ¬ (⟨#[c]⟩ : Str) ∈ l := by simpa using c3
              exact ⟨_, rfl, ⟨_, _, rfl, one_nm hcm, fun z => absurd z c3⟩, rfl⟩
            · have c3 : (⟨#[c]⟩ : Str) ∈ l := by simpa using c3
              refine ⟨⟨_, _, rfl, hN, fun _ i x hi hx => ?_⟩, rfl⟩
              by_cases hij : i < j
              · exact hall c2 i x hij hx
              · have : i = j := by omega
                subst this
                rw [hc'] at hx
                cases hx
                exact c3
          · have c2 : ¬ nm ∈ l := by simpa using c2
            exact ⟨⟨_, _, rfl, hN, fun z => absurd z c2⟩, rfl⟩
        · rintro σ H4 ⟨⟨nm, e, rfl, hN, hall⟩, rfl⟩
          refine ⟨⟨_, _, _, _, _, rfl, hN, fun z => ?_⟩, rfl⟩
          refine not_all (l := l) (by omega) fun c hc => ?_
          obtain ⟨i, hi, e2⟩ := List.getElem_of_mem hc
          exact hall z i c (by rw [abc_size]; exact hi) (by rw [List.getElem?_eq_getElem hi, e2])
      rintro σ H4 ⟨⟨k, len, nm, d, e, rfl, hN, hnl⟩, rfl⟩
      refine ⟨_, rfl, .inl ⟨rfl, _, SqL.of hq3⟩, _, rfl, q, _, _, rfl, rfl, hq3, (by rw [List.length_map]; exact small1000 (by omega)), ?_⟩
      refine ⟨⟨_, _, _, _, _, rfl⟩, l ++ [nm], ?_, ?_, nd_snoc hnd hnl, ?_, (PL.trans P3).at hq⟩
      · rw [upd_same, List.map_append]
        rfl
      · rw [List.length_append, hlen]
        rfl
      · intro z hz
        rcases List.mem_append.mp hz with hz | hz
        · exact hnm z hz
        · rw [List.mem_singleton.mp hz]
          exact hN
    · rintro σ H1 ⟨⟨a, b, c, d, e, rfl⟩, l, hl, hlen, hnd, hnm, PL⟩
      exact ⟨_, rfl, kk q l H1 hq hl hlen hnd hnm PL⟩
end
end Ash

set_option Elab.async false
set_option linter.all false
set_option maxRecDepth 100000
set_option maxHeartbeats 4000000
namespace Ash
open PySem PySem.Spec PyProof.Rows L2
open C8 (pss_cut)
/-- a book's lates as a dict's pairs -/
def LK (L : List (Str × Int)) : List (Key × V) := L.map fun x => (Sum.inr x.1, V.int x.2)
structure Lates (L : List (Str × Int)) : Prop where
  some_ : 1 ≤ L.length
  few : L.length ≤ 8
  nd : (L.map (·.1)).Nodup
  nm : ∀ x ∈ L, IsNm x.1
  lo : ∀ x ∈ L, 0 ≤ x.2
  hi : ∀ x ∈ L, x.2 ≤ 1000000
theorem LK_len (L : List (Str × Int)) : (LK L).length = L.length := List.length_map _
theorem LK_val : ∀ (L : List (Str × Int)) (z : Str), valV (LK L) (Sum.inr z : Key) = (L.lookup z).map V.int
  | [], z => rfl
  | a :: L, z => by
    have ih := LK_val L z
    by_cases h : a.1 = z
    · have h' : (z == a.1) = true := by simpa using h.symm
      show valV ((Sum.inr a.1, V.int a.2) :: LK L) (Sum.inr z : Key) = _
      rw [valV_pos (by rw [h])]
      obtain ⟨a1, a2⟩ := a
      simp only [List.lookup, h', Option.map_some]
    · have h' : (z == a.1) = false := by simpa using fun q => h q.symm
      show valV ((Sum.inr a.1, V.int a.2) :: LK L) (Sum.inr z : Key) = _
      rw [valV_neg (fun q => h (Sum.inr.inj q)), ih]
      obtain ⟨a1, a2⟩ := a
      simp only [List.lookup, h']
theorem lookup_none : ∀ {L : List (Str × Int)} {z : Str}, z ∉ L.map (·.1) → L.lookup z = none
  | [], _, _ => rfl
  | (a1, a2) :: L, z, h => by
    have h1 : ¬ z = a1 := fun q => h (by rw [q]; exact List.mem_cons_self)
    have h' : (z == a1) = false := by simpa using h1
    simp only [List.lookup, h']
    exact lookup_none fun q => h (List.mem_cons_of_mem _ q)
section
variable {P : Program} {w : World} {K : PySem.W.Frag} {mg : Str → Option Value} {base : Heap}
structure G2 (P : Program) (w : World) (K : PySem.W.Frag) (mg : Str → Option Value) (base : Heap) : Prop extends G1 P w K mg base where
  law_names : Cal P w K mg base CX0 "_law_names" 2 ["pool", "many"] spNames
end
end Ash

set_option Elab.async false
set_option linter.all false
set_option maxRecDepth 100000
set_option maxHeartbeats 4000000
namespace Ash
open PySem PySem.Spec PyProof.Rows L2
open C8 (pss_cut)
/-! ### kinds of values -/
def NotInt (K : PySem.W.Frag) (H : Hp) (v : V) : Prop := ∃ t bi bb, TyX K H v t ∧ PySem.W.kitOne K t (.type "int") = some bi ∧ PySem.W.kitOne K t (.type "bool") = some bb ∧ (bi && !bb) = false
def NotStr (K : PySem.W.Frag) (H : Hp) (v : V) : Prop := ∃ t, TyX K H v t ∧ PySem.W.kitOne K t (.type "str") = some false
def NotTup (K : PySem.W.Frag) (H : Hp) (v : V) : Prop := ∃ t, TyX K H v t ∧ PySem.W.kitOne K t (.type "tuple") = some false
def spIsInt (K : PySem.W.Frag) : Sp := fun vs H Q _ => ∃ v, vs = [v] ∧ ((∃ n, v = .int n ∧ Q (.bl true) H) ∨ (NotInt K H v ∧ Q (.bl false) H))
def spIsNat (K : PySem.W.Frag) : Sp := fun vs H Q _ => ∃ v, vs = [v] ∧ ((∃ n, v = .int n ∧ Q (.bl (decide (0 ≤ n))) H) ∨ (NotInt K H v ∧ Q (.bl false) H))
/-- the test of names -/
def nmB (z : Str) : Bool := decide (1 ≤ z.length ∧ z.length ≤ 8) && z.cps.toList.all fun c => decide (c ∈ LET)
theorem nmB_iff (z : Str) : nmB z = true ↔ IsNm z := by
  unfold nmB IsNm
  simp only [Bool.and_eq_true, decide_eq_true_eq, List.all_eq_true]
  exact ⟨fun ⟨⟨a, b⟩, c⟩ => ⟨a, b, c⟩, fun ⟨a, b, c⟩ => ⟨⟨a, b⟩, c⟩⟩
def spIsName (K : PySem.W.Frag) : Sp := fun vs H Q _ => ∃ v, vs = [v] ∧ ((∃ z, v = .str z ∧ z.length ≤ sizeLine ∧ ∀ H', Same H H' → Q (.bl (nmB z)) H') ∨ (NotStr K H v ∧ Q (.bl false) H))
def spAreInts (K : PySem.W.Frag) : Sp := fun vs H Q _ => ∃ (a : Addr) (ns : List Int), vs = [.ref a] ∧ SqT K H a (ns.map V.int) ∧ ns.length ≤ 100 ∧ ∀ H', Same H H' → Q (.bl true) H'
def spIsLate (K : PySem.W.Frag) : Sp := fun vs H Q _ => ∃ n : Int, vs = [.int n] ∧ Q (.bl (decide (0 ≤ n ∧ n ≤ 1000000))) H
def spIsLates (K : PySem.W.Frag) : Sp := fun vs H Q _ => ∃ (d : Addr) (L : List (Str × Int)), vs = [.ref d] ∧ H d = some (.dK (LK L)) ∧ Lates L ∧ ∀ H', Same H H' → Q (.bl true) H'
theorem list_take {α : Type} {l : List α} {i : Nat} {x : α} (h : l[i]? = some x) : l.take (i + 1) = l.take i ++ [x] := by
  rw [List.take_add_one, h]
  rfl
theorem list_lit (l : List Nat) : ∀ i x, l[i]? = some x → l.take (i + 1) = l.take i ++ [x] := fun i x h => by
  rw [List.take_add_one, h]
  rfl
structure Cst (mg : Str → Option Value) : Prop where
  k_LETTERS : ∃ t, mg "LETTERS" = some (.str abc t)
  k_LONGEST_NAME : ∃ t, mg "LONGEST_NAME" = some (.int 8 t)
  k_MOST_STREAMS : ∃ t, mg "MOST_STREAMS" = some (.int 8 t)
  k_MOST_LATE : ∃ t, mg "MOST_LATE" = some (.int 1000000 t)
  k_MOST_ENTRIES : ∃ t, mg "MOST_ENTRIES" = some (.int 400 t)
section
variable {P : Program} {w : World} {K : PySem.W.Frag} {mg : Str → Option Value} {base : Heap}
structure K1 (P : Program) (w : World) (K : PySem.W.Frag) (mg : Str → Option Value) (base : Heap) : Prop where
  is_integer : Cal P w K mg base CX0 "is_integer" 1 ["thing"] (spIsInt K)
abbrev s_is_integer : Stmt := topS 10
theorem sc_is_integer : FnScope ["thing"] ["thing"] (defScope s_is_integer) := ⟨rfl, rfl, rfl, by decide +kernel, rfl, by decide +kernel, by decide +kernel⟩
theorem ok_is_integer {f : Addr} {fd : FuncData} (F : Fun K "is_integer" "is_integer" s_is_integer f fd) (B : Blt mg) : FnOk P w K mg base CX0 1 f fd ["thing"] (spIsInt K) := by
  refine F.ok sc_is_integer (fun vs H Q E h => ?_) (fun cdv A outer s H vs Q E hr h => ?_)
  · obtain ⟨v, rfl, _⟩ := h
    rfl
  · obtain ⟨v, rfl, hv⟩ := h
    refine ⟨_, (pss_one (ps_ret (pe_and (pe_callB call_isi (by rfl) B.isinstance (by decide +kernel) (pa_cons (pv 0) (pa_cons (pe_bltn (v := .ty "int") (by rfl) B.int (by decide +kernel) rfl) pa_nil))) (pe_one (pe_not (pe_callB call_isi (by rfl) B.isinstance (by decide +kernel) (pa_cons (pv 0) (pa_cons (pe_bltn (v := .ty "bool") (by rfl) B.bool (by decide +kernel) rfl) pa_nil)))))))), ?_⟩
    rcases hv with ⟨n, rfl, q⟩ | ⟨⟨t, bi, bb, ty, e1, e2, e3⟩, q⟩
    · refine ⟨_, rfl, _, _, _, _, true, rfl, ClsV.ty _, .base (.int n), kit_ty (by decide +kernel), _, rfl, iteT ?_⟩
      refine ⟨_, rfl, _, _, _, _, false, rfl, ClsV.ty _, .base (.int n), kit_ty (by decide +kernel), _, rfl, q⟩
    · refine ⟨_, rfl, _, _, _, _, bi, rfl, ClsV.ty _, ty, e1, _, rfl, ?_⟩
      cases bi with
      | false => exact iteF q
      | true =>
        refine iteT ⟨_, rfl, _, _, _, _, bb, rfl, ClsV.ty _, ty, e2, _, rfl, ?_⟩
        have e3 : (!bb) = false := e3
        rw [e3]
        exact q
abbrev s_is_natural : Stmt := topS 11
theorem sc_is_natural : FnScope ["thing"] ["thing"] (defScope s_is_natural) := ⟨rfl, rfl, rfl, by decide +kernel, rfl, by decide +kernel, by decide +kernel⟩
theorem ok_is_natural {f : Addr} {fd : FuncData} (F : Fun K "is_natural" "is_natural" s_is_natural f fd) (B : Blt mg) (G : K1 P w K mg base) : FnOk P w K mg base CX0 2 f fd ["thing"] (spIsNat K) := by
  refine F.ok sc_is_natural (fun vs H Q E h => ?_) (fun cdv A outer s H vs Q E hr h => ?_)
  · obtain ⟨v, rfl, _⟩ := h
    rfl
  · obtain ⟨v, rfl, hv⟩ := h
    refine ⟨_, (pss_one (ps_ret (pe_and (pe_cal G.is_integer (hr.mono (by decide)) pass0 (pa_cons (pv 0) pa_nil)) (pe_one (pe_cmpR op_ge (pv 0) pe_int (nomark _)))))), ?_⟩
    rcases hv with ⟨n, rfl, q⟩ | ⟨ni, q⟩
    · exact ⟨_, rfl, _, rfl, .inl ⟨n, rfl, _, rfl, iteT ⟨_, rfl, _, _, rfl, rfl, q⟩⟩⟩
    · exact ⟨_, rfl, _, rfl, .inr ⟨ni, _, rfl, iteF q⟩⟩
abbrev s_is_name : Stmt := topS 12
theorem sc_is_name : FnScope ["thing", "letter"] ["thing"] (defScope s_is_name) := ⟨rfl, rfl, rfl, by decide +kernel, rfl, by decide +kernel, by decide +kernel⟩
theorem ok_is_name {f : Addr} {fd : FuncData} (F : Fun K "is_name" "is_name" s_is_name f fd) (B : Blt mg) (Cs : Cst mg) : FnOk P w K mg base CX0 1 f fd ["thing"] (spIsName K) := by
  obtain ⟨t1, g_LETTERS⟩ := Cs.k_LETTERS
  obtain ⟨t2, g_LONGEST_NAME⟩ := Cs.k_LONGEST_NAME
  refine F.ok sc_is_name (fun vs H Q E h => ?_) (fun cdv A outer s H vs Q E hr h => ?_)
  · obtain ⟨v, rfl, _⟩ := h
    rfl
  · obtain ⟨v, rfl, hv⟩ := h
    refine ⟨_, (pss_cons (ps_if (PW.pt (pw_or (pt_not (pt_val (pe_callB call_isi (by rfl) B.isinstance (by decide +kernel) (pa_cons (pv 0) (pa_cons (pe_bltn (v := .ty "str") (by rfl) B.str (by decide +kernel) rfl) pa_nil))))) (pw_or1 (pt_not (pt_chain op_le op_le pe_int (pe_callB call_len_str (by rfl) B.len (by decide +kernel) (pa_cons (pv 0) pa_nil)) (pe_glob (v := .int 8) (by rfl) g_LONGEST_NAME ⟨_, rfl⟩))))))
      (pss_one (ps_ret pe_bl))
      pss_nil)
    (pss_one (ps_ret (pe_callB (cr_all rfl) (by rfl) B.all (by decide +kernel) (pa_cons (pe_lc (own := [("letter", 1)]) (g := gName 1) (tt := tYes) (by rfl) sc_is_name.nd (pi_str (pv 0)) (blkOk_by (own := [("letter", 1)]) (N := ["thing", "letter"]) (sc := defScope s_is_name) (by decide +kernel)) (fun _ _ _ _ _ => (pg_name (i := 1) sc_is_name.nd rfl (Or.inl rfl))) (fun _ _ _ _ _ => pts_nil) (fun _ _ _ _ _ => (pe_cmpR op_in_sign (pv 1) (pe_glob (v := .str "abcdefghijklmnopqrstuvwxyz") (by rfl) g_LETTERS ⟨_, rfl⟩) rfl))) pa_nil))))), ?_⟩
    rcases hv with ⟨z, rfl, hz, q⟩ | ⟨⟨t, ty, e1⟩, q⟩
    · refine ⟨_, rfl, _, _, _, _, true, rfl, ClsV.ty _, .base (.str z), kit_ty (by decide +kernel), _, rfl, iteF ?_⟩
      refine ⟨_, rfl, _, rfl, hz, _, _, rfl, rfl, _, rfl, ?_⟩
      refine ite2 (fun c1 => ?_) (fun c1 => ?_)
      · have c1 : (1 : Int) ≤ z.length := of_decide_eq_true c1
        refine ⟨_, _, rfl, rfl, _, rfl, ?_⟩
        by_cases c8 : (z.length : Int) ≤ 8
        · refine iteNS c8 ?_
          refine ⟨_, rfl, z, rfl, fun D hD => lc_it (walk_str (z := z)) (fun i H1 => H1 D = some (.lst (((z.cps.toList.take i).map fun c => decide (c ∈ LET)).map V.bl)) ∧ Same H H1) ⟨upd_same, sameAt (Same.refl H) hD⟩ (fun _ _ _ _ => trivial) ?_ ?_⟩
          · rintro i x H1 H2 hi ⟨hD1, hs⟩ ⟨rfl, c, hc, rfl⟩
            have hc' : z.cps.toList[i]? = some c := by rw [Array.getElem?_toList]; exact hc
            have hlen : (z.cps.toList.take i).length ≤ 8 := by
              have : i < z.length := hi
              rw [List.length_take]
              omega
            refine ⟨rfl, _, rfl, c, abc, rfl, rfl, _, hD1, (by rw [List.length_map, List.length_map]; exact small1000 (by omega)), ?_, sameAt hs hD⟩
            rw [upd_same, list_lit _ _ _ hc', abc_let, List.map_append, List.map_append]
            rfl
          · rintro H1 ⟨hD1, hs⟩
            have e : z.cps.toList.take z.cps.size = z.cps.toList := by rw [← Array.length_toList, List.take_length]
            rw [e] at hD1
            refine ⟨D, _, rfl, SqL.of hD1, ?_⟩
            have e2 : ((z.cps.toList.map fun c => decide (c ∈ LET)).all id) = nmB z := by
              unfold nmB
              rw [decide_eq_true (show 1 ≤ z.length ∧ z.length ≤ 8 by omega), Bool.true_and, List.all_map]
              rfl
            rw [e2]
            exact q _ hs
        · rw [decide_eq_false c8]
          refine iteT ?_
          have e2 : nmB z = false := by
            unfold nmB
            rw [decide_eq_false (show ¬ (1 ≤ z.length ∧ z.length ≤ 8) by omega), Bool.false_and]
          have := q H (Same.refl H)
          rw [e2] at this
          exact this
      · have c1 : ¬ (1 : Int) ≤ z.length := by simpa using c1
        refine ⟨_, rfl, iteT ?_⟩
        have e2 : nmB z = false := by
          unfold nmB
          rw [decide_eq_false (show ¬ (1 ≤ z.length ∧ z.length ≤ 8) by omega), Bool.false_and]
        have := q H (Same.refl H)
        rw [e2] at this
        exact this
    · refine ⟨_, rfl, _, _, _, _, false, rfl, ClsV.ty _, ty, e1, _, rfl, iteT q⟩
structure K2 (P : Program) (w : World) (K : PySem.W.Frag) (mg : Str → Option Value) (base : Heap) : Prop extends K1 P w K mg base where
  is_natural : Cal P w K mg base CX0 "is_natural" 2 ["thing"] (spIsNat K)
  is_name : Cal P w K mg base CX0 "is_name" 1 ["thing"] (spIsName K)
abbrev s_are_integers : Stmt := topS 14
theorem sc_are_integers : FnScope ["things", "thing"] ["things"] (defScope s_are_integers) := ⟨rfl, rfl, rfl, by decide +kernel, rfl, by decide +kernel, by decide +kernel⟩
theorem ok_are_integers {f : Addr} {fd : FuncData} (F : Fun K "are_integers" "are_integers" s_are_integers f fd) (B : Blt mg) (G : K2 P w K mg base) : FnOk P w K mg base CX0 2 f fd ["things"] (spAreInts K) := by
  refine F.ok sc_are_integers (fun vs H Q E h => ?_) (fun cdv A outer s H vs Q E hr h => ?_)
  · obtain ⟨a, ns, rfl, _⟩ := h
    rfl
  · obtain ⟨a, ns, rfl, hS, hn, q⟩ := h
    refine ⟨_, (pss_one (ps_ret (pe_callB (cr_all rfl) (by rfl) B.all (by decide +kernel) (pa_cons (pe_lc (own := [("thing", 1)]) (g := gName 1) (tt := tYes) (by rfl) sc_are_integers.nd (pi_tup (pv 0)) (blkOk_by (own := [("thing", 1)]) (N := ["things", "thing"]) (sc := defScope s_are_integers) (by decide +kernel)) (fun _ _ _ _ _ => (pg_name (i := 1) sc_are_integers.nd rfl (Or.inl rfl))) (fun _ _ _ _ _ => pts_nil) (fun _ _ _ _ _ => (pe_cal G.is_integer (hr.mono (by decide)) pass0 (pa_cons (pv 1) pa_nil)))) pa_nil)))), ?_⟩
    refine ⟨_, rfl, a, rfl, ⟨_, hS⟩, fun D hD => lc_it (walk_tup (xs := ns.map V.int)) (fun i H1 => H1 D = some (.lst ((List.replicate i true).map V.bl)) ∧ Same H H1) ⟨upd_same, sameAt (Same.refl H) hD⟩ (fun i H1 _ hv => ?_) ?_ ?_⟩
    · rcases hS with (h | ⟨o, h⟩) | h
      · exact .inl (.inl (hv.2 _ _ h))
      · exact .inl (.inr ⟨o, hv.2 _ _ h⟩)
      · exact .inr h
    · rintro i x H1 H2 hi ⟨hD1, hs⟩ ⟨rfl, hx⟩
      obtain ⟨z, rfl⟩ : ∃ z, x = V.int z := by
        rw [List.getElem?_map] at hx
        cases e : ns[i]? with
        | none => rw [e] at hx; cases hx
        | some z => rw [e] at hx; exact ⟨z, (Option.some.inj hx).symm⟩
      rw [List.length_map] at hi
      refine ⟨rfl, _, rfl, _, rfl, .inl ⟨z, rfl, _, hD1, (by rw [List.length_map, List.length_replicate]; exact small1000 (by omega)), ?_, sameAt hs hD⟩⟩
      rw [upd_same, List.replicate_succ', List.map_append]
      rfl
    · rintro H1 ⟨hD1, hs⟩
      refine ⟨D, _, rfl, SqL.of hD1, ?_⟩
      rw [List.length_map] at hD1 ⊢
      have e2 : ((List.replicate ns.length true).all id) = true := by simp
      rw [e2]
      exact q _ hs
abbrev s_is_late : Stmt := topS 20
theorem sc_is_late : FnScope ["thing"] ["thing"] (defScope s_is_late) := ⟨rfl, rfl, rfl, by decide +kernel, rfl, by decide +kernel, by decide +kernel⟩
theorem ok_is_late {f : Addr} {fd : FuncData} (F : Fun K "is_late" "is_late" s_is_late f fd) (B : Blt mg) (Cs : Cst mg) (G : K2 P w K mg base) : FnOk P w K mg base CX0 2 f fd ["thing"] (spIsLate K) := by
  obtain ⟨t1, g_MOST_LATE⟩ := Cs.k_MOST_LATE
  refine F.ok sc_is_late (fun vs H Q E h => ?_) (fun cdv A outer s H vs Q E hr h => ?_)
  · obtain ⟨n, rfl, _⟩ := h
    rfl
  · obtain ⟨n, rfl, q⟩ := h
    refine ⟨_, (pss_one (ps_ret (pe_and (pe_cal G.is_integer (hr.mono (by decide)) pass0 (pa_cons (pv 0) pa_nil)) (pe_one (pe_chain op_le op_le pe_int (pv 0) (pe_glob (v := .int 1000000) (by rfl) g_MOST_LATE ⟨_, rfl⟩)))))), ?_⟩
    refine ⟨_, rfl, _, rfl, .inl ⟨n, rfl, _, rfl, iteT ⟨_, rfl, _, _, rfl, rfl, _, rfl, ?_⟩⟩⟩
    refine ite2 (fun c1 => ?_) (fun c1 => ?_)
    · have c1 : 0 ≤ n := of_decide_eq_true c1
      refine ⟨_, _, rfl, rfl, ?_⟩
      have e : decide (0 ≤ n ∧ n ≤ 1000000) = decide (n ≤ 1000000) := by simp [c1]
      rw [e] at q
      exact q
    · have c1 : ¬ 0 ≤ n := by simpa using c1
      have e : decide (0 ≤ n ∧ n ≤ 1000000) = false := by simp [c1]
      rw [e] at q
      exact q
structure K3 (P : Program) (w : World) (K : PySem.W.Frag) (mg : Str → Option Value) (base : Heap) : Prop extends K2 P w K mg base where
  are_integers : Cal P w K mg base CX0 "are_integers" 2 ["things"] (spAreInts K)
  is_late : Cal P w K mg base CX0 "is_late" 2 ["thing"] (spIsLate K)
abbrev s_is_lates : Stmt := topS 19
theorem sc_is_lates : FnScope ["thing", "stream", "late"] ["thing"] (defScope s_is_lates) := ⟨rfl, rfl, rfl, by decide +kernel, rfl, by decide +kernel, by decide +kernel⟩
theorem ok_is_lates {f : Addr} {fd : FuncData} (F : Fun K "is_lates" "is_lates" s_is_lates f fd) (B : Blt mg) (Cs : Cst mg) (G : K3 P w K mg base) : FnOk P w K mg base CX0 3 f fd ["thing"] (spIsLates K) := by
  obtain ⟨t1, g_MOST_STREAMS⟩ := Cs.k_MOST_STREAMS
  refine F.ok sc_is_lates (fun vs H Q E h => ?_) (fun cdv A outer s H vs Q E hr h => ?_)
  · obtain ⟨d, L, rfl, _⟩ := h
    rfl
  · obtain ⟨d, L, rfl, hd, LL, q⟩ := h
    refine ⟨_, (pss_cons (ps_if (PW.pt (pw_or (pt_not (pt_val (pe_callB call_isi (by rfl) B.isinstance (by decide +kernel) (pa_cons (pv 0) (pa_cons (pe_bltn (v := .ty "dict") (by rfl) B.dict (by decide +kernel) rfl) pa_nil))))) (pw_or1 (pt_not (pt_chain op_le op_le pe_int (pe_callB call_lenD (by rfl) B.len (by decide +kernel) (pa_cons (pv 0) pa_nil)) (pe_glob (v := .int 8) (by rfl) g_MOST_STREAMS ⟨_, rfl⟩))))))
      (pss_one (ps_ret pe_bl))
      pss_nil)
    (pss_one (ps_ret (pe_callB (cr_all rfl) (by rfl) B.all (by decide +kernel) (pa_cons (pe_lock (pe_lc (own := [("stream", 1), ("late", 2)]) (g := gTup K 2 (gCons (gName 1) (gCons (gName 2) gNil))) (tt := tYes) (by rfl) sc_is_lates.nd (pi_items (pv 0)) (blkOk_by (own := [("stream", 1), ("late", 2)]) (N := ["thing", "stream", "late"]) (sc := defScope s_is_lates) (by decide +kernel)) (fun _ _ _ _ _ => (pg_tup (by rfl) (pgs_cons (pg_name (i := 1) sc_is_lates.nd rfl (Or.inl rfl)) (pgs_cons (pg_name (i := 2) sc_is_lates.nd rfl (Or.inl rfl)) pgs_nil)))) (fun _ _ _ _ _ => pts_nil) (fun _ _ _ _ _ => (pe_and (pe_cal G.is_name (hr.mono (by decide)) pass0 (pa_cons (pv 1) pa_nil)) (pe_one (pe_cal G.is_late (hr.mono (by decide)) pass0 (pa_cons (pv 2) pa_nil))))))) pa_nil))))), ?_⟩
    refine ⟨_, rfl, _, _, _, _, true, rfl, ClsV.ty _, .base (.dK hd), kit_ty (by decide +kernel), _, rfl, iteF ?_⟩
    refine ⟨_, rfl, d, _, rfl, hd, _, _, rfl, rfl, _, rfl, ?_⟩
    rw [LK_len]
    have l1 := LL.some_
    have l2 := LL.few
    rw [decide_eq_true (show (1 : Int) ≤ (L.length : Int) by omega)]
    refine iteT ⟨_, _, rfl, rfl, _, rfl, iteNS (by omega) ?_⟩
    refine ⟨d, _, hd, trivial, fun od => ?_⟩
    have hDd : ∀ {D : Addr}, (upd H d (.frz od (.dK (LK L)))) D = none → D ≠ d := fun h z => by rw [z, upd_same] at h; cases h
    refine ⟨_, rfl, d, od, _, rfl, upd_same, fun D hD => lc_it (walk_items (kvs := LK L)) (fun i H1 => H1 D = some (.lst ((List.replicate i true).map V.bl)) ∧ Same (upd H d (.frz od (.dK (LK L)))) H1) ⟨upd_same, sameAt (Same.refl _) hD⟩ (fun i H1 _ hv => hv.2 _ _ upd_same) ?_ ?_⟩
    · rintro i x H1 H2 hi ⟨hD1, hs⟩ ⟨T, x1, x2, rfl, hT, rfl, h1, h2⟩
      rw [LK_len] at hi
      have hx : (LK L)[i]? = some (Sum.inr L[i].1, V.int L[i].2) := by
        unfold LK
        rw [List.getElem?_map, List.getElem?_eq_getElem hi]
        rfl
      simp only [hx, Option.map_some] at h1 h2
      cases h1
      cases h2
      have hm : L[i] ∈ L := List.getElem_mem hi
      have hDT : D ≠ T := fun z => by rw [← z, hD1] at hT; cases hT
      have nmz : nmB L[i].1 = true := (nmB_iff _).mpr (LL.nm _ hm)
      have lz : decide (0 ≤ L[i].2 ∧ L[i].2 ≤ 1000000) = true := decide_eq_true ⟨LL.lo _ hm, LL.hi _ hm⟩
      refine ⟨T, _, rfl, SqT.of upd_same, rfl, _, _, rfl, _, _, rfl, rfl, rfl, ?_⟩
      refine ⟨_, rfl, _, rfl, .inl ⟨L[i].1, rfl, (by have := (LL.nm _ hm).2.1; rw [sizeLine_eq]; omega), fun H3 s3 => ⟨_, rfl, ?_⟩⟩⟩
      rw [nmz]
      refine iteT ⟨_, rfl, L[i].2, rfl, ?_⟩
      rw [lz]
      refine ⟨_, s3 _ _ (by rw [upd_ne hDT]; exact hD1), (by rw [List.length_map, List.length_replicate]; exact small1000 (by omega)), ?_, fun b o hb => ?_⟩
      · rw [upd_same, List.replicate_succ', List.map_append]
        rfl
      · rw [upd_ne (ne_of_none hb hD)]
        refine s3 _ _ ?_
        rw [upd_ne (ne_of_none (hs _ _ hb) hT)]
        exact hs _ _ hb
    · rintro H1 ⟨hD1, hs⟩
      refine ⟨hs _ _ upd_same, D, _, rfl, SqL.of (by rw [upd_ne (hDd hD)]; exact hD1), ?_⟩
      have e2 : ((List.replicate (LK L).length true).all id) = true := by simp
      rw [e2]
      refine q _ fun b o hb => ?_
      by_cases e : b = d
      · rw [e, hd] at hb
        cases hb
        rw [e, upd_same]
      · rw [upd_ne e]
        exact hs _ _ (by rw [upd_ne e]; exact hb)
end
end Ash

set_option Elab.async false
set_option linter.all false
set_option maxRecDepth 100000
set_option maxHeartbeats 4000000
namespace Ash
open PySem PySem.Spec PyProof.Rows L2
open C8 (pss_cut)
/-! ### books -/
def BookAt (CB : Addr) (H : Hp) (b : Addr) (L : List (Str × Int)) : Prop := ∃ dx d L', H b = some (.ins CB dx [("_lates", .ref d)]) ∧ H d = some (.dK (LK L')) ∧ (∀ z, L'.lookup z = L.lookup z) ∧ (L'.map (·.1)).Nodup
theorem BookAt.same {CB : Addr} {H H' : Hp} {b : Addr} {L : List (Str × Int)} (h : BookAt CB H b L) (s : Same H H') : BookAt CB H' b L := by
  obtain ⟨dx, d, L', h1, h2, h3⟩ := h
  exact ⟨dx, d, L', s _ _ h1, s _ _ h2, h3⟩
theorem BookAt.pl {CB : Addr} {H H' : Hp} {b p s : Addr} {L : List (Str × Int)} (h : BookAt CB H b L) (P0 : PoolAt H p s) (P : Pl H H' p s) : BookAt CB H' b L := by
  obtain ⟨dx, d, L', h1, h2, h3⟩ := h
  obtain ⟨ns, i, c, k, n, hp, _⟩ := P0
  exact ⟨dx, d, L', P.keep h1 (ne_of h1 hp (by intro z; cases z)), P.keep h2 (ne_of h2 hp (by intro z; cases z)), h3⟩
theorem lookup_perm {L : List (Str × Int)} (hn : (L.map (·.1)).Nodup) {ys : List Str} (hp : ys.Perm (L.map (·.1))) (f : Str → Int) (hf : ∀ x ∈ L, f x.1 = x.2) (z : Str) : (ys.map fun y => (y, f y)).lookup z = L.lookup z := by
  by_cases hz : z ∈ L.map (·.1)
  · have hy : z ∈ ys := hp.mem_iff.mpr hz
    have a1 : ∀ (l : List Str), z ∈ l → (l.map fun y => (y, f y)).lookup z = some (f z) := fun l => by
      induction l with
      | nil => intro h; cases h
      | cons a l ih =>
        intro h
        by_cases e : z = a
        · subst e
          simp [List.lookup]
        · have h' : (z == a) = false := by simpa using e
          show List.lookup z ((a, f a) :: l.map fun y => (y, f y)) = _
          simp only [List.lookup, h']
          exact ih ((List.mem_cons.mp h).resolve_left e)
    have a2 : ∀ (l : List (Str × Int)), (∀ x ∈ l, f x.1 = x.2) → z ∈ l.map (·.1) → l.lookup z = some (f z) := fun l => by
      induction l with
      | nil => intro _ h; cases h
      | cons a l ih =>
        intro hf h
        obtain ⟨a1, a2⟩ := a
        by_cases e : z = a1
        · subst e
          have := hf _ List.mem_cons_self
          simp only [List.lookup, beq_self_eq_true]
          exact congrArg some this.symm
        · have h' : (z == a1) = false := by simpa using e
          simp only [List.lookup, h']
          exact ih (fun x hx => hf x (List.mem_cons_of_mem _ hx)) ((List.mem_cons.mp h).resolve_left e)
    rw [a1 ys hy, a2 L hf hz]
  · rw [lookup_none hz, lookup_none (L := ys.map fun y => (y, f y))]
    rw [List.map_map]
    show z ∉ ys.map fun y => y
    rw [List.map_id']
    exact fun h => hz (hp.mem_iff.mp h)
theorem lookup_mem : ∀ {L : List (Str × Int)} {x : Str × Int}, (L.map (·.1)).Nodup → x ∈ L → L.lookup x.1 = some x.2
  | [], x, _, h => nomatch h
  | (a1, a2) :: L, x, hn, h => by
    obtain ⟨h1, h2⟩ := List.nodup_cons.mp (show (a1 :: L.map (·.1)).Nodup from hn)
    rcases List.mem_cons.mp h with rfl | h
    · simp [List.lookup]
    · have e : ¬ x.1 = a1 := fun z => h1 (by rw [← z]; exact List.mem_map_of_mem h)
      have h' : (x.1 == a1) = false := by simpa using e
      simp only [List.lookup, h']
      exact lookup_mem h2 h
def spBookInit (CB : Addr) : Sp := fun vs H Q _ => ∃ (b dx d : Addr) (L : List (Str × Int)), vs = [.ref b, .ref d] ∧ H b = some (.ins CB dx []) ∧ H d = some (.dK (LK L)) ∧ Lates L ∧
  ∀ H', BookAt CB H' b L → (∀ c o, H c = some o → c ≠ b → H' c = some o) → Q .non H'
/-- has(stream) of a text -/
def spHas (CB : Addr) : Sp := fun vs H Q _ => ∃ (b : Addr) (L : List (Str × Int)) (z : Str), vs = [.ref b, .str z] ∧ BookAt CB H b L ∧ IsNm z ∧ ∀ H', Same H H' → Q (.bl (L.lookup z).isSome) H'
def spLate (CB : Addr) : Sp := fun vs H Q _ => ∃ (b : Addr) (L : List (Str × Int)) (z : Str) (n : Int), vs = [.ref b, .str z] ∧ BookAt CB H b L ∧ IsNm z ∧ L.lookup z = some n ∧ ∀ H', Same H H' → Q (.int n) H'
structure Cb (K : PySem.W.Frag) (mg : Str → Option Value) (CB : Addr) : Prop where
  cl : Cls K CB
  nL : NoAttr K CB "_lates"
  c : mg "Book" = some (.ref CB)
section
variable {P : Program} {w : World} {K : PySem.W.Frag} {mg : Str → Option Value} {base : Heap}
structure K4 (P : Program) (w : World) (K : PySem.W.Frag) (mg : Str → Option Value) (base : Heap) : Prop extends K3 P w K mg base where
  is_lates : Cal P w K mg base CX0 "is_lates" 3 ["thing"] (spIsLates K)
abbrev s_Book_init : Stmt := inClass (topS 18) 0
theorem sc_Book_init : FnScope ["self", "lates", "stream"] ["self", "lates"] (defScope s_Book_init) := ⟨rfl, rfl, rfl, by decide +kernel, rfl, by decide +kernel, by decide +kernel⟩
theorem ok_book_init {f CB : Addr} {fd : FuncData} (F : Fun K "__init__" "Book.__init__" s_Book_init f fd) (B : Blt mg) (T : Cb K mg CB) (G : K4 P w K mg base) : FnOk P w K mg base CX0 4 f fd ["self", "lates"] (spBookInit CB) := by
  refine F.ok sc_Book_init (fun vs H Q E h => ?_) (fun cdv A outer s H vs Q E hr h => ?_)
  · obtain ⟨b, dx, d, L, rfl, _⟩ := h
    rfl
  · obtain ⟨b, dx, d, L, rfl, hb, hd, LL, q⟩ := h
    have hu := hu_of hr
    refine ⟨_, (pss_cons (ps_if (pt_not (pt_val (pe_cal G.is_lates (hr.mono (by decide)) pass0 (pa_cons (pv 1) pa_nil))))
      (pss_one ps_never)
      pss_nil)
    (pss_one (ps_fld (pv 0) (pe_dc (own := [("stream", 2)]) (g := gName 2) (tt := tYes) (by rfl) sc_Book_init.nd (pi_list (pe_callB cr_sortedS (by rfl) B.sorted (by decide +kernel) (pa_cons (pe_callTy (call_listD (by rfl)) (by rfl) B.list (by decide +kernel) (pa_cons (pv 1) pa_nil)) pa_nil))) (blkOk_by (own := [("stream", 2)]) (N := ["self", "lates", "stream"]) (sc := defScope s_Book_init) (by decide +kernel)) (fun _ _ _ _ _ => (pg_name (i := 2) sc_Book_init.nd rfl (Or.inl rfl))) (fun _ _ _ _ _ => pts_nil) (fun _ _ _ _ _ => (pv 2)) (fun _ _ _ _ _ => (pe_dget hu (pv 1) (pv 2) (fun _ _ => rfl)))) rfl))), ?_⟩
    refine ⟨_, rfl, d, L, rfl, hd, LL, fun H1 s1 => ⟨_, rfl, iteF ?_⟩⟩
    refine ⟨_, rfl, d, _, rfl, .of (s1 _ _ hd), fun l hl => ?_⟩
    have e1 : (LK L).map (fun kv => kV kv.1) = (L.map (·.1)).map V.str := by
      unfold LK
      rw [List.map_map, List.map_map]
      rfl
    rw [e1]
    have l8 := LL.few
    refine ⟨l, _, rfl, SqL.of upd_same, (by rw [List.length_map]; omega), fun ys q1 hperm hsort hq1 => ?_⟩
    have hln : l ≠ q1 := fun z => by rw [← z, upd_same] at hq1; cases hq1
    have s2 : Same H (upd (upd H1 l (.lst ((L.map (·.1)).map V.str))) q1 (.lst (ys.map V.str))) := (s1.trans (sameAt (Same.refl H1) hl)).trans (sameAt (Same.refl _) hq1)
    have hlenY : ys.length ≤ 8 := by rw [hperm.length_eq, List.length_map]; exact l8
    have fOf : ∀ z, z ∈ L.map (·.1) → L.lookup z = some ((L.lookup z).getD 0) := fun z hz => by
      obtain ⟨x, hx, rfl⟩ := List.mem_map.mp hz
      rw [lookup_mem LL.nd hx]
      rfl
    refine ⟨q1, rfl, ⟨_, SqL.of upd_same⟩, fun D hD => dc_it (walk_list (xs := ys.map V.str)) (fun i H3 => H3 D = some (.dK (LK ((ys.take i).map fun y => (y, (L.lookup y).getD 0)))) ∧ Same (upd (upd H1 l (.lst ((L.map (·.1)).map V.str))) q1 (.lst (ys.map V.str))) H3) ⟨upd_same, sameAt (Same.refl _) hD⟩ (fun i H3 _ hv => SqL.of (hv.2 _ _ upd_same)) ?_ ?_⟩
    · rintro i x H3 H4 hi ⟨hD3, s3⟩ ⟨rfl, hx⟩
      obtain ⟨z, hz, rfl⟩ : ∃ z, ys[i]? = some z ∧ x = V.str z := by
        rw [List.getElem?_map] at hx
        cases e : ys[i]? with
        | none => rw [e] at hx; cases hx
        | some z => rw [e] at hx; exact ⟨z, rfl, (Option.some.inj hx).symm⟩
      have hzL : z ∈ L.map (·.1) := hperm.mem_iff.mp (List.mem_of_getElem? hz)
      have hd3 : H4 d = some (.dK (LK L)) := s3 _ _ (s2 _ _ hd)
      have hyn : ys.Nodup := hperm.symm.nodup LL.nd
      rw [List.length_map] at hi
      have hg := DGet.k (k := Sum.inr z) hd3
      rw [LK_val, fOf z hzL, Option.map_some] at hg
      refine ⟨rfl, _, rfl, _, rfl, _, rfl, d, _, rfl, hg, _, Sum.inr z, rfl, hD3, (by rw [LK_len, List.length_map, List.length_take]; exact small1000 (by omega)), ?_, sameAt s3 hD⟩
      rw [upd_same, putK_new]
      · rw [list_take hz, List.map_append]
        unfold LK
        rw [List.map_append]
        rfl
      · rw [LK_val, lookup_none]
        · rfl
        · rw [List.map_map]
          show z ∉ (ys.take i).map fun y => y
          rw [List.map_id']
          intro hm
          obtain ⟨j, hj, e⟩ := List.getElem_of_mem hm
          rw [List.length_take] at hj
          rw [List.getElem_take] at e
          have := nd_ix hyn (List.getElem?_eq_some_iff.mpr ⟨by omega, e⟩) hz
          omega
    · rintro H3 ⟨hD3, s3⟩
      rw [List.length_map, List.take_length] at hD3
      have hb3 : H3 b = some (.ins CB dx []) := s3 _ _ (s2 _ _ hb)
      have hbD : D ≠ b := fun z => by rw [z] at hD; exact absurd (s2 _ _ hb) (by rw [hD]; simp)
      refine ⟨_, rfl, b, CB, dx, [], rfl, hb3, T.cl, T.nL, (by show 0 < 1000; decide), ?_⟩
      refine q _ ⟨dx, D, _, upd_same, (by rw [upd_ne hbD]; exact hD3), fun z => ?_, ?_⟩ fun c o hc hn => ?_
      · exact lookup_perm LL.nd hperm _ (fun x hx => by rw [lookup_mem LL.nd hx]; rfl) z
      · rw [List.map_map]
        show (ys.map fun y => y).Nodup
        rw [List.map_id']
        exact hperm.symm.nodup LL.nd
      · rw [upd_ne hn]
        exact s3 _ _ (s2 _ _ hc)
abbrev s_Book_has : Stmt := inClass (topS 18) 3
theorem sc_Book_has : FnScope ["self", "stream"] ["self", "stream"] (defScope s_Book_has) := ⟨rfl, rfl, rfl, by decide +kernel, rfl, by decide +kernel, by decide +kernel⟩
theorem ok_book_has {f CB : Addr} {fd : FuncData} (F : Fun K "has" "Book.has" s_Book_has f fd) (B : Blt mg) (T : Cb K mg CB) (G : K4 P w K mg base) : FnOk P w K mg base CX0 2 f fd ["self", "stream"] (spHas CB) := by
  refine F.ok sc_Book_has (fun vs H Q E h => ?_) (fun cdv A outer s H vs Q E hr h => ?_)
  · obtain ⟨b, L, z, rfl, _⟩ := h
    rfl
  · obtain ⟨b, L, z, rfl, hB, hz, q⟩ := h
    have hu := hu_of hr
    refine ⟨_, (pss_one (ps_ret (pe_and (pe_cal G.is_name (hr.mono (by decide)) pass0 (pa_cons (pv 1) pa_nil)) (pe_one (pe_cmp (pc_din hu (pv 1) (pe_fld (pv 0) rfl)) rfl))))), ?_⟩
    refine ⟨_, rfl, _, rfl, .inl ⟨z, rfl, (by have := hz.2.1; rw [sizeLine_eq]; omega), fun H1 s1 => ⟨_, rfl, ?_⟩⟩⟩
    rw [(nmB_iff z).mpr hz]
    obtain ⟨dx, d, L', h1, h2, h3, _⟩ := hB.same s1
    refine iteT ⟨_, rfl, _, rfl, b, CB, dx, _, _, rfl, h1, T.cl, T.nL, rfl, d, _, rfl, DGet.k (k := Sum.inr z) h2, ?_⟩
    have e : (valV (LK L') (Sum.inr z : Key)).isSome = (L.lookup z).isSome := by rw [LK_val, Option.isSome_map, h3]
    rw [e]
    exact q H1 s1
abbrev s_Book_late : Stmt := inClass (topS 18) 4
theorem sc_Book_late : FnScope ["self", "stream"] ["self", "stream"] (defScope s_Book_late) := ⟨rfl, rfl, rfl, by decide +kernel, rfl, by decide +kernel, by decide +kernel⟩
theorem ok_book_late {f fh CB : Addr} {fd fdh : FuncData} (F : Fun K "late" "Book.late" s_Book_late f fd) (B : Blt mg) (T : Cb K mg CB) (M_has : Meth K CB "has" fh) (b_has : Binds K fdh ["self", "stream"] []) (F_has : FnOk P w K mg base CX0 2 fh fdh ["self", "stream"] (spHas CB)) : FnOk P w K mg base CX0 3 f fd ["self", "stream"] (spLate CB) := by
  refine F.ok sc_Book_late (fun vs H Q E h => ?_) (fun cdv A outer s H vs Q E hr h => ?_)
  · obtain ⟨b, L, z, n, rfl, _⟩ := h
    rfl
  · obtain ⟨b, L, z, n, rfl, hB, hz, hn, q⟩ := h
    have hu := hu_of hr
    refine ⟨_, (pss_cons (ps_if (pt_not (pt_val (pe_meth (pv 0) T.cl M_has F_has (hr.mono (by decide)) b_has .nil pass0 (pa_cons (pv 1) pa_nil))))
      (pss_one ps_never)
      pss_nil)
    (pss_one (ps_ret (pe_dget hu (pe_fld (pv 0) rfl) (pv 1) (fun _ _ => rfl))))), ?_⟩
    obtain ⟨dx, d, L', h1, h2, h3, _⟩ := id hB
    refine ⟨_, rfl, b, dx, _, rfl, h1, rfl, _, rfl, b, L, z, rfl, hB, hz, fun H1 s1 => ⟨_, rfl, ?_⟩⟩
    rw [hn]
    refine iteF ?_
    have hg := DGet.k (k := Sum.inr z) (s1 _ _ h2)
    rw [LK_val, h3, hn] at hg
    exact ⟨_, rfl, b, CB, dx, _, _, rfl, s1 _ _ h1, T.cl, T.nL, rfl, _, rfl, d, _, rfl, hg, q H1 s1⟩
end
end Ash

set_option Elab.async false
set_option linter.all false
set_option maxRecDepth 100000
set_option maxHeartbeats 4000000
namespace Ash
open PySem PySem.Spec PyProof.Rows L2
open C8 (pss_cut)
/-! ### entries -/
inductive Ent where
  | row (id : Int) (s k : Str) (m a r : Int)
  | fix (id m a r : Int)
  | gone (id r : Int)
  deriving DecidableEq
def Ent.vs : Ent → List V
  | .row id s k m a r => [.str "row", .int id, .str s, .str k, .int m, .int a, .int r]
  | .fix id m a r => [.str "fix", .int id, .int m, .int a, .int r]
  | .gone id r => [.str "gone", .int id, .int r]
def Ent.id : Ent → Int
  | .row id _ _ _ _ _ => id
  | .fix id _ _ _ => id
  | .gone id _ => id
def Ent.arr : Ent → Int
  | .row _ _ _ _ _ r => r
  | .fix _ _ _ r => r
  | .gone _ r => r
def Ent.ok (x : Ent) : Prop := 0 ≤ x.id ∧ ∀ id s k m a r, x = .row id s k m a r → IsNm s ∧ IsNm k
def EntAt (H : Hp) (e : Addr) (x : Ent) : Prop := H e = some (.tup x.vs)
/-- what is known of a row: taken back, or what it is -/
inductive RowSt where
  | tb
  | at_ (s k : Str) (m a : Int)
def RowV (aT : Addr) (H : Hp) : Option V → Option RowSt → Prop
  | none, none => True
  | some v, some .tb => v = .ref aT
  | some v, some (.at_ s k m a) => ∃ t, v = .ref t ∧ H t = some (.tup [.str s, .str k, .int m, .int a])
  | _, _ => False
theorem RowV.same {aT : Addr} {H H' : Hp} {v : Option V} {o : Option RowSt} (h : RowV aT H v o) (s : Same H H') : RowV aT H' v o := by
  cases v with
  | none => cases o <;> exact h
  | some v =>
    cases o with
    | none => exact h
    | some o =>
      cases o with
      | tb => exact h
      | at_ z k m a =>
        obtain ⟨t, e, h⟩ := h
        exact ⟨t, e, s _ _ h⟩
/-- what an entry makes of its row -/
def behind (L : List (Str × Int)) : Ent → Option RowSt → Option RowSt
  | .row _ s k m a r, none => (L.lookup s).bind fun l => if m ≤ r ∧ r ≤ m + l then some (.at_ s k m a) else none
  | .fix _ m a r, some (.at_ s k m0 _) => (L.lookup s).bind fun l => if r ≤ m0 + l ∧ m ≤ r ∧ r ≤ m + l then some (.at_ s k m a) else none
  | .gone _ r, some (.at_ s _ m0 _) => (L.lookup s).bind fun l => if r ≤ m0 + l then some .tb else none
  | _, _ => none
def spIsEntry (K : PySem.W.Frag) : Sp := fun vs H Q _ => ∃ v, vs = [v] ∧ ((∃ e x, v = .ref e ∧ EntAt H e x ∧ x.ok ∧ ∀ H', Same H H' → Q (.bl true) H') ∨ (NotTup K H v ∧ Q (.bl false) H) ∨
  ∃ e xs, v = .ref e ∧ H e = some (.tup xs) ∧ xs.length < 3 ∧ Q (.bl false) H)
def spArr (K : PySem.W.Frag) : Sp := fun vs H Q _ => ∃ e x, vs = [.ref e] ∧ EntAt H e x ∧ Q (.int x.arr) H
def spPlaced (CB : Addr) : Sp := fun vs H Q _ => ∃ (b t : Addr) (L : List (Str × Int)) (s k : Str) (m a r l : Int), vs = [.ref b, .ref t, .int r] ∧ BookAt CB H b L ∧ H t = some (.tup [.str s, .str k, .int m, .int a]) ∧ IsNm s ∧ L.lookup s = some l ∧
  ∀ H', Same H H' → Q (if m ≤ r ∧ r ≤ m + l then .ref t else .non) H'
def spBehind (aT CB : Addr) : Sp := fun vs H Q _ => ∃ (b e : Addr) (L : List (Str × Int)) (x : Ent) (ov : Option V) (o : Option RowSt), vs = [.ref b, .ref e, ov.getD .non] ∧ BookAt CB H b L ∧ EntAt H e x ∧ x.ok ∧ RowV aT H ov o ∧
  (∀ s k m a, o = some (.at_ s k m a) → IsNm s ∧ IsNm k ∧ (L.lookup s).isSome) ∧
  ∀ v H', Same H H' → ((behind L x o = none ∧ v = .non) ∨ (v ≠ .non ∧ ∃ y, behind L x o = some y ∧ RowV aT H' (some v) (some y))) → Q v H'
section
variable {P : Program} {w : World} {K : PySem.W.Frag} {mg : Str → Option Value} {base : Heap}
abbrev s_is_entry : Stmt := topS 23
theorem sc_is_entry : FnScope ["thing"] ["thing"] (defScope s_is_entry) := ⟨rfl, rfl, rfl, by decide +kernel, rfl, by decide +kernel, by decide +kernel⟩
theorem ok_is_entry {f : Addr} {fd : FuncData} (F : Fun K "is_entry" "is_entry" s_is_entry f fd) (B : Blt mg) (G : K3 P w K mg base) : FnOk P w K mg base CX0 3 f fd ["thing"] (spIsEntry K) := by
  refine F.ok sc_is_entry (fun vs H Q E h => ?_) (fun cdv A outer s H vs Q E hr h => ?_)
  · obtain ⟨v, rfl, _⟩ := h
    rfl
  · obtain ⟨v, rfl, hv⟩ := h
    refine ⟨_, (pss_cons (ps_if (PW.pt (pw_or (pt_not (pt_val (pe_callB call_isi (by rfl) B.isinstance (by decide +kernel) (pa_cons (pv 0) (pa_cons (pe_bltn (v := .ty "tuple") (by rfl) B.tuple (by decide +kernel) rfl) pa_nil))))) (pw_or (pt_cmpR op_lt (pe_callB call_len_seq (by rfl) B.len (by decide +kernel) (pa_cons (pv 0) pa_nil)) pe_int (nomark _)) (pw_or1 (pt_not (pt_val (pe_cal G.is_natural (hr.mono (by decide)) pass0 (pa_cons (pe_ix ix_tup (pv 0) pe_int (fun _ _ => rfl)) pa_nil))))))))
      (pss_one (ps_ret pe_bl))
      pss_nil)
    (pss_cons (ps_if (pt_cmpR op_eq (pe_ix ix_tup (pv 0) pe_int (fun _ _ => rfl)) pe_str (nomark _))
      (pss_one (ps_ret (pe_and (pe_cmpR op_eq (pe_callB call_len_seq (by rfl) B.len (by decide +kernel) (pa_cons (pv 0) pa_nil)) pe_int (nomark _)) (pe_and (pe_cal G.is_name (hr.mono (by decide)) pass0 (pa_cons (pe_ix ix_tup (pv 0) pe_int (fun _ _ => rfl)) pa_nil)) (pe_and (pe_cal G.is_name (hr.mono (by decide)) pass0 (pa_cons (pe_ix ix_tup (pv 0) pe_int (fun _ _ => rfl)) pa_nil)) (pe_one (pe_cal G.are_integers (hr.mono (by decide)) pass0 (pa_cons (pe_slice sl_tup (pv 0) (po_some pe_int) po_none) pa_nil))))))))
      pss_nil)
    (pss_cons (ps_if (pt_cmpR op_eq (pe_ix ix_tup (pv 0) pe_int (fun _ _ => rfl)) pe_str (nomark _))
      (pss_one (ps_ret (pe_and (pe_cmpR op_eq (pe_callB call_len_seq (by rfl) B.len (by decide +kernel) (pa_cons (pv 0) pa_nil)) pe_int (nomark _)) (pe_one (pe_cal G.are_integers (hr.mono (by decide)) pass0 (pa_cons (pe_slice sl_tup (pv 0) (po_some pe_int) po_none) pa_nil))))))
      pss_nil)
    (pss_one (ps_ret (pe_and (pe_cmpR op_eq (pe_ix ix_tup (pv 0) pe_int (fun _ _ => rfl)) pe_str (nomark _)) (pe_and (pe_cmpR op_eq (pe_callB call_len_seq (by rfl) B.len (by decide +kernel) (pa_cons (pv 0) pa_nil)) pe_int (nomark _)) (pe_one (pe_cal G.are_integers (hr.mono (by decide)) pass0 (pa_cons (pe_slice sl_tup (pv 0) (po_some pe_int) po_none) pa_nil)))))))))), ?_⟩
    rcases hv with ⟨e, x, rfl, hx, hok, q⟩ | ⟨⟨t, ty, e1⟩, q⟩ | ⟨e, xs, rfl, hx, hl, q⟩
    · refine ⟨_, rfl, _, _, _, _, true, rfl, ClsV.ty _, .base (.tup hx), kit_ty (by decide +kernel), _, rfl, iteF ?_⟩
      refine ⟨_, rfl, e, _, rfl, .inr (SqT.of hx), _, _, rfl, rfl, _, rfl, ?_⟩
      cases x with
      | row id s k m a r =>
        obtain ⟨h0, hn⟩ := hok
        obtain ⟨hs, hk⟩ := hn _ _ _ _ _ _ rfl
        refine iteF ⟨_, rfl, _, _, _, _, rfl, rfl, SqT.of hx, rfl, _, rfl, .inl ⟨id, rfl, _, rfl, ?_⟩⟩
        rw [decide_eq_true (show 0 ≤ id from h0)]
        refine iteF ⟨_, rfl, _, _, _, _, rfl, rfl, SqT.of hx, rfl, rfl, _, rfl, ?_⟩
        refine iteT ⟨_, rfl, e, _, rfl, .inr (SqT.of hx), rfl, _, rfl, iteT ?_⟩
        refine ⟨_, rfl, _, _, _, _, rfl, rfl, SqT.of hx, rfl, _, rfl, .inl ⟨s, rfl, (by have := hs.2.1; rw [sizeLine_eq]; omega), fun H1 s1 => ⟨_, rfl, ?_⟩⟩⟩
        rw [(nmB_iff s).mpr hs]
        have hx1 := s1 _ _ hx
        refine iteT ⟨_, rfl, _, _, _, _, rfl, rfl, SqT.of hx1, rfl, _, rfl, .inl ⟨k, rfl, (by have := hk.2.1; rw [sizeLine_eq]; omega), fun H2 s2 => ⟨_, rfl, ?_⟩⟩⟩
        rw [(nmB_iff k).mpr hk]
        have hx2 := s2 _ _ hx1
        refine iteT ⟨_, rfl, _, rfl, e, _, rfl, SqT.of hx2, (by show ¬ (HT.sIx 7 0 (some 4) = 0 ∧ HT.sIx 7 7 none = 7); decide), fun p hp => ?_⟩
        refine ⟨p, [m, a, r], rfl, SqT.of upd_same, (by show 3 ≤ 100; decide), fun H3 s3 => q _ ?_⟩
        exact ((s1.trans s2).trans (sameAt (Same.refl _) hp)).trans s3
      | fix id m a r =>
        obtain ⟨h0, hn⟩ := hok
        refine iteF ⟨_, rfl, _, _, _, _, rfl, rfl, SqT.of hx, rfl, _, rfl, .inl ⟨id, rfl, _, rfl, ?_⟩⟩
        rw [decide_eq_true (show 0 ≤ id from h0)]
        refine iteF ⟨_, rfl, _, _, _, _, rfl, rfl, SqT.of hx, rfl, rfl, _, rfl, ?_⟩
        refine iteF ⟨_, rfl, _, _, _, _, rfl, rfl, SqT.of hx, rfl, rfl, _, rfl, ?_⟩
        refine iteT ⟨_, rfl, e, _, rfl, .inr (SqT.of hx), rfl, _, rfl, iteT ?_⟩
        refine ⟨_, rfl, _, rfl, e, _, rfl, SqT.of hx, (by show ¬ (HT.sIx 5 0 (some 2) = 0 ∧ HT.sIx 5 5 none = 5); decide), fun p hp => ?_⟩
        refine ⟨p, [m, a, r], rfl, SqT.of upd_same, (by show 3 ≤ 100; decide), fun H3 s3 => q _ ?_⟩
        exact (sameAt (Same.refl _) hp).trans s3
      | gone id r =>
        obtain ⟨h0, hn⟩ := hok
        refine iteF ⟨_, rfl, _, _, _, _, rfl, rfl, SqT.of hx, rfl, _, rfl, .inl ⟨id, rfl, _, rfl, ?_⟩⟩
        rw [decide_eq_true (show 0 ≤ id from h0)]
        refine iteF ⟨_, rfl, _, _, _, _, rfl, rfl, SqT.of hx, rfl, rfl, _, rfl, ?_⟩
        refine iteF ⟨_, rfl, _, _, _, _, rfl, rfl, SqT.of hx, rfl, rfl, _, rfl, ?_⟩
        refine iteF ⟨_, rfl, _, _, _, _, rfl, rfl, SqT.of hx, rfl, rfl, _, rfl, iteT ?_⟩
        refine ⟨_, rfl, e, _, rfl, .inr (SqT.of hx), rfl, _, rfl, iteT ?_⟩
        refine ⟨_, rfl, _, rfl, e, _, rfl, SqT.of hx, (by show ¬ (HT.sIx 3 0 (some 2) = 0 ∧ HT.sIx 3 3 none = 3); decide), fun p hp => ?_⟩
        refine ⟨p, [r], rfl, SqT.of upd_same, (by show 1 ≤ 100; decide), fun H3 s3 => q _ ?_⟩
        exact (sameAt (Same.refl _) hp).trans s3
    · exact ⟨_, rfl, _, _, _, _, false, rfl, ClsV.ty _, ty, e1, _, rfl, iteT q⟩
    · refine ⟨_, rfl, _, _, _, _, true, rfl, ClsV.ty _, .base (.tup hx), kit_ty (by decide +kernel), _, rfl, iteF ?_⟩
      refine ⟨_, rfl, e, _, rfl, .inr (SqT.of hx), _, _, rfl, rfl, _, rfl, ?_⟩
      rw [decide_eq_true (show (xs.length : Int) < 3 by omega)]
      exact iteT q
abbrev s_arrival_of : Stmt := topS 24
theorem sc_arrival_of : FnScope ["entry"] ["entry"] (defScope s_arrival_of) := ⟨rfl, rfl, rfl, by decide +kernel, rfl, by decide +kernel, by decide +kernel⟩
theorem ok_arrival_of {f : Addr} {fd : FuncData} (F : Fun K "arrival_of" "arrival_of" s_arrival_of f fd) (B : Blt mg) : FnOk P w K mg base CX0 1 f fd ["entry"] (spArr K) := by
  refine F.ok sc_arrival_of (fun vs H Q E h => ?_) (fun cdv A outer s H vs Q E hr h => ?_)
  · obtain ⟨e, x, rfl, _⟩ := h
    rfl
  · obtain ⟨e, x, rfl, hx, q⟩ := h
    refine ⟨_, (pss_one (ps_ret (pe_ix ix_tup (pv 0) (pe_un un_neg pe_int) (fun _ _ => rfl)))), ?_⟩
    cases x with
    | row id s k m a r => exact ⟨_, rfl, _, rfl, _, _, _, _, rfl, rfl, SqT.of hx, rfl, q⟩
    | fix id m a r => exact ⟨_, rfl, _, rfl, _, _, _, _, rfl, rfl, SqT.of hx, rfl, q⟩
    | gone id r => exact ⟨_, rfl, _, rfl, _, _, _, _, rfl, rfl, SqT.of hx, rfl, q⟩
abbrev s_placed : Stmt := topS 26
theorem sc_placed : FnScope ["book", "row", "arrival", "stream", "moment"] ["book", "row", "arrival"] (defScope s_placed) := ⟨rfl, rfl, rfl, by decide +kernel, rfl, by decide +kernel, by decide +kernel⟩
theorem ok_placed {f fl CB : Addr} {fd fdl : FuncData} (F : Fun K "placed" "placed" s_placed f fd) (B : Blt mg) (T : Cb K mg CB) (M_late : Meth K CB "late" fl) (b_late : Binds K fdl ["self", "stream"] []) (F_late : FnOk P w K mg base CX0 3 fl fdl ["self", "stream"] (spLate CB)) : FnOk P w K mg base CX0 4 f fd ["book", "row", "arrival"] (spPlaced CB) := by
  refine F.ok sc_placed (fun vs H Q E h => ?_) (fun cdv A outer s H vs Q E hr h => ?_)
  · obtain ⟨b, t, L, z, k, m, a, r, l, rfl, _⟩ := h
    rfl
  · obtain ⟨b, t, L, z, k, m, a, r, l, rfl, hB, ht, hz, hl, q⟩ := h
    refine ⟨_, (pss_cons (ps_par (i := 3) (j := 4) (by rfl) sc_placed.nd rfl rfl (by decide) rfl rfl (pa_cons (pe_ix ix_tup (pv 1) pe_int (fun _ _ => rfl)) (pa_cons (pe_ix ix_tup (pv 1) pe_int (fun _ _ => rfl)) pa_nil)) (by rfl))
    (pss_cons (ps_if (pt_chain op_le op_le (pv 4) (pv 2) (pe_op op_add (pv 4) (pe_meth (pv 0) T.cl M_late F_late (hr.mono (by decide)) b_late .nil pass0 (pa_cons (pv 3) pa_nil))))
      (pss_one (ps_ret (pv 1)))
      pss_nil)
    (pss_one (ps_ret pe_non)))), ?_⟩
    refine ⟨_, rfl, _, _, _, _, rfl, rfl, SqT.of ht, rfl, _, rfl, _, _, _, _, rfl, rfl, SqT.of ht, rfl, _, _, rfl, ?_⟩
    obtain ⟨dx, d, L', h1, h2, h3⟩ := id hB
    refine ⟨_, rfl, _, rfl, _, _, rfl, rfl, _, rfl, ?_⟩
    refine ite2 (fun c1 => ?_) (fun c1 => ?_)
    · have c1 : m ≤ r := of_decide_eq_true c1
      refine ⟨_, rfl, _, rfl, b, dx, _, rfl, h1, rfl, _, rfl, b, L, z, l, rfl, hB, hz, hl, fun H1 s1 => ⟨_, _, rfl, rfl, _, _, rfl, rfl, _, rfl, ?_⟩⟩
      refine ite2 (fun c2 => ?_) (fun c2 => ?_)
      · have c2 : r ≤ m + l := of_decide_eq_true c2
        have := q H1 s1
        rw [if_pos ⟨c1, c2⟩] at this
        exact ⟨_, rfl, this⟩
      · have c2 : ¬ r ≤ m + l := by simpa using c2
        have := q H1 s1
        rw [if_neg (fun z => c2 z.2)] at this
        exact this
    · have c1 : ¬ m ≤ r := by simpa using c1
      have := q H (Same.refl H)
      rw [if_neg (fun z => c1 z.1)] at this
      exact ⟨_, rfl, iteF this⟩
structure K5 (P : Program) (w : World) (K : PySem.W.Frag) (mg : Str → Option Value) (base : Heap) (CB : Addr) : Prop extends K4 P w K mg base where
  is_entry : Cal P w K mg base CX0 "is_entry" 3 ["thing"] (spIsEntry K)
  arrival_of : Cal P w K mg base CX0 "arrival_of" 1 ["entry"] (spArr K)
  placed : Cal P w K mg base CX0 "placed" 4 ["book", "row", "arrival"] (spPlaced CB)
/-- the written () -/
structure Tb (K : PySem.W.Frag) (mg : Str → Option Value) (aT : Addr) : Prop where
  g : mg "TAKEN_BACK" = some (.ref aT)
  t : ∃ (o : Obj) (n : Nat), K.lookup aT = some o ∧ o.cls = .type "tuple" ∧ o.data = .seq #[] n
theorem Tb.sq {aT : Addr} (h : Tb K mg aT) (H : Hp) : SqT K H aT [] := by
  obtain ⟨o, n, h1, h2, h3⟩ := h.t
  exact .inr ⟨o, #[], n, h1, h2, h3, Nat.zero_le _, .nil⟩
abbrev s_row_behind : Stmt := topS 25
theorem sc_row_behind : FnScope ["book", "entry", "old", "stream", "key", "moment", "_"] ["book", "entry", "old"] (defScope s_row_behind) := ⟨rfl, rfl, rfl, by decide +kernel, rfl, by decide +kernel, by decide +kernel⟩
theorem ok_row_behind {f fh fl CB a_TAKEN_BACK : Addr} {fd fdh fdl : FuncData} (F : Fun K "row_behind" "row_behind" s_row_behind f fd) (B : Blt mg) (T : Cb K mg CB) (TB : Tb K mg a_TAKEN_BACK) (G : K5 P w K mg base CB) (M_has : Meth K CB "has" fh) (b_has : Binds K fdh ["self", "stream"] []) (F_has : FnOk P w K mg base CX0 2 fh fdh ["self", "stream"] (spHas CB))
    (M_late : Meth K CB "late" fl) (b_late : Binds K fdl ["self", "stream"] []) (F_late : FnOk P w K mg base CX0 3 fl fdl ["self", "stream"] (spLate CB)) : FnOk P w K mg base CX0 5 f fd ["book", "entry", "old"] (spBehind a_TAKEN_BACK CB) := by
  have g_TAKEN_BACK := TB.g
  refine F.ok sc_row_behind (fun vs H Q E h => ?_) (fun cdv A outer s H vs Q E hr h => ?_)
  · obtain ⟨b, e, L, x, ov, o, rfl, _⟩ := h
    rfl
  · obtain ⟨b, e, L, x, ov, o, rfl, hB, hx, hok, hV, hNm, q⟩ := h
    have hu := hu_of hr
    obtain ⟨dx, d, L', h1, h2, h3⟩ := id hB
    refine ⟨_, (pss_cons (ps_if (pt_cmpR op_eq (pe_ix ix_tup (pv 1) pe_int (fun _ _ => rfl)) pe_str (nomark _))
      (pss_cons (ps_if (PW.pt (pw_or (pt_cmpR op_notN (pv 2) pe_non (nomark _)) (pw_or1 (pt_not (pt_val (pe_meth (pv 0) T.cl M_has F_has (hr.mono (by decide)) b_has .nil pass0 (pa_cons (pe_ix ix_tup (pv 1) pe_int (fun _ _ => rfl)) pa_nil)))))))
        (pss_one (ps_ret pe_non))
        pss_nil)
      (pss_one (ps_ret (pe_cal G.placed (hr.mono (by decide)) pass0 (pa_cons (pv 0) (pa_cons (pe_slice sl_tup (pv 1) (po_some pe_int) (po_some pe_int)) (pa_cons (pe_cal G.arrival_of (hr.mono (by decide)) pass0 (pa_cons (pv 1) pa_nil)) pa_nil)))))))
      pss_nil)
    (pss_cons (ps_if (PW.pt (pw_or (pt_cmpR op_isN (pv 2) pe_non (nomark _)) (pw_or1 (pt_cmpR (op_eqD hr.units) (pv 2) (pe_glob (v := .ref a_TAKEN_BACK) (by rfl) g_TAKEN_BACK rfl) (nomark _)))))
      (pss_one (ps_ret pe_non))
      pss_nil)
    (pss_cons (ps_asg (pv 2) (pg_tup (by rfl) (pgs_cons (pg_name (i := 3) sc_row_behind.nd rfl (Or.inl rfl)) (pgs_cons (pg_name (i := 4) sc_row_behind.nd rfl (Or.inl rfl)) (pgs_cons (pg_name (i := 5) sc_row_behind.nd rfl (Or.inl rfl)) (pgs_cons (pg_name (i := 6) sc_row_behind.nd rfl (Or.inl rfl)) pgs_nil))))))
    (pss_cons (ps_if (pt_cmpR op_gt (pe_cal G.arrival_of (hr.mono (by decide)) pass0 (pa_cons (pv 1) pa_nil)) (pe_op op_add (pv 5) (pe_meth (pv 0) T.cl M_late F_late (hr.mono (by decide)) b_late .nil pass0 (pa_cons (pv 3) pa_nil))) (nomark _))
      (pss_one (ps_ret pe_non))
      pss_nil)
    (pss_cons (ps_if (pt_cmpR op_eq (pe_ix ix_tup (pv 1) pe_int (fun _ _ => rfl)) pe_str (nomark _))
      (pss_one (ps_ret (pe_glob (v := .ref a_TAKEN_BACK) (by rfl) g_TAKEN_BACK rfl)))
      pss_nil)
    (pss_one (ps_ret (pe_cal G.placed (hr.mono (by decide)) pass0 (pa_cons (pv 0) (pa_cons (pe_tup (pa_cons (pv 3) (pa_cons (pv 4) (pa_cons (pe_ix ix_tup (pv 1) pe_int (fun _ _ => rfl)) (pa_cons (pe_ix ix_tup (pv 1) pe_int (fun _ _ => rfl)) pa_nil))))) (pa_cons (pe_cal G.arrival_of (hr.mono (by decide)) pass0 (pa_cons (pv 1) pa_nil)) pa_nil))))))))))), ?_⟩
    cases x with
    | row id s k m a r =>
      obtain ⟨hs, hk⟩ := hok.2 _ _ _ _ _ _ rfl
      refine ⟨_, rfl, _, _, _, _, rfl, rfl, SqT.of hx, rfl, rfl, _, rfl, iteT ?_⟩
      cases ov with
      | some v =>
        have hvn : v ≠ .non := by
          cases o with
          | none => exact absurd hV (fun z => z)
          | some o =>
            cases o with
            | tb => obtain rfl : v = .ref a_TAKEN_BACK := hV; exact fun z => nomatch z
            | at_ s k m a => obtain ⟨t, rfl, _⟩ := hV; exact fun z => nomatch z
        refine ⟨_, rfl, rfl, _, rfl, ?_⟩
        show if (!decide (v = .non)) = true then _ else _
        rw [decide_eq_false hvn]
        refine iteT (q _ H (Same.refl H) (.inl ⟨?_, rfl⟩))
        cases o with
        | none => exact absurd hV (fun z => z)
        | some o => cases o <;> rfl
      | none =>
        cases o with
        | some o => exact absurd hV (fun z => z)
        | none =>
          refine ⟨_, rfl, rfl, _, rfl, iteF ?_⟩
          refine ⟨_, rfl, b, dx, _, rfl, h1, rfl, _, rfl, _, _, _, _, rfl, rfl, SqT.of hx, rfl, b, L, s, rfl, hB, hs, fun H1 s1 => ⟨_, rfl, ?_⟩⟩
          cases el : L.lookup s with
          | none =>
            refine iteT (q _ H1 s1 (.inl ⟨?_, rfl⟩))
            show (L.lookup s).bind _ = none
            rw [el]
            rfl
          | some l =>
            have hx1 := s1 _ _ hx
            refine iteF ⟨_, rfl, _, rfl, _, rfl, _, rfl, e, _, rfl, SqT.of hx1, (by show ¬ (HT.sIx 7 0 (some 2) = 0 ∧ HT.sIx 7 7 (some 6) = 7); decide), fun p hp => ?_⟩
            have hs2 : Same H (upd H1 p (.tup [.str s, .str k, .int m, .int a])) := s1.trans (sameAt (Same.refl _) hp)
            have hx2 : EntAt (upd H1 p (.tup [.str s, .str k, .int m, .int a])) e (.row id s k m a r) := hs2 _ _ hx
            refine ⟨_, rfl, e, _, rfl, hx2, b, p, L, s, k, m, a, r, l, rfl, hB.same hs2, upd_same, hs, el, fun H3 s3 => ?_⟩
            refine q _ H3 (hs2.trans s3) ?_
            by_cases c : m ≤ r ∧ r ≤ m + l
            · rw [if_pos c]
              refine .inr ⟨(fun z => nomatch z), .at_ s k m a, ?_, p, rfl, s3 _ _ upd_same⟩
              show (L.lookup s).bind _ = _
              rw [el, Option.bind_some, if_pos c]
            · rw [if_neg c]
              refine .inl ⟨?_, rfl⟩
              show (L.lookup s).bind _ = _
              rw [el, Option.bind_some, if_neg c]
    | fix id m a r =>
      refine ⟨_, rfl, _, _, _, _, rfl, rfl, SqT.of hx, rfl, rfl, _, rfl, iteF ?_⟩
      cases ov with
      | none =>
        cases o with
        | some o => exact absurd hV (fun z => z)
        | none => exact ⟨_, rfl, rfl, _, rfl, iteT (q _ H (Same.refl H) (.inl ⟨rfl, rfl⟩))⟩
      | some v =>
        cases o with
        | none => exact absurd hV (fun z => z)
        | some o =>
          cases o with
          | tb =>
            obtain rfl : v = .ref a_TAKEN_BACK := hV
            exact ⟨_, rfl, rfl, _, rfl, iteF ⟨_, rfl, .tuple [], .tuple [], .tup (TB.sq H) .nil, .tup (TB.sq H) .nil, rfl, rfl, _, rfl, iteT (q _ H (Same.refl H) (.inl ⟨rfl, rfl⟩))⟩⟩
          | at_ z k m0 a0 =>
            obtain ⟨t, rfl, ht⟩ := hV
            obtain ⟨hz, hk0, hzl⟩ := hNm _ _ _ _ rfl
            obtain ⟨l, el⟩ := Option.isSome_iff_exists.mp hzl
            refine ⟨_, rfl, rfl, _, rfl, iteF ⟨_, rfl, .tuple [.str z, .str k, .int m0, .int a0], .tuple [], .tup (SqT.of ht) (.cons (.str _) (.cons (.str _) (.cons (.int _) (.cons (.int _) .nil)))), .tup (TB.sq H) .nil, shaped_flat (by simp [flatD, nm_ok hz, nm_ok hk0]), rfl, _, rfl, iteF ?_⟩⟩
            refine ⟨_, rfl, t, _, rfl, SqT.of ht, rfl, _, _, rfl, _, _, rfl, _, _, rfl, _, _, rfl, rfl, ?_⟩
            refine ⟨_, rfl, e, _, rfl, hx, _, rfl, _, rfl, b, dx, _, rfl, h1, rfl, _, rfl, b, L, z, l, rfl, hB, hz, el, fun H1 s1 => ⟨_, _, rfl, rfl, _, _, rfl, rfl, _, rfl, ?_⟩⟩
            have hx1 : EntAt H1 e (.fix id m a r) := s1 _ _ hx
            have hB1 := hB.same s1
            refine ite2 (fun c1 => ?_) (fun c1 => ?_)
            · have c1 : m0 + l < r := of_decide_eq_true c1
              refine q _ H1 s1 (.inl ⟨?_, rfl⟩)
              show (L.lookup z).bind _ = none
              rw [el, Option.bind_some, if_neg (by omega)]
            · have c1 : ¬ m0 + l < r := fun z => c1 (decide_eq_true z)
              refine ⟨_, rfl, _, _, _, _, rfl, rfl, SqT.of hx1, rfl, rfl, _, rfl, iteF ?_⟩
              refine ⟨_, rfl, _, rfl, _, rfl, _, rfl, _, _, _, _, rfl, rfl, SqT.of hx1, rfl, _, rfl, _, _, _, _, rfl, rfl, SqT.of hx1, rfl, (by show 4 ≤ sizeLine; decide), fun p hp => ?_⟩
              have s2 : Same H (upd H1 p (.tup [.str z, .str k, .int m, .int a])) := s1.trans (sameAt (Same.refl _) hp)
              have hx2 : EntAt (upd H1 p (.tup [.str z, .str k, .int m, .int a])) e (.fix id m a r) := s2 _ _ hx
              refine ⟨_, rfl, e, _, rfl, hx2, b, p, L, z, k, m, a, r, l, rfl, hB.same s2, upd_same, hz, el, fun H3 s3 => ?_⟩
              refine q _ H3 (s2.trans s3) ?_
              by_cases c : m ≤ r ∧ r ≤ m + l
              · rw [if_pos c]
                refine .inr ⟨(fun z => nomatch z), .at_ z k m a, ?_, p, rfl, s3 _ _ upd_same⟩
                show (L.lookup z).bind _ = _
                rw [el, Option.bind_some, if_pos ⟨by omega, c.1, c.2⟩]
              · rw [if_neg c]
                refine .inl ⟨?_, rfl⟩
                show (L.lookup z).bind _ = _
                rw [el, Option.bind_some, if_neg (fun y => c y.2)]
    | gone id r =>
      refine ⟨_, rfl, _, _, _, _, rfl, rfl, SqT.of hx, rfl, rfl, _, rfl, iteF ?_⟩
      cases ov with
      | none =>
        cases o with
        | some o => exact absurd hV (fun z => z)
        | none => exact ⟨_, rfl, rfl, _, rfl, iteT (q _ H (Same.refl H) (.inl ⟨rfl, rfl⟩))⟩
      | some v =>
        cases o with
        | none => exact absurd hV (fun z => z)
        | some o =>
          cases o with
          | tb =>
            obtain rfl : v = .ref a_TAKEN_BACK := hV
            exact ⟨_, rfl, rfl, _, rfl, iteF ⟨_, rfl, .tuple [], .tuple [], .tup (TB.sq H) .nil, .tup (TB.sq H) .nil, rfl, rfl, _, rfl, iteT (q _ H (Same.refl H) (.inl ⟨rfl, rfl⟩))⟩⟩
          | at_ z k m0 a0 =>
            obtain ⟨t, rfl, ht⟩ := hV
            obtain ⟨hz, hk0, hzl⟩ := hNm _ _ _ _ rfl
            obtain ⟨l, el⟩ := Option.isSome_iff_exists.mp hzl
            refine ⟨_, rfl, rfl, _, rfl, iteF ⟨_, rfl, .tuple [.str z, .str k, .int m0, .int a0], .tuple [], .tup (SqT.of ht) (.cons (.str _) (.cons (.str _) (.cons (.int _) (.cons (.int _) .nil)))), .tup (TB.sq H) .nil, shaped_flat (by simp [flatD, nm_ok hz, nm_ok hk0]), rfl, _, rfl, iteF ?_⟩⟩
            refine ⟨_, rfl, t, _, rfl, SqT.of ht, rfl, _, _, rfl, _, _, rfl, _, _, rfl, _, _, rfl, rfl, ?_⟩
            refine ⟨_, rfl, e, _, rfl, hx, _, rfl, _, rfl, b, dx, _, rfl, h1, rfl, _, rfl, b, L, z, l, rfl, hB, hz, el, fun H1 s1 => ⟨_, _, rfl, rfl, _, _, rfl, rfl, _, rfl, ?_⟩⟩
            have hx1 : EntAt H1 e (.gone id r) := s1 _ _ hx
            refine ite2 (fun c1 => ?_) (fun c1 => ?_)
            · have c1 : m0 + l < r := of_decide_eq_true c1
              refine q _ H1 s1 (.inl ⟨?_, rfl⟩)
              show (L.lookup z).bind _ = none
              rw [el, Option.bind_some, if_neg (by omega)]
            · have c1 : ¬ m0 + l < r := fun z => c1 (decide_eq_true z)
              refine ⟨_, rfl, _, _, _, _, rfl, rfl, SqT.of hx1, rfl, rfl, _, rfl, iteT ?_⟩
              refine q _ H1 s1 (.inr ⟨(fun z => nomatch z), .tb, ?_, rfl⟩)
              show (L.lookup z).bind _ = _
              rw [el, Option.bind_some, if_pos (by omega)]
end
end Ash

set_option Elab.async false
set_option linter.all false
set_option maxRecDepth 100000
set_option maxHeartbeats 4000000
namespace PySem
open Sem (wp)
open AutoSeq1 (wpAny_loadPart')
theorem ash_enum_newT (l : Addr) (its : Array Value) (n : Nat) (dc : Option Addr) (sl : Array (Option Value)) :
    Meets (Builtin.«enumerate.__new__» ⟨[.type "enumerate", .ref l], []⟩) (fun _ R s => s.heap.get? l = some { cls := .type "tuple", dict := dc, data := .seq its n, slots := sl } ∧
      R (.ok (.ret (.ref (s.heap.push { cls := .type "tuple_iterator", data := .fields #[.ref l, .int 0 0] }).objs.size)))
        { s with heap := (s.heap.push { cls := .type "tuple_iterator", data := .fields #[.ref l, .int 0 0] }).push { cls := .type "enumerate", data := .fields #[.none, .bool false, .ref s.heap.objs.size, rawInt 0, .none, .none] } }) :=
  .of_wp fun prog w A R s h => by
    obtain ⟨hp, g, d, tk, os⟩ := s
    obtain ⟨ht, h⟩ := h
    have hsub := sub_enumerate
    have hT : Heap.IsTuple (Shared.heap ⟨hp, g, d, tk, os⟩) l its := ⟨_, ht, rfl, n, rfl⟩
    wp_walk using wpAny_loadPart' ht
    refine wpAny_stack_any fun st => wpAny_pure ?_
    split
    · rename_i c _ _ _ _ _
      cases (c == Value.type "enumerate") <;>
      · wp_walk using wpAny_loadPart' ht, wpAny_pyIter_tuple hT
        exact ⟨_, rfl, h⟩
    · wp_walk using wpAny_loadPart' ht, wpAny_pyIter_tuple hT
      exact ⟨_, rfl, h⟩
section
variable {prog : Program} {w : World} {A : Around} {E : Value → Shared → Prop} {s : Shared}
theorem ash_call_enumT {l : Addr} {its : Array Value} {Q : Value → Shared → Prop} (hT : s.heap.IsTuple l its)
    (h : ∀ h', IsEnum h' (s.heap.objs.size + 1) s.heap.objs.size 0 .none → h'.IsTupleIter s.heap.objs.size l 0 →
      (∀ b o, s.heap.get? b = some o → h'.get? b = some o) → Q (.ref (s.heap.objs.size + 1)) { s with heap := h' }) :
    wpAny (model prog w) A (call (.type "enumerate") [.ref l]) Q E s := by
  obtain ⟨⟨c, dc, dt, sl⟩, hl, hc, n, hd⟩ := hT
  replace hc : c = .type "tuple" := hc
  replace hd : dt = .seq its n := hd
  subst hc hd
  refine callType_new F.called_enumerate (by decide) (F.typeCall_enumerate_1 _) (F.newCall_enumerate_1 _) (fun o => F.args_object_init_2 o _) F.entry_enumerate_new (ash_enum_newT l its n dc sl) ⟨hl, ?_⟩
  let oi : Obj := { cls := .type "tuple_iterator", data := .fields #[.ref l, .int 0 0] }
  let oe : Obj := { cls := .type "enumerate", data := .fields #[.none, .bool false, .ref s.heap.objs.size, rawInt 0, .none, .none] }
  have hz : (s.heap.push oi).objs.size = s.heap.objs.size + 1 := Heap.size_push ..
  have he : IsEnum ((s.heap.push oi).push oe) (s.heap.objs.size + 1) s.heap.objs.size 0 .none := by
    have q := Heap.get?_push_size (s.heap.push oi) (o := oe) rfl
    rw [hz] at q
    exact q
  show _ ∧ _
  rw [hz]
  exact ⟨⟨_, he, rfl⟩, h _ he ⟨_, Heap.get?_push_of_some _ (Heap.get?_push_size _ rfl), rfl, rfl⟩ fun b o x => Heap.get?_push_of_some _ (Heap.get?_push_of_some _ x)⟩
end
end PySem
namespace Ash
open PySem PySem.Spec PyProof.Rows L2
/-- enumerate of a tuple: its items in new pairs -/
def Itet (K : PySem.W.Frag) (a : Addr) : It :=
  ⟨fun i H => ∃ (xs : List V) (x : V), SqT K H a xs ∧ xs[i]? = some x, fun i H v H' => ∃ T x, v = .ref T ∧ H T = none ∧ H' = upd H T (.tup [.int (i : Nat), x]) ∧ ∀ xs, SqT K H a xs → xs[i]? = some x, fun i H => ∃ xs : List V, SqT K H a xs ∧ xs.length ≤ i⟩
theorem turn_enumT {P : Program} {w : World} {K : PySem.W.Frag} {elts : List Expr} {kk : Nat} {tpos : Pos} (a e it : Addr) :
    Turn P w K (.Tuple elts kk tpos) (Itet K a) [e, it] e (fun i h => (∃ old, IsEnum h e it ((i : Nat) : Int) old) ∧ h.IsTupleIter it a i ∧ e ≠ it) where
  mem := by simp
  obj := fun i h st b hb => by
    obtain ⟨⟨old, he⟩, ⟨o, ho, hc, hd⟩, _⟩ := st
    rcases (show b = e ∨ b = it by simpa using hb) with z | z
    · subst z
      exact ⟨_, he, fun v q => nomatch q⟩
    · exact ⟨o, by rw [z]; exact ho, fun v q => by rw [hd] at q; cases q⟩
  keep := fun i h h' st k => by
    obtain ⟨⟨old, he⟩, hi, hne⟩ := st
    exact ⟨⟨old, k e (by simp) _ he⟩, hi.at fun o q => k it (by simp) o q, hne⟩
  item := by
    intro X hP hw hK hc i pins s σ H E I hf st hg
    subst hP hw hK
    obtain ⟨⟨old, he⟩, hit, hne⟩ := st
    obtain ⟨xs, x, hq, hx⟩ := hg
    obtain ⟨its, rv, p, hz⟩ := I.tuple hq
    obtain ⟨u, hu, ru⟩ := rv.get hx
    have hpT : s.heap.IsTuple a its.toArray := p
    have hel : e < s.heap.objs.size := Heap.lt_size he
    have hil : it < s.heap.objs.size := by
      obtain ⟨_, q, _⟩ := hit
      exact Heap.lt_size q
    have hae : e ≠ a := fun z => by
      obtain ⟨o, q1, q2, _⟩ := hpT
      rw [← z] at q1
      have q3 : s.heap.get? e = some _ := he
      rw [q3] at q1
      cases q1
      exact absurd (Value.type.inj q2) (by decide)
    have hai : a ≠ it := fun z => by
      obtain ⟨o, q1, q2, _⟩ := hpT
      obtain ⟨o2, q3, q4, _⟩ := hit
      rw [z, q3] at q1
      cases q1
      rw [q4] at q2
      exact absurd (Value.type.inj q2) (by decide)
    have hh : X.A.in1.handled = none := I.ok.hd hc
    have D := Draws.tuple (prog := X.prog) (w := X.w) hh it a hai its.toArray
    have hlt : i < its.toArray.size := by
      have := (List.getElem?_eq_some_iff.mp hu).1
      simpa using this
    refine wpAny_pyNext_enum_itemD D he ⟨hit, hpT⟩ hlt hne (by simp [hne, hae]) fun y h' tk hy ho hst hT hsz hk => ?_
    have hyu : y = u := by
      have q : its[i]? = some y := by simpa using hy
      rw [hu] at q
      exact (Option.some.inj q).symm
    subst hyu
    refine ⟨_, rfl, wpAny_letOwnedTupleGo_enum (s := { s with heap := h', toks := tk + 1 }) ho fun h'' he' sb => ?_⟩
    have hT2 : h''.get? s.heap.objs.size = some { cls := .type "tuple", data := .seq #[.int i tk, y] } := (sb.2 _ (Nat.ne_of_gt hel)).trans hT
    have new : ObjOk X.prog X.w (upd H s.heap.objs.size (.tup [.int (i : Nat), x])) h'' s.heap.objs.size (.tup [.int (i : Nat), x]) :=
      ⟨by show 2 ≤ sizeLine; decide, [.int i tk, y], .cons ⟨_, rfl⟩ (.cons ru .nil), ⟨_, hT2, rfl, _, rfl⟩⟩
    have I1 : Inv X pins σ (upd H s.heap.objs.size (.tup [.int (i : Nat), x])) { s with heap := h'', toks := tk + 1 } :=
      I.turnedNew (ch := [e, it]) (fun b o hb q => (sb.2 b (fun z => hb (by simp [z]))).trans (hk b o (fun z => hb (by simp [z])) (fun z => hb (by simp [z])) q)) hf (Nat.le_refl _) new
    refine ⟨.ref s.heap.objs.size, _, I1, rfl, ⟨_, x, rfl, I.hok.fresh (Nat.le_refl _), rfl, fun ys hy => by rw [I.tuple_inj hy hq]; exact hx⟩, ⟨⟨y, ?_⟩, hst.1.at fun o q => (sb.2 it (Ne.symm hne)).trans q, hne⟩, fun b hb => ?_⟩
    · rw [show ((i + 1 : Nat) : Int) = (i : Int) + 1 by omega]
      exact he'
    · have hb' : b < s.heap.objs.size := by
        rcases (show b = e ∨ b = it by simpa using hb) with z | z <;> rw [z] <;> assumption
      rw [upd_ne (Nat.ne_of_lt hb')]
      exact (hf b hb).1
  done := by
    intro X hP hw hK hc i pins s σ H E I hf st hg
    subst hP hw hK
    obtain ⟨⟨old, he⟩, hit, hne⟩ := st
    obtain ⟨xs, hq, hx⟩ := hg
    obtain ⟨its, rv, p, hz⟩ := I.tuple hq
    have hpT : s.heap.IsTuple a its.toArray := p
    obtain ⟨f0, f1, f2, f3, f4, f5⟩ := hf it (by simp)
    have hl := rv.length
    have hh : X.A.in1.handled = none := I.ok.hd hc
    have hT : s.TypeIs (.ref e) "enumerate" := ⟨_, he, rfl⟩
    unfold pyNext
    refine wpAny_bind (wpAny_attempt (wpAny_callSpecial?_slot (name := Str.ofString "__next__") hT F.slot_enumerate_next
      (wpAny_call_entry F.slot_enumerate_next hT F.entry_enumerate_next ?_ (F.args_enumerate_next_1 _))))
    show wpAny _ _ (field (.ref e) 2 >>= _) _ _ _
    refine wpAny_bind (wpAny_field he rfl (x := .ref it) rfl (wpAny_bind (wpAny_nextOf_tuple_end hh hit hpT (by simp; omega) fun h' x hb ⟨o, ho, hco⟩ => ?_)))
    refine wpAny_bind (wpAny_isInstance (T := "StopIteration") (b := true) ⟨o, ho, hco⟩ isSubtype_stop ?_)
    exact wpAny_pure ⟨rfl, I.turned (t' := s.toks) (fun b o hn q => hb b o hn q) f0 f1 f3 f4 f5⟩
  self := fun A i s Q E st h => by
    obtain ⟨⟨_, he⟩, _⟩ := st
    exact wpAny_pyIter_enum he h
/-- enumerate of a list or a tuple -/
def iEnumS (K : PySem.W.Frag) (ta : TA) : TI := fun σ H R => ta σ H fun vs H1 => ∃ a, vs = [.ref a] ∧ ((∃ xs, SqL K H1 a xs ∧ R (Ite K a) H1) ∨ ∃ xs, SqT K H1 a xs ∧ R (Itet K a) H1)
theorem pi_enumS {X : Cx} {e : Expr} {ta : TA} {p pos tpos : Pos} {elts : List Expr} {kk : Nat} (hg : Gl X "enumerate") (hm : X.mg "enumerate" = none) (ha : PA X [e] ta) (hs : starEach [e] X.env = [(false, eval e X.env)] := by rfl) :
    PI X (.Tuple elts kk tpos) (.Call (.Name "enumerate" p) [e] [] pos) (iEnumS X.K ta) := by
  refine ⟨fun pins s σ H R I h => ?_⟩
  refine Call_ (ld_blt I hg hm boot_enumerate (PyProof.Rows.callWith_type1 (thn (ha.run pos pins s σ H _ I h) fun us s1 ⟨vs, H1, I1, r1, a, ex, q1⟩ => ?_) hs rfl))
  subst ex
  have fresh : ∀ b, b ∈ [s1.heap.objs.size + 1, s1.heap.objs.size] → FpOk X pins H1 b := fun b hb => by
    have hle : s1.heap.objs.size ≤ b := by
      rcases (show b = s1.heap.objs.size + 1 ∨ b = s1.heap.objs.size by simpa using hb) with z | z <;> omega
    exact I1.fpOk hle (I1.hok.fresh hle)
  cases r1 with
  | cons r rr =>
    cases rr
    cases r
    rcases q1 with ⟨xs, hq, q⟩ | ⟨xs, hq, q⟩
    · obtain ⟨its, rv, p', hz⟩ := I1.list hq
      exact call_enumerate_list p'.isList fun h' he hit _ hk => wpAny_pyIter_enum he ⟨_, _, _, _, H1, rfl, I1.kept (t' := s1.toks) hk, turn_enum a _ _, ⟨⟨.none, he⟩, hit, Nat.succ_ne_self _⟩, fresh, q⟩
    · obtain ⟨its, rv, p', hz⟩ := I1.tuple hq
      exact ash_call_enumT (show s1.heap.IsTuple a its.toArray from p') fun h' he hit hk => wpAny_pyIter_enum he ⟨_, _, _, _, H1, rfl, I1.kept (t' := s1.toks) hk, turn_enumT a _ _, ⟨⟨.none, he⟩, hit, Nat.succ_ne_self _⟩, fresh, q⟩
theorem walk_enumT {K : PySem.W.Frag} {a : Addr} {xs : List V} : Walk (Itet K a) xs.length (fun H => SqT K H a xs) (YPair (fun i => some (.int (i : Nat))) (fun i => xs[i]?)) := by
  refine ⟨fun i _ hi q => ⟨xs, xs[i], q, by simp [hi]⟩, fun _ q => ⟨xs, q, Nat.le_refl _⟩, fun i H v H' _ q y => ?_⟩
  obtain ⟨T, x, h1, h2, h3, h4⟩ := y
  exact ⟨T, .int (i : Nat), x, h1, h2, h3, rfl, h4 xs q⟩
end Ash

set_option Elab.async false
set_option linter.all false
set_option maxRecDepth 100000
set_option maxHeartbeats 4000000
namespace Ash
open PySem PySem.Spec PyProof.Rows L2
open C8 (pss_cut)
/-! ### rows of things that may be entries -/
abbrev Kn := Int → Option RowSt
def late? (l : Option Int) (r : Int) : Bool := match l with
  | some t => decide (r < t)
  | none => false
/-- the index of the first thing that is not a good entry, and what is known ahead of it -/
def wk (L : List (Str × Int)) : List (Option Ent) → Nat → Kn → Option Int → Option Nat × Kn
  | [], _, S, _ => (none, S)
  | none :: _, i, S, _ => (some i, S)
  | some x :: r, i, S, l => if late? l x.arr = true then (some i, S) else match behind L x (S x.id) with
    | none => (some i, S)
    | some y => wk L r (i + 1) (fun j => if j = x.id then some y else S j) (some x.arr)
def ThAt (K : PySem.W.Frag) (H : Hp) (v : V) : Option Ent → Prop
  | some x => ∃ e, v = .ref e ∧ EntAt H e x ∧ x.ok
  | none => NotTup K H v ∨ ∃ e xs, v = .ref e ∧ H e = some (.tup xs) ∧ xs.length < 3
/-- a dict with keys that are ints, each once -/
structure KLen (kvs : List (Key × V)) (n : Nat) : Prop where
  len : kvs.length ≤ n
  nd : (kvs.map (·.1)).Nodup
  ik : ∀ kv ∈ kvs, ∃ id, kv.1 = Sum.inl id
theorem KLen.mono {kvs : List (Key × V)} {n m : Nat} (h : KLen kvs n) (l : n ≤ m) : KLen kvs m := ⟨Nat.le_trans h.len l, h.nd, h.ik⟩
theorem KLen.nil {n : Nat} : KLen [] n := ⟨Nat.zero_le _, .nil, fun _ h => nomatch h⟩
theorem KLen.put {kvs : List (Key × V)} {n : Nat} (h : KLen kvs n) (id : Int) (v : V) : KLen (putK kvs (Sum.inl id : Key) v) (n + 1) := by
  have hl := length_putK kvs (Sum.inl id : Key) v
  have h1 := h.len
  refine ⟨by omega, ?_, ?_⟩
  · unfold putK
    split
    · rw [List.map_map]
      have e : ((fun x : Key × V => x.1) ∘ fun kv : Key × V => if kv.1 = Sum.inl id then (kv.1, v) else kv) = fun x => x.1 := by
        funext x
        show (if x.1 = Sum.inl id then (x.1, v) else x).1 = x.1
        split <;> rfl
      first
        | exact e ▸ h.nd
        | (rw [show (kvs.map _) = kvs.map (·.1) from List.map_congr_left fun x _ => by
            show (if x.1 = Sum.inl id then _ else _ : Key × V).1 = x.1
            split <;> simp_all]
           exact h.nd)
    · rename_i c
      rw [List.map_append, List.nodup_append]
      refine ⟨h.nd, by simp, fun a ha b hb => ?_⟩
      obtain ⟨x, hx, rfl⟩ := List.mem_map.mp ha
      have : b = Sum.inl id := by simpa using hb
      subst this
      intro z
      exact c (List.any_eq_true.mpr ⟨x, hx, by simp [z]⟩)
  · intro kv hkv
    unfold putK at hkv
    split at hkv
    · obtain ⟨x, hx, rfl⟩ := List.mem_map.mp hkv
      obtain ⟨j, hj⟩ := h.ik x hx
      split
      · exact ⟨j, hj⟩
      · exact ⟨j, hj⟩
    · rcases List.mem_append.mp hkv with hk | hk
      · exact h.ik kv hk
      · rw [List.mem_singleton.mp hk]
        exact ⟨id, rfl⟩
def KnAt (aT : Addr) (H : Hp) (d : Addr) (S : Kn) (n : Nat) : Prop := ∃ kvs : List (Key × V), H d = some (.dK kvs) ∧ KLen kvs n ∧ ∀ id, RowV aT H (valV kvs (Sum.inl id)) (S id)
def KnOk (L : List (Str × Int)) (S : Kn) : Prop := ∀ id s k m a, S id = some (.at_ s k m a) → IsNm s ∧ IsNm k ∧ (L.lookup s).isSome
theorem tyx_same {K : PySem.W.Frag} {H H' : Hp} {v : V} {t : Value} (h : TyX K H v t) (s : Same H H') : TyX K H' v t := by
  cases h with
  | base b =>
    refine .base ?_
    cases b with
    | non => exact .non
    | bl x => exact .bl x
    | int x => exact .int x
    | str x => exact .str x
    | flt x => exact .flt x
    | lst e => exact .lst (s _ _ e)
    | frz e => exact .frz (s _ _ e)
    | tup e => exact .tup (s _ _ e)
    | dK e => exact .dK (s _ _ e)
    | dT e => exact .dT (s _ _ e)
    | ins e c a b d f => exact .ins (s _ _ e) c a b d f
  | byt b => exact .byt b
  | set e => exact .set (s _ _ e)
  | kList e c => exact .kList e c
  | kTuple e c => exact .kTuple e c
  | kDict e c => exact .kDict e c
  | fTuple e => exact .fTuple (s _ _ e)
  | fDict e => exact .fDict (s _ _ e)
theorem ThAt.same {K : PySem.W.Frag} {H H' : Hp} {v : V} {o : Option Ent} (h : ThAt K H v o) (s : Same H H') : ThAt K H' v o := by
  cases o with
  | some x =>
    obtain ⟨e, h1, h2, h3⟩ := h
    exact ⟨e, h1, s _ _ h2, h3⟩
  | none =>
    rcases h with ⟨t, h1, h2⟩ | ⟨e, xs, h1, h2, h3⟩
    · exact .inl ⟨t, tyx_same h1 s, h2⟩
    · exact .inr ⟨e, xs, h1, s _ _ h2, h3⟩
theorem behind_ok {L : List (Str × Int)} {x : Ent} {o : Option RowSt} {y : RowSt} (hx : x.ok) (ho : ∀ s k m a, o = some (.at_ s k m a) → IsNm s ∧ IsNm k ∧ (L.lookup s).isSome) (h : behind L x o = some y) :
    ∀ s k m a, y = .at_ s k m a → IsNm s ∧ IsNm k ∧ (L.lookup s).isSome := by
  rintro s k m a rfl
  cases x with
  | row id s' k' m' a' r =>
    cases o with
    | some o => cases h
    | none =>
      have h : (L.lookup s').bind _ = _ := h
      cases el : L.lookup s' with
      | none => rw [el] at h; cases h
      | some l =>
        rw [el, Option.bind_some] at h
        split at h
        · cases h
          obtain ⟨h1, h2⟩ := hx.2 _ _ _ _ _ _ rfl
          exact ⟨h1, h2, by rw [el]; rfl⟩
        · cases h
  | fix id m' a' r =>
    cases o with
    | none => cases h
    | some o =>
      cases o with
      | tb => cases h
      | at_ s' k' m0 a0 =>
        have h : (L.lookup s').bind _ = _ := h
        cases el : L.lookup s' with
        | none => rw [el] at h; cases h
        | some l =>
          rw [el, Option.bind_some] at h
          split at h
          · cases h
            exact ho _ _ _ _ rfl
          · cases h
  | gone id r =>
    cases o with
    | none => cases h
    | some o =>
      cases o with
      | tb => cases h
      | at_ s' k' m0 a0 =>
        have h : (L.lookup s').bind _ = _ := h
        cases el : L.lookup s' with
        | none => rw [el] at h; cases h
        | some l =>
          rw [el, Option.bind_some] at h
          split at h <;> cases h
def atV : Option Nat → V
  | none => .non
  | some i => .int (i : Int)
def spWalked (K : PySem.W.Frag) (aT CB : Addr) : Sp := fun vs H Q _ => ∃ (b a : Addr) (L : List (Str × Int)) (us : List V) (ths : List (Option Ent)), vs = [.ref b, .ref a] ∧ BookAt CB H b L ∧ (SqL K H a us ∨ SqT K H a us) ∧ us.length ≤ 1000 ∧ us.length = ths.length ∧
  (∀ (i : Nat) v o, us[i]? = some v → ths[i]? = some o → ThAt K H v o) ∧
  ∀ t kd H', H kd = none → Same H H' → H' t = some (.tup [atV (wk L ths 0 (fun _ => none) none).1, .ref kd]) → KnAt aT H' kd (wk L ths 0 (fun _ => none) none).2 us.length → Q (.ref t) H'
theorem pk_len {κ : Type} [DecidableEq κ] (c : List (κ × V)) (k : κ) (x : V) : (putK c k x).length ≤ c.length + 1 := by
  unfold putK
  split
  · rw [List.length_map]
    omega
  · rw [List.length_append]
    exact Nat.le_refl _
theorem seqS {K : PySem.W.Frag} {H H' : Hp} {a : Addr} {us : List V} (h : SqT K H a us) (s : Same H H') : SqT K H' a us := by
  rcases h with (h | ⟨o, h⟩) | h
  · exact .inl (.inl (s _ _ h))
  · exact .inl (.inr ⟨o, s _ _ h⟩)
  · exact .inr h
theorem rowV_off {aT d : Addr} {H : Hp} {kvs : List (Key × V)} {o' : HO} {w : Option V} {o : Option RowSt} (h : RowV aT H w o) (hd : H d = some (.dK kvs)) : RowV aT (upd H d o') w o := by
  cases w with
  | none => cases o <;> exact h
  | some v =>
    cases o with
    | none => exact h
    | some o =>
      cases o with
      | tb => exact h
      | at_ z k m a =>
        obtain ⟨t, e, h⟩ := h
        exact ⟨t, e, by rw [upd_ne (ne_of h hd (by intro z; cases z))]; exact h⟩
def latV : Option Int → V
  | none => .non
  | some n => .int n
theorem ent_id (y : Ent) : atI y.vs 1 = some (.int y.id) := by cases y <;> rfl
theorem wk_odd (L : List (Str × Int)) (r : List (Option Ent)) (i : Nat) (S : Kn) (l : Option Int) : wk L (none :: r) i S l = (some i, S) := rfl
theorem wk_late {L : List (Str × Int)} {x : Ent} {r : List (Option Ent)} {i : Nat} {S : Kn} {l : Option Int} (h : late? l x.arr = true) : wk L (some x :: r) i S l = (some i, S) := by
  show (if late? l x.arr = true then _ else _) = _
  rw [if_pos h]
theorem wk_bad {L : List (Str × Int)} {x : Ent} {r : List (Option Ent)} {i : Nat} {S : Kn} {l : Option Int} (h : late? l x.arr = false) (hb : behind L x (S x.id) = none) : wk L (some x :: r) i S l = (some i, S) := by
  show (if late? l x.arr = true then _ else _) = _
  rw [h, if_neg Bool.false_ne_true, hb]
theorem wk_go {L : List (Str × Int)} {x : Ent} {r : List (Option Ent)} {i : Nat} {S : Kn} {l : Option Int} {y : RowSt} (h : late? l x.arr = false) (hb : behind L x (S x.id) = some y) : wk L (some x :: r) i S l = wk L r (i + 1) (fun j => if j = x.id then some y else S j) (some x.arr) := by
  show (if late? l x.arr = true then _ else _) = _
  rw [h, if_neg Bool.false_ne_true, hb]
section
variable {P : Program} {w : World} {K : PySem.W.Frag} {mg : Str → Option Value} {base : Heap}
structure K6 (P : Program) (w : World) (K : PySem.W.Frag) (mg : Str → Option Value) (base : Heap) (CB aT : Addr) : Prop extends K5 P w K mg base CB where
  row_behind : Cal P w K mg base CX0 "row_behind" 5 ["book", "entry", "old"] (spBehind aT CB)
abbrev s_walked : Stmt := topS 27
theorem sc_walked : FnScope ["book", "things", "known", "latest", "at", "thing", "row"] ["book", "things"] (defScope s_walked) := ⟨rfl, rfl, rfl, by decide +kernel, rfl, by decide +kernel, by decide +kernel⟩
theorem ok_walked {f CB a_TAKEN_BACK : Addr} {fd : FuncData} (F : Fun K "walked" "walked" s_walked f fd) (B : Blt mg) (G : K6 P w K mg base CB a_TAKEN_BACK) : FnOk P w K mg base CX0 6 f fd ["book", "things"] (spWalked K a_TAKEN_BACK CB) := by
  refine F.ok sc_walked (fun vs H Q E h => ?_) (fun cdv A outer s H vs Q E hr h => ?_)
  · obtain ⟨b, a, L, us, ths, rfl, _⟩ := h
    rfl
  · obtain ⟨b, a, L, us, ths, rfl, hB, hS, hn, hlen, hT3, q⟩ := h
    have hu := hu_of hr
    refine ⟨_, (pss_cons (ps_set (i := 2) sc_walked.nd rfl (Or.inl rfl) pe_dnewK)
    (pss_cons (ps_set (i := 3) sc_walked.nd rfl (Or.inl rfl) pe_non)
    (pss_cons (ps_for PassesOwn.never rfl (pi_enumS (by rfl) B.enumerate (pa_cons (pv 1) pa_nil)) (pg_tup (by rfl) (pgs_cons (pg_name (i := 4) sc_walked.nd rfl (Or.inl rfl)) (pgs_cons (pg_name (i := 5) sc_walked.nd rfl (Or.inl rfl)) pgs_nil)))
      (pss_cut (ps_if (PW.pt (pw_or (pt_not (pt_val (pe_cal G.is_entry (hr.mono (by decide)) pass0 (pa_cons (pv 5) pa_nil)))) (pw_or1 (PW.pt (pw_and (pt_cmpR op_notN (pv 3) pe_non (nomark _)) (pw_and1 (pt_cmpR op_lt (pe_cal G.arrival_of (hr.mono (by decide)) pass0 (pa_cons (pv 5) pa_nil)) (pv 3) (nomark _))))))))
        (pss_one (ps_ret (pe_tup (pa_cons (pv 4) (pa_cons (pv 2) pa_nil)))))
        pss_nil)
      (pss_cons (ps_set (i := 6) sc_walked.nd rfl (Or.inl rfl) (pe_cal G.row_behind (hr.mono (by decide)) pass0 (pa_cons (pv 0) (pa_cons (pv 5) (pa_cons (pe_dget1 hu (pv 2) (pe_ix ix_tup (pv 5) pe_int (fun _ _ => rfl)) ⟨rfl, rfl, rfl, rfl⟩) pa_nil)))))
      (pss_cons (ps_if (pt_cmpR op_isN (pv 6) pe_non (nomark _))
        (pss_one (ps_ret (pe_tup (pa_cons (pv 4) (pa_cons (pv 2) pa_nil)))))
        pss_nil)
      (pss_cons (ps_dput hu (pv 2) (pe_ix ix_tup (pv 5) pe_int (fun _ _ => rfl)) (pv 6) rfl)
      (pss_one (ps_set (i := 3) sc_walked.nd rfl (Or.inl rfl) (pe_cal G.arrival_of (hr.mono (by decide)) pass0 (pa_cons (pv 5) pa_nil)))))))))
    (pss_one (ps_ret (pe_tup (pa_cons pe_non (pa_cons (pv 2) pa_nil)))))))), ?_⟩
    intro d hd
    rcases hS with hS | hS
    · refine ⟨_, rfl, a, rfl, .inl ⟨_, (sameAt (Same.refl H) hd).seq hS, for_it walk_enum (fun i σ H1 => ∃ (S : Kn) (lo : Option Int), (∃ a1 a2 a3, σ = [some (.ref b), some (.ref a), some (.ref d), some (latV lo), a1, a2, a3]) ∧ wk L ths 0 (fun _ => none) none = wk L (ths.drop i) i S lo ∧ KnAt a_TAKEN_BACK H1 d S i ∧ Same H H1 ∧ KnOk L S) ?_ (fun i σ H1 _ hv => by
        obtain ⟨S, lo, _, _, _, s1, _⟩ := hv
        exact s1.seq hS) ?_ ?_⟩⟩
      · exact ⟨fun _ => none, none, ⟨_, _, _, rfl⟩, rfl, ⟨[], upd_same, KLen.nil, fun id => trivial⟩, sameAt (Same.refl H) hd, fun _ _ _ _ _ z => nomatch z⟩
      · rintro i x σ H1 H2 hi ⟨S, lo, ⟨a1, a2, a3, rfl⟩, hw, ⟨kvs, hk1, hk2, hk3⟩, s1, hKn⟩ ⟨T, x1, x2, rfl, hT, rfl, e1, e2⟩
        cases e1
        have hil : i < ths.length := by rw [← hlen]; exact hi
        obtain ⟨o, ho⟩ : ∃ o, ths[i]? = some o := ⟨_, List.getElem?_eq_getElem hil⟩
        have s2 : Same H (upd H1 T (.tup [.int (i : Nat), x2])) := s1.trans (sameAt (Same.refl _) hT)
        have hdT : d ≠ T := fun z => by rw [← z, hk1] at hT; cases hT
        have hkd2 : (upd H1 T (.tup [.int (i : Nat), x2])) d = some (.dK kvs) := by rw [upd_ne hdT]; exact hk1
        have hth := hT3 i x2 o e2 ho
        have hdrop : ths.drop i = o :: ths.drop (i + 1) := by
          rw [List.drop_eq_getElem_cons hil]
          rw [List.getElem?_eq_getElem hil] at ho
          rw [Option.some.inj ho]
        rw [hdrop] at hw
        refine ⟨T, _, rfl, SqT.of upd_same, rfl, _, _, rfl, _, _, rfl, rfl, ?_⟩
        have bad : ∀ H3, Same (upd H1 T (.tup [.int (i : Nat), x2])) H3 → wk L (o :: ths.drop (i + 1)) i S lo = (some i, S) →
            ∀ (p : Addr), H3 p = none → Q (.ref p) (upd H3 p (.tup [.int (i : Nat), .ref d])) := fun H3 s3 hbad p hp => by
          have s4 := s3.trans (sameAt (Same.refl H3) hp (o := .tup [.int (i : Nat), .ref d]))
          rw [hbad] at hw
          refine q p d _ hd (s2.trans s4) ?_ ?_
          · rw [upd_same, hw]
            rfl
          · rw [hw]
            exact ⟨kvs, s4 _ _ hkd2, hk2.mono (Nat.le_of_lt hi), fun id => (hk3 id).same ((sameAt (Same.refl H1) hT).trans s4)⟩
        refine ⟨fun σ' H3 => (∃ e y a3, o = some y ∧ x2 = .ref e ∧ EntAt H e y ∧ y.ok ∧ σ' = [some (.ref b), some (.ref a), some (.ref d), some (latV lo), some (.int (i : Nat)), some (.ref e), a3] ∧ late? lo y.arr = false) ∧ Same (upd H1 T (.tup [.int (i : Nat), x2])) H3, ?_, ?_⟩
        · cases o with
          | none =>
            refine ⟨_, rfl, x2, rfl, .inr ?_⟩
            rcases hth.same s2 with nt | ⟨e, xs, rfl, hx, hx3⟩
            · exact .inl ⟨nt, _, rfl, iteT ⟨_, rfl, _, rfl, (by show 2 ≤ sizeLine; decide), fun p hp => bad _ (Same.refl _) rfl p hp⟩⟩
            · exact .inr ⟨e, xs, rfl, hx, hx3, _, rfl, iteT ⟨_, rfl, _, rfl, (by show 2 ≤ sizeLine; decide), fun p hp => bad _ (Same.refl _) rfl p hp⟩⟩
          | some y =>
            obtain ⟨e, rfl, hx, hok⟩ := hth
            refine ⟨_, rfl, _, rfl, .inl ⟨e, y, rfl, s2 _ _ hx, hok, fun H3 s3 => ⟨_, rfl, iteF ?_⟩⟩⟩
            have hx3 : EntAt H3 e y := s3 _ _ (s2 _ _ hx)
            cases lo with
            | none => exact ⟨_, rfl, rfl, _, rfl, iteF ⟨⟨e, y, _, rfl, rfl, hx, hok, rfl, rfl⟩, s3⟩⟩
            | some n =>
              refine ⟨_, rfl, rfl, _, rfl, iteT ⟨_, rfl, e, y, rfl, hx3, _, rfl, _, _, rfl, rfl, _, rfl, ?_⟩⟩
              refine ite2 (fun c1 => ?_) (fun c1 => ?_)
              · exact ⟨_, rfl, _, rfl, (by show 2 ≤ sizeLine; decide), fun p hp => bad _ s3 (wk_late c1) p hp⟩
              · exact ⟨⟨e, y, _, rfl, rfl, hx, hok, rfl, Bool.eq_false_iff.mpr c1⟩, s3⟩
        · rintro σ' H3 ⟨⟨e, y, a3, rfl, rfl, hx, hok, rfl, hlt⟩, s3⟩
          have s23 := s2.trans s3
          have hx3 : EntAt H3 e y := s23 _ _ hx
          have hkd3 : H3 d = some (.dK kvs) := s3 _ _ hkd2
          have s13 : Same H1 H3 := (sameAt (Same.refl H1) hT).trans s3
          refine ⟨_, rfl, _, rfl, _, rfl, d, rfl, .inl ⟨_, .of hkd3⟩, _, rfl, _, _, _, _, rfl, rfl, SqT.of hx3, ent_id y, _, DGet.k (k := Sum.inl y.id) hkd3, b, e, L, y, _, S y.id, rfl, hB.same s23, hx3, hok, (hk3 y.id).same s13, hKn y.id, fun v H4 s4 hv => ?_⟩
          have s34 := s3.trans s4
          rcases hv with ⟨hb, rfl⟩ | ⟨hvn, z, hb, hvz⟩
          · exact ⟨_, rfl, rfl, _, rfl, iteT ⟨_, rfl, _, rfl, (by show 2 ≤ sizeLine; decide), fun p hp => bad _ s34 (wk_bad hlt hb) p hp⟩⟩
          · refine ⟨_, rfl, rfl, _, rfl, ?_⟩
            rw [decide_eq_false hvn]
            have hx4 : EntAt H4 e y := s4 _ _ hx3
            have hkd4 : H4 d = some (.dK kvs) := s4 _ _ hkd3
            refine iteF ⟨_, rfl, _, rfl, _, rfl, _, _, _, _, rfl, rfl, SqT.of hx4, ent_id y, d, _, rfl, DPut.k (k := Sum.inl y.id) hkd4 (small1000 (by have := hk2.len; omega)), ?_⟩
            have hed : e ≠ d := fun q => by rw [q] at hx4; rw [show H4 d = _ from hx4] at hkd4; cases hkd4
            have hx5 : EntAt (upd H4 d (.dK (putK kvs (Sum.inl y.id) v))) e y := by show upd _ _ _ _ = _; rw [upd_ne hed]; exact hx4
            have s5 : Same H (upd H4 d (.dK (putK kvs (Sum.inl y.id) v))) := sameAt (s23.trans s4) hd
            refine ⟨_, rfl, e, y, rfl, hx5, (fun j => if j = y.id then some z else S j), some y.arr, ⟨_, _, _, rfl⟩, ?_, ⟨_, upd_same, hk2.put _ _, fun id => ?_⟩, s5, ?_⟩
            · rw [hw, wk_go hlt hb]
            · rw [valV_put]
              show RowV _ _ _ (if id = y.id then some z else S id)
              have rv : ∀ {w : Option V} {o : Option RowSt}, RowV a_TAKEN_BACK H4 w o → RowV a_TAKEN_BACK (upd H4 d (.dK (putK kvs (Sum.inl y.id) v))) w o := fun {w o} h => rowV_off h hkd4
              by_cases ej : id = y.id
              · rw [if_pos (by rw [ej]), if_pos ej]
                exact rv hvz
              · rw [if_neg (fun q => ej (Sum.inl.inj q)), if_neg ej]
                exact rv (((hk3 id).same s13).same s4)
            · intro id z1 k m a' he
              by_cases ej : id = y.id
              · have he : (if id = y.id then some z else S id) = some (.at_ z1 k m a') := he
                rw [if_pos ej] at he
                exact behind_ok hok (hKn y.id) hb _ _ _ _ (Option.some.inj he)
              · have he : (if id = y.id then some z else S id) = some (.at_ z1 k m a') := he
                rw [if_neg ej] at he
                exact hKn id _ _ _ _ he
      · rintro σ H1 ⟨S, lo, ⟨a1, a2, a3, rfl⟩, hw, hk, s1, hKn⟩
        have e : ths.drop us.length = [] := by rw [hlen]; exact List.drop_length
        rw [e] at hw
        refine ⟨_, rfl, (by show 2 ≤ sizeLine; decide), fun p hp => ?_⟩
        have s4 := sameAt (Same.refl H1) hp (o := .tup [.non, .ref d])
        obtain ⟨kvs, hk1, hk2, hk3⟩ := hk
        refine q p d _ hd (s1.trans s4) ?_ ?_
        · rw [upd_same, hw]
          rfl
        · rw [hw]
          exact ⟨kvs, s4 _ _ hk1, hk2, fun id => (hk3 id).same s4⟩
    · refine ⟨_, rfl, a, rfl, .inr ⟨_, seqS hS (sameAt (Same.refl H) hd), for_it walk_enumT (fun i σ H1 => ∃ (S : Kn) (lo : Option Int), (∃ a1 a2 a3, σ = [some (.ref b), some (.ref a), some (.ref d), some (latV lo), a1, a2, a3]) ∧ wk L ths 0 (fun _ => none) none = wk L (ths.drop i) i S lo ∧ KnAt a_TAKEN_BACK H1 d S i ∧ Same H H1 ∧ KnOk L S) ?_ (fun i σ H1 _ hv => by
        obtain ⟨S, lo, _, _, _, s1, _⟩ := hv
        exact seqS hS s1) ?_ ?_⟩⟩
      · exact ⟨fun _ => none, none, ⟨_, _, _, rfl⟩, rfl, ⟨[], upd_same, KLen.nil, fun id => trivial⟩, sameAt (Same.refl H) hd, fun _ _ _ _ _ z => nomatch z⟩
      · rintro i x σ H1 H2 hi ⟨S, lo, ⟨a1, a2, a3, rfl⟩, hw, ⟨kvs, hk1, hk2, hk3⟩, s1, hKn⟩ ⟨T, x1, x2, rfl, hT, rfl, e1, e2⟩
        cases e1
        have hil : i < ths.length := by rw [← hlen]; exact hi
        obtain ⟨o, ho⟩ : ∃ o, ths[i]? = some o := ⟨_, List.getElem?_eq_getElem hil⟩
        have s2 : Same H (upd H1 T (.tup [.int (i : Nat), x2])) := s1.trans (sameAt (Same.refl _) hT)
        have hdT : d ≠ T := fun z => by rw [← z, hk1] at hT; cases hT
        have hkd2 : (upd H1 T (.tup [.int (i : Nat), x2])) d = some (.dK kvs) := by rw [upd_ne hdT]; exact hk1
        have hth := hT3 i x2 o e2 ho
        have hdrop : ths.drop i = o :: ths.drop (i + 1) := by
          rw [List.drop_eq_getElem_cons hil]
          rw [List.getElem?_eq_getElem hil] at ho
          rw [Option.some.inj ho]
        rw [hdrop] at hw
        refine ⟨T, _, rfl, SqT.of upd_same, rfl, _, _, rfl, _, _, rfl, rfl, ?_⟩
        have bad : ∀ H3, Same (upd H1 T (.tup [.int (i : Nat), x2])) H3 → wk L (o :: ths.drop (i + 1)) i S lo = (some i, S) →
            ∀ (p : Addr), H3 p = none → Q (.ref p) (upd H3 p (.tup [.int (i : Nat), .ref d])) := fun H3 s3 hbad p hp => by
          have s4 := s3.trans (sameAt (Same.refl H3) hp (o := .tup [.int (i : Nat), .ref d]))
          rw [hbad] at hw
          refine q p d _ hd (s2.trans s4) ?_ ?_
          · rw [upd_same, hw]
            rfl
          · rw [hw]
            exact ⟨kvs, s4 _ _ hkd2, hk2.mono (Nat.le_of_lt hi), fun id => (hk3 id).same ((sameAt (Same.refl H1) hT).trans s4)⟩
        refine ⟨fun σ' H3 => (∃ e y a3, o = some y ∧ x2 = .ref e ∧ EntAt H e y ∧ y.ok ∧ σ' = [some (.ref b), some (.ref a), some (.ref d), some (latV lo), some (.int (i : Nat)), some (.ref e), a3] ∧ late? lo y.arr = false) ∧ Same (upd H1 T (.tup [.int (i : Nat), x2])) H3, ?_, ?_⟩
        · cases o with
          | none =>
            refine ⟨_, rfl, x2, rfl, .inr ?_⟩
            rcases hth.same s2 with nt | ⟨e, xs, rfl, hx, hx3⟩
            · exact .inl ⟨nt, _, rfl, iteT ⟨_, rfl, _, rfl, (by show 2 ≤ sizeLine; decide), fun p hp => bad _ (Same.refl _) rfl p hp⟩⟩
            · exact .inr ⟨e, xs, rfl, hx, hx3, _, rfl, iteT ⟨_, rfl, _, rfl, (by show 2 ≤ sizeLine; decide), fun p hp => bad _ (Same.refl _) rfl p hp⟩⟩
          | some y =>
            obtain ⟨e, rfl, hx, hok⟩ := hth
            refine ⟨_, rfl, _, rfl, .inl ⟨e, y, rfl, s2 _ _ hx, hok, fun H3 s3 => ⟨_, rfl, iteF ?_⟩⟩⟩
            have hx3 : EntAt H3 e y := s3 _ _ (s2 _ _ hx)
            cases lo with
            | none => exact ⟨_, rfl, rfl, _, rfl, iteF ⟨⟨e, y, _, rfl, rfl, hx, hok, rfl, rfl⟩, s3⟩⟩
            | some n =>
              refine ⟨_, rfl, rfl, _, rfl, iteT ⟨_, rfl, e, y, rfl, hx3, _, rfl, _, _, rfl, rfl, _, rfl, ?_⟩⟩
              refine ite2 (fun c1 => ?_) (fun c1 => ?_)
              · exact ⟨_, rfl, _, rfl, (by show 2 ≤ sizeLine; decide), fun p hp => bad _ s3 (wk_late c1) p hp⟩
              · exact ⟨⟨e, y, _, rfl, rfl, hx, hok, rfl, Bool.eq_false_iff.mpr c1⟩, s3⟩
        · rintro σ' H3 ⟨⟨e, y, a3, rfl, rfl, hx, hok, rfl, hlt⟩, s3⟩
          have s23 := s2.trans s3
          have hx3 : EntAt H3 e y := s23 _ _ hx
          have hkd3 : H3 d = some (.dK kvs) := s3 _ _ hkd2
          have s13 : Same H1 H3 := (sameAt (Same.refl H1) hT).trans s3
          refine ⟨_, rfl, _, rfl, _, rfl, d, rfl, .inl ⟨_, .of hkd3⟩, _, rfl, _, _, _, _, rfl, rfl, SqT.of hx3, ent_id y, _, DGet.k (k := Sum.inl y.id) hkd3, b, e, L, y, _, S y.id, rfl, hB.same s23, hx3, hok, (hk3 y.id).same s13, hKn y.id, fun v H4 s4 hv => ?_⟩
          have s34 := s3.trans s4
          rcases hv with ⟨hb, rfl⟩ | ⟨hvn, z, hb, hvz⟩
          · exact ⟨_, rfl, rfl, _, rfl, iteT ⟨_, rfl, _, rfl, (by show 2 ≤ sizeLine; decide), fun p hp => bad _ s34 (wk_bad hlt hb) p hp⟩⟩
          · refine ⟨_, rfl, rfl, _, rfl, ?_⟩
            rw [decide_eq_false hvn]
            have hx4 : EntAt H4 e y := s4 _ _ hx3
            have hkd4 : H4 d = some (.dK kvs) := s4 _ _ hkd3
            refine iteF ⟨_, rfl, _, rfl, _, rfl, _, _, _, _, rfl, rfl, SqT.of hx4, ent_id y, d, _, rfl, DPut.k (k := Sum.inl y.id) hkd4 (small1000 (by have := hk2.len; omega)), ?_⟩
            have hed : e ≠ d := fun q => by rw [q] at hx4; rw [show H4 d = _ from hx4] at hkd4; cases hkd4
            have hx5 : EntAt (upd H4 d (.dK (putK kvs (Sum.inl y.id) v))) e y := by show upd _ _ _ _ = _; rw [upd_ne hed]; exact hx4
            have s5 : Same H (upd H4 d (.dK (putK kvs (Sum.inl y.id) v))) := sameAt (s23.trans s4) hd
            refine ⟨_, rfl, e, y, rfl, hx5, (fun j => if j = y.id then some z else S j), some y.arr, ⟨_, _, _, rfl⟩, ?_, ⟨_, upd_same, hk2.put _ _, fun id => ?_⟩, s5, ?_⟩
            · rw [hw, wk_go hlt hb]
            · rw [valV_put]
              show RowV _ _ _ (if id = y.id then some z else S id)
              have rv : ∀ {w : Option V} {o : Option RowSt}, RowV a_TAKEN_BACK H4 w o → RowV a_TAKEN_BACK (upd H4 d (.dK (putK kvs (Sum.inl y.id) v))) w o := fun {w o} h => rowV_off h hkd4
              by_cases ej : id = y.id
              · rw [if_pos (by rw [ej]), if_pos ej]
                exact rv hvz
              · rw [if_neg (fun q => ej (Sum.inl.inj q)), if_neg ej]
                exact rv (((hk3 id).same s13).same s4)
            · intro id z1 k m a' he
              by_cases ej : id = y.id
              · have he : (if id = y.id then some z else S id) = some (.at_ z1 k m a') := he
                rw [if_pos ej] at he
                exact behind_ok hok (hKn y.id) hb _ _ _ _ (Option.some.inj he)
              · have he : (if id = y.id then some z else S id) = some (.at_ z1 k m a') := he
                rw [if_neg ej] at he
                exact hKn id _ _ _ _ he
      · rintro σ H1 ⟨S, lo, ⟨a1, a2, a3, rfl⟩, hw, hk, s1, hKn⟩
        have e : ths.drop us.length = [] := by rw [hlen]; exact List.drop_length
        rw [e] at hw
        refine ⟨_, rfl, (by show 2 ≤ sizeLine; decide), fun p hp => ?_⟩
        have s4 := sameAt (Same.refl H1) hp (o := .tup [.non, .ref d])
        obtain ⟨kvs, hk1, hk2, hk3⟩ := hk
        refine q p d _ hd (s1.trans s4) ?_ ?_
        · rw [upd_same, hw]
          rfl
        · rw [hw]
          exact ⟨kvs, s4 _ _ hk1, hk2, fun id => (hk3 id).same s4⟩
end
end Ash

set_option Elab.async false
set_option linter.all false
set_option maxRecDepth 100000
set_option maxHeartbeats 4000000
namespace Ash
open PySem PySem.Spec PyProof.Rows L2
open C8 (pss_cut)
/-! ### journals -/
def jf (b t kd : Addr) : List (Str × V) := putF "_known" (.ref kd) (putF "entries" (.ref t) (putF "book" (.ref b) []))
theorem jf_b (b t kd : Addr) : (jf b t kd).lookup ("book" : Str) = some (.ref b) := by
  unfold jf
  rw [lookup_putF, if_neg (by decide +kernel), lookup_putF, if_neg (by decide +kernel), lookup_putF, if_pos rfl]
theorem jf_e (b t kd : Addr) : (jf b t kd).lookup ("entries" : Str) = some (.ref t) := by
  unfold jf
  rw [lookup_putF, if_neg (by decide +kernel), lookup_putF, if_pos rfl]
theorem jf_k (b t kd : Addr) : (jf b t kd).lookup ("_known" : Str) = some (.ref kd) := by
  unfold jf
  rw [lookup_putF, if_pos rfl]
theorem jf_no (b t kd : Addr) {m : Str} (h1 : ¬ m = "_known") (h2 : ¬ m = "entries") (h3 : ¬ m = "book") : (jf b t kd).lookup m = none := by
  unfold jf
  rw [lookup_putF, if_neg h1, lookup_putF, if_neg h2, lookup_putF, if_neg h3]
  rfl
/-- a journal of the book at b with the things us, which are the entries xs -/
def JAt (K : PySem.W.Frag) (aT CJ CB : Addr) (H : Hp) (j b : Addr) (L : List (Str × Int)) (us : List V) (xs : List Ent) : Prop := ∃ dx t kd, H j = some (.ins CJ dx (jf b t kd)) ∧ BookAt CB H b L ∧ SqT K H t us ∧ us.length = xs.length ∧
  (∀ (i : Nat) v x, us[i]? = some v → xs[i]? = some x → ThAt K H v (some x)) ∧ (wk L (xs.map some) 0 (fun _ => none) none).1 = none ∧ KnAt aT H kd (wk L (xs.map some) 0 (fun _ => none) none).2 us.length
theorem KnAt.same {aT : Addr} {H H' : Hp} {d : Addr} {S : Kn} {n : Nat} (h : KnAt aT H d S n) (s : Same H H') : KnAt aT H' d S n := by
  obtain ⟨kvs, h1, h2, h3⟩ := h
  exact ⟨kvs, s _ _ h1, h2, fun id => (h3 id).same s⟩
theorem JAt.same {K : PySem.W.Frag} {aT CJ CB : Addr} {H H' : Hp} {j b : Addr} {L : List (Str × Int)} {us : List V} {xs : List Ent} (h : JAt K aT CJ CB H j b L us xs) (s : Same H H') : JAt K aT CJ CB H' j b L us xs := by
  obtain ⟨dx, t, kd, h1, h2, h3, h4, h5, h6, h7⟩ := h
  exact ⟨dx, t, kd, s _ _ h1, h2.same s, seqS h3 s, h4, fun i v x a b => (h5 i v x a b).same s, h6, h7.same s⟩
def spIsRow (K : PySem.W.Frag) : Sp := fun vs H Q _ => ∃ (a : Addr) (us : List V), vs = [.ref a] ∧ (H a = some (.lst us) ∨ SqT K H a us) ∧ ∀ H', Same H H' → Q (.bl true) H'
/-- the made error's dict -/
def Xd (H : Hp) (d : Addr) (fl : Str) (v : V) : Prop := H d = some (.xd [(fl, v)])
def spJInit (K : PySem.W.Frag) (aT CJ CB CE : Addr) : Sp := fun vs H Q E => ∃ (j dx b a : Addr) (L : List (Str × Int)) (us : List V) (ths : List (Option Ent)), vs = [.ref j, .ref b, .ref a] ∧ H j = some (.ins CJ dx []) ∧ BookAt CB H b L ∧ (H a = some (.lst us) ∨ SqT K H a us) ∧ us.length ≤ 400 ∧ us.length = ths.length ∧
  (∀ (i : Nat) v o, us[i]? = some v → ths[i]? = some o → ThAt K H v o) ∧
  (∀ H' xs, ths = xs.map some → (wk L ths 0 (fun _ => none) none).1 = none → JAt K aT CJ CB H' j b L us xs → (∃ dx t kd, H' j = some (.ins CJ dx (jf b t kd)) ∧ H kd = none) → (∀ c o, H c = some o → c ≠ j → H' c = some o) → Q .non H') ∧
  (∀ i d H', (wk L ths 0 (fun _ => none) none).1 = some i → Same H H' → Xd H' d "at" (.int (i : Int)) → E (.ref CE) (some d) H')
/-- what the top says of Journal and of the errors -/
structure Cj (P : Program) (K : PySem.W.Frag) (mg : Str → Option Value) (CJ CB : Addr) : Prop where
  cl : Cls K CJ
  nB : NoAttr K CJ "book"
  nE : NoAttr K CJ "entries"
  nK : NoAttr K CJ "_known"
  c : mg "Journal" = some (.ref CJ)
theorem wk_some {L : List (Str × Int)} : ∀ {ths : List (Option Ent)} {i : Nat} {S : Kn} {l : Option Int}, (wk L ths i S l).1 = none → ∃ xs : List Ent, ths = xs.map some
  | [], _, _, _, _ => ⟨[], rfl⟩
  | none :: r, i, S, l, h => by
    rw [wk_odd] at h
    cases h
  | some x :: r, i, S, l, h => by
    by_cases c : late? l x.arr = true
    · rw [wk_late c] at h
      cases h
    · have c : late? l x.arr = false := Bool.eq_false_iff.mpr c
      cases hb : behind L x (S x.id) with
      | none =>
        rw [wk_bad c hb] at h
        cases h
      | some y =>
        rw [wk_go c hb] at h
        obtain ⟨xs, e⟩ := wk_some h
        exact ⟨x :: xs, by rw [e]; rfl⟩
/-- all but an instance stands -/
theorem BookAt.chg {CB j C dx : Addr} {H H' : Hp} {b : Addr} {L : List (Str × Int)} (h : BookAt CB H b L) (hj : H j = some (.ins C dx [])) (k : ∀ c o, H c = some o → c ≠ j → H' c = some o) : BookAt CB H' b L := by
  obtain ⟨dx, d, L', h1, h2, h3⟩ := h
  exact ⟨dx, d, L', k _ _ h1 (ne_of h1 hj (by intro z; cases z)), k _ _ h2 (ne_of h2 hj (by intro z; cases z)), h3⟩
theorem seqC {K : PySem.W.Frag} {H H' : Hp} {a j C dx : Addr} {us : List V} (h : SqT K H a us) (hj : H j = some (.ins C dx [])) (k : ∀ c o, H c = some o → c ≠ j → H' c = some o) : SqT K H' a us := by
  rcases h with (h | ⟨o, h⟩) | h
  · exact .inl (.inl (k _ _ h (ne_of h hj (by intro z; cases z))))
  · exact .inl (.inr ⟨o, k _ _ h (ne_of h hj (by intro z; cases z))⟩)
  · exact .inr h
theorem knC {aT j : Addr} {H H' : Hp} {d : Addr} {S : Kn} {n : Nat} (h : KnAt aT H d S n) (k : ∀ c o, H c = some o → c ≠ j → H' c = some o) (hj : ∃ C dx fs, H j = some (.ins C dx fs)) : KnAt aT H' d S n := by
  obtain ⟨kvs, h1, h2, h3⟩ := h
  obtain ⟨C, dx, fs, hj⟩ := hj
  refine ⟨kvs, k _ _ h1 (ne_of h1 hj (by intro z; cases z)), h2, fun id => ?_⟩
  have q := h3 id
  cases e : valV kvs (Sum.inl id : Key) with
  | none => rw [e] at q; cases eS : S id <;> (rw [eS] at q; exact q)
  | some v =>
    rw [e] at q
    cases eS : S id with
    | none => rw [eS] at q; exact q
    | some o =>
      rw [eS] at q
      cases o with
      | tb => exact q
      | at_ z kk m a =>
        obtain ⟨t, e1, e2⟩ := q
        exact ⟨t, e1, k _ _ e2 (ne_of e2 hj (by intro z; cases z))⟩
theorem thC {K : PySem.W.Frag} {H H' : Hp} {j C dx : Addr} {v : V} {x : Ent} (h : ThAt K H v (some x)) (hj : H j = some (.ins C dx [])) (k : ∀ c o, H c = some o → c ≠ j → H' c = some o) : ThAt K H' v (some x) := by
  obtain ⟨e, h1, h2, h3⟩ := h
  exact ⟨e, h1, k _ _ h2 (ne_of h2 hj (by intro z; cases z)), h3⟩
section
variable {P : Program} {w : World} {K : PySem.W.Frag} {mg : Str → Option Value} {base : Heap}
abbrev s_is_row : Stmt := topS 13
theorem sc_is_row : FnScope ["thing"] ["thing"] (defScope s_is_row) := ⟨rfl, rfl, rfl, by decide +kernel, rfl, by decide +kernel, by decide +kernel⟩
theorem ok_is_row {f : Addr} {fd : FuncData} (F : Fun K "is_row" "is_row" s_is_row f fd) (B : Blt mg) : FnOk P w K mg base CX0 1 f fd ["thing"] (spIsRow K) := by
  refine F.ok sc_is_row (fun vs H Q E h => ?_) (fun cdv A outer s H vs Q E hr h => ?_)
  · obtain ⟨a, us, rfl, _⟩ := h
    rfl
  · obtain ⟨a, us, rfl, hS, q⟩ := h
    refine ⟨_, (pss_one (ps_ret (pe_callB call_isiT (by rfl) B.isinstance (by decide +kernel) (pa_cons (pv 0) (pa_cons (pe_tup (pa_cons (pe_bltn (v := .ty "list") (by rfl) B.list (by decide +kernel) rfl) (pa_cons (pe_bltn (v := .ty "tuple") (by rfl) B.tuple (by decide +kernel) rfl) pa_nil))) pa_nil))))), ?_⟩
    refine ⟨_, rfl, (by show 2 ≤ sizeLine; decide), fun p hp => ?_⟩
    rcases hS with hS | hS
    · refine ⟨_, p, _, .type "list", [.type "list", .type "tuple"], true, rfl, upd_same, .cons (ClsV.ty _) (.cons (ClsV.ty _) .nil), .base (.lst (by rw [upd_ne (ne_of_none hS hp)]; exact hS)), kitAny_cons (b := true) (kit_ty (by decide +kernel)) (fun z => by cases z) (fun _ => rfl), q _ (sameAt (Same.refl H) hp)⟩
    · have ty : TyX K (upd H p (.tup [.ty "list", .ty "tuple"])) (.ref a) (.type "tuple") := by
        rcases hS with (h | ⟨o, h⟩) | ⟨o, its, n, h1, h2, h3⟩
        · exact .base (.tup (by rw [upd_ne (ne_of_none h hp)]; exact h))
        · exact .fTuple (by rw [upd_ne (ne_of_none h hp)]; exact h)
        · exact .kTuple h1 h2
      refine ⟨_, p, _, .type "tuple", [.type "list", .type "tuple"], true, rfl, upd_same, .cons (ClsV.ty _) (.cons (ClsV.ty _) .nil), ty, kitAny_cons (b := false) (kit_ty (by decide +kernel)) (fun _ => kitAny_cons (b := true) (kit_ty (by decide +kernel)) (fun z => by cases z) (fun _ => rfl)) (fun z => by cases z), q _ (sameAt (Same.refl H) hp)⟩
structure K7 (P : Program) (w : World) (K : PySem.W.Frag) (mg : Str → Option Value) (base : Heap) (CB aT : Addr) : Prop extends K6 P w K mg base CB aT where
  walked : Cal P w K mg base CX0 "walked" 6 ["book", "things"] (spWalked K aT CB)
  is_row : Cal P w K mg base CX0 "is_row" 1 ["thing"] (spIsRow K)
theorem par_at : PySem.BadX.Par "at" := ⟨by decide, by decide +kernel, by decide +kernel, by decide +kernel, by decide +kernel⟩
theorem par_value : PySem.BadX.Par "value" := ⟨by decide, by decide +kernel, by decide +kernel, by decide +kernel, by decide +kernel⟩
abbrev s_Journal_init : Stmt := inClass (topS 30) 0
theorem sc_Journal_init : FnScope ["self", "book", "entries", "at", "known"] ["self", "book", "entries"] (defScope s_Journal_init) := ⟨rfl, rfl, rfl, by decide +kernel, rfl, by decide +kernel, by decide +kernel⟩
theorem ok_j_init {f CJ CBook CE fE aT aE : Addr} {fd : FuncData} (F : FunD K "__init__" "Journal.__init__" (defArgs s_Journal_init) (defBody s_Journal_init) (defScope s_Journal_init) [.ref aE] [] f fd) (B : Blt mg) (Cs : Cst mg) (T : Cj P K mg CJ CBook) (TB : Cb K mg CBook) (TE : PySem.BadX.Txt P K mg "at" "at" CE fE) (c_BadEntry : mg "BadEntry" = some (.ref CE))
    (bk : ∀ H b dx fs, H b = some (.ins CBook dx fs) → TyX K H (.ref b) (.ref CBook)) (G : K7 P w K mg base CBook aT) : FnOk P w K mg base (L2.CX P w) 7 f fd ["self", "book", "entries"] (spJInit K aT CJ CBook CE) := by
  obtain ⟨t1, g_MOST_ENTRIES⟩ := Cs.k_MOST_ENTRIES
  have c_Book := TB.c
  refine F.ok (CX := L2.CX P w) sc_Journal_init (fun vs H Q E h => ?_) (fun cdv A outer s H vs Q E hr h => ?_)
  · obtain ⟨j, dx, b, a, L, us, ths, rfl, _⟩ := h
    rfl
  · obtain ⟨j, dx, b, a, L, us, ths, rfl, hj, hB, hS, h4, hlen, hT, qg, qb⟩ := h
    have hu := hu_of hr
    refine ⟨_, (pss_cons (ps_if (pt_not (pt_val (pe_callB call_isi (by rfl) B.isinstance (by decide +kernel) (pa_cons (pv 1) (pa_cons (pe_glob (v := .ref CBook) (by rfl) c_Book rfl) pa_nil)))))
      (pss_one ps_never)
      pss_nil)
    (pss_cons (ps_if (PW.pt (pw_or (pt_not (pt_val (pe_cal G.is_row (hr.mono (by decide)) pass0 (pa_cons (pv 2) pa_nil)))) (pw_or1 (pt_cmpR op_gt (pe_callB call_len_seq (by rfl) B.len (by decide +kernel) (pa_cons (pv 2) pa_nil)) (pe_glob (v := .int 400) (by rfl) g_MOST_ENTRIES ⟨_, rfl⟩) (nomark _)))))
      (pss_one ps_never)
      pss_nil)
    (pss_cons (ps_asg (pe_cal G.walked (hr.mono (by decide)) pass0 (pa_cons (pv 1) (pa_cons (pv 2) pa_nil))) (pg_tup (by rfl) (pgs_cons (pg_name (i := 3) sc_Journal_init.nd rfl (Or.inl rfl)) (pgs_cons (pg_name (i := 4) sc_Journal_init.nd rfl (Or.inl rfl)) pgs_nil))))
    (pss_cons (ps_if (pt_cmpR op_notN (pv 3) pe_non (nomark _))
      (pss_one (ps_raiseB rfl TE par_at c_BadEntry (hr.mono (Nat.zero_le _)) (takes_of rfl rfl rfl rfl) (pa_cons (pv 3) pa_nil) (by rfl)))
      pss_nil)
    (pss_cons (ps_fld (pv 0) (pv 1) rfl)
    (pss_cons (ps_fld (pv 0) (pe_callTy call_tuple_of (by rfl) B.tuple (by decide +kernel) (pa_cons (pv 2) pa_nil)) rfl)
    (pss_one (ps_fld (pv 0) (pv 4) rfl)))))))), ?_⟩
    obtain ⟨bx, bd, L', b1, b2, b3⟩ := id hB
    refine ⟨_, rfl, _, _, _, _, true, rfl, ClsV.own _, bk _ _ _ _ b1, (by show PySem.W.kitOne K _ _ = _; unfold PySem.W.kitOne; rw [if_pos (by simp)]), _, rfl, iteF ?_⟩
    refine ⟨_, rfl, a, us, rfl, hS, fun H1 s1 => ⟨_, rfl, iteF ?_⟩⟩
    have hS1 : SqL K H1 a us ∨ SqT K H1 a us := by
      rcases hS with h | h
      · exact .inl (SqL.of (s1 _ _ h))
      · exact .inr (seqS h s1)
    refine ⟨_, rfl, a, us, rfl, hS1, _, _, rfl, rfl, _, rfl, ?_⟩
    rw [decide_eq_false (show ¬ (400 : Int) < (us.length : Int) by omega)]
    refine iteF ⟨_, rfl, _, rfl, b, a, L, us, ths, rfl, hB.same s1, hS1, by omega, hlen, fun i v o x y => (hT i v o x y).same s1, fun t kd H2 hkn s2 ht hk => ?_⟩
    have s12 := s1.trans s2
    have hkd0 : H kd = none := by
      cases e : H kd with
      | none => rfl
      | some o => rw [s1 _ _ e] at hkn; cases hkn
    refine ⟨t, _, rfl, SqT.of ht, rfl, _, _, rfl, _, _, rfl, rfl, ?_⟩
    have hj2 : H2 j = some (.ins CJ dx []) := s12 _ _ hj
    cases hw : (wk L ths 0 (fun _ => none) none).1 with
    | some i =>
      refine ⟨_, rfl, rfl, _, rfl, ?_⟩
      show if (!decide (atV (some i) = V.non)) = true then _ else _
      exact iteT ⟨_, rfl, _, rfl, fun d hd => qb i d _ hw (s12.trans (sameAt (Same.refl H2) hd)) upd_same⟩
    | none =>
      refine ⟨_, rfl, rfl, _, rfl, ?_⟩
      show if (!decide (atV none = V.non)) = true then _ else _
      refine iteF ?_
      obtain ⟨xs, hxs⟩ := wk_some hw
      have hlx : us.length = xs.length := by rw [hlen, hxs, List.length_map]
      have hTx : ∀ (i : Nat) v x, us[i]? = some v → xs[i]? = some x → ThAt K H v (some x) := fun i v x a b => hT i v (some x) a (by rw [hxs, List.getElem?_map, b]; rfl)
      have fin : ∀ H', (∀ c o, H2 c = some o → c ≠ j → H' c = some o) → (∃ t, H' j = some (.ins CJ dx (jf b t kd)) ∧ SqT K H' t us) → Q .non H' := fun H' kk2 ⟨t, h1, h2⟩ => by
        have kk : ∀ c o, H c = some o → c ≠ j → H' c = some o := fun c o h n => kk2 c o (s12 _ _ h) n
        refine qg H' xs hxs hw ⟨dx, t, kd, h1, hB.chg hj kk, h2, hlx, fun i v x a b => thC (hTx i v x a b) hj kk, by rw [← hxs]; exact hw, by rw [← hxs]; exact knC hk kk2 ⟨_, _, _, hj2⟩⟩ ⟨dx, t, kd, h1, hkd0⟩ kk
      refine ⟨_, rfl, _, rfl, j, CJ, dx, [], rfl, hj2, T.cl, T.nB, (by show 0 < 1000; decide), ?_⟩
      generalize eA : upd H2 j (.ins CJ dx (putF "book" (.ref b) [])) = HA
      have hA : HA j = some (.ins CJ dx (putF "book" (.ref b) [])) := by rw [← eA]; exact upd_same
      have kA2 : ∀ c o, H2 c = some o → c ≠ j → HA c = some o := fun c o h n => by rw [← eA, upd_ne n]; exact h
      have kA : ∀ c o, H c = some o → c ≠ j → HA c = some o := fun c o h n => kA2 c o (s12 _ _ h) n
      clear eA
      rcases hS with hS | hS
      · have haj : a ≠ j := ne_of hS hj (by intro z; cases z)
        refine ⟨_, rfl, a, us, rfl, .inl ⟨SqL.of (kA _ _ hS haj), fun l hl => ?_⟩⟩
        have hlj : l ≠ j := fun z => by rw [z, hA] at hl; cases hl
        refine ⟨_, rfl, j, CJ, dx, _, rfl, (by rw [upd_ne hlj.symm]; exact hA), T.cl, T.nE, (by show 1 < 1000; decide), ?_⟩
        refine ⟨_, rfl, _, rfl, j, CJ, dx, _, rfl, upd_same, T.cl, T.nK, (by show 2 < 1000; decide), ?_⟩
        refine fin _ (fun c o h n => ?_) ⟨l, upd_same, SqT.of (by rw [upd_ne hlj, upd_ne hlj, upd_same])⟩
        have hcl : c ≠ l := fun z => by rw [← z, kA2 c o h n] at hl; cases hl
        rw [upd_ne n, upd_ne n, upd_ne hcl]
        exact kA2 c o h n
      · refine ⟨_, rfl, a, us, rfl, .inr ⟨seqC hS hj kA, ?_⟩⟩
        refine ⟨_, rfl, j, CJ, dx, _, rfl, hA, T.cl, T.nE, (by show 1 < 1000; decide), ?_⟩
        refine ⟨_, rfl, _, rfl, j, CJ, dx, _, rfl, upd_same, T.cl, T.nK, (by show 2 < 1000; decide), ?_⟩
        have kF : ∀ c o, H2 c = some o → c ≠ j → (upd (upd HA j (.ins CJ dx (putF "entries" (.ref a) (putF "book" (.ref b) [])))) j (.ins CJ dx (putF "_known" (.ref kd) (putF "entries" (.ref a) (putF "book" (.ref b) []))))) c = some o := fun c o h n => by
          rw [upd_ne n, upd_ne n]
          exact kA2 c o h n
        exact fin _ kF ⟨a, upd_same, seqC hS hj fun c o h n => kF c o (s12 _ _ h) n⟩
structure K8 (P : Program) (w : World) (K : PySem.W.Frag) (mg : Str → Option Value) (base : Heap) (CB aT CJ CE : Addr) : Prop extends K7 P w K mg base CB aT where
  Journal : Mak P w K mg base (L2.CX P w) "Journal" CJ 7 ["self", "book", "entries"] (spJInit K aT CJ CB CE)
theorem wk_ge {L : List (Str × Int)} : ∀ {xs : List Ent} {i : Nat} {S : Kn} {t : Int}, (wk L (xs.map some) i S (some t)).1 = none → ∀ x ∈ xs, t ≤ x.arr
  | [], _, _, _, _, x, hx => nomatch hx
  | y :: r, i, S, t, h, x, hx => by
    have h : (wk L (some y :: r.map some) i S (some t)).1 = none := h
    by_cases c : late? (some t) y.arr = true
    · rw [wk_late c] at h
      cases h
    · have c0 : late? (some t) y.arr = false := Bool.eq_false_iff.mpr c
      have c1 : ¬ y.arr < t := fun z => c (decide_eq_true z)
      cases hb : behind L y (S y.id) with
      | none =>
        rw [wk_bad c0 hb] at h
        cases h
      | some z =>
        rw [wk_go c0 hb] at h
        rcases List.mem_cons.mp hx with rfl | hx
        · omega
        · have := wk_ge h x hx
          omega
theorem wk_cut {L : List (Str × Int)} (n : Int) : ∀ {xs : List Ent} {i : Nat} {S : Kn} {l : Option Int}, (wk L (xs.map some) i S l).1 = none →
    ∃ k, k ≤ xs.length ∧ (∀ (j : Nat) x, xs[j]? = some x → (x.arr ≤ n ↔ j < k)) ∧ (wk L ((xs.take k).map some) i S l).1 = none ∧ xs.filter (fun x => decide (x.arr ≤ n)) = xs.take k
  | [], _, _, _, _ => ⟨0, Nat.le_refl _, fun j x h => by simp at h, rfl, rfl⟩
  | y :: r, i, S, l, h => by
    have h : (wk L (some y :: r.map some) i S l).1 = none := h
    by_cases c : late? l y.arr = true
    · rw [wk_late c] at h
      cases h
    · have c0 : late? l y.arr = false := Bool.eq_false_iff.mpr c
      cases hb : behind L y (S y.id) with
      | none =>
        rw [wk_bad c0 hb] at h
        cases h
      | some z =>
        rw [wk_go c0 hb] at h
        by_cases cn : y.arr ≤ n
        · obtain ⟨k, k1, k2, k3, k4⟩ := wk_cut n h
          refine ⟨k + 1, by rw [List.length_cons]; omega, fun j x hj => ?_, ?_, ?_⟩
          · cases j with
            | zero =>
              have : y = x := Option.some.inj hj
              subst this
              exact ⟨fun _ => Nat.succ_pos _, fun _ => cn⟩
            | succ j =>
              have := k2 j x hj
              omega
          · show (wk L (some y :: (r.take k).map some) i S l).1 = none
            rw [wk_go c0 hb]
            exact k3
          · rw [List.filter_cons, if_pos (decide_eq_true cn), k4]
            rfl
        · refine ⟨0, Nat.zero_le _, fun j x hj => ?_, rfl, ?_⟩
          · have hx := List.mem_of_getElem? hj
            have : n < x.arr := by
              rcases List.mem_cons.mp hx with rfl | hx
              · omega
              · have := wk_ge h x hx
                omega
            omega
          · rw [List.filter_eq_nil_iff.mpr]
            · rfl
            · intro x hx
              rcases List.mem_cons.mp hx with rfl | hx
              · simpa using cn
              · have := wk_ge h x hx
                simp
                omega
def spThen (K : PySem.W.Frag) (aT CJ CB CE : Addr) : Sp := fun vs H Q E => ∃ (j b : Addr) (L : List (Str × Int)) (us : List V) (xs : List Ent) (v : V) (o : Option Ent), vs = [.ref j, v] ∧ JAt K aT CJ CB H j b L us xs ∧ us.length < 400 ∧ ThAt K H v o ∧
  (∀ j' H' x, o = some x → (wk L ((xs ++ [x]).map some) 0 (fun _ => none) none).1 = none → Same H H' → JAt K aT CJ CB H' j' b L (us ++ [v]) (xs ++ [x]) → Q (.ref j') H') ∧
  (∀ i d H', (wk L (xs.map some ++ [o]) 0 (fun _ => none) none).1 = some i → Same H H' → Xd H' d "at" (.int (i : Int)) → E (.ref CE) (some d) H')
def spHeard (K : PySem.W.Frag) (aT CJ CB CM : Addr) : Sp := fun vs H Q E => ∃ (j b : Addr) (L : List (Str × Int)) (us : List V) (xs : List Ent) (v : V), vs = [.ref j, v] ∧ JAt K aT CJ CB H j b L us xs ∧ us.length ≤ 400 ∧
  ((∃ n, v = .int n ∧ ∀ k j' H', xs.filter (fun x => decide (x.arr ≤ n)) = xs.take k → Same H H' → JAt K aT CJ CB H' j' b L (us.take k) (xs.take k) → Q (.ref j') H') ∨
   (NotInt K H v ∧ ∀ d H', Same H H' → Xd H' d "value" v → E (.ref CM) (some d) H'))
theorem mk_same {H H' : Hp} {x dx C : Addr} (nx : H x = none) (nd : H dx = none) (k : ∀ c o, (upd (upd H dx (.own x)) x (.ins C dx [])) c = some o → c ≠ x → H' c = some o) : Same H H' := fun c o h =>
  k c o (by rw [upd_ne (ne_of_none h nx), upd_ne (ne_of_none h nd)]; exact h) (ne_of_none h nx)
abbrev s_Journal_then : Stmt := inClass (topS 30) 5
theorem sc_Journal_then : FnScope ["self", "entry"] ["self", "entry"] (defScope s_Journal_then) := ⟨rfl, rfl, rfl, by decide +kernel, rfl, by decide +kernel, by decide +kernel⟩
theorem ok_then {f CJ CB CE aT : Addr} {fd : FuncData} (F : Fun K "then" "Journal.then" s_Journal_then f fd) (B : Blt mg) (Cs : Cst mg) (T : Cj P K mg CJ CB) (G : K8 P w K mg base CB aT CJ CE) : FnOk P w K mg base (L2.CX P w) 9 f fd ["self", "entry"] (spThen K aT CJ CB CE) := by
  obtain ⟨t1, g_MOST_ENTRIES⟩ := Cs.k_MOST_ENTRIES
  refine F.okX sc_Journal_then (fun vs H Q E h => ?_) (fun cdv A outer s H vs Q E hr h => ?_)
  · obtain ⟨j, b, L, us, xs, v, o, rfl, _⟩ := h
    rfl
  · obtain ⟨j, b, L, us, xs, v, o, rfl, hJ, h4, hT, qg, qb⟩ := h
    refine ⟨_, (pss_cons (ps_if (pt_cmpR op_eq (pe_callB call_len_seq (by rfl) B.len (by decide +kernel) (pa_cons (pe_fld (pv 0) rfl) pa_nil)) (pe_glob (v := .int 400) (by rfl) g_MOST_ENTRIES ⟨_, rfl⟩) (nomark _))
      (pss_one ps_never)
      pss_nil)
    (pss_one (ps_ret (pe_mak G.Journal (hr.mono (by decide)) (passE (takes_of rfl rfl rfl rfl)) (pa_cons (pe_fld (pv 0) rfl) (pa_cons (pe_lst (StX.pa_star (pe_fld (pv 0) rfl) (pa_cons (pv 1) pa_nil))) pa_nil)))))), ?_⟩
    obtain ⟨dx, t, kd, h1, h2, h3, hl, h5, h6, h7⟩ := id hJ
    refine ⟨_, rfl, j, CJ, dx, _, _, rfl, h1, T.cl, T.nE, jf_e _ _ _, t, us, rfl, .inr h3, rfl, _, rfl, ?_⟩
    rw [decide_eq_false (show ¬ (V.int (us.length : Int) = V.int 400) from fun z => by have := V.int.inj z; omega)]
    refine iteF ⟨_, rfl, j, CJ, dx, _, _, rfl, h1, T.cl, T.nB, jf_b _ _ _, _, rfl, j, CJ, dx, _, _, rfl, h1, T.cl, T.nE, jf_e _ _ _, t, us, rfl, .inl h3, _, rfl, (by rw [List.length_append]; exact Nat.le_of_lt (small1000 (by show us.length + 1 ≤ 1000; omega))), fun a ha => ?_⟩
    intro x dx' nx ndx nex
    have sA : Same H (upd H a (.lst (us ++ [v]))) := sameAt (Same.refl H) ha
    have sX : Same H (upd (upd (upd H a (.lst (us ++ [v]))) dx' (.own x)) x (.ins CJ dx' [])) := (sA.trans (sameAt (Same.refl _) ndx)).trans (sameAt (Same.refl _) (by rw [upd_ne (Ne.symm nex)]; exact nx))
    have haX : (upd (upd (upd H a (.lst (us ++ [v]))) dx' (.own x)) x (.ins CJ dx' [])) a = some (.lst (us ++ [v])) := by
      rw [upd_ne (fun z => by rw [← z, upd_same] at nx; cases nx), upd_ne (fun z => by rw [← z, upd_same] at ndx; cases ndx), upd_same]
    refine ⟨x, dx', b, a, L, us ++ [v], xs.map some ++ [o], rfl, upd_same, h2.same sX, .inl haX, by rw [List.length_append]; show us.length + 1 ≤ 400; omega, by rw [List.length_append, List.length_append, List.length_map, hl]; rfl, fun i v' o' hi ho => ?_, fun H' ys hys hw hJ' _ kk => ⟨rfl, ?_⟩, fun i d H' hw s hx => ?_⟩
    · by_cases hil : i < us.length
      · rw [List.getElem?_append_left hil] at hi
        rw [List.getElem?_append_left (by rw [List.length_map, ← hl]; exact hil), List.getElem?_map] at ho
        cases e : xs[i]? with
        | none => rw [e] at ho; cases ho
        | some y =>
          rw [e] at ho
          cases ho
          exact (h5 i v' y hi e).same sX
      · have hi' : i = us.length := by
          have := (List.getElem?_eq_some_iff.mp hi).1
          rw [List.length_append] at this
          have : i < us.length + 1 := this
          omega
        subst hi'
        rw [List.getElem?_append_right (Nat.le_refl _), Nat.sub_self] at hi
        rw [hl, List.getElem?_append_right (by rw [List.length_map]; exact Nat.le_refl _), List.length_map, Nat.sub_self] at ho
        cases hi
        cases ho
        exact hT.same sX
    · obtain ⟨y, rfl⟩ : ∃ y, o = some y := by
        cases o with
        | none =>
          have hm : (none : Option Ent) ∈ ys.map some := by rw [← hys]; simp
          obtain ⟨y, _, e⟩ := List.mem_map.mp hm
          cases e
        | some y => exact ⟨y, rfl⟩
      have e : ys = xs ++ [y] := by
        have e2 : (xs ++ [y]).map some = ys.map some := by rw [← hys, List.map_append]; rfl
        exact (List.map_inj_right (fun a b h => Option.some.inj h)).mp e2.symm
      subst e
      refine qg x H' y rfl (by rw [← hys]; exact hw) ?_ hJ'
      exact sA.trans (mk_same nx ndx kk)
    · exact qb i d H' hw (sX.trans s) hx
end
end Ash

set_option Elab.async false
set_option linter.all false
set_option maxRecDepth 100000
set_option maxHeartbeats 4000000
namespace Ash
open PySem PySem.Spec PyProof.Rows L2
open C8 (pss_cut)
section
variable {P : Program} {w : World} {K : PySem.W.Frag} {mg : Str → Option Value} {base : Heap}
abbrev s_Journal_heard : Stmt := inClass (topS 30) 6
theorem sc_Journal_heard : FnScope ["self", "h", "entry"] ["self", "h"] (defScope s_Journal_heard) := ⟨rfl, rfl, rfl, by decide +kernel, rfl, by decide +kernel, by decide +kernel⟩
theorem ok_heard {f CJ CB CE CM fM aT : Addr} {fd : FuncData} (F : Fun K "heard" "Journal.heard" s_Journal_heard f fd) (B : Blt mg) (T : Cj P K mg CJ CB) (TM : PySem.BadX.Txt P K mg "value" "value" CM fM) (c_BadMoment : mg "BadMoment" = some (.ref CM)) (G : K8 P w K mg base CB aT CJ CE) : FnOk P w K mg base (L2.CX P w) 9 f fd ["self", "h"] (spHeard K aT CJ CB CM) := by
  refine F.okX sc_Journal_heard (fun vs H Q E h => ?_) (fun cdv A outer s H vs Q E hr h => ?_)
  · obtain ⟨j, b, L, us, xs, v, rfl, _⟩ := h
    rfl
  · obtain ⟨j, b, L, us, xs, v, rfl, hJ, h4, hv⟩ := h
    refine ⟨_, (pss_cons (ps_if (pt_not (pt_val (pe_cal G.is_integer (hr.mono (by decide)) pass0 (pa_cons (pv 1) pa_nil))))
      (pss_one (ps_raiseB rfl TM par_value c_BadMoment (hr.mono (Nat.zero_le _)) (takes_of rfl rfl rfl rfl) (pa_cons (pv 1) pa_nil) (by rfl)))
      pss_nil)
    (pss_one (ps_ret (pe_mak G.Journal (hr.mono (by decide)) (passE (takes_of rfl rfl rfl rfl)) (pa_cons (pe_fld (pv 0) rfl) (pa_cons (pe_lc (own := [("entry", 2)]) (g := gName 2) (by rfl) sc_Journal_heard.nd (pi_tup (pe_fld (pv 0) rfl)) (blkOk_by (own := [("entry", 2)]) (N := ["self", "h", "entry"]) (sc := defScope s_Journal_heard) (by decide +kernel)) (fun _ _ _ _ _ => (pg_name (i := 2) sc_Journal_heard.nd rfl (Or.inl rfl))) (fun _ _ _ _ _ => pts_one (pt_cmpR op_le (pe_cal G.arrival_of (hr.mono (by decide)) pass0 (pa_cons (pv 2) pa_nil)) (pv 1) (nomark _))) (fun _ _ _ _ _ => (pv 2))) pa_nil)))))), ?_⟩
    obtain ⟨dx, t, kd, h1, h2, h3, hl, h5, h6, h7⟩ := id hJ
    rcases hv with ⟨n, rfl, q⟩ | ⟨ni, q⟩
    · refine ⟨_, rfl, _, rfl, .inl ⟨n, rfl, _, rfl, iteF ?_⟩⟩
      obtain ⟨k, k1, k2, k3, k4⟩ := wk_cut n h6
      refine ⟨_, rfl, j, CJ, dx, _, _, rfl, h1, T.cl, T.nB, jf_b _ _ _, _, rfl, j, CJ, dx, _, _, rfl, h1, T.cl, T.nE, jf_e _ _ _, t, rfl, ⟨_, h3⟩, fun D hD => lc_it (walk_tup (xs := us)) (fun i H1 => H1 D = some (.lst (us.take (min i k))) ∧ Same H H1) ⟨by rw [Nat.zero_min]; exact upd_same, sameAt (Same.refl H) hD⟩ (fun i H1 _ hv => seqS h3 hv.2) ?_ ?_⟩
      · rintro i v H1 H2 hi ⟨hD1, s1⟩ ⟨rfl, hvi⟩
        have hix : i < xs.length := by rw [← hl]; exact hi
        obtain ⟨x, hx⟩ : ∃ x, xs[i]? = some x := ⟨_, List.getElem?_eq_getElem hix⟩
        obtain ⟨e, rfl, he, hok⟩ := h5 i v x hvi hx
        refine ⟨rfl, _, rfl, e, x, rfl, s1 _ _ he, _, rfl, _, _, rfl, rfl, _, rfl, ?_⟩
        refine ite2 (fun c => ?_) (fun c => ?_)
        · have c : x.arr ≤ n := of_decide_eq_true c
          have ik := (k2 i x hx).mp c
          refine ⟨_, rfl, _, hD1, (by rw [List.length_take]; exact small1000 (by omega)), ?_, sameAt s1 hD⟩
          rw [upd_same, Nat.min_eq_left (Nat.le_of_lt ik), Nat.min_eq_left (by omega), list_take hvi]
        · have c : ¬ x.arr ≤ n := fun z => c (decide_eq_true z)
          have ik : k ≤ i := Nat.le_of_not_lt fun z => c ((k2 i x hx).mpr z)
          refine ⟨?_, s1⟩
          rw [hD1, Nat.min_eq_right ik, Nat.min_eq_right (by omega)]
      · rintro H1 ⟨hD1, s1⟩
        rw [Nat.min_eq_right (by omega)] at hD1
        intro x dx' nx ndx nex
        have sX : Same H1 (upd (upd H1 dx' (.own x)) x (.ins CJ dx' [])) := (sameAt (Same.refl _) ndx).trans (sameAt (Same.refl _) (by rw [upd_ne (Ne.symm nex)]; exact nx))
        refine ⟨x, dx', b, D, L, us.take k, (xs.take k).map some, rfl, upd_same, h2.same (s1.trans sX), .inl (sX _ _ hD1), by rw [List.length_take]; omega, by rw [List.length_take, List.length_map, List.length_take, hl], fun i v' o' hi ho => ?_, fun H' ys hys hw hJ' _ kk => ⟨rfl, ?_⟩, fun i d H' hw s hx => ?_⟩
        · have hik : i < k := by
            have := (List.getElem?_eq_some_iff.mp hi).1
            rw [List.length_take] at this
            omega
          rw [List.getElem?_take_of_lt hik] at hi
          rw [List.getElem?_map, List.getElem?_take_of_lt hik] at ho
          cases e : xs[i]? with
          | none => rw [e] at ho; cases ho
          | some y =>
            rw [e] at ho
            cases ho
            exact (h5 i v' y hi e).same (s1.trans sX)
        · have e : ys = xs.take k := (List.map_inj_right (fun a b h => Option.some.inj h)).mp hys.symm
          subst e
          exact q k x H' k4 (s1.trans (mk_same nx ndx kk)) hJ'
        · rw [k3] at hw
          cases hw
    · refine ⟨_, rfl, _, rfl, .inr ⟨ni, _, rfl, iteT ?_⟩⟩
      exact ⟨_, rfl, _, rfl, fun d hd => q d _ (sameAt (Same.refl H) hd) upd_same⟩
end
end Ash

set_option Elab.async false
set_option linter.all false
set_option maxRecDepth 100000
set_option maxHeartbeats 4000000
namespace Ash
open PySem PySem.Spec PyProof.Rows L2
/-! ### equality by identity, item by item -/
def SameV (x y : V) : Prop := (flatV x = true ∧ flatV y = true ∧ eqV x y = true) ∨ (x = y ∧ ∃ a, x = .ref a)
def SeqS (K : PySem.W.Frag) (H : Hp) (x y : V) : Prop := ∃ a b xs ys, x = .ref a ∧ y = .ref b ∧ SqT K H a xs ∧ SqT K H b ys ∧ xs.length = ys.length ∧ ∀ (i : Nat) u v, xs[i]? = some u → ys[i]? = some v → SameV u v
section
variable {X : Cx}
theorem same_at {A : Around} {s : Shared} {x y : V} {u v : Value} (h : SameV x y) (rx : RelV x u) (ry : RelV y v) : SeqAt.EqAt A s u v true := by
  rcases h with ⟨fx, fy, e⟩ | ⟨rfl, a, rfl⟩
  · have q := eqAt_V (A := A) (s := s) rx ry fx fy
    rw [e] at q
    exact q
  · cases (show u = Value.ref a from rx)
    cases (show v = Value.ref a from ry)
    exact SeqAt.EqAt.same _
theorem op_neS (hu : X.A.units < cLine) : OpR X (compareOp .NotEq) (fun x y H Q => SeqS X.K H x y ∧ Q (.bl false) H) := by
  intro pins s σ H x y v u Q I rx ry ⟨h, q⟩
  obtain ⟨a, b, xs, ys, rfl, rfl, ha, hb, hl, hi⟩ := h
  cases (show v = Value.ref a from rx)
  cases (show u = Value.ref b from ry)
  obtain ⟨i1, r1, t1, z1⟩ := I.tuple ha
  obtain ⟨i2, r2, t2, z2⟩ := I.tuple hb
  have l1 := r1.length
  have l2 := r2.length
  have e : (!((List.range (min i1.toArray.size i2.toArray.size)).all (fun _ => true) && i1.toArray.size == i2.toArray.size)) = false := by
    have : i1.toArray.size = i2.toArray.size := by simp; omega
    simp [this]
  have key := SeqAt.RcNeAt.tuples (A := X.A) (s := s) (e := fun _ => true) (show s.heap.IsTuple a i1.toArray from t1) (show s.heap.IsTuple b i2.toArray from t2) hu fun j h1 h2 => by
    have h1' : j < i1.length := by simpa using h1
    have h2' : j < i2.length := by simpa using h2
    have x1 : xs[j]? = some xs[j] := List.getElem?_eq_getElem (by omega)
    have y1 : ys[j]? = some ys[j] := List.getElem?_eq_getElem (by omega)
    obtain ⟨u1, e1, q1⟩ := r1.get x1
    obtain ⟨u2, e2, q2⟩ := r2.get y1
    have e1' : i1.toArray[j] = u1 := by
      rw [List.getElem?_eq_getElem h1'] at e1
      simpa using Option.some.inj e1
    have e2' : i2.toArray[j] = u2 := by
      rw [List.getElem?_eq_getElem h2'] at e2
      simpa using Option.some.inj e2
    rw [e1', e2']
    exact same_at (hi j _ _ x1 y1) q1 q2
  rw [e] at key
  exact key X.prog X.w X.xe _ ⟨.bl false, H, I, rfl, q⟩
end
/-! ### entries as data -/
def Ent.data : Ent → PyData
  | .row id s k m a r => .tuple [.str "row", .int id, .str s, .str k, .int m, .int a, .int r]
  | .fix id m a r => .tuple [.str "fix", .int id, .int m, .int a, .int r]
  | .gone id r => .tuple [.str "gone", .int id, .int r]
theorem ent_dp {K : PySem.W.Frag} {H : Hp} {e : Addr} {x : Ent} (h : EntAt H e x) : Dp K H (.ref e) x.data := by
  cases x with
  | row id s k m a r => exact .tup (SqT.of h) (.cons (.str _) (.cons (.int _) (.cons (.str _) (.cons (.str _) (.cons (.int _) (.cons (.int _) (.cons (.int _) .nil)))))))
  | fix id m a r => exact .tup (SqT.of h) (.cons (.str _) (.cons (.int _) (.cons (.int _) (.cons (.int _) (.cons (.int _) .nil)))))
  | gone id r => exact .tup (SqT.of h) (.cons (.str _) (.cons (.int _) (.cons (.int _) .nil)))
theorem ent_lay {x : Ent} (h : x.ok) : x.data.canLay0 = true ∧ x.data.depth ≤ 2 := by
  have key : ∀ ds : List PyData, ds.all flatD = true → (PyData.tuple ds).canLay0 = true ∧ (PyData.tuple ds).depth ≤ 2 := fun ds hd => by
    obtain ⟨h1, h2⟩ := flat_lay hd
    simp [PyData.canLay0, PyData.depth, h1]
    omega
  cases x with
  | row id s k m a r =>
    obtain ⟨h1, h2⟩ := h.2 _ _ _ _ _ _ rfl
    have hr : PyData.strOk "row" = true := by decide +kernel
    exact key _ (by simp [flatD, nm_ok h1, nm_ok h2, hr])
  | fix id m a r =>
    have hr : PyData.strOk "fix" = true := by decide +kernel
    exact key _ (by simp [flatD, hr])
  | gone id r =>
    have hr : PyData.strOk "gone" = true := by decide +kernel
    exact key _ (by simp [flatD, hr])
theorem ents_lay : ∀ {xs : List Ent}, (∀ x ∈ xs, x.ok) → PyData.canLayAll0 (xs.map Ent.data) = true ∧ PyData.depthAll (xs.map Ent.data) ≤ 2
  | [], _ => by simp [PyData.canLayAll0, PyData.depthAll]
  | x :: xs, h => by
    obtain ⟨h1, h2⟩ := ents_lay fun y hy => h y (List.mem_cons_of_mem _ hy)
    obtain ⟨h3, h4⟩ := ent_lay (h x List.mem_cons_self)
    rw [List.map_cons]
    simp only [PyData.canLayAll0, PyData.depthAll, h1, h3, Bool.and_self, true_and]
    exact Nat.max_le.mpr ⟨h4, h2⟩
/-- us are the entries xs -/
def Ents (H : Hp) (us : List V) (xs : List Ent) : Prop := us.length = xs.length ∧ ∀ (i : Nat) v x, us[i]? = some v → xs[i]? = some x → ∃ e, v = .ref e ∧ EntAt H e x ∧ x.ok
theorem Ents.same {H H' : Hp} {us : List V} {xs : List Ent} (h : Ents H us xs) (s : Same H H') : Ents H' us xs := ⟨h.1, fun i v x a b => by
  obtain ⟨e, h1, h2, h3⟩ := h.2 i v x a b
  exact ⟨e, h1, s _ _ h2, h3⟩⟩
theorem Ents.dp {K : PySem.W.Frag} {H : Hp} : ∀ {us : List V} {xs : List Ent}, Ents H us xs → DpAll K H us (xs.map Ent.data)
  | [], [], _ => .nil
  | [], _ :: _, h => by have := h.1; simp at this
  | _ :: _, [], h => by have := h.1; simp at this
  | v :: us, x :: xs, h => by
    obtain ⟨e, rfl, h2, _⟩ := h.2 0 v x rfl rfl
    exact .cons (ent_dp h2) (Ents.dp ⟨by have := h.1; simpa using this, fun i v x a b => h.2 (i + 1) v x a b⟩)
theorem Ents.ok {H : Hp} {us : List V} {xs : List Ent} (h : Ents H us xs) : ∀ x ∈ xs, x.ok := fun x hx => by
  obtain ⟨i, hi, e⟩ := List.getElem_of_mem hx
  have hu : i < us.length := by rw [h.1]; exact hi
  obtain ⟨_, _, _, h3⟩ := h.2 i us[i] x (List.getElem?_eq_getElem hu) (by rw [List.getElem?_eq_getElem hi, e])
  exact h3
theorem told_shaped {xs : List Ent} {w : Str} (hw : PyData.strOk w = true) (h : ∀ x ∈ xs, x.ok) : SeqAt.shaped (.tuple [.str w, .list (xs.map Ent.data)]) = true := by
  obtain ⟨h1, h2⟩ := ents_lay h
  unfold SeqAt.shaped
  simp [PyData.canLay0, PyData.canLayAll0, PyData.depth, PyData.depthAll, h1, hw]
  omega
theorem list_shaped {xs : List Ent} (h : ∀ x ∈ xs, x.ok) : SeqAt.shaped (.list (xs.map Ent.data)) = true := by
  obtain ⟨h1, h2⟩ := ents_lay h
  unfold SeqAt.shaped
  simp [PyData.canLay0, PyData.depth, h1]
  omega
end Ash

set_option Elab.async false
set_option linter.all false
set_option maxRecDepth 100000
set_option maxHeartbeats 4000000
namespace Ash
open PySem PySem.Spec PyProof.Rows L2
open C8 (pss_cut)
/-! ### the law's own draws -/
def spInt : Sp := fun vs H Q _ => ∃ (p s : Addr), vs = [.ref p] ∧ PoolAt H p s ∧ ∀ (n : Int) H', Pl H H' p s → Q (.int n) H'
def SV (H : Hp) : Option V → Option RowSt → Prop
  | none, none => True
  | some v, some .tb => v = .non
  | some v, some (.at_ s k m a) => ∃ t, v = .ref t ∧ H t = some (.tup [.str s, .str k, .int m, .int a])
  | _, _ => False
theorem SV.but {H H' : Hp} {v : Option V} {o : Option RowSt} (h : SV H v o) (s : ∀ t xs, H t = some (.tup xs) → H' t = some (.tup xs)) : SV H' v o := by
  cases v with
  | none => cases o <;> exact h
  | some v =>
    cases o with
    | none => exact h
    | some o =>
      cases o with
      | tb => exact h
      | at_ z k m a =>
        obtain ⟨t, e, h⟩ := h
        exact ⟨t, e, s _ _ h⟩
/-- the law's states: a dict from ids to None or what is known -/
def StAt (H : Hp) (d : Addr) (S : Kn) (n : Nat) : Prop := ∃ kvs : List (Key × V), H d = some (.dK kvs) ∧ kvs.length ≤ n ∧ (∀ kv ∈ kvs, ∃ id, kv.1 = Sum.inl id) ∧ ∀ id, SV H (valV kvs (Sum.inl id)) (S id)
theorem StAt.same {H H' : Hp} {d : Addr} {S : Kn} {n : Nat} (h : StAt H d S n) (s : Same H H') : StAt H' d S n := by
  obtain ⟨kvs, h1, h2, h3, h4⟩ := h
  exact ⟨kvs, s _ _ h1, h2, h3, fun id => (h4 id).but fun t xs e => s _ _ e⟩
theorem StAt.pl {H H' : Hp} {d p s : Addr} {S : Kn} {n : Nat} (h : StAt H d S n) (P0 : PoolAt H p s) (P : Pl H H' p s) : StAt H' d S n := by
  obtain ⟨kvs, h1, h2, h3, h4⟩ := h
  obtain ⟨ns, i, c, k, m, hp, _⟩ := P0
  exact ⟨kvs, P.keep h1 (ne_of h1 hp (by intro z; cases z)), h2, h3, fun id => (h4 id).but fun t xs e => P.keep e (ne_of e hp (by intro z; cases z))⟩
theorem Pl.dk {H H' : Hp} {p s d : Addr} {kvs : List (Key × V)} (P : Pl H H' p s) (P0 : PoolAt H p s) (h : H d = some (.dK kvs)) : H' d = some (.dK kvs) := by
  obtain ⟨ns, i, c, k, m, hp, _⟩ := P0
  exact P.keep h (ne_of h hp (by intro z; cases z))
theorem Pl.tp {H H' : Hp} {p s d : Addr} {xs : List V} (P : Pl H H' p s) (P0 : PoolAt H p s) (h : H d = some (.tup xs)) : H' d = some (.tup xs) := by
  obtain ⟨ns, i, c, k, m, hp, _⟩ := P0
  exact P.keep h (ne_of h hp (by intro z; cases z))
theorem strs_ne {ns : List Int} {r : Addr} {a b c d : Int} {ks : List Str} : (HO.lst (ks.map V.str)) ≠ .lst [.ref r, .int a, .int b, .int c, .int d] := fun z => by
  injection z with z
  cases ks with
  | nil => cases z
  | cons k ks => injection z with z1 _; cases z1
theorem Pl.sl {H H' : Hp} {p s d : Addr} {ks : List Str} (P : Pl H H' p s) (P0 : PoolAt H p s) (h : H d = some (.lst (ks.map V.str))) : H' d = some (.lst (ks.map V.str)) := by
  obtain ⟨ns, i, c, k, m, hp, _⟩ := P0
  exact P.keep h (ne_of h hp (strs_ne (ns := ns)))
theorem mem_val {kvs : List (Key × V)} {kv : Key × V} (h : kv ∈ kvs) : ∃ v, valV kvs kv.1 = some v := by
  have q : (kvs.any fun x => decide (x.1 = kv.1)) = true := List.any_eq_true.mpr ⟨kv, h, decide_eq_true rfl⟩
  rw [valV_any] at q
  exact Option.isSome_iff_exists.mp q
/-- a row of one of the keys -/
def KIn (ks : List Str) (x : Ent) : Prop := ∀ id s k m a r, x = .row id s k m a r → k ∈ ks
end Ash

set_option Elab.async false
set_option linter.all false
set_option maxRecDepth 100000
set_option maxHeartbeats 4000000
namespace Ash
open PySem PySem.Spec PyProof.Rows L2
open C8 (pss_cut)
/-! ### states that change -/
def TK (H H' : Hp) : Prop := ∀ t xs, H t = some (.tup xs) → H' t = some (.tup xs)
theorem Ents.tk {H H' : Hp} {us : List V} {xs : List Ent} (h : Ents H us xs) (s : TK H H') : Ents H' us xs := ⟨h.1, fun i v x a b => by
  obtain ⟨e, h1, h2, h3⟩ := h.2 i v x a b
  exact ⟨e, h1, s _ _ h2, h3⟩⟩
theorem Pl.tk {H H' : Hp} {p s : Addr} (P : Pl H H' p s) (P0 : PoolAt H p s) : TK H H' := fun t xs h => P.tp P0 h
theorem tk_same {H H' : Hp} (s : Same H H') : TK H H' := fun t xs h => s _ _ h
theorem TK.trans {H H1 H2 : Hp} (a : TK H H1) (b : TK H1 H2) : TK H H2 := fun t xs h => b t xs (a t xs h)
theorem tk_off {H : Hp} {q : Addr} {o u : HO} (h : H q = some u) (hu : ∀ xs, u ≠ .tup xs) : TK H (upd H q o) := fun t xs e => by
  rw [upd_ne (ne_of e h (fun z => hu xs z.symm))]
  exact e
theorem mem_putK {kvs : List (Key × V)} {id : Int} {v : V} (h : ∀ kv ∈ kvs, ∃ id, kv.1 = Sum.inl id) : ∀ kv ∈ putK kvs (Sum.inl id : Key) v, ∃ id, kv.1 = Sum.inl id := by
  intro kv hkv
  unfold putK at hkv
  split at hkv
  · obtain ⟨x, hx, rfl⟩ := List.mem_map.mp hkv
    obtain ⟨j, hj⟩ := h x hx
    split
    · exact ⟨j, hj⟩
    · exact ⟨j, hj⟩
  · rcases List.mem_append.mp hkv with hk | hk
    · exact h kv hk
    · rw [List.mem_singleton.mp hk]
      exact ⟨id, rfl⟩
def setK (S : Kn) (id : Int) (y : RowSt) : Kn := fun j => if j = id then some y else S j
theorem StAt.put {H H1 : Hp} {ds : Addr} {S : Kn} {n : Nat} {kvs : List (Key × V)} {id : Int} {v : V} {y : RowSt} (h1 : H ds = some (.dK kvs)) (h2 : kvs.length ≤ n) (h3 : ∀ kv ∈ kvs, ∃ id, kv.1 = Sum.inl id) (h4 : ∀ id, SV H (valV kvs (Sum.inl id)) (S id))
    (s : Same H H1) (hv : SV H1 (some v) (some y)) : StAt (upd H1 ds (.dK (putK kvs (Sum.inl id) v))) ds (setK S id y) (n + 1) := by
  refine ⟨_, upd_same, Nat.le_trans (pk_len _ _ _) (by omega), mem_putK h3, fun j => ?_⟩
  have tk : TK H1 (upd H1 ds (.dK (putK kvs (Sum.inl id) v))) := tk_off (s _ _ h1) (fun xs z => by cases z)
  rw [valV_put]
  show SV _ _ (if j = id then some y else S j)
  by_cases e : j = id
  · rw [if_pos (by rw [e]), if_pos e]
    exact hv.but tk
  · rw [if_neg (fun q => e (Sum.inl.inj q)), if_neg e]
    exact ((h4 j).but fun t xs z => s _ _ z).but tk
theorem behind_row {L : List (Str × Int)} {id : Int} {s k : Str} {m a r : Int} {o : Option RowSt} {y : RowSt} (h : behind L (.row id s k m a r) o = some y) : y = .at_ s k m a := by
  cases o with
  | some o => cases h
  | none =>
    have h : (L.lookup s).bind _ = _ := h
    cases e : L.lookup s with
    | none => rw [e] at h; cases h
    | some l =>
      rw [e, Option.bind_some] at h
      split at h
      · exact (Option.some.inj h).symm
      · cases h
theorem behind_fix {L : List (Str × Int)} {id m a r : Int} {o : Option RowSt} {y : RowSt} (h : behind L (.fix id m a r) o = some y) : ∃ s k m0 a0, o = some (.at_ s k m0 a0) ∧ y = .at_ s k m a := by
  cases o with
  | none => cases h
  | some o =>
    cases o with
    | tb => cases h
    | at_ s k m0 a0 =>
      have h : (L.lookup s).bind _ = _ := h
      cases e : L.lookup s with
      | none => rw [e] at h; cases h
      | some l =>
        rw [e, Option.bind_some] at h
        split at h
        · exact ⟨s, k, m0, a0, rfl, (Option.some.inj h).symm⟩
        · cases h
theorem behind_gone {L : List (Str × Int)} {id r : Int} {o : Option RowSt} {y : RowSt} (h : behind L (.gone id r) o = some y) : y = .tb := by
  cases o with
  | none => cases h
  | some o =>
    cases o with
    | tb => cases h
    | at_ s k m0 a0 =>
      have h : (L.lookup s).bind _ = _ := h
      cases e : L.lookup s with
      | none => rw [e] at h; cases h
      | some l =>
        rw [e, Option.bind_some] at h
        split at h
        · exact (Option.some.inj h).symm
        · cases h
def spPut : Sp := fun vs H Q _ => ∃ (ds e : Addr) (L : List (Str × Int)) (S : Kn) (n : Nat) (x : Ent) (y : RowSt), vs = [.ref ds, .ref e] ∧ StAt H ds S n ∧ n ≤ 900 ∧ EntAt H e x ∧ behind L x (S x.id) = some y ∧
  ∀ H', StAt H' ds (setK S x.id y) (n + 1) → (∀ c o, H c = some o → c ≠ ds → H' c = some o) → Q .non H'
/-- the latest arrival -/
def lastA : List Ent → Option Int → Option Int
  | [], l => l
  | x :: r, _ => lastA r (some x.arr)
theorem lastA_snoc : ∀ (xs : List Ent) (x : Ent) (l : Option Int), lastA (xs ++ [x]) l = some x.arr
  | [], _, _ => rfl
  | _ :: r, x, _ => lastA_snoc r x _
theorem wk_app {L : List (Str × Int)} {S1 : Kn} (rest : List (Option Ent)) : ∀ {xs : List Ent} {i : Nat} {S : Kn} {l : Option Int}, wk L (xs.map some) i S l = (none, S1) → wk L (xs.map some ++ rest) i S l = wk L rest (i + xs.length) S1 (lastA xs l)
  | [], i, S, l, h => by
    have h : ((none : Option Nat), S) = (none, S1) := h
    cases h
    rfl
  | x :: r, i, S, l, h => by
    have h : wk L (some x :: r.map some) i S l = (none, S1) := h
    show wk L (some x :: (r.map some ++ rest)) i S l = _
    by_cases c : late? l x.arr = true
    · rw [wk_late c] at h
      cases h
    · have c0 : late? l x.arr = false := Bool.eq_false_iff.mpr c
      cases hb : behind L x (S x.id) with
      | none =>
        rw [wk_bad c0 hb] at h
        cases h
      | some z =>
        rw [wk_go c0 hb] at h ⊢
        rw [wk_app rest h]
        show wk L rest (i + 1 + r.length) S1 _ = wk L rest (i + (r.length + 1)) S1 _
        rw [show i + 1 + r.length = i + (r.length + 1) by omega]
        rfl
/-- what is left of the heap when the pool and the states have changed -/
structure Pd (H0 H : Hp) (p s ds : Addr) : Prop where
  now : PoolAt H p s
  op : H0 p ≠ none
  os : H0 s ≠ none
  but : ∀ b o, H0 b = some o → b ≠ p → b ≠ ds → H b = some o
theorem Pd.pl {H0 H H1 : Hp} {p s ds : Addr} (a : Pd H0 H p s ds) (b : Pl H H1 p s) : Pd H0 H1 p s ds := ⟨b.now, a.op, a.os, fun c o h n1 n2 => b.keep (a.but c o h n1 n2) n1⟩
theorem Pd.chg {H0 H H1 : Hp} {p s ds : Addr} {kvs : List (Key × V)} (a : Pd H0 H p s ds) (hd : H ds = some (.dK kvs)) (k : ∀ c o, H c = some o → c ≠ ds → H1 c = some o) : Pd H0 H1 p s ds := by
  refine ⟨?_, a.op, a.os, fun c o h n1 n2 => k _ _ (a.but c o h n1 n2) n2⟩
  obtain ⟨ns, i, c, kk, n, h1, h2, h3, h4⟩ := a.now
  exact ⟨ns, i, c, kk, n, k _ _ h1 (ne_of h1 hd (by intro z; cases z)), k _ _ h2 (ne_of h2 hd (by intro z; cases z)), h3, h4⟩
theorem Pd.at {H0 H : Hp} {p s ds q : Addr} {o : HO} (a : Pd H0 H p s ds) (hq : H0 q = none) : Pd H0 (upd H q o) p s ds :=
  ⟨a.now.off (fun z => a.op (z ▸ hq)) (fun z => a.os (z ▸ hq)), a.op, a.os, fun c o h n1 n2 => by rw [upd_ne (ne_of_none h hq)]; exact a.but c o h n1 n2⟩
theorem Pd.free {H0 H : Hp} {p s ds q : Addr} (a : Pd H0 H p s ds) (hd : H ds ≠ none) (hq : H q = none) : H0 q = none := by
  cases e : H0 q with
  | none => rfl
  | some u =>
    by_cases h1 : q = p
    · exact absurd (h1 ▸ hq) a.now.ne.1
    · by_cases h2 : q = ds
      · exact absurd (h2 ▸ hq) hd
      · rw [a.but q u e h1 h2] at hq
        cases hq
theorem Ents.snoc {H : Hp} {us : List V} {xs : List Ent} {e : Addr} {x : Ent} (h : Ents H us xs) (he : EntAt H e x) (hok : x.ok) : Ents H (us ++ [.ref e]) (xs ++ [x]) := by
  refine ⟨by rw [List.length_append, List.length_append, h.1]; rfl, fun i v y a b => ?_⟩
  by_cases hi : i < us.length
  · rw [List.getElem?_append_left hi] at a
    rw [List.getElem?_append_left (by rw [← h.1]; exact hi)] at b
    exact h.2 i v y a b
  · have hi' : i = us.length := by
      have := (List.getElem?_eq_some_iff.mp a).1
      rw [List.length_append] at this
      have : i < us.length + 1 := this
      omega
    subst hi'
    rw [List.getElem?_append_right (Nat.le_refl _), Nat.sub_self] at a
    rw [h.1, List.getElem?_append_right (Nat.le_refl _), Nat.sub_self] at b
    cases a
    cases b
    exact ⟨e, rfl, he, hok⟩
section
variable {P : Program} {w : World} {K : PySem.W.Frag} {mg : Str → Option Value} {base : Heap}
abbrev s_l_put : Stmt := topS 43
theorem sc_l_put : FnScope ["states", "entry", "old"] ["states", "entry"] (defScope s_l_put) := ⟨rfl, rfl, rfl, by decide +kernel, rfl, by decide +kernel, by decide +kernel⟩
theorem ok_put {f : Addr} {fd : FuncData} (F : Fun K "_law_put" "_law_put" s_l_put f fd) (B : Blt mg) : FnOk P w K mg base CX0 1 f fd ["states", "entry"] spPut := by
  refine F.ok sc_l_put (fun vs H Q E h => ?_) (fun cdv A outer s H vs Q E hr h => ?_)
  · obtain ⟨ds, e, L, S, n, x, y, rfl, _⟩ := h
    rfl
  · obtain ⟨ds, e, L, S, n, x, y, rfl, hst, hn, hx, hb, q⟩ := h
    have hu := hu_of hr
    obtain ⟨kvs, h1, h2, h3, h4⟩ := id hst
    refine ⟨_, (pss_one (ps_if (pt_cmpR op_eq (pe_ix ix_tup (pv 1) pe_int (fun _ _ => rfl)) pe_str (nomark _))
      (pss_one (ps_dput hu (pv 0) (pe_ix ix_tup (pv 1) pe_int (fun _ _ => rfl)) (pe_tup (pa_cons (pe_ix ix_tup (pv 1) pe_int (fun _ _ => rfl)) (pa_cons (pe_ix ix_tup (pv 1) pe_int (fun _ _ => rfl)) (pa_cons (pe_ix ix_tup (pv 1) pe_int (fun _ _ => rfl)) (pa_cons (pe_ix ix_tup (pv 1) pe_int (fun _ _ => rfl)) pa_nil))))) rfl))
      (pss_one (ps_if (pt_cmpR op_eq (pe_ix ix_tup (pv 1) pe_int (fun _ _ => rfl)) pe_str (nomark _))
        (pss_cons (ps_set (i := 2) sc_l_put.nd rfl (Or.inl rfl) (pe_dget hu (pv 0) (pe_ix ix_tup (pv 1) pe_int (fun _ _ => rfl)) (fun _ _ => rfl)))
        (pss_one (ps_dput hu (pv 0) (pe_ix ix_tup (pv 1) pe_int (fun _ _ => rfl)) (pe_tup (pa_cons (pe_ix ix_tup (pv 2) pe_int (fun _ _ => rfl)) (pa_cons (pe_ix ix_tup (pv 2) pe_int (fun _ _ => rfl)) (pa_cons (pe_ix ix_tup (pv 1) pe_int (fun _ _ => rfl)) (pa_cons (pe_ix ix_tup (pv 1) pe_int (fun _ _ => rfl)) pa_nil))))) rfl)))
        (pss_one (ps_dput hu (pv 0) (pe_ix ix_tup (pv 1) pe_int (fun _ _ => rfl)) pe_non rfl)))))), ?_⟩
    cases x with
    | row id z k m a r =>
      obtain rfl := behind_row hb
      refine ⟨_, rfl, _, _, _, _, rfl, rfl, SqT.of hx, rfl, rfl, _, rfl, iteT ?_⟩
      refine ⟨_, rfl, _, _, _, _, rfl, rfl, SqT.of hx, rfl, _, rfl, _, _, _, _, rfl, rfl, SqT.of hx, rfl, _, rfl, _, _, _, _, rfl, rfl, SqT.of hx, rfl, _, rfl, _, _, _, _, rfl, rfl, SqT.of hx, rfl, (by show 4 ≤ sizeLine; decide), fun t ht => ?_⟩
      have s1 := sameAt (Same.refl H) ht (o := .tup [.str z, .str k, .int m, .int a])
      have hx1 : EntAt (upd H t (.tup [.str z, .str k, .int m, .int a])) e (.row id z k m a r) := s1 _ _ hx
      refine ⟨_, rfl, _, rfl, _, _, _, _, rfl, rfl, SqT.of hx1, rfl, ds, _, rfl, DPut.k (k := Sum.inl id) (s1 _ _ h1) (small1000 (by omega)), ?_⟩
      exact q _ (StAt.put h1 h2 h3 h4 s1 ⟨t, rfl, upd_same⟩) fun c o hc hn => by rw [upd_ne hn]; exact s1 _ _ hc
    | fix id m a r =>
      obtain ⟨z, k, m0, a0, eS, rfl⟩ := behind_fix hb
      have sv := h4 id
      have eS : S id = some (.at_ z k m0 a0) := eS
      rw [eS] at sv
      obtain ⟨v, hv⟩ : ∃ v, valV kvs (Sum.inl id) = some v := by
        cases e : valV kvs (Sum.inl id : Key) with
        | none => rw [e] at sv; exact absurd sv (fun z => z)
        | some v => exact ⟨v, rfl⟩
      rw [hv] at sv
      obtain ⟨t0, rfl, ht0⟩ := sv
      have hg := DGet.k (k := Sum.inl id) h1
      rw [hv] at hg
      refine ⟨_, rfl, _, _, _, _, rfl, rfl, SqT.of hx, rfl, rfl, _, rfl, iteF ?_⟩
      refine ⟨_, rfl, _, _, _, _, rfl, rfl, SqT.of hx, rfl, rfl, _, rfl, iteT ?_⟩
      refine ⟨_, rfl, _, rfl, _, _, _, _, rfl, rfl, SqT.of hx, rfl, ds, _, rfl, hg, ?_⟩
      refine ⟨_, rfl, _, _, _, _, rfl, rfl, SqT.of ht0, rfl, _, rfl, _, _, _, _, rfl, rfl, SqT.of ht0, rfl, _, rfl, _, _, _, _, rfl, rfl, SqT.of hx, rfl, _, rfl, _, _, _, _, rfl, rfl, SqT.of hx, rfl, (by show 4 ≤ sizeLine; decide), fun t ht => ?_⟩
      have s1 := sameAt (Same.refl H) ht (o := .tup [.str z, .str k, .int m, .int a])
      have hx1 : EntAt (upd H t (.tup [.str z, .str k, .int m, .int a])) e (.fix id m a r) := s1 _ _ hx
      refine ⟨_, rfl, _, rfl, _, _, _, _, rfl, rfl, SqT.of hx1, rfl, ds, _, rfl, DPut.k (k := Sum.inl id) (s1 _ _ h1) (small1000 (by omega)), ?_⟩
      exact q _ (StAt.put h1 h2 h3 h4 s1 ⟨t, rfl, upd_same⟩) fun c o hc hn => by rw [upd_ne hn]; exact s1 _ _ hc
    | gone id r =>
      obtain rfl := behind_gone hb
      refine ⟨_, rfl, _, _, _, _, rfl, rfl, SqT.of hx, rfl, rfl, _, rfl, iteF ?_⟩
      refine ⟨_, rfl, _, _, _, _, rfl, rfl, SqT.of hx, rfl, rfl, _, rfl, iteF ?_⟩
      refine ⟨_, rfl, _, rfl, _, _, _, _, rfl, rfl, SqT.of hx, rfl, ds, _, rfl, DPut.k (k := Sum.inl id) h1 (small1000 (by omega)), ?_⟩
      exact q _ (StAt.put h1 h2 h3 h4 (Same.refl H) rfl) fun c o hc hn => by rw [upd_ne hn]; exact hc
end
end Ash

set_option Elab.async false
set_option linter.all false
set_option maxRecDepth 100000
set_option maxHeartbeats 4000000
/-! sorted of triples of ints -/
namespace SrtT
open PySem PyProof.Rows Srt SrtO
abbrev T3 := Int × Int × Int
def lex3 (p q : T3) : Bool := if p.1 = q.1 then (if p.2.1 = q.2.1 then decide (p.2.2 < q.2.2) else decide (p.2.1 < q.2.1)) else decide (p.1 < q.1)
theorem lex3_iff {p q : T3} : lex3 p q = true ↔ p.1 < q.1 ∨ (p.1 = q.1 ∧ (p.2.1 < q.2.1 ∨ (p.2.1 = q.2.1 ∧ p.2.2 < q.2.2))) := by
  unfold lex3
  split
  · split <;> (rw [decide_eq_true_eq]; omega)
  · rw [decide_eq_true_eq]; omega
theorem lex3_no {p q : T3} : lex3 p q = false ↔ ¬ (p.1 < q.1 ∨ (p.1 = q.1 ∧ (p.2.1 < q.2.1 ∨ (p.2.1 = q.2.1 ∧ p.2.2 < q.2.2)))) := by
  rw [← lex3_iff]
  cases lex3 p q <;> simp
theorem swo3 {α : Type} (k : α → T3) : Swo fun v u => lex3 (k v) (k u) := by
  constructor
  · intro x y h
    rw [lex3_no]
    rw [lex3_iff] at h
    omega
  · intro x y z h1 h2
    rw [lex3_no] at h1 h2 ⊢
    omega
/-- v is a tuple of three ints in the heap -/
def Is3 (h : Heap) (v : Value) (p : T3) : Prop := ∃ a o t1 t2 t3 n, v = .ref a ∧ h.get? a = some o ∧ o.cls = .type "tuple" ∧ o.data = .seq #[.int p.1 t1, .int p.2.1 t2, .int p.2.2 t3] n
theorem Is3.stay {h h' : Heap} {v : Value} {p : T3} (i : Is3 h v p) (k : ∀ b o, h.get? b = some o → o.cls = .type "tuple" → h'.get? b = some o) : Is3 h' v p := by
  obtain ⟨a, o, t1, t2, t3, n, e1, e2, e3, e4⟩ := i
  exact ⟨a, o, t1, t2, t3, n, e1, k a o e2 e3, e3, e4⟩
section
variable {prog : Program} {w : World} {A : Around} {E : Value → Shared → Prop} {s : Shared}
theorem cmp3 {vs : List Value} {k : Value → T3} (hp : ∀ v ∈ vs, Is3 s.heap v (k v)) : SrtO.Cmp prog w A s (tuples' true) (fun p => p.1 ∈ vs) (lt2 fun v u => lex3 (k v) (k u)) := by
  intro p q mp mq
  have i1 := hp _ mp
  have i2 := hp _ mq
  show wpAny (model prog w) A (keyLt' (tuples' true) p.1 q.1) (fun r s' => s' = s ∧ r = lex3 (k p.1) (k q.1)) (fun _ _ => False) s
  generalize k p.1 = P at i1 ⊢
  generalize k q.1 = R at i2 ⊢
  obtain ⟨x, y, z⟩ := P
  obtain ⟨x', y', z'⟩ := R
  obtain ⟨a, o, t, u, v, n, e, ho, hc, hd⟩ := i1
  obtain ⟨a', o', t', u', v', n', e', ho', hc', hd'⟩ := i2
  rw [e, e']
  show wpAny _ _ _ (fun r s' => s' = s ∧ r = (if x = x' then (if y = y' then decide (z < z') else decide (y < y')) else decide (x < x'))) _ _
  refine PySem.W.kat_lt ho hd ho' hd' ?_
  show PySem.W.KatLex prog w A true (decide (3 < 3)) _ [(.int x t, .int x' t'), (.int y u, .int y' u'), (.int z v, .int z' v')] 0 s
  refine PySem.W.kat_cons (SeqAt.EqAt.int_int x t x' t' prog w _ _ (PySem.W.kat_go (fun c1 => ?_) fun c1 => ?_))
  · have ex : x = x' := by simpa using c1
    rw [if_pos ex]
    refine PySem.W.kat_yes (PySem.W.kat_cons (SeqAt.EqAt.int_int y u y' u' prog w _ _ (PySem.W.kat_go (fun c2 => ?_) fun c2 => ?_)))
    · have ey : y = y' := by simpa using c2
      rw [if_pos ey]
      refine PySem.W.kat_yes (PySem.W.kat_cons (SeqAt.EqAt.int_int z v z' v' prog w _ _ (PySem.W.kat_go (fun c3 => ?_) fun c3 => ?_)))
      · have ez : z = z' := by simpa using c3
        exact PySem.W.kat_yes (PySem.W.kat_nil ⟨rfl, by rw [ez]; exact (decide_eq_false (Int.lt_irrefl z')).symm⟩)
      · refine PySem.W.kat_no (PySem.W.kat_one _ _ (PyProof.Rows.lt_int ?_))
        exact (⟨rfl, rfl⟩ : s = s ∧ decide (z < z') = decide (z < z'))
    · have ey : ¬ y = y' := by simpa using c2
      rw [if_neg ey]
      refine PySem.W.kat_no (PySem.W.kat_one _ _ (PyProof.Rows.lt_int ?_))
      exact (⟨rfl, rfl⟩ : s = s ∧ decide (y < y') = decide (y < y'))
  · have ex : ¬ x = x' := by simpa using c1
    rw [if_neg ex]
    exact PySem.W.kat_no (oneLt_int ⟨rfl, rfl⟩)
theorem firsts3 {h : Heap} {k : Value → T3} : ∀ {vs : List Value}, (∀ v ∈ vs, Is3 h v (k v)) → ∃ fs : List Value, PySem.W.KatTups h vs fs ∧ fs.length = vs.length ∧ ∀ f ∈ fs, ∃ x t, f = Value.int x t
  | [], _ => ⟨[], PySem.W.KatTups.nil, rfl, fun f hf => nomatch hf⟩
  | v :: vs, hp => by
    obtain ⟨fs, g1, g2, g3⟩ := firsts3 (vs := vs) fun z hz => hp z (List.mem_cons_of_mem v hz)
    obtain ⟨a, o, t1, t2, t3, n, rfl, e2, e3, e4⟩ := hp v List.mem_cons_self
    refine ⟨.int (k (.ref a)).1 t1 :: fs, PySem.W.KatTups.cons e2 e3 e4 rfl g1, congrArg Nat.succ g2, fun f hf => ?_⟩
    rcases List.mem_cons.mp hf with rfl | hf
    · exact ⟨_, _, rfl⟩
    · exact g3 f hf
theorem sortable3 {a : Addr} {vs : List Value} {k : Value → T3} (h0 : 0 < vs.length) (hp : ∀ v ∈ vs, Is3 s.heap v (k v)) (ha : ∀ o, s.heap.get? a = some o → o.cls ≠ .type "tuple") : SortableO prog w A s a vs fun v u => lex3 (k v) (k u) := fun h' keep => by
  have st : ∀ v ∈ vs, Is3 h' v (k v) := fun v hv => (hp v hv).stay fun b o g c => keep b o (fun z => ha o (z ▸ g) c) g
  obtain ⟨fs, g1, g2, g3⟩ := firsts3 st
  refine ⟨tuples' true, fun Q E hq => PySem.W.kat_kind (T := .type "int") g1 (by omega) (fun f hf => ?_) (by rfl) ?_, cmp3 st⟩
  · obtain ⟨x, t, rfl⟩ := g3 f hf
    exact PySem.W.Looks.now
  · rw [show (Value.type "int" != Value.type "tuple") = true from by first | decide +kernel | rfl]
    exact hq
/-- sorted(l) of triples of ints -/
theorem sorted3 {l : Addr} {vs : List Value} {k : Value → T3} {Q : Value → Shared → Prop} (hl : s.heap.IsList l vs.toArray) (hz : vs.length ≤ sizeLine) (hp : ∀ v ∈ vs, Is3 s.heap v (k v))
    (h : ∀ (h' : Heap) (d : Addr) (out : List Value), Srtd (fun v u => lex3 (k v) (k u)) out → Stb (fun v u => lex3 (k v) (k u)) out vs → (∀ b o, s.heap.get? b = some o → h'.get? b = some o) → s.heap.objs.size ≤ d → (∃ n, h'.get? d = some (seqObj "list" out.toArray n)) → Q (.ref d) { s with heap := h' }) :
    wpAny (model prog w) A (call (.builtin "sorted") [.ref l]) Q E s := by
  refine sorted_ord (swo3 k) hl hz (fun h2 h₁ a ha kk => sortable3 (s := { s with heap := h₁ }) (by omega) (fun v hv => (hp v hv).stay fun b o g _ => (kk b o g).2) fun o g c => ?_) fun out hs hb => h _ _ out hs hb (fun b o g => sortedAll_old g) (Nat.le_succ _) (sortedAll_at s.heap vs out.toArray)
  have g' : some o = some (seqObj "list" vs.toArray 0) := g.symm.trans ha
  cases g'
  exact absurd (Value.type.inj c) (by decide)
end
end SrtT
namespace L2
open PySem PySem.Spec PyProof.Rows SrtT
/-- sorted(xs), xs a list of triples of ints (k says which): a new list, sorted -/
def rSorted3 (K : PySem.W.Frag) : List V → Hp → VK → Prop := fun vs H Q => ∃ (a : Addr) (xs : List V) (k : V → T3), vs = [V.ref a] ∧ SqL K H a xs ∧ (∀ x ∈ xs, ∃ t, x = V.ref t ∧ H t = some (.tup [.int (k x).1, .int (k x).2.1, .int (k x).2.2])) ∧
  ∀ ys p, SrtO.Srtd (fun x y => lex3 (k x) (k y)) ys → ys.Perm xs → H p = none → Q (.ref p) (upd H p (.lst ys))
theorem cr_sorted3 {X : Cx} : CallR X (.builtin "sorted") (rSorted3 X.K) := by
  intro pins s σ H vs us Q I r h
  obtain ⟨a, xs, k, rfl, hs, hx, q⟩ := h
  obtain ⟨its, rv, hl, hz⟩ := I.list hs
  rw [Vals.ref1 r]
  obtain ⟨e1, e2⟩ := refs_back rv fun x m => (hx x m).imp fun t ht => ht.1
  refine sorted3 (k := fun u => k (backV u)) hl.isList (by rw [← rv.length]; exact hz) (fun v hv => ?_) fun h' d out g1 g2 kp hd hn => ?_
  · obtain ⟨t, rfl⟩ := e2 v hv
    obtain ⟨t', e, ht⟩ := hx (.ref t) (by rw [e1]; exact List.mem_map.mpr ⟨_, hv, rfl⟩)
    cases e
    obtain ⟨_, its2, r2, o, ho, hc, n, hdt⟩ := I.hok _ _ ht
    cases r2 with
    | cons r2a r2 => cases r2 with
      | cons r2b r2 => cases r2 with
        | cons r2c r2 =>
          cases r2
          obtain ⟨ta, rfl⟩ := r2a
          obtain ⟨tb, rfl⟩ := r2b
          obtain ⟨tc, rfl⟩ := r2c
          exact ⟨t, o, ta, tb, tc, n, rfl, ho, hc, hdt⟩
  · obtain ⟨n, hn⟩ := hn
    have back : ∀ u ∈ out, ∃ a, u = Value.ref a := fun u hu => e2 u (g2.perm.mem_iff.mp hu)
    have pm : (out.map backV).Perm xs := by rw [e1]; exact g2.perm.map backV
    refine ⟨.ref d, upd H d (.lst (out.map backV)), I.laid (t' := s.toks) kp hd ⟨?_, out, n, vals_back back, hn⟩, rfl, q _ d (SrtO.srtd_map g1) pm (I.hok.fresh hd)⟩
    rw [pm.length_eq]
    exact hz
end L2

set_option Elab.async false
set_option linter.all false
set_option maxRecDepth 100000
set_option maxHeartbeats 4000000
namespace Ash
open PySem PySem.Spec PyProof.Rows L2 SrtT
open C8 (pss_cut)
/-! ### the rows that stand -/
/-- a row of this stream and key: its moment, id, amount -/
def pick (S : Kn) (z k : Str) (id : Int) : Option T3 := match S id with
  | some (.at_ z' k' m a) => if z' = z ∧ k' = k then some (m, id, a) else none
  | _ => none
theorem pick_id {S : Kn} {z k : Str} {id : Int} {t : T3} (h : pick S z k id = some t) : t.2.1 = id := by
  unfold pick at h
  split at h
  · split at h
    · cases h
      rfl
    · cases h
  · cases h
def tv (t : T3) : List V := [.int t.1, .int t.2.1, .int t.2.2]
/-- ys are tuples of the triples ts -/
def TrAt (H : Hp) (ys : List V) (ts : List T3) : Prop := ys.length = ts.length ∧ ∀ (i : Nat) v t, ys[i]? = some v → ts[i]? = some t → ∃ e, v = .ref e ∧ H e = some (.tup (tv t))
/-- the triples are those of the rows that stand, ascending -/
structure RowsOf (S : Kn) (z k : Str) (ts : List T3) : Prop where
  all : ∀ t, t ∈ ts ↔ pick S z k t.2.1 = some t
  asc : ts.Pairwise fun a b => lex3 a b = true
theorem TrAt.tk {H H' : Hp} {ys : List V} {ts : List T3} (h : TrAt H ys ts) (s : ∀ t xs, H t = some (.tup xs) → H' t = some (.tup xs)) : TrAt H' ys ts := ⟨h.1, fun i v t a b => by
  obtain ⟨e, h1, h2⟩ := h.2 i v t a b
  exact ⟨e, h1, s _ _ h2⟩⟩
theorem TrAt.snoc {H : Hp} {ys : List V} {ts : List T3} {e : Addr} {t : T3} (h : TrAt H ys ts) (he : H e = some (.tup (tv t))) : TrAt H (ys ++ [.ref e]) (ts ++ [t]) := by
  refine ⟨by rw [List.length_append, List.length_append, h.1]; rfl, fun i v u a b => ?_⟩
  by_cases hi : i < ys.length
  · rw [List.getElem?_append_left hi] at a
    rw [List.getElem?_append_left (by rw [← h.1]; exact hi)] at b
    exact h.2 i v u a b
  · have hi' : i = ys.length := by
      have := (List.getElem?_eq_some_iff.mp a).1
      rw [List.length_append] at this
      have : i < ys.length + 1 := this
      omega
    subst hi'
    rw [List.getElem?_append_right (Nat.le_refl _), Nat.sub_self] at a
    rw [h.1, List.getElem?_append_right (Nat.le_refl _), Nat.sub_self] at b
    cases a
    cases b
    exact ⟨e, rfl, he⟩
/-- the triple of a tuple -/
def triOf (H : Hp) : V → T3
  | .ref e => match H e with
    | some (.tup [.int a, .int b, .int c]) => (a, b, c)
    | _ => (0, 0, 0)
  | _ => (0, 0, 0)
theorem triOf_at {H : Hp} {e : Addr} {t : T3} (h : H e = some (.tup (tv t))) : triOf H (.ref e) = t := by
  show (match H e with
    | some (.tup [.int a, .int b, .int c]) => (a, b, c)
    | _ => (0, 0, 0)) = t
  rw [h]
  rfl
theorem TrAt.map {H : Hp} {ys : List V} {ts : List T3} (h : TrAt H ys ts) : ys.map (triOf H) = ts := by
  apply List.ext_getElem?
  intro i
  rw [List.getElem?_map]
  by_cases hi : i < ys.length
  · have hj : i < ts.length := by rw [← h.1]; exact hi
    obtain ⟨e, h1, h2⟩ := h.2 i _ _ (List.getElem?_eq_getElem hi) (List.getElem?_eq_getElem hj)
    rw [List.getElem?_eq_getElem hi, List.getElem?_eq_getElem hj, h1, Option.map_some, triOf_at h2]
  · rw [List.getElem?_eq_none (by omega), List.getElem?_eq_none (by rw [← h.1]; omega)]
    rfl
def selK (S : Kn) (z k : Str) (kv : Key × V) : Option T3 := match kv.1 with
  | .inl id => pick S z k id
  | .inr _ => none
theorem mem_of_valV {kvs : List (Key × V)} {key : Key} {v : V} (h : valV kvs key = some v) : ∃ kv ∈ kvs, kv.1 = key := by
  have q := valV_any key kvs
  rw [h] at q
  obtain ⟨kv, h1, h2⟩ := List.any_eq_true.mp q
  exact ⟨kv, h1, of_decide_eq_true h2⟩
theorem none_of {H H' : Hp} {q : Addr} (s : Same H H') (h : H' q = none) : H q = none := by
  cases e : H q with
  | none => rfl
  | some o => rw [s _ _ e] at h; cases h
/-- what is found, in the order of the ids that came -/
theorem sel_all {aT : Addr} {H : Hp} {kvs : List (Key × V)} {S : Kn} {z k : Str} {n : Nat} (hk : KLen kvs n) (hr : ∀ id, RowV aT H (valV kvs (Sum.inl id)) (S id)) : ∀ t, t ∈ kvs.filterMap (selK S z k) ↔ pick S z k t.2.1 = some t := by
  intro t
  rw [List.mem_filterMap]
  constructor
  · rintro ⟨kv, h1, h2⟩
    obtain ⟨id, e⟩ := hk.ik kv h1
    unfold selK at h2
    rw [e] at h2
    have := pick_id h2
    rw [this]
    exact h2
  · intro h
    have hS : S t.2.1 ≠ none := fun e => by
      unfold pick at h
      rw [e] at h
      cases h
    have q := hr t.2.1
    cases e : valV kvs (Sum.inl t.2.1 : Key) with
    | none =>
      rw [e] at q
      cases eS : S t.2.1 with
      | none => exact absurd eS hS
      | some r => rw [eS] at q; exact absurd q (fun z => z)
    | some v =>
      obtain ⟨kv, h1, h2⟩ := mem_of_valV e
      refine ⟨kv, h1, ?_⟩
      unfold selK
      rw [h2]
      exact h
theorem sel_nd {kvs : List (Key × V)} {S : Kn} {z k : Str} {n : Nat} (hk : KLen kvs n) : (kvs.filterMap (selK S z k)).Pairwise fun a b => a.2.1 ≠ b.2.1 := by
  rw [List.pairwise_filterMap]
  have nd := hk.nd
  rw [List.nodup_iff_pairwise_ne, List.pairwise_map] at nd
  refine nd.imp_of_mem fun {x y} hx hy hne a ha b hb e => ?_
  obtain ⟨i, ei⟩ := hk.ik x hx
  obtain ⟨j, ej⟩ := hk.ik y hy
  unfold selK at ha hb
  rw [ei] at ha
  rw [ej] at hb
  have h1 := pick_id (Option.mem_def.mp ha)
  have h2 := pick_id (Option.mem_def.mp hb)
  exact hne (by rw [ei, ej, ← h1, ← h2, e])
/-- sorted, they are the rows -/
theorem rows_of {S : Kn} {z k : Str} {ts us : List T3} (ha : ∀ t, t ∈ us ↔ pick S z k t.2.1 = some t) (hn : us.Pairwise fun a b => a.2.1 ≠ b.2.1) (hp : ts.Perm us) (hs : ts.Pairwise fun a b => lex3 b a = false) : RowsOf S z k ts := by
  refine ⟨fun t => (hp.mem_iff).trans (ha t), ?_⟩
  have hn' : ts.Pairwise fun a b => a.2.1 ≠ b.2.1 := (hp.pairwise_iff (fun {a b} h e => h e.symm)).mpr hn
  refine (hs.and hn').imp fun {a b} ⟨h1, h2⟩ => ?_
  rw [lex3_no] at h1
  rw [lex3_iff]
  omega
theorem valV_of : ∀ {kvs : List (Key × V)}, (kvs.map (·.1)).Nodup → ∀ kv ∈ kvs, valV kvs kv.1 = some kv.2
  | [], _, kv, h => nomatch h
  | p :: r, nd, kv, h => by
    rw [List.map_cons, List.nodup_cons] at nd
    rcases List.mem_cons.mp h with rfl | h
    · exact valV_pos rfl
    · rw [valV_neg (fun e => nd.1 (List.mem_map.mpr ⟨kv, h, e.symm⟩))]
      exact valV_of nd.2 kv h
theorem wk_knok {L : List (Str × Int)} : ∀ {xs : List Ent} {i : Nat} {S S1 : Kn} {l : Option Int}, wk L (xs.map some) i S l = (none, S1) → KnOk L S → (∀ x ∈ xs, x.ok) → KnOk L S1
  | [], i, S, S1, l, h, hk, _ => by
    have h : ((none : Option Nat), S) = (none, S1) := h
    cases h
    exact hk
  | x :: r, i, S, S1, l, h, hk, hx => by
    have h : wk L (some x :: r.map some) i S l = (none, S1) := h
    by_cases c : late? l x.arr = true
    · rw [wk_late c] at h
      cases h
    · have c0 : late? l x.arr = false := Bool.eq_false_iff.mpr c
      cases hb : behind L x (S x.id) with
      | none =>
        rw [wk_bad c0 hb] at h
        cases h
      | some y =>
        rw [wk_go c0 hb] at h
        refine wk_knok h (fun id s k m a e => ?_) fun z hz => hx z (List.mem_cons_of_mem _ hz)
        have e : (if id = x.id then some y else S id) = some (.at_ s k m a) := e
        by_cases ej : id = x.id
        · rw [if_pos ej] at e
          exact behind_ok (hx x List.mem_cons_self) (hk x.id) hb _ _ _ _ (Option.some.inj e)
        · rw [if_neg ej] at e
          exact hk id _ _ _ _ e
theorem th_ok {K : PySem.W.Frag} {H : Hp} {us : List V} {xs : List Ent} (l : us.length = xs.length) (h : ∀ (i : Nat) v x, us[i]? = some v → xs[i]? = some x → ThAt K H v (some x)) : ∀ x ∈ xs, x.ok := fun x hx => by
  obtain ⟨i, hi, e⟩ := List.getElem_of_mem hx
  obtain ⟨_, _, _, h3⟩ := h i us[i] x (List.getElem?_eq_getElem (by omega)) (by rw [List.getElem?_eq_getElem hi, e])
  exact h3
def spRows (K : PySem.W.Frag) (aT CJ CB : Addr) : Sp := fun vs H Q _ => ∃ (j b : Addr) (L : List (Str × Int)) (us : List V) (xs : List Ent) (z k : Str), vs = [.ref j, .str z, .str k] ∧ JAt K aT CJ CB H j b L us xs ∧ us.length ≤ 400 ∧ IsNm z ∧ (L.lookup z).isSome ∧ IsNm k ∧
  ∀ p ys ts H', Same H H' → H p = none → H' p = some (.lst ys) → TrAt H' ys ts → ys.length ≤ us.length → RowsOf (wk L (xs.map some) 0 (fun _ => none) none).2 z k ts → Q (.ref p) H'
section
variable {P : Program} {w : World} {K : PySem.W.Frag} {mg : Str → Option Value} {base : Heap}
abbrev s_Journal_rows : Stmt := inClass (topS 30) 9
theorem sc_Journal_rows : FnScope ["self", "stream", "key", "found", "number", "row"] ["self", "stream", "key"] (defScope s_Journal_rows) := ⟨rfl, rfl, rfl, by decide +kernel, rfl, by decide +kernel, by decide +kernel⟩
theorem ok_rows {f fh CJ CB a_TAKEN_BACK : Addr} {fd fdh : FuncData} (F : Fun K "rows" "Journal.rows" s_Journal_rows f fd) (B : Blt mg) (T : Cj P K mg CJ CB) (TB : Cb K mg CB) (Tt : Tb K mg a_TAKEN_BACK) (G : K2 P w K mg base) (M_has : Meth K CB "has" fh) (b_has : Binds K fdh ["self", "stream"] []) (F_has : FnOk P w K mg base CX0 2 fh fdh ["self", "stream"] (spHas CB)) : FnOk P w K mg base CX0 3 f fd ["self", "stream", "key"] (spRows K a_TAKEN_BACK CJ CB) := by
  have g_TAKEN_BACK := Tt.g
  refine F.ok sc_Journal_rows (fun vs H Q E h => ?_) (fun cdv A outer s H vs Q E hr h => ?_)
  · obtain ⟨j, b, L, us, xs, z, k, rfl, _⟩ := h
    rfl
  · obtain ⟨j, b, L, us, xs, z, k, rfl, hJ, h4, hz, hzL, hk, q⟩ := h
    refine ⟨_, (pss_cons (ps_if (pt_not (pt_val (pe_meth (pe_fld (pv 0) rfl) TB.cl M_has F_has (hr.mono (by decide)) b_has .nil pass0 (pa_cons (pv 1) pa_nil))))
      (pss_one ps_never)
      pss_nil)
    (pss_cons (ps_if (pt_not (pt_val (pe_cal G.is_name (hr.mono (by decide)) pass0 (pa_cons (pv 2) pa_nil))))
      (pss_one ps_never)
      pss_nil)
    (pss_cons (ps_set (i := 3) sc_Journal_rows.nd rfl (Or.inl rfl) (pe_lst pa_nil))
    (pss_cons (ps_lock (ps_for PassesOwn.never rfl (pi_items (pe_fld (pv 0) rfl)) (pg_tup (by rfl) (pgs_cons (pg_name (i := 4) sc_Journal_rows.nd rfl (Or.inl rfl)) (pgs_cons (pg_name (i := 5) sc_Journal_rows.nd rfl (Or.inl rfl)) pgs_nil)))
      (pss_one (ps_if (PW.pt (pw_and (pt_cmpR (op_neD hr.units) (pv 5) (pe_glob (v := .ref a_TAKEN_BACK) (by rfl) g_TAKEN_BACK rfl) (nomark _)) (pw_and (pt_cmpR op_eq (pe_ix ix_tup (pv 5) pe_int (fun _ _ => rfl)) (pv 1) (nomark _)) (pw_and1 (pt_cmpR op_eq (pe_ix ix_tup (pv 5) pe_int (fun _ _ => rfl)) (pv 2) (nomark _))))))
        (pss_one (ps_expr (pe_bm PySem.F.plainAttrs_list PySem.F.slot_list_append PySem.F.type_list_append mt_append (pv 3) (pa_cons (pe_tup (pa_cons (pe_ix ix_tup (pv 5) pe_int (fun _ _ => rfl)) (pa_cons (pv 4) (pa_cons (pe_ix ix_tup (pv 5) pe_int (fun _ _ => rfl)) pa_nil)))) pa_nil))))
        pss_nil))))
    (pss_one (ps_ret (pe_callB cr_sorted3 (by rfl) B.sorted (by decide +kernel) (pa_cons (pv 3) pa_nil)))))))), ?_⟩
    obtain ⟨dx, t, kd, h1, h2, h3, hl, h5, h6, kvs, n1, n2, n3⟩ := id hJ
    obtain ⟨bx, bd, L', b1, b2, b3⟩ := id h2
    have hxok := th_ok hl h5
    have hkn : KnOk L (wk L (xs.map some) 0 (fun _ => none) none).2 := wk_knok (S1 := (wk L (xs.map some) 0 (fun _ => none) none).2) (by rw [← h6]) (fun _ _ _ _ _ e => by cases e) hxok
    generalize (wk L (xs.map some) 0 (fun _ => none) none).2 = S at q n3 hkn
    refine ⟨_, rfl, j, CJ, dx, _, _, rfl, h1, T.cl, T.nB, jf_b _ _ _, b, bx, _, rfl, b1, rfl, _, rfl, b, L, z, rfl, h2, hz, fun H1 s1 => ⟨_, rfl, ?_⟩⟩
    rw [hzL]
    refine iteF ⟨_, rfl, _, rfl, .inl ⟨k, rfl, (by have := hk.2.1; rw [sizeLine_eq]; omega), fun H2 s2 => ⟨_, rfl, ?_⟩⟩⟩
    rw [(nmB_iff k).mpr hk]
    refine iteF ⟨(by show 0 ≤ sizeLine; decide), fun q0 hq0 => ?_⟩
    have s12 := s1.trans s2
    have hq0H : H q0 = none := by
      cases e : H q0 with
      | none => rfl
      | some o => rw [s12 _ _ e] at hq0; cases hq0
    have hkd2 : H2 kd = some (.dK kvs) := s12 _ _ n1
    have kq : kd ≠ q0 := ne_of_none hkd2 hq0
    have jk : j ≠ kd := ne_of h1 n1 (by intro z; cases z)
    have jq : j ≠ q0 := ne_of_none (s12 _ _ h1) hq0
    refine ⟨kd, .dK kvs, by rw [upd_ne kq]; exact hkd2, trivial, fun od => ?_⟩
    have sB : Same (upd H2 kd (.frz od (.dK kvs))) (upd (upd H2 q0 (.lst [])) kd (.frz od (.dK kvs))) := fun c o hc => by
      by_cases e : c = kd
      · subst e
        rw [upd_same] at hc ⊢
        exact hc
      · rw [upd_ne e] at hc ⊢
        rw [upd_ne (ne_of_none hc hq0)]
        exact hc
    have hB0 : (upd H2 kd (.frz od (.dK kvs))) q0 = none := by rw [upd_ne (Ne.symm kq)]; exact hq0
    have jB : (upd H2 kd (.frz od (.dK kvs))) j = some (.ins CJ dx (jf b t kd)) := by rw [upd_ne jk]; exact s12 _ _ h1
    have tB : ∀ t xs, H t = some (.tup xs) → (upd H2 kd (.frz od (.dK kvs))) t = some (.tup xs) := fun t xs e => by rw [upd_ne (ne_of e n1 (by intro z; cases z))]; exact s12 _ _ e
    refine ⟨_, rfl, j, CJ, dx, _, _, rfl, sB _ _ jB, T.cl, T.nK, jf_k _ _ _, kd, od, kvs, rfl, upd_same, for_it (walk_items (kvs := kvs)) (fun i σ H1 => ∃ (ys : List V), (∃ a b, σ = [some (.ref j), some (.str z), some (.str k), some (.ref q0), a, b]) ∧ H1 q0 = some (.lst ys) ∧ TrAt H1 ys ((kvs.take i).filterMap (selK S z k)) ∧ ys.length ≤ i ∧ Same (upd H2 kd (.frz od (.dK kvs))) H1) ?_ (fun i σ H1 _ ⟨_, hv⟩ => hv.2.2.2.2 _ _ upd_same) ?_ ?_⟩
    · exact ⟨[], ⟨_, _, rfl⟩, by rw [upd_ne (Ne.symm kq)]; exact upd_same, ⟨rfl, fun i v t a b => by simp at a⟩, Nat.le_refl _, sB⟩
    · rintro i v σ H3 H4 hi ⟨ys, ⟨a, b', rfl⟩, g1, g2, g3, s3⟩ ⟨Tt', x1, x2, rfl, hT, rfl, e1, e2⟩
      obtain ⟨kv, hkv⟩ : ∃ kv, kvs[i]? = some kv := ⟨_, List.getElem?_eq_getElem hi⟩
      have e1 : kvs[i]?.map (fun kv => kV kv.1) = some x1 := e1
      have e2 : kvs[i]?.map Prod.snd = some x2 := e2
      rw [hkv] at e1 e2
      cases e1
      cases e2
      have hm := List.mem_of_getElem? hkv
      obtain ⟨id, hid⟩ := n2.ik kv hm
      have hv := valV_of n2.nd kv hm
      rw [hid] at hv
      have rv := n3 id
      rw [hv] at rv
      have s4 : Same (upd H2 kd (.frz od (.dK kvs))) (upd H3 Tt' (.tup [kV kv.1, kv.2])) := s3.trans (sameAt (Same.refl _) hT)
      have g1' : (upd H3 Tt' (.tup [kV kv.1, kv.2])) q0 = some (.lst ys) := sameAt (Same.refl _) hT _ _ g1
      have g2' : TrAt (upd H3 Tt' (.tup [kV kv.1, kv.2])) ys ((kvs.take i).filterMap (selK S z k)) := g2.tk fun t xs e => sameAt (Same.refl _) hT _ _ e
      have hne : ∀ (o : Option T3), selK S z k kv = o → (kvs.take (i + 1)).filterMap (selK S z k) = (kvs.take i).filterMap (selK S z k) ++ o.toList := fun o ho => by
        rw [list_take hkv, List.filterMap_append]
        congr 1
        rw [List.filterMap_cons, ho]
        cases o <;> rfl
      have hsel : selK S z k kv = pick S z k id := by
        unfold selK
        rw [hid]
      have stay : selK S z k kv = none → TrAt (upd H3 Tt' (.tup [kV kv.1, kv.2])) ys ((kvs.take (i + 1)).filterMap (selK S z k)) := fun e => by
        rw [hne none e, Option.toList_none, List.append_nil]
        exact g2'
      refine ⟨Tt', _, rfl, SqT.of upd_same, rfl, _, _, rfl, _, _, rfl, rfl, ?_⟩
      cases eS : S id with
      | none => rw [eS] at rv; exact absurd rv (fun z => z)
      | some r =>
        rw [eS] at rv
        cases r with
        | tb =>
          have rv : kv.2 = .ref a_TAKEN_BACK := rv
          refine ⟨_, rfl, ?_⟩
          rw [rv]
          refine ⟨.tuple [], .tuple [], .tup (Tt.sq _) .nil, .tup (Tt.sq _) .nil, by decide +kernel, by decide +kernel, _, rfl, ?_⟩
          rw [show (!PyData.eqv (.tuple []) (.tuple [])) = false from by decide +kernel]
          rw [rv] at g1' s4 stay
          refine iteF ⟨ys, ⟨_, _, rfl⟩, g1', stay (by rw [hsel]; unfold pick; rw [eS]), by omega, s4⟩
        | at_ z' k' m am =>
          obtain ⟨tt, e5, htt⟩ := rv
          obtain ⟨hz', hk', _⟩ := hkn _ _ _ _ _ eS
          have ht3 := sameAt (Same.refl _) hT (o := .tup [kV kv.1, kv.2]) _ _ (s3 _ _ (tB _ _ htt))
          have hpk : pick S z k id = if z' = z ∧ k' = k then some (m, id, am) else none := by
            unfold pick
            rw [eS]
          refine ⟨_, rfl, ?_⟩
          rw [e5] at g1' s4 stay ht3 ⊢
          have shp : SeqAt.shaped (.tuple [.str z', .str k', .int m, .int am]) = true := shaped_flat (by simp [flatD, nm_ok hz', nm_ok hk'])
          refine ⟨.tuple [.str z', .str k', .int m, .int am], .tuple [], .tup (SqT.of ht3) (.cons (.str _) (.cons (.str _) (.cons (.int _) (.cons (.int _) .nil)))), .tup (Tt.sq _) .nil, shp, by decide +kernel, _, rfl, ?_⟩
          rw [show (!PyData.eqv (.tuple [.str z', .str k', .int m, .int am]) (.tuple [])) = true from by simp [PyData.eqv, PyData.eqvAll]]
          refine iteT ⟨_, rfl, _, _, _, _, rfl, rfl, SqT.of ht3, rfl, _, rfl, rfl, _, rfl, ?_⟩
          have no : ¬ (z' = z ∧ k' = k) → selK S z k kv = none := fun h => by rw [hsel, hpk, if_neg h]
          have nl := n2.len
          refine ite2 (fun c1 => ?_) (fun c1 => ?_)
          · have ez : z' = z := V.str.inj (of_decide_eq_true c1)
            refine ⟨_, rfl, _, _, _, _, rfl, rfl, SqT.of ht3, rfl, _, rfl, rfl, _, rfl, ?_⟩
            refine ite2 (fun c2 => ?_) (fun c2 => ?_)
            · have ek : k' = k := V.str.inj (of_decide_eq_true c2)
              refine ⟨_, rfl, .inl ⟨rfl, _, SqL.of g1'⟩, _, rfl, _, _, _, _, rfl, rfl, SqT.of ht3, rfl, _, rfl, _, rfl, _, _, _, _, rfl, rfl, SqT.of ht3, rfl, (by show 3 ≤ sizeLine; decide), fun e he => ?_⟩
              have s5 : Same (upd H3 Tt' (.tup [kV kv.1, .ref tt])) (upd (upd H3 Tt' (.tup [kV kv.1, .ref tt])) e (.tup [.int m, kV kv.1, .int am])) := sameAt (Same.refl _) he
              refine ⟨q0, ys, _, rfl, rfl, s5 _ _ g1', small1000 (by omega), ?_⟩
              have off : ∀ t xs, (upd (upd H3 Tt' (.tup [kV kv.1, .ref tt])) e (.tup [.int m, kV kv.1, .int am])) t = some (.tup xs) → (upd (upd (upd H3 Tt' (.tup [kV kv.1, .ref tt])) e (.tup [.int m, kV kv.1, .int am])) q0 (.lst (ys ++ [.ref e]))) t = some (.tup xs) := fun t xs h => by
                rw [upd_ne (ne_of h (s5 _ _ g1') (by intro z; cases z))]
                exact h
              refine ⟨ys ++ [.ref e], ⟨_, _, rfl⟩, upd_same, ?_, by rw [List.length_append]; show ys.length + 1 ≤ i + 1; omega, sameAt (s4.trans s5) hB0⟩
              rw [hne (some (m, id, am)) (by rw [hsel, hpk, if_pos ⟨ez, ek⟩])]
              refine (TrAt.snoc (t := (m, id, am)) ((g2'.tk ?_)) (?_ : (upd (upd H3 Tt' (.tup [kV kv.1, .ref tt])) e (.tup [.int m, kV kv.1, .int am])) e = _)).tk off
              · intro t xs h
                rw [e5] at h
                exact s5 _ _ h
              · rw [upd_same, hid]
                rfl
            · exact ⟨ys, ⟨_, _, rfl⟩, g1', stay (no fun h => c2 (decide_eq_true (by rw [h.2]))), by omega, s4⟩
          · exact ⟨ys, ⟨_, _, rfl⟩, g1', stay (no fun h => c1 (decide_eq_true (by rw [h.1]))), by omega, s4⟩
    · rintro σ H3 ⟨ys, ⟨a, b', rfl⟩, g1, g2, g3, s3⟩
      rw [List.take_length] at g2
      have hk3 := s3 _ _ (show (upd H2 kd (.frz od (.dK kvs))) kd = _ from upd_same)
      have un : ∀ t xs, H3 t = some (.tup xs) → (upd H3 kd (.dK kvs)) t = some (.tup xs) := fun t xs e => by rw [upd_ne (ne_of e hk3 (by intro z; cases z))]; exact e
      have g2u := g2.tk un
      have g1u : (upd H3 kd (.dK kvs)) q0 = some (.lst ys) := by rw [upd_ne (Ne.symm kq)]; exact g1
      have sF : Same H (upd H3 kd (.dK kvs)) := fun c o hc => by
        by_cases e : c = kd
        · subst e
          rw [upd_same, ← n1]
          exact hc
        · rw [upd_ne e]
          exact s3 _ _ (by rw [upd_ne e]; exact s12 _ _ hc)
      refine ⟨hk3, ?_⟩
      have gm := g2u.map
      refine ⟨_, rfl, q0, ys, triOf (upd H3 kd (.dK kvs)), rfl, SqL.of g1u, fun x hx => ?_, fun zs p hs hp hnew => ?_⟩
      · obtain ⟨i, hi, e⟩ := List.getElem_of_mem hx
        obtain ⟨e1, h1, h2⟩ := g2u.2 i _ _ (List.getElem?_eq_getElem hi) (List.getElem?_eq_getElem (by rw [← g2u.1]; exact hi))
        refine ⟨e1, by rw [← e, h1], ?_⟩
        rw [← e, h1, triOf_at h2]
        exact h2
      · have sp : Same (upd H3 kd (.dK kvs)) (upd (upd H3 kd (.dK kvs)) p (.lst zs)) := sameAt (Same.refl _) hnew
        refine q p zs (zs.map (triOf (upd H3 kd (.dK kvs)))) _ (sF.trans sp) (none_of sF hnew) upd_same ⟨by rw [List.length_map], fun i v t a b => ?_⟩ (by have := hp.length_eq; have := n2.len; omega) (rows_of (sel_all n2 n3) (sel_nd n2) (by rw [← gm]; exact hp.map _) (List.pairwise_map.mpr hs))
        rw [List.getElem?_map, a] at b
        cases b
        have hv := hp.mem_iff.mp (List.mem_of_getElem? a)
        obtain ⟨i', hi', e⟩ := List.getElem_of_mem hv
        obtain ⟨e1, h1, h2⟩ := g2u.2 i' _ _ (List.getElem?_eq_getElem hi') (List.getElem?_eq_getElem (by rw [← g2u.1]; exact hi'))
        rw [e] at h1
        subst h1
        exact ⟨e1, rfl, sp _ _ (by rw [triOf_at h2]; exact h2)⟩
end
end Ash

set_option Elab.async false
set_option linter.all false
set_option maxRecDepth 100000
set_option maxHeartbeats 4000000
namespace L2
open PySem PySem.Spec PyProof.Rows
/-! ### an own __eq__ asked by !=, an own __len__, list(d.values()) -/
/-- a name of a written namespace -/
theorem ns_at {K : PySem.W.Frag} {h : Heap} {N : Addr} {mN : Str → Option Value} {n : Str} {v : Value} (X : K.In h) (G : h.Ns N mN) (e : PySem.W.nsIn K N n = some (some v)) : mN n = some v := by
  obtain ⟨o, es, ep, ho, hd, _, hf⟩ := G
  unfold PySem.W.nsIn at e
  split at e
  case h_2 => cases e
  case h_1 c d es' n' sl q =>
    have z := X _ _ q
    rw [ho] at z
    cases z
    cases hd
    split at e
    case h_2 => split at e <;> cases e
    case h_1 en he =>
      cases e
      rw [← hf]
      unfold nsFind findBy
      rw [← Array.find?_toList, he]
      rfl
/-- a plain class with an own __eq__ and no __ne__ -/
structure NeC (K : PySem.W.Frag) (C f : Addr) : Prop where
  ex : ∃ (nm q : Str) (N : Addr) (bs : List Value) (hd : Bool) (sn : List Str) (sub : List Value) (ab : Bool) (col : Option Bool) (dd : Option Addr) (k0 k1 k2 k3 k5 : Option Value) (nid : String) (fo : Obj),
    K.lookup C = some (excClassObj nm q C N bs [.type "object"] hd sn sub ab col dd k0 k1 k2 k3 k5 nid) ∧ PySem.W.nsOkIn K N = true ∧ PySem.W.nsIn K N "__eq__" = some (some (.ref f)) ∧ PySem.W.nsIn K N "__ne__" = some none ∧ K.lookup f = some fo ∧ fo.cls = .type "function"
theorem obj_eq : ∃ y, typeLookup (.type "object") "__eq__" = pure y := ⟨_, PySem.F.cmp_object.eq.lookup⟩
section
variable {X : Cx} {n : Nat} {CX : CXT} {C f : Addr} {fd : FuncData} {ps : List Str} {R : Addr → Addr → Hp → Prop} {E : XK}
theorem op_neG (F : FnOk X.prog X.w X.K X.mg X.base CX n f fd ps (spEq R)) (Z : NeC X.K C f) (hb : Binds X.K fd ps []) (hx : Passes CX X E) (hr : Room (n + 2) X.A) :
    OpR X (compareOp .NotEq) (fun x y H Q => DIns C R x y H ∧ ∀ H', Ext H H' → Q (.bl false) H') := by
  intro pins s σ H x y v u Q I rx ry hq
  obtain ⟨⟨a, b, dx, dy, fs, gs, rfl, rfl, ha, hb', hR⟩, q⟩ := hq
  cases rx
  cases ry
  obtain ⟨mA, J, _⟩ := ins_get I.hok ha
  obtain ⟨mB, J', _⟩ := ins_get I.hok hb'
  obtain ⟨od, J, _⟩ := J.look
  obtain ⟨od', J', _⟩ := J'.look
  obtain ⟨nm, qn, N, bs, hd, sn, sub, ab, col, dd, k0, k1, k2, k3, k5, nid, fo, z1, z2, z3, z4, z5, z6⟩ := Z.ex
  have XK := I.kIn
  have Gn := Heap.Ns.of_isNs (PySem.W.isNs_of_in XK z2)
  obtain ⟨y0, hy0⟩ := obj_eq
  have Y : s.heap.OwnEqNoNe a C f "object" [.type "object"] := ⟨_, fo, nm, qn, N, bs, hd, sn, sub, ab, col, dd, k0, k1, k2, k3, k5, nid, _, y0, J.at_, J.cls, XK _ _ z1, Gn, ns_at XK Gn z3, XK _ _ z5, z6, PySem.F.mro_object, hy0, PySem.W.ns_none_of XK Gn z4⟩
  obtain ⟨hp, gg, dw, tk, os⟩ := s
  refine compareOp_ne_ownEq PySem.F.cmp_object Y J'.at_ J'.cls hr.in1.units0 ?_
  have hsp : spEq R [.ref a, .ref b] H (fun v H' => v = .bl true ∧ Ext H H') E := ⟨a, b, rfl, hR, fun H' e => ⟨rfl, e⟩⟩
  have e0 : Env0 X.prog X.w X.K X.mg X.base X.A.in1 X.stack ⟨hp, gg, dw, tk, os⟩ H := by
    have e := I.env0
    exact ⟨e.frames, e.mod, e.bs, e.bsz, e.funs, e.frf, e.hok, e.bare⟩
  have hl := F.len _ _ _ _ hsp
  have r2 : Vals [V.ref a, V.ref b] [Value.ref a, Value.ref b] := .cons rfl (.cons rfl .nil)
  refine wpAny_call (codeAny_mono (F.run X.A.in1 X.stack _ H ⟨[.ref a, .ref b], []⟩ [.ref a, .ref b] [.ref a, .ref b] _ E (hr.in1.mono (by omega)) e0 (by
    have := hb ⟨hp, gg, dw, tk, os⟩ [.ref a, .ref b] I.kIn (by simpa using hl)
    simpa using this) r2 hsp) fun r s' hq => ?_)
  cases r with
  | error e => exact hx pins σ H _ e s' I hq
  | ok fl =>
    cases fl with
    | ret w =>
      obtain ⟨z, H', I', rz, ez, ex⟩ := I.after hq
      subst ez
      cases rz
      exact ⟨true, rfl, .bl false, H', I', rfl, q H' ex⟩
    | next => exact False.elim hq
    | brk => exact False.elim hq
    | cont => exact False.elim hq
/-- len(o) by an own __len__ -/
theorem call_lenI {sp : Sp} (F : FnOk X.prog X.w X.K X.mg X.base CX n f fd ["self"] sp) (hs : PySem.W.findIn X.K (.ref C) "__len__" = some (some (.ref f))) (hf : PySem.W.isFn X.K (.ref f) = true) (hb : Binds X.K fd ["self"] []) (hx : Passes CX X E) (hr : Room (n + 1) X.A) :
    CallR X (.builtin "len") (fun xs H Q => ∃ a dx fs, xs = [.ref a] ∧ H a = some (.ins C dx fs) ∧ sp [.ref a] H (fun v H' => ∃ m : Nat, v = .int m ∧ m < 2 ^ 62 ∧ Q (.int m) H') E) := by
  intro pins s σ H xs us Q I r h
  obtain ⟨a, dx, fs, rfl, ha, h⟩ := h
  rw [Vals.ref1 r]
  obtain ⟨mA, J, _⟩ := ins_get I.hok ha
  obtain ⟨od, J, _⟩ := J.look
  obtain ⟨m, hF⟩ := I.fr
  refine PySem.W.len_K hF I.ok.mod.kin J hs hf ?_
  have e0 : Env0 X.prog X.w X.K X.mg X.base X.A.in1 X.stack s H := by
    have e := I.env0
    exact ⟨e.frames, e.mod, e.bs, e.bsz, e.funs, e.frf, e.hok, e.bare⟩
  have hl := F.len _ _ _ _ h
  refine wpAny_call (codeAny_mono (F.run X.A.in1 X.stack _ H ⟨[.ref a], []⟩ [.ref a] [.ref a] _ E (hr.in1.mono (by omega)) e0 (by
    have := hb s [.ref a] I.kIn (by simpa using hl)
    simpa using this) (.cons rfl .nil) h) fun r s' hq => ?_)
  cases r with
  | error e => exact hx pins σ H _ e s' I hq
  | ok fl =>
    cases fl with
    | ret w =>
      obtain ⟨z, H', I', rz, m, ez, hm, q⟩ := I.after hq
      subst ez
      obtain ⟨t, rfl⟩ := rz
      exact ⟨⟨Int.natCast_nonneg m, by omega⟩, .int m, H', I'.tok _, ⟨_, rfl⟩, q⟩
    | next => exact False.elim hq
    | brk => exact False.elim hq
    | cont => exact False.elim hq
/-- the same object -/
def DOne : Eqv := fun x y _ => x = y ∧ ∃ a, x = .ref a
theorem mon_one : Mon DOne := fun _ _ _ _ _ d => d
theorem eqG_one : EqG X 0 DOne := by
  intro A pins s σ H x y u v sb I rx ry d
  obtain ⟨rfl, a, rfl⟩ := d
  cases rx
  cases ry
  exact SeqAt.EqAt.same (A := A) (s := s) (.ref a) X.prog X.w X.xe _ ⟨rfl, H, I, Ext.rfl'⟩
end
section
variable {X : Cx} {o : Expr} {p pos apos mpos : Pos} {td : TE}
/-- list(o.values()) of a dict -/
def tListVals (td : TE) : TE := fun σ H Q => td σ H fun x H1 => ∃ a kvs, x = V.ref a ∧ H1 a = some (.dK kvs) ∧ ∀ l, H1 l = none → Q (.ref l) (upd H1 l (.lst (kvs.map (·.2))))
theorem vals_vals {kvs : List (Key × V)} {vs : List (Key × Value)} (r : KV kvs vs) {us : List Value} (hn : us.length = vs.length) (hu : ∀ (j : Nat) v, us[j]? = some v → ∃ k, vs[j]? = some (k, v)) : Vals (kvs.map (·.2)) us := by
  have e : us = vs.map (·.2) := PySem.W.kdl_vals_eq us hn hu
  subst e
  unfold KV at r
  clear hn hu
  induction r with
  | nil => exact .nil
  | cons h t ih => exact .cons h.2 ih
theorem pe_listVals (hcalm : X.calm = true) (hg : Gl X "list") (hm : X.mg "list" = none) (hd : PE X o td) (hbase : attributeBase o "values" X.env (eval o X.env) = eval o X.env := by rfl) (hline : (apos.endLine == mpos.line) = true := by rfl)
    (hse : starEach [Expr.Call (.Attribute o "values" apos) [] [] mpos] X.env = [(false, eval (Expr.Call (.Attribute o "values" apos) [] [] mpos) X.env)] := by rfl) :
    PE X (.Call (.Name "list" p) [.Call (.Attribute o "values" apos) [] [] mpos] [] pos) (tListVals td) := by
  refine ⟨fun pins s σ H Q I h => ?_⟩
  refine wpAny_Call_Name_kw (ld_blt I hg hm (u := .type "list") (by first | rfl | decide +kernel) ?_ (by first | decide +kernel | decide) (by first | decide +kernel | decide))
  rw [hse]
  refine PySem.callWith_type1 (wpAny_Call_method0_late hbase hline (thn (hd.run pins s σ H _ I h) fun v s1 ⟨x, H1, I1, r1, a, kvs, ex, ha, q⟩ => ?_))
  subst ex
  obtain rfl : v = Value.ref a := r1
  obtain ⟨hz, hsys, vs, rel, dof⟩ := dk_of I1.hok ha
  obtain ⟨ep, dat⟩ := dof.dictAt
  obtain ⟨ob, es, ho, ex, _⟩ := id dat
  refine ⟨"dict", "dict.values", F.plainAttrs_dict, F.slot_dict_values, F.type_dict_values, ⟨ob, ho, ex.1⟩, fun b e => ?_, Calls.callWith_builtin rfl (PySem.evalArgs_none ?_)⟩
  · cases e
    exact ⟨ob, ho, ex.2.1⟩
  refine call_meetsIn F.slot_dict_values ⟨ob, ho, ex.1⟩ F.entry_dict_values (F.args_dict_values_1 _) (meets_dict_values (mixKind X.prog X.w) a hsys) ⟨⟨vs, dof⟩, ?_⟩
  have up : ∀ b u, s1.heap.get? b = some u → (s1.heap.push { cls := .type "dict_values", data := .fields #[.ref a] }).get? b = some u := fun b u e => Heap.get?_push_of_some _ e
  have hlen : vs.length = kvs.length := (KV.length rel).symm
  refine PySem.W.kdl_call (PySem.W.kdl_values (knd := mixKind X.prog X.w) (kvs := vs) (ep := ep)) (I1.ok.hd hcalm) ⟨⟨_, Heap.get?_push_size _ rfl, rfl, rfl⟩, dat.keep up⟩ (by rw [hlen]; exact hz) fun h' tk acc c' hk hD hacc => ?_
  have hv : Vals (kvs.map (·.2)) acc.toList := vals_vals rel (by rw [Array.length_toList]; exact hacc.1) fun j v e => hacc.2 j v (by rw [← Array.getElem?_toList]; exact e)
  refine ⟨.ref _, upd H1 _ (.lst (kvs.map (·.2))), I1.laid (t' := tk) (fun b u e => hk b u (up b u e)) (Nat.le_of_lt (Nat.lt_of_lt_of_le (Nat.lt_succ_self _) (by rw [Heap.size_push]; exact Nat.le_refl _)))
    (show ObjOk X.prog X.w _ _ _ (.lst (kvs.map (·.2))) from ⟨by rw [List.length_map]; exact hz, acc.toList, c', hv, by rw [Array.toArray_toList]; exact hD⟩), rfl, q _ (I1.hok.fresh (Nat.le_of_lt (Nat.lt_of_lt_of_le (Nat.lt_succ_self _) (by rw [Heap.size_push]; exact Nat.le_refl _))))⟩
end
end L2

set_option Elab.async false
set_option linter.all false
set_option maxRecDepth 100000
set_option maxHeartbeats 4000000
namespace Ash
open PySem PySem.Spec PyProof.Rows L2 SrtT
/-! ### settled moments -/
theorem pick_iff {S : Kn} {z k : Str} {id : Int} {t : T3} : pick S z k id = some t ↔ S id = some (.at_ z k t.1 t.2.2) ∧ t.2.1 = id := by
  obtain ⟨m, i, a⟩ := t
  constructor
  · intro h
    have hi := pick_id h
    refine ⟨?_, hi⟩
    unfold pick at h
    split at h
    · rename_i z' k' m' a' e
      split at h
      · rename_i c
        cases h
        rw [e, c.1, c.2]
      · cases h
    · cases h
  · rintro ⟨h, e⟩
    have e : i = id := e
    have h : S id = some (.at_ z k m a) := h
    unfold pick
    rw [h, e]
    show (if z = z ∧ k = k then some (m, id, a) else none) = _
    rw [if_pos ⟨rfl, rfl⟩]
theorem lex3_trans {a b c : T3} (h : lex3 a b = true) (g : lex3 b c = true) : lex3 a c = true := by
  rw [lex3_iff] at h g ⊢
  omega
theorem lex3_irr {a : T3} : lex3 a a = false := by
  rw [lex3_no]
  omega
/-- ascending lists of the same triples are one -/
theorem asc_ext : ∀ {a b : List T3}, a.Pairwise (fun x y => lex3 x y = true) → b.Pairwise (fun x y => lex3 x y = true) → (∀ t, t ∈ a ↔ t ∈ b) → a = b
  | [], [], _, _, _ => rfl
  | [], y :: b, _, _, h => nomatch (h y).mpr List.mem_cons_self
  | x :: a, [], _, _, h => nomatch (h x).mp List.mem_cons_self
  | x :: a, y :: b, ha, hb, h => by
    rw [List.pairwise_cons] at ha hb
    have e : x = y := by
      rcases List.mem_cons.mp ((h x).mp List.mem_cons_self) with e | hx
      · exact e
      · rcases List.mem_cons.mp ((h y).mpr List.mem_cons_self) with e | hy
        · exact e.symm
        · have := lex3_trans (ha.1 y hy) (hb.1 x hx)
          rw [lex3_irr] at this
          cases this
    subst e
    congr 1
    refine asc_ext ha.2 hb.2 fun t => ⟨fun ht => ?_, fun ht => ?_⟩
    · rcases List.mem_cons.mp ((h t).mp (List.mem_cons_of_mem _ ht)) with e | hm
      · have := ha.1 t ht
        rw [e, lex3_irr] at this
        cases this
      · exact hm
    · rcases List.mem_cons.mp ((h t).mpr (List.mem_cons_of_mem _ ht)) with e | hm
      · have := hb.1 t ht
        rw [e, lex3_irr] at this
        cases this
      · exact hm
theorem RowsOf.uniq {S : Kn} {z k : Str} {a b : List T3} (ha : RowsOf S z k a) (hb : RowsOf S z k b) : a = b := asc_ext ha.asc hb.asc fun t => (ha.all t).trans (hb.all t).symm
theorem RowsOf.at {S : Kn} {z k : Str} {a : List T3} (h : RowsOf S z k a) {t : T3} : t ∈ a ↔ S t.2.1 = some (.at_ z k t.1 t.2.2) := by
  rw [h.all, pick_iff]
  exact ⟨fun q => q.1, fun q => ⟨q, rfl⟩⟩
/-- one id, one row -/
theorem RowsOf.ids {S : Kn} {z k : Str} {a : List T3} (h : RowsOf S z k a) : a.Pairwise fun x y => x.2.1 ≠ y.2.1 := by
  refine h.asc.imp_of_mem fun {x y} hx hy hxy e => ?_
  have h1 := h.at.mp hx
  have h2 := h.at.mp hy
  rw [e, h2] at h1
  have h3 := Option.some.inj h1
  injection h3 with _ _ e1 e2
  rw [lex3_iff] at hxy
  omega
theorem behind_late {L : List (Str × Int)} {x : Ent} {o : Option RowSt} {y : RowSt} {h : Int} (hb : behind L x o = some y) (hr : h < x.arr) {s k : Str} {m a l : Int} (hl : L.lookup s = some l) (hm : m + l ≤ h) : o ≠ some (.at_ s k m a) ∧ y ≠ .at_ s k m a := by
  cases x with
  | row id s' k' m' a' r =>
    have hr : h < r := hr
    cases o with
    | some o => cases hb
    | none =>
      refine ⟨(fun z => nomatch z), fun z => ?_⟩
      have hb : (L.lookup s').bind _ = _ := hb
      cases e : L.lookup s' with
      | none => rw [e] at hb; cases hb
      | some l' =>
        rw [e, Option.bind_some] at hb
        split at hb
        · rename_i c
          cases hb
          injection z with z1 z2 z3 z4
          subst z1
          rw [hl] at e
          cases e
          omega
        · cases hb
  | fix id m' a' r =>
    have hr : h < r := hr
    cases o with
    | none => cases hb
    | some o =>
      cases o with
      | tb => cases hb
      | at_ s0 k0 m0 a0 =>
        have hb : (L.lookup s0).bind _ = _ := hb
        cases e : L.lookup s0 with
        | none => rw [e] at hb; cases hb
        | some l' =>
          rw [e, Option.bind_some] at hb
          split at hb
          · rename_i c
            cases hb
            refine ⟨fun z => ?_, fun z => ?_⟩
            · have z := Option.some.inj z
              injection z with z1 z2 z3 z4
              subst z1
              rw [hl] at e
              cases e
              omega
            · injection z with z1 z2 z3 z4
              subst z1
              rw [hl] at e
              cases e
              omega
          · cases hb
  | gone id r =>
    have hr : h < r := hr
    cases o with
    | none => cases hb
    | some o =>
      cases o with
      | tb => cases hb
      | at_ s0 k0 m0 a0 =>
        have hb : (L.lookup s0).bind _ = _ := hb
        cases e : L.lookup s0 with
        | none => rw [e] at hb; cases hb
        | some l' =>
          rw [e, Option.bind_some] at hb
          split at hb
          · rename_i c
            cases hb
            refine ⟨fun z => ?_, (fun z => nomatch z)⟩
            have z := Option.some.inj z
            injection z with z1 z2 z3 z4
            subst z1
            rw [hl] at e
            cases e
            omega
          · cases hb
/-- rows at settled moments stand as before -/
theorem wk_settled {L : List (Str × Int)} {h : Int} : ∀ {ys : List Ent} {i : Nat} {S S2 : Kn} {l : Option Int}, wk L (ys.map some) i S l = (none, S2) → (∀ y ∈ ys, h < y.arr) →
    ∀ id s k m a l, L.lookup s = some l → m + l ≤ h → (S2 id = some (.at_ s k m a) ↔ S id = some (.at_ s k m a))
  | [], i, S, S2, l, hw, _, id, s, k, m, a, l', hl, hm => by
    have hw : ((none : Option Nat), S) = (none, S2) := hw
    cases hw
    exact Iff.rfl
  | x :: r, i, S, S2, l, hw, hr, id, s, k, m, a, l', hl, hm => by
    have hw : wk L (some x :: r.map some) i S l = (none, S2) := hw
    by_cases c : late? l x.arr = true
    · rw [wk_late c] at hw
      cases hw
    · have c0 : late? l x.arr = false := Bool.eq_false_iff.mpr c
      cases hb : behind L x (S x.id) with
      | none =>
        rw [wk_bad c0 hb] at hw
        cases hw
      | some y =>
        rw [wk_go c0 hb] at hw
        refine (wk_settled hw (fun z hz => hr z (List.mem_cons_of_mem _ hz)) id s k m a l' hl hm).trans ?_
        show (if id = x.id then some y else S id) = _ ↔ _
        by_cases ej : id = x.id
        · rw [if_pos ej, ej]
          obtain ⟨q1, q2⟩ := behind_late (k := k) (a := a) hb (hr x List.mem_cons_self) hl hm
          exact ⟨fun z => absurd (Option.some.inj z) q2, fun z => absurd z q1⟩
        · rw [if_neg ej]
theorem behind_mom {L : List (Str × Int)} {x : Ent} {o : Option RowSt} {s k : Str} {m a : Int} (hb : behind L x o = some (.at_ s k m a)) : m ≤ x.arr := by
  cases x with
  | row id s' k' m' a' r =>
    cases o with
    | some o => cases hb
    | none =>
      have hb : (L.lookup s').bind _ = _ := hb
      cases e : L.lookup s' with
      | none => rw [e] at hb; cases hb
      | some l' =>
        rw [e, Option.bind_some] at hb
        split at hb
        · rename_i c
          cases hb
          exact c.1
        · cases hb
  | fix id m' a' r =>
    cases o with
    | none => cases hb
    | some o =>
      cases o with
      | tb => cases hb
      | at_ s0 k0 m0 a0 =>
        have hb : (L.lookup s0).bind _ = _ := hb
        cases e : L.lookup s0 with
        | none => rw [e] at hb; cases hb
        | some l' =>
          rw [e, Option.bind_some] at hb
          split at hb
          · rename_i c
            cases hb
            exact c.2.1
          · cases hb
  | gone id r => cases behind_gone hb
theorem wk_mom {L : List (Str × Int)} {h : Int} : ∀ {ys : List Ent} {i : Nat} {S S2 : Kn} {l : Option Int}, wk L (ys.map some) i S l = (none, S2) → (∀ y ∈ ys, y.arr ≤ h) → (∀ id s k m a, S id = some (.at_ s k m a) → m ≤ h) → ∀ id s k m a, S2 id = some (.at_ s k m a) → m ≤ h
  | [], i, S, S2, l, hw, _, h0 => by
    have hw : ((none : Option Nat), S) = (none, S2) := hw
    cases hw
    exact h0
  | x :: r, i, S, S2, l, hw, hr, h0 => by
    have hw : wk L (some x :: r.map some) i S l = (none, S2) := hw
    by_cases c : late? l x.arr = true
    · rw [wk_late c] at hw
      cases hw
    · have c0 : late? l x.arr = false := Bool.eq_false_iff.mpr c
      cases hb : behind L x (S x.id) with
      | none =>
        rw [wk_bad c0 hb] at hw
        cases hw
      | some y =>
        rw [wk_go c0 hb] at hw
        refine wk_mom hw (fun z hz => hr z (List.mem_cons_of_mem _ hz)) fun id s k m a e => ?_
        have e : (if id = x.id then some y else S id) = some (.at_ s k m a) := e
        by_cases ej : id = x.id
        · rw [if_pos ej] at e
          cases e
          have := behind_mom hb
          have := hr x List.mem_cons_self
          omega
        · rw [if_neg ej] at e
          exact h0 _ _ _ _ _ e
/-- the last arrival is the greatest -/
theorem wk_last {L : List (Str × Int)} : ∀ {xs : List Ent} {i : Nat} {S : Kn} {l : Option Int} {t : Int}, (wk L (xs.map some) i S l).1 = none → lastA xs l = some t → ∀ x ∈ xs, x.arr ≤ t
  | [], _, _, _, _, _, _, x, hx => nomatch hx
  | y :: r, i, S, l, t, hw, hl, x, hx => by
    have hw : (wk L (some y :: r.map some) i S l).1 = none := hw
    have hl : lastA r (some y.arr) = some t := hl
    by_cases c : late? l y.arr = true
    · rw [wk_late c] at hw
      cases hw
    · have c0 : late? l y.arr = false := Bool.eq_false_iff.mpr c
      cases hb : behind L y (S y.id) with
      | none =>
        rw [wk_bad c0 hb] at hw
        cases hw
      | some z =>
        rw [wk_go c0 hb] at hw
        have ih := wk_last hw hl
        rcases List.mem_cons.mp hx with rfl | hx
        · cases r with
          | nil =>
            have hl : some x.arr = some t := hl
            cases hl
            exact Int.le_refl _
          | cons u r =>
            have h1 := ih u List.mem_cons_self
            have h2 := wk_ge hw u List.mem_cons_self
            omega
        · exact ih x hx
theorem lastA_some : ∀ {xs : List Ent} {l : Option Int}, xs ≠ [] → ∃ x, xs.getLast? = some x ∧ lastA xs l = some x.arr
  | [], _, h => absurd rfl h
  | [x], l, _ => ⟨x, rfl, rfl⟩
  | x :: y :: r, l, _ => by
    obtain ⟨u, h1, h2⟩ := lastA_some (xs := y :: r) (l := some x.arr) (fun z => nomatch z)
    exact ⟨u, by rw [List.getLast?_cons_cons]; exact h1, h2⟩
/-- the settled rows of two states -/
theorem rows_settled {S S2 : Kn} {z k : Str} {a b : List T3} {l h : Int} (ha : RowsOf S z k a) (hb : RowsOf S2 z k b) (hs : ∀ id m am, m + l ≤ h → (S2 id = some (.at_ z k m am) ↔ S id = some (.at_ z k m am))) :
    b.filter (fun t => decide (t.1 + l ≤ h)) = a.filter (fun t => decide (t.1 + l ≤ h)) := by
  refine asc_ext (hb.asc.filter _) (ha.asc.filter _) fun t => ?_
  rw [List.mem_filter, List.mem_filter, ha.at, hb.at]
  constructor
  · rintro ⟨h1, h2⟩
    exact ⟨(hs _ _ _ (of_decide_eq_true h2)).mp h1, h2⟩
  · rintro ⟨h1, h2⟩
    exact ⟨(hs _ _ _ (of_decide_eq_true h2)).mpr h1, h2⟩
/-- a row is gone -/
theorem rows_gone {S : Kn} {z k : Str} {a : List T3} {t : T3} (ha : RowsOf S z k a) (ht : t ∈ a) : RowsOf (setK S t.2.1 .tb) z k (a.filter fun u => decide (u ≠ t)) := by
  refine ⟨fun u => ?_, ha.asc.filter _⟩
  rw [List.mem_filter, pick_iff, ha.at]
  show _ ↔ (if u.2.1 = t.2.1 then some RowSt.tb else S u.2.1) = _ ∧ _
  have h1 := ha.at.mp ht
  by_cases e : u.2.1 = t.2.1
  · rw [if_pos e]
    refine ⟨fun ⟨q1, q2⟩ => absurd ?_ (of_decide_eq_true q2), fun q => nomatch q.1⟩
    rw [e, h1] at q1
    have q3 := Option.some.inj q1
    injection q3 with _ _ e1 e2
    exact Prod.ext e1.symm (Prod.ext e e2.symm)
  · rw [if_neg e]
    exact ⟨fun q => ⟨q.1, rfl⟩, fun q => ⟨q.1, decide_eq_true fun z => e (by rw [z])⟩⟩
/-- a row has another amount -/
theorem rows_fixed {S : Kn} {z k : Str} {a ts : List T3} {t : T3} {am : Int} (ha : RowsOf S z k a) (ht : t ∈ a) (hp : ts.Perm (a.filter (fun u => decide (u ≠ t)) ++ [(t.1, t.2.1, am)])) (hs : ts.Pairwise fun x y => lex3 y x = false) : RowsOf (setK S t.2.1 (.at_ z k t.1 am)) z k ts := by
  have hg := rows_gone ha ht
  have ho : ∀ u, u ∈ a.filter (fun u => decide (u ≠ t)) → u.2.1 ≠ t.2.1 := fun u hu e => by
    have q := hg.at.mp hu
    have q : (if u.2.1 = t.2.1 then some RowSt.tb else S u.2.1) = _ := q
    rw [if_pos e] at q
    cases q
  refine rows_of (us := a.filter (fun u => decide (u ≠ t)) ++ [(t.1, t.2.1, am)]) (fun u => ?_) ?_ hp hs
  · rw [List.mem_append, hg.at, List.mem_singleton, pick_iff]
    show (if u.2.1 = t.2.1 then some RowSt.tb else S u.2.1) = _ ∨ _ ↔ (if u.2.1 = t.2.1 then some (RowSt.at_ z k t.1 am) else S u.2.1) = _ ∧ _
    by_cases e : u.2.1 = t.2.1
    · rw [if_pos e, if_pos e]
      constructor
      · rintro (q | q)
        · cases q
        · rw [q]
          exact ⟨rfl, rfl⟩
      · rintro ⟨q, _⟩
        have q := Option.some.inj q
        injection q with _ _ e1 e2
        exact .inr (Prod.ext e1.symm (Prod.ext e e2.symm))
    · rw [if_neg e, if_neg e]
      exact ⟨fun q => ⟨q.elim id fun q => absurd (by rw [q]) e, rfl⟩, fun q => .inl q.1⟩
  · refine List.pairwise_append.mpr ⟨hg.ids, List.pairwise_singleton _ _, fun u hu v hv => ?_⟩
    rw [List.mem_singleton.mp hv]
    exact ho u hu
/-- a row more -/
theorem rows_joined {S : Kn} {z k : Str} {a ts : List T3} {t : T3} (ha : RowsOf S z k a) (hf : S t.2.1 = none) (hp : ts.Perm (a ++ [t])) (hs : ts.Pairwise fun x y => lex3 y x = false) : RowsOf (setK S t.2.1 (.at_ z k t.1 t.2.2)) z k ts := by
  have ho : ∀ u, u ∈ a → u.2.1 ≠ t.2.1 := fun u hu e => by
    have q := ha.at.mp hu
    rw [e, hf] at q
    cases q
  refine rows_of (us := a ++ [t]) (fun u => ?_) ?_ hp hs
  · rw [List.mem_append, ha.at, List.mem_singleton, pick_iff]
    show _ ↔ (if u.2.1 = t.2.1 then some (RowSt.at_ z k t.1 t.2.2) else S u.2.1) = _ ∧ _
    by_cases e : u.2.1 = t.2.1
    · rw [if_pos e, e, hf]
      constructor
      · rintro (q | q)
        · cases q
        · rw [q]
          exact ⟨rfl, rfl⟩
      · rintro ⟨q, _⟩
        have q := Option.some.inj q
        injection q with _ _ e1 e2
        exact .inr (Prod.ext e1.symm (Prod.ext e e2.symm))
    · rw [if_neg e]
      exact ⟨fun q => ⟨q.elim id fun q => absurd (by rw [q]) e, rfl⟩, fun q => .inl q.1⟩
  · refine List.pairwise_append.mpr ⟨ha.ids, List.pairwise_singleton _ _, fun u hu v hv => ?_⟩
    rw [List.mem_singleton.mp hv]
    exact ho u hu
/-! ### triples as data -/
def tdat (t : T3) : PyData := .tuple [.int t.1, .int t.2.1, .int t.2.2]
theorem t_dp {K : PySem.W.Frag} {H : Hp} {e : Addr} {t : T3} (h : H e = some (.tup (tv t))) : Dp K H (.ref e) (tdat t) := .tup (SqT.of h) (.cons (.int _) (.cons (.int _) (.cons (.int _) .nil)))
theorem t_shaped (t : T3) : SeqAt.shaped (tdat t) = true := shaped_flat (by simp [flatD])
theorem t_lay (t : T3) : (tdat t).canLay0 = true ∧ (tdat t).depth ≤ 2 := by
  obtain ⟨h1, h2⟩ := flat_lay (ds := [.int t.1, .int t.2.1, .int t.2.2]) (by simp [flatD])
  unfold tdat
  simp [PyData.canLay0, PyData.depth, h1]
  omega
theorem ts_lay : ∀ (ts : List T3), PyData.canLayAll0 (ts.map tdat) = true ∧ PyData.depthAll (ts.map tdat) ≤ 2
  | [] => by simp [PyData.canLayAll0, PyData.depthAll]
  | t :: ts => by
    obtain ⟨h1, h2⟩ := ts_lay ts
    obtain ⟨h3, h4⟩ := t_lay t
    rw [List.map_cons]
    simp only [PyData.canLayAll0, PyData.depthAll, h1, h3, Bool.and_self, true_and]
    exact Nat.max_le.mpr ⟨h4, h2⟩
theorem ts_shaped (ts : List T3) : SeqAt.shaped (.list (ts.map tdat)) = true := by
  obtain ⟨h1, h2⟩ := ts_lay ts
  unfold SeqAt.shaped
  simp [PyData.canLay0, PyData.depth, h1]
  omega
theorem t_eqv (t u : T3) : PyData.eqv (tdat t) (tdat u) = decide (t = u) := by
  obtain ⟨a, b, c⟩ := t
  obtain ⟨a', b', c'⟩ := u
  unfold tdat
  simp only [PyData.eqv, PyData.eqvAll, Prod.mk.injEq]
  by_cases e1 : a = a' <;> by_cases e2 : b = b' <;> by_cases e3 : c = c' <;> simp [e1, e2, e3]
theorem TrAt.dpA {K : PySem.W.Frag} {H : Hp} : ∀ {ys : List V} {ts : List T3}, TrAt H ys ts → DpAll K H ys (ts.map tdat)
  | [], [], _ => .nil
  | [], _ :: _, h => by have := h.1; simp at this
  | _ :: _, [], h => by have := h.1; simp at this
  | v :: ys, t :: ts, h => by
    obtain ⟨e, rfl, h2⟩ := h.2 0 v t rfl rfl
    exact .cons (t_dp h2) (TrAt.dpA ⟨by have := h.1; simpa using this, fun i v t a b => h.2 (i + 1) v t a b⟩)
theorem TrAt.dp {K : PySem.W.Frag} {H : Hp} {q : Addr} {ys : List V} {ts : List T3} (h : TrAt H ys ts) (hq : SqL K H q ys) : Dp K H (.ref q) (.list (ts.map tdat)) := .lst hq h.dpA
end Ash

set_option Elab.async false
set_option linter.all false
set_option maxRecDepth 100000
set_option maxHeartbeats 4000000
namespace L2
open PySem PySem.Spec PyProof.Rows
section
variable {X : Cx} {C fI : Addr} {par fl : Str}
/-- n.f in the suite that caught an own error with the one field fl -/
def tByB (fl : Str) (C a : Addr) (cls : Value) (d : Option Addr) (te : TE) : TE := fun σ H Q => te σ H fun x H1 => x = .ref a ∧ cls = .ref C ∧ ∃ (dd : Addr) (v : V), d = some dd ∧ H1 dd = some (.xd [(fl, v)]) ∧ Q v H1
theorem pe_byB {a : Addr} {oe : Obj} {cls : Value} {d : Option Addr} {pn : List (Addr × Obj)} {e : Expr} {te : TE} {pos : Pos} (T : PySem.BadX.Txt X.prog X.K X.mg par fl C fI) (hz : Zc cls d oe) (hf : ∃ vs, oe.data = .fields vs) (he : PE (X.suite a ((a, oe) :: pn)) e te)
    (hb : attributeBase e fl X.env (eval e X.env) = eval e X.env := by rfl) :
    PE (X.suite a ((a, oe) :: pn)) (.Attribute e fl pos) (tByB fl C a cls d te) := by
  refine ⟨fun pins s σ H Q I h => ?_⟩
  refine attr_of hb (thn (he.run pins s σ H _ I h) fun u s1 hh => ?_)
  obtain ⟨x, H1, I1, rx, ex, ec, dd, v, ed, ea, q⟩ := hh
  subst ex
  obtain rfl : u = Value.ref a := rx
  subst ec
  subst ed
  obtain ⟨ha, _⟩ := I1.pin (a, oe) (List.mem_append_left _ List.mem_cons_self)
  obtain ⟨vs, hd⟩ := hf
  have hx : ObjOk X.prog X.w H1 s1.heap dd (.xd [(fl, v)]) := I1.hok dd _ ea
  obtain ⟨mA, hns, hr⟩ := hx
  obtain ⟨od, ho, hl⟩ := lookIn_ns hns
  have l : List.lookup fl [(fl, v)] = some v := by simp [List.lookup]
  obtain ⟨u, hu, ru⟩ := RelO.some_of (v := v) (o := mA fl) (by rw [← l]; exact hr fl)
  have J : PySem.W.InstAt s1.heap a oe C (some od) := ⟨ha, hz.1, by unfold PySem.W.notCls; rw [hd] <;> rfl, by rw [hz.2]; exact ho⟩
  exact HandSPX.exc_get I1.kIn J T.ga T.gg T.exC (PySem.W.findObj_own T.hdC T.noN rfl (by rw [hl, hu])) (handed_of ru) ⟨v, H1, I1.tok _, ru, q⟩
end
end L2
namespace Ash
open PySem PySem.Spec PyProof.Rows L2
open C8 (pss_cut)
/-- what is wanted of an exception at any n slots -/
def WEn (n : Nat) (W : WX) : XK := fun cls d H => ∀ σ : L2.St, σ.length = n → W cls d σ H
theorem passN {X : Cx} {W : WX} {n : Nat} (hn : X.N.length = n) (tk : Takes X W) : Passes (L2.CX X.prog X.w) X (WEn n W) := fun _ σ _ _ e s' I c => tk e s' (XE.of_call I (fun cls d H' h => h σ (I.len.trans hn)) c)
section
variable {X : Cx} {CX : CXT} {k : Nat} {ps : List Str} {sp : Sp} {E : XK} {o e : Expr} {es : List Expr} {ta : TE} {t : TA} {C : Addr} {m : Str} {apos pos : Pos}
theorem pe_met {pl : Sem Bool} (c : Cls X.K C) (G : Met X.prog X.w X.K X.mg X.base CX C m k ps sp) (hr : Room k X.A) (hx : Passes CX X E) (ho : PE X o ta) (ha : PA X (e :: es) t) 
    (he : starEach (e :: es) X.env = (false, eval e X.env) :: starEach es X.env := by rfl) (hpl : (backTo pos (starEach es X.env)).any (·.1) = false := by rfl)
    (ht : eval (.Call (.Attribute o m apos) (e :: es) [] pos) X.env = (do
      let ov ← eval o X.env
      standAt apos.atName
      let (f, first) ← holding [ov] (getMethod ov m pl)
      callWith pos f first (backTo pos (starEach (e :: es) X.env)) (backToKw pos (keywordEach [] X.env))) := by rfl) :
    PE X (.Call (.Attribute o m apos) (e :: es) [] pos) (tMeth C m sp [] E ta t) := by
  obtain ⟨f, fd, hm, hb, F⟩ := G.ex
  exact pe_meth ho c hm F hr hb .nil hx ha he hpl ht
end
structure J9 (P : Program) (w : World) (K : PySem.W.Frag) (mg : Str → Option Value) (base : Heap) (aT CJ CB CE CM : Addr) : Prop where
  then_ : Met P w K mg base (L2.CX P w) CJ "then" 9 ["self", "entry"] (spThen K aT CJ CB CE)
  heard : Met P w K mg base (L2.CX P w) CJ "heard" 9 ["self", "h"] (spHeard K aT CJ CB CM)
  rows : Met P w K mg base CX0 CJ "rows" 3 ["self", "stream", "key"] (spRows K aT CJ CB)
def spJLen (K : PySem.W.Frag) (aT CJ CB : Addr) : Sp := fun vs H Q _ => ∃ (j b : Addr) (L : List (Str × Int)) (us : List V) (xs : List Ent), vs = [.ref j] ∧ JAt K aT CJ CB H j b L us xs ∧ Q (.int us.length) H
def spLatest (K : PySem.W.Frag) (aT CJ CB : Addr) : Sp := fun vs H Q _ => ∃ (j b : Addr) (L : List (Str × Int)) (us : List V) (xs : List Ent), vs = [.ref j] ∧ JAt K aT CJ CB H j b L us xs ∧ xs ≠ [] ∧ us.length ≤ 400 ∧ ∀ t, lastA xs none = some t → Q (.int t) H
/-- books that are one -/
def EqB (CB : Addr) : Addr → Addr → Hp → Prop := fun a b H => a = b ∧ ∃ L, BookAt CB H a L
/-- journals of the same entries -/
def EqJ (K : PySem.W.Frag) (aT CJ CB : Addr) : Addr → Addr → Hp → Prop := fun i j H => ∃ b L us xs ys, JAt K aT CJ CB H i b L us xs ∧ JAt K aT CJ CB H j b L us ys
section
variable {P : Program} {w : World} {K : PySem.W.Frag} {mg : Str → Option Value} {base : Heap}
abbrev s_Journal_len : Stmt := inClass (topS 30) 2
theorem sc_Journal_len : FnScope ["self"] ["self"] (defScope s_Journal_len) := ⟨rfl, rfl, rfl, by decide +kernel, rfl, by decide +kernel, by decide +kernel⟩
theorem ok_jlen {f CJ CB aT : Addr} {fd : FuncData} (F : Fun K "__len__" "Journal.__len__" s_Journal_len f fd) (B : Blt mg) (T : Cj P K mg CJ CB) : FnOk P w K mg base CX0 1 f fd ["self"] (spJLen K aT CJ CB) := by
  refine F.ok sc_Journal_len (fun vs H Q E h => ?_) (fun cdv A outer s H vs Q E hr h => ?_)
  · obtain ⟨j, b, L, us, xs, rfl, _⟩ := h
    rfl
  · obtain ⟨j, b, L, us, xs, rfl, hJ, q⟩ := h
    refine ⟨_, (pss_one (ps_ret (pe_callB call_len_seq (by rfl) B.len (by decide +kernel) (pa_cons (pe_fld (pv 0) rfl) pa_nil)))), ?_⟩
    obtain ⟨dx, t, kd, h1, h2, h3, hl, h5, h6, h7⟩ := id hJ
    exact ⟨_, rfl, j, CJ, dx, _, _, rfl, h1, T.cl, T.nE, jf_e _ _ _, t, us, rfl, .inr h3, q⟩
abbrev s_Journal_latest : Stmt := inClass (topS 30) 4
theorem sc_Journal_latest : FnScope ["self"] ["self"] (defScope s_Journal_latest) := ⟨rfl, rfl, rfl, by decide +kernel, rfl, by decide +kernel, by decide +kernel⟩
theorem ok_latest {f CJ CB aT : Addr} {fd : FuncData} (F : Fun K "latest" "Journal.latest" s_Journal_latest f fd) (B : Blt mg) (T : Cj P K mg CJ CB) (G : K5 P w K mg base CB) : FnOk P w K mg base CX0 2 f fd ["self"] (spLatest K aT CJ CB) := by
  refine F.ok sc_Journal_latest (fun vs H Q E h => ?_) (fun cdv A outer s H vs Q E hr h => ?_)
  · obtain ⟨j, b, L, us, xs, rfl, _⟩ := h
    rfl
  · obtain ⟨j, b, L, us, xs, rfl, hJ, hne, h4, q⟩ := h
    refine ⟨_, (pss_cons (ps_if (pt_cmpR op_eq (pe_callB call_len_seq (by rfl) B.len (by decide +kernel) (pa_cons (pe_fld (pv 0) rfl) pa_nil)) pe_int (nomark _))
      (pss_one (ps_ret pe_non))
      pss_nil)
    (pss_one (ps_ret (pe_cal G.arrival_of (hr.mono (by decide)) pass0 (pa_cons (pe_ix ix_tup (pe_fld (pv 0) rfl) (pe_un un_neg pe_int) (fun _ _ => rfl)) pa_nil))))), ?_⟩
    obtain ⟨dx, t, kd, h1, h2, h3, hl, h5, h6, h7⟩ := id hJ
    obtain ⟨x, hx1, hx2⟩ := lastA_some (l := none) hne
    have hpos : 0 < xs.length := List.length_pos_iff.mpr hne
    rw [List.getLast?_eq_getElem?] at hx1
    have hu : us[xs.length - 1]? = some us[xs.length - 1] := List.getElem?_eq_getElem (by omega)
    obtain ⟨e, he, hee, hok⟩ := h5 _ _ _ hu hx1
    rw [he] at hu
    refine ⟨_, rfl, j, CJ, dx, _, _, rfl, h1, T.cl, T.nE, jf_e _ _ _, t, us, rfl, .inr h3, rfl, _, rfl, ?_⟩
    rw [decide_eq_false (show ¬ (V.int (us.length : Int) = V.int 0) from fun z => by have := V.int.inj z; omega)]
    refine iteF ⟨_, rfl, j, CJ, dx, _, _, rfl, h1, T.cl, T.nE, jf_e _ _ _, _, rfl, _, _, _, V.ref e, rfl, rfl, h3, ?_, e, x, rfl, hee, q _ hx2⟩
    have e1 : ixN us.length (-1) = some (xs.length - 1) := by
      unfold ixN
      repeat' split
      all_goals first | (congr 1; omega) | omega
    show ((ixN us.length (-1)).bind fun j => us[j]?) = _
    rw [e1]
    exact hu
abbrev s_Book_eq : Stmt := inClass (topS 18) 1
theorem sc_Book_eq : FnScope ["self", "other"] ["self", "other"] (defScope s_Book_eq) := ⟨rfl, rfl, rfl, by decide +kernel, rfl, by decide +kernel, by decide +kernel⟩
theorem ok_book_eq {f CBook : Addr} {fd : FuncData} (F : Fun K "__eq__" "Book.__eq__" s_Book_eq f fd) (B : Blt mg) (T : Cb K mg CBook) (bk : ∀ H b dx fs, H b = some (.ins CBook dx fs) → TyX K H (.ref b) (.ref CBook)) : FnOk P w K mg base CX0 1 f fd ["self", "other"] (spEq (EqB CBook)) := by
  have c_Book := T.c
  refine F.ok sc_Book_eq (fun vs H Q E h => ?_) (fun cdv A outer s H vs Q E hr h => ?_)
  · obtain ⟨a, b, rfl, _⟩ := h
    rfl
  · obtain ⟨a, b, rfl, ⟨rfl, L, hB⟩, q⟩ := h
    have hu := hu_of hr
    have hu0 : (A.deeper (envOfC "Book.__eq__" (defScope s_Book_eq) s.heap.objs.size f cdv)).units < cLine := by omega
    refine ⟨_, (pss_one (ps_ret (pe_and (pe_callB call_isi (by rfl) B.isinstance (by decide +kernel) (pa_cons (pv 1) (pa_cons (pe_glob (v := .ref CBook) (by rfl) c_Book rfl) pa_nil))) (pe_one (pe_cmpR (op_eq_dictA hu0) (pe_fld (pv 0) rfl) (pe_fld (pv 1) rfl) (nomark _)))))), ?_⟩
    obtain ⟨dx, d, L', h1, h2, h3, nd⟩ := id hB
    have nk : ((LK L').map (·.1)).Nodup := by
      unfold LK
      rw [List.map_map]
      have e : (L'.map ((fun x => x.1) ∘ fun x => ((Sum.inr x.1 : Key), V.int x.2))) = (L'.map (·.1)).map (Sum.inr : Str → Key) := by rw [List.map_map]; rfl
      rw [e]
      exact List.Pairwise.map (Sum.inr : Str → Key) (fun a b h z => h (Sum.inr.inj z)) nd
    refine ⟨_, rfl, _, _, _, _, true, rfl, ClsV.own _, bk _ _ _ _ h1, (by show PySem.W.kitOne K _ _ = _; unfold PySem.W.kitOne; rw [if_pos (by simp)]), _, rfl, iteT ?_⟩
    refine ⟨_, rfl, a, CBook, dx, _, _, rfl, h1, T.cl, T.nL, rfl, _, rfl, a, CBook, dx, _, _, rfl, h1, T.cl, T.nL, rfl, d, d, _, _, rfl, rfl, h2, h2, rfl, fun p hp => ⟨valV_of nk p hp, ?_⟩, q H Ext.rfl'⟩
    obtain ⟨x, hx, rfl⟩ := List.mem_map.mp hp
    rfl
abbrev s_Journal_eq : Stmt := inClass (topS 30) 1
theorem sc_Journal_eq : FnScope ["self", "other"] ["self", "other"] (defScope s_Journal_eq) := ⟨rfl, rfl, rfl, by decide +kernel, rfl, by decide +kernel, by decide +kernel⟩
theorem ok_j_eq {f fb CJournal CB aT : Addr} {fd fdb : FuncData} (F : Fun K "__eq__" "Journal.__eq__" s_Journal_eq f fd) (B : Blt mg) (T : Cj P K mg CJournal CB) (jk : ∀ H b dx fs, H b = some (.ins CJournal dx fs) → TyX K H (.ref b) (.ref CJournal))
    (hs : PySem.W.findIn K (.ref CB) "__eq__" = some (some (.ref fb))) (hf : PySem.W.isFn K (.ref fb) = true) (hb : Binds K fdb ["self", "other"] []) (Fb : FnOk P w K mg base CX0 1 fb fdb ["self", "other"] (spEq (EqB CB))) : FnOk P w K mg base CX0 3 f fd ["self", "other"] (spEq (EqJ K aT CJournal CB)) := by
  have c_Journal := T.c
  refine F.ok sc_Journal_eq (fun vs H Q E h => ?_) (fun cdv A outer s H vs Q E hr h => ?_)
  · obtain ⟨a, b, rfl, _⟩ := h
    rfl
  · obtain ⟨i, j, rfl, ⟨b, L, us, xs, ys, hI, hJ⟩, q⟩ := h
    refine ⟨_, (pss_one (ps_ret (pe_and (pe_callB call_isi (by rfl) B.isinstance (by decide +kernel) (pa_cons (pv 1) (pa_cons (pe_glob (v := .ref CJournal) (by rfl) c_Journal rfl) pa_nil))) (pe_and (pe_cmpR (op_eqG (rcG_ins Fb hs hf hb pass0) (hr.mono (by decide))) (pe_fld (pv 0) rfl) (pe_fld (pv 1) rfl) (nomark _)) (pe_one (pe_cmpR (op_eqG (rcG_tup mon_one eqG_one) (hr.mono (by decide))) (pe_fld (pv 0) rfl) (pe_fld (pv 1) rfl) (nomark _))))))), ?_⟩
    obtain ⟨dx, t, kd, h1, h2, h3, hl, h5, h6, h7⟩ := id hI
    obtain ⟨dy, t', kd', g1, g2, g3, gl, g5, g6, g7⟩ := id hJ
    obtain ⟨bx, d, L', b1, b2, b3, nd⟩ := id h2
    refine ⟨_, rfl, _, _, _, _, true, rfl, ClsV.own _, jk _ _ _ _ g1, (by show PySem.W.kitOne K _ _ = _; unfold PySem.W.kitOne; rw [if_pos (by simp)]), _, rfl, iteT ?_⟩
    refine ⟨_, rfl, i, CJournal, dx, _, _, rfl, h1, T.cl, T.nB, jf_b _ _ _, _, rfl, j, CJournal, dy, _, _, rfl, g1, T.cl, T.nB, jf_b _ _ _, ⟨b, b, _, _, _, _, rfl, rfl, b1, b1, rfl, L, h2⟩, fun H1 e1 => ⟨_, rfl, iteT ?_⟩⟩
    refine ⟨_, rfl, i, CJournal, dx, _, _, rfl, e1 _ _ h1, T.cl, T.nE, jf_e _ _ _, _, rfl, j, CJournal, dy, _, _, rfl, e1 _ _ g1, T.cl, T.nE, jf_e _ _ _, ⟨t, t', us, us, rfl, rfl, h3.ext e1, g3.ext e1, rfl, fun n u v a b => ?_⟩, fun H2 e2 => q H2 (e1.trans e2)⟩
    rw [a] at b
    cases b
    have hn := (List.getElem?_eq_some_iff.mp a).1
    obtain ⟨e, he, _⟩ := h5 n u xs[n] a (List.getElem?_eq_getElem (by omega))
    exact ⟨rfl, e, he⟩
end
end Ash

set_option Elab.async false
set_option linter.all false
set_option maxRecDepth 100000
set_option maxHeartbeats 4000000
namespace Ash
open PySem PySem.Spec PyProof.Rows L2
section
variable {X : Cx} {pins : List (Addr × Obj)} {σ : L2.St} {H : Hp} {s : Shared}
/-- an object of one's own is tracked from now on -/
theorem adopt {D : Addr} {o : HO} (I : Inv X pins σ H s) (f : FpOk X pins H D) (new : ObjOk X.prog X.w (L2.upd H D o) s.heap D o) : Inv X pins σ (L2.upd H D o) s := by
  obtain ⟨f1, f2, f3, f4, f5, f6⟩ := f
  have ne : ∀ {b u}, H b = some u → b ≠ D := fun {b u} e z => by rw [z, f1] at e; cases e
  refine ⟨I.ok, I.os, I.bare, ⟨I.base.keep, I.base.slot, fun b ob e n hx => ?_, I.base.there, fun b xs e => ?_, fun b ob u e => ?_, fun b ps e => ?_⟩, I.loc, I.cell, ?_, fun x c e => ?_, fun p hp => ?_, fun b u e => ?_, I.len⟩
  · have hb : b ≠ D := fun z => by
      rcases f4 with h | h
      · exact hx (z ▸ h)
      · have := Heap.lt_size e
        rw [z] at this
        exact absurd this (Nat.not_lt.mpr h)
    rw [upd_ne hb]
    exact I.base.free b ob e n hx
  · have := I.base.tups b xs e
    rw [upd_ne (ne this)]
    exact this
  · have := I.base.frzs b ob u e
    rw [upd_ne (ne this)]
    exact this
  · obtain ⟨more, q⟩ := I.base.tbls b ps e
    exact ⟨more, by rw [upd_ne (ne q)]; exact q⟩
  · rw [upd_ne f2.symm]
    exact I.free
  · rw [upd_ne (f5 x c e)]
    exact I.freeC x c e
  · obtain ⟨h1, h2, h3⟩ := I.pin p hp
    exact ⟨h1, by rw [upd_ne (f6 p hp)]; exact h2, h3⟩
  · by_cases c : b = D
    · subst c
      rw [upd_same] at e
      cases e
      exact new
    · rw [upd_ne c] at e
      exact (I.hok b u e).stay (fun _ _ _ q => q) (fun c q => by rw [upd_ne (ne q)]; exact q) fun c xs q => by rw [upd_ne (ne q)]; exact q
/-- an object of one's own is written -/
theorem turnOwn {D : Addr} {h' : Heap} {t : Nat} (I : Inv X pins σ H s) (f : FpOk X pins H D) (k : ∀ b o, b ≠ D → s.heap.get? b = some o → h'.get? b = some o) : Inv X pins σ H { s with heap := h', toks := t } := by
  obtain ⟨f1, f2, f3, f4, f5, f6⟩ := f
  exact I.turned k f1 f2 f4 f5 f6
/-- pinned while others run -/
theorem pinOwn {ps : List (Addr × Obj)} (I : Inv X pins σ H s) (h : ∀ p ∈ ps, FpOk X pins H p.1 ∧ s.heap.get? p.1 = some p.2 ∧ ∀ v, p.2.data ≠ .cell v) : Inv X (pins ++ ps) σ H s := by
  refine I.pins_of fun p hp => ?_
  rcases List.mem_append.mp hp with q | q
  · exact I.pin p (List.mem_append_right _ q)
  · obtain ⟨⟨f1, f2, f3, _⟩, h2, h3⟩ := h p q
    exact ⟨h2, f1, f2, f3, h3⟩
theorem unpinOwn {ps : List (Addr × Obj)} (I : Inv X (pins ++ ps) σ H s) : Inv X pins σ H s := I.pins_of fun p hp => I.pin p (by
  rw [List.mem_append]
  exact .inr (List.mem_append_left _ hp))
variable {A : Around} {E : Value → Shared → Prop} {P : PySem.Fin → Shared → Prop} {a kS : Addr} {vs : List Value} {kz : List Int} {keys : Array Value} {e e1 : Nat}
/-- what the sort leaves at a -/
abbrev KeyDone (X : Cx) (pins : List (Addr × Obj)) (σ : L2.St) (H : Hp) (a : Addr) (kz : List Int) (vs : List Value) (P : PySem.Fin → Shared → Prop) : Prop :=
  ∀ (s' : Shared) (out : Array Value) (c : Nat), Inv X pins σ H s' → s'.heap.get? a = some (seqObj "list" out c) → KskOutSt false kz vs out.toList → P (.done (.ret .none)) s'
theorem keyTail {st : SortSt} (I : Inv X pins σ H s) (fk : FpOk X pins H kS) (fa : FpOk X pins H a) (hka : kS ≠ a) (hK : s.heap.get? kS = some (seqObj "list" keys e)) (hA : s.heap.get? a = some (seqObj "list" #[] e1))
    (hk : IntsAre keys.toList kz) (hlen : kz.length = vs.length) (hZ : vs.length ≤ 1000) (hp : (arrOf st).Perm (keys.zip vs.toArray)) (hs : SortedTo (arrOf st) (arrOf st).size) (hfl : failedOf st = none)
    (hst : Stable intKind (arrOf st) (keys.zip vs.toArray)) (h : KeyDone X pins σ H a kz vs P) : wpAny (model X.prog X.w) A (ksk_tail a false e1 (.ref kS) st) P E s := by
  have hsz : keys.size = vs.length := by
    have := hk.length
    rw [Array.length_toList] at this
    omega
  have hsz2 : (arrOf st).size = vs.length := by rw [hp.size_eq, Array.size_zip, hsz, List.size_toArray, Nat.min_self]
  have hA2 : (s.heap.update kS (Obj.mapSeq fun _ => (#[] : Array Value))).get? a = some (seqObj "list" #[] e1) := by
    rw [Heap.get?_update_ne _ _ _ _ hka.symm]
    exact hA
  obtain ⟨c2, hc2⟩ : ∃ c2, ((s.heap.update kS (Obj.mapSeq fun _ => (#[] : Array Value))).update a (Obj.mapSeq fun _ => (arrOf st).map (·.2))).get? a = some (seqObj "list" ((arrOf st).map (·.2)) c2) := ⟨_, get?_update_seq hA2 fun _ => (arrOf st).map (·.2)⟩
  unfold ksk_tail
  try dsimp only
  refine wpAny_bind (listUpdate_at hK rfl ?_ (by rw [hsz, sizeLine_eq]; omega) (Nat.zero_le _))
  have I1 := turnOwn (t := s.toks) I fk (h' := s.heap.update kS (Obj.mapSeq fun _ => (#[] : Array Value))) fun b o hb ho => by
    rw [Heap.get?_update_ne _ _ _ _ hb]
    exact ho
  have I2 := turnOwn (t := s.toks) I1 fa (h' := (s.heap.update kS (Obj.mapSeq fun _ => (#[] : Array Value))).update a (Obj.mapSeq fun _ => (arrOf st).map (·.2))) fun b o hb ho => by
    rw [Heap.get?_update_ne _ _ _ _ hb]
    exact ho
  refine wpAny_bind (wpAny_letGo (wpAny_bind (seqEpoch_at hA2 rfl (wpAny_bind (listUpdate_at hA2 rfl ?_ (Nat.zero_le _) ?_)))))
  · rw [hfl]
    simp only [bne_self_eq_false, Bool.false_eq_true, if_false]
    refine wpAny_pure (h _ _ c2 ?_ hc2 (ksk_outSt (b := false) hk hp hs hst))
    exact I2.tok _
  · show ((arrOf st).map (·.2)).size ≤ _
    rw [Array.size_map, hsz2, sizeLine_eq]
    omega
end
end Ash

set_option Elab.async false
set_option linter.all false
set_option maxRecDepth 100000
set_option maxHeartbeats 4000000
namespace Ash
open PySem PySem.Spec PyProof.Rows L2
section
variable {X : Cx} {pins : List (Addr × Obj)} {σ : L2.St} {H : Hp} {s : Shared} {A : Around} {E : Value → Shared → Prop} {P : PySem.Fin → Shared → Prop} {a kS : Addr} {vs : List Value} {kz : List Int} {keys : Array Value} {e e1 : Nat}
theorem keyEnd (I : Inv X pins σ H s) (fk : FpOk X pins H kS) (fa : FpOk X pins H a) (hka : kS ≠ a) (hK : s.heap.get? kS = some (seqObj "list" keys e)) (hA : s.heap.get? a = some (seqObj "list" #[] e1))
    (hk : IntsAre keys.toList kz) (hlen : kz.length = vs.length) (hZ : vs.length ≤ 1000) (h : KeyDone X pins σ H a kz vs P) : wpAny (model X.prog X.w) A (ksk_end a false vs.toArray e1 (.ref kS) keys) P E s := by
  have hsz : keys.size = vs.length := by
    have := hk.length
    rw [Array.length_toList] at this
    omega
  have hzs : (keys.zip vs.toArray).size = vs.length := by rw [Array.size_zip, hsz, List.size_toArray, Nat.min_self]
  unfold ksk_end
  try dsimp only
  rw [if_neg Bool.false_ne_true]
  by_cases h2 : vs.toArray.size < 2
  · rw [if_pos h2, if_pos h2]
    refine wpAny_bind (wpAny_pure ?_)
    rw [StateT.run_pure]
    refine wpAny_bind (wpAny_pure ?_)
    try dsimp only
    refine keyTail (st := SortSt.mk' general' (keys.zip vs.toArray) #[] 7 none) I fk fa hka hK hA hk hlen hZ (Array.Perm.refl _) ?_ rfl (Stable.refl _) h
    intro i j hij hj
    have hj2 : j < (keys.zip vs.toArray).size := hj
    rw [hzs] at hj2
    rw [List.size_toArray] at h2
    have : i = j := by omega
    subst this
    exact Int.le_refl _
  · rw [if_neg h2, if_neg h2]
    rw [List.size_toArray] at h2
    rw [ksk_kind hk (by rw [hsz]; omega)]
    refine wpAny_bind (wpAny_pure ?_)
    refine wpAny_bind (wpAny_mono (wpS_sortRunsSt (κ := intKind) (a₀ := keys.zip vs.toArray) (st := SortSt.mk' oneType' (keys.zip vs.toArray) #[] 7 none)
      (Q := fun _ st' => (arrOf st').Perm (keys.zip vs.toArray) ∧ failedOf st' = none ∧ SortedTo (arrOf st') (arrOf st').size ∧ Stable intKind (arrOf st') (keys.zip vs.toArray))
      intKind_oneLt (ksk_keysOfInt (ksk_intKeys hk)) ⟨Array.Perm.refl _, rfl, rfl⟩ rfl (Stable.refl _) (by rw [hzs]; omega)
      fun st' a1 a2 a3 a4 => ⟨a1, a2, by rw [a1.size_eq]; exact sortedTo_of_int a3, a4⟩) ?_ fun _ _ e => e)
    rintro ⟨⟨⟩, st'⟩ s' ⟨rfl, hp, hf, hs, hst⟩
    try dsimp only
    exact keyTail I fk fa hka hK hA hk hlen hZ hp hs hf hst h
/-- the key's own def gives each item's key, and leaves all as it is -/
abbrev KeyTurn (X : Cx) (A : Around) (σ : L2.St) (H : Hp) (f : Value) (kz : List Int) (vs : List Value) : Prop :=
  ∀ (i : Nat) (v : Value) (k : Int), vs[i]? = some v → kz[i]? = some k → ∀ (ps : List (Addr × Obj)) (s' : Shared), Inv X ps σ H s' →
    wpAny (model X.prog X.w) A (call f [v]) (fun u s'' => Inv X ps σ H s'' ∧ ∃ t, u = .int k t) (fun _ _ => False) s'
theorem keyRest {f : Value} (I : Inv X pins σ H s) (fk : FpOk X pins H kS) (fa : FpOk X pins H a) (hka : kS ≠ a) (hK : s.heap.get? kS = some (seqObj "list" #[] e)) (hA : s.heap.get? a = some (seqObj "list" #[] e1))
    (hlen : kz.length = vs.length) (hZ : vs.length ≤ 1000) (turn : KeyTurn X A σ H f kz vs) (h : KeyDone X pins σ H a kz vs P) : wpAny (model X.prog X.w) A (ksk_rest a f false vs.toArray e1 (.ref kS)) P E s := by
  unfold ksk_rest
  refine wpAny_bind (wpAny_rule ?_)
  first
    | rw [List.forIn_toArray]
    | (rw [← Array.forIn_toList]; simp only [List.toList_toArray])
    | rw [← Array.forIn_toList]
  refine wpAny_bind (ksk_fold (fun i s' => ∃ kA e, Inv X pins σ H s' ∧ s'.heap.get? kS = some (seqObj "list" kA e) ∧ s'.heap.get? a = some (seqObj "list" #[] e1) ∧ IntsAre kA.toList (kz.take i)) vs 0 s
    ⟨#[], e, I, hK, hA, by simpa using IntsAre.nil⟩ ?step ?done)
  case step =>
    rintro j x s' hx ⟨kA, e, I', hK', hA', hk⟩
    simp only [Nat.zero_add] at hk ⊢
    have hj : j < vs.length := (List.getElem?_eq_some_iff.mp hx).1
    obtain ⟨k, hkj⟩ : ∃ k, kz[j]? = some k := ⟨_, List.getElem?_eq_getElem (by omega)⟩
    have hz : kA.size ≤ vs.length := by
      have h1 := hk.length
      rw [Array.length_toList, List.length_take] at h1
      omega
    have Ip := pinOwn (ps := [(kS, seqObj "list" kA e), (a, seqObj "list" #[] e1)]) I' fun p hp => by
      rcases List.mem_cons.mp hp with rfl | hp
      · exact ⟨fk, hK', fun v q => by cases q⟩
      · rw [List.mem_singleton.mp hp]
        exact ⟨fa, hA', fun v q => by cases q⟩
    refine wpAny_bind (wpAny_attempt (wpAny_mono (turn j x k hx hkj _ s' Ip) (fun v s2 he => ?_) fun _ _ hF => hF.elim))
    obtain ⟨I2, t2, rfl⟩ := he
    have hK2 := (I2.pin (kS, seqObj "list" kA e) (List.mem_append_right _ (List.mem_append_right _ (.head _)))).1
    have hA2 := (I2.pin (a, seqObj "list" #[] e1) (List.mem_append_right _ (List.mem_append_right _ (.tail _ (.head _))))).1
    try dsimp only
    have ek : kz.take (j + 1) = kz.take j ++ [k] := by rw [List.take_add_one, hkj]; simp
    have ea : (kA.push (Value.int k t2)).toList = kA.toList ++ [Value.int k t2] := by simp
    obtain ⟨c2, hc2⟩ : ∃ c2, (s2.heap.update kS (Obj.mapSeq (·.push (.int k t2)))).get? kS = some (seqObj "list" (kA.push (.int k t2)) c2) := ⟨_, get?_update_seq hK2 (·.push (.int k t2))⟩
    have I3 := turnOwn (t := s2.toks) (unpinOwn I2) fk (h' := s2.heap.update kS (Obj.mapSeq (·.push (.int k t2)))) fun b o hb ho => by
      rw [Heap.get?_update_ne _ _ _ _ hb]
      exact ho
    refine wpAny_bind (listUpdate_at hK2 rfl ?_ (by rw [sizeLine_eq]; omega) (Nat.le_trans (Nat.le_of_eq (Array.size_push ..)) (by rw [sizeLine_eq]; omega)))
    refine wpAny_pure ⟨rfl, kA.push (.int k t2), c2, I3, hc2, ?_, by rw [ea, ek]; exact ksk_snoc hk⟩
    show (s2.heap.update kS (Obj.mapSeq (·.push (.int k t2)))).get? a = _
    rw [Heap.get?_update_ne _ _ _ _ hka.symm]
    exact hA2
  case done =>
    rintro s' ⟨kA, e, I', hK', hA', hk⟩
    have e3 : kz.take (0 + vs.length) = kz := List.take_of_length_le (by omega)
    rw [e3] at hk
    try dsimp only
    exact wpAny_bind (listItems_at hK' rfl (keyEnd I' fk fa hka hK' hA' hk hlen hZ h))
theorem keyTree {f : Value} {n : Nat} (I : Inv X pins σ H s) (fa : FpOk X pins H a) (hA : s.heap.get? a = some (seqObj "list" vs.toArray n)) (hlen : kz.length = vs.length) (hZ : vs.length ≤ 1000) (turn : KeyTurn X A σ H f kz vs)
    (h : KeyDone X pins σ H a kz vs P) : wpAny (model X.prog X.w) A (ksk_tree a f false) P E s := by
  obtain ⟨e1, ho1⟩ : ∃ e1, (s.heap.update a (Obj.mapSeq fun _ => (#[] : Array Value))).get? a = some (seqObj "list" #[] e1) := ⟨_, get?_update_seq hA fun _ => #[]⟩
  have I1 := turnOwn (t := s.toks) I fa (h' := s.heap.update a (Obj.mapSeq fun _ => (#[] : Array Value))) fun b o hb ho => by
    rw [Heap.get?_update_ne _ _ _ _ hb]
    exact ho
  unfold ksk_tree
  refine wpAny_bind (listItems_at hA rfl (wpAny_bind (listUpdate_at hA rfl ?_ (by rw [List.size_toArray, sizeLine_eq]; omega) (Nat.zero_le _))))
  refine wpAny_bind (seqEpoch_at ho1 rfl (wpAny_bind (wpAny_newTuple ?_ (by show vs.length ≤ _; rw [sizeLine_eq]; omega))))
  refine wpAny_bind (wpAny_newList (wpAny_holding ?_) (Nat.zero_le _))
  have kp : ∀ b u, (s.heap.update a (Obj.mapSeq fun _ => (#[] : Array Value))).get? b = some u → (((s.heap.update a (Obj.mapSeq fun _ => (#[] : Array Value))).push (seqObj "tuple" vs.toArray 0)).push (seqObj "list" #[] 0)).get? b = some u := fun b u q => Heap.get?_push_of_some _ (Heap.get?_push_of_some _ q)
  have I2 := I1.kept (t' := s.toks) (h' := ((s.heap.update a (Obj.mapSeq fun _ => (#[] : Array Value))).push (seqObj "tuple" vs.toArray 0)).push (seqObj "list" #[] 0)) kp
  have hk : ((s.heap.update a (Obj.mapSeq fun _ => (#[] : Array Value))).push (seqObj "tuple" vs.toArray 0)).objs.size = s.heap.objs.size + 1 := by rw [size_push', Heap.size_update]
  have fk : FpOk X pins H ((s.heap.update a (Obj.mapSeq fun _ => (#[] : Array Value))).push (seqObj "tuple" vs.toArray 0)).objs.size := I.fpOk (by rw [hk]; exact Nat.le_succ _) (I.hok.fresh (by rw [hk]; exact Nat.le_succ _))
  refine keyRest (e := 0) I2 fk fa (by rw [hk]; exact Nat.ne_of_gt (Nat.lt_succ_of_lt (Heap.lt_size hA))) (Heap.get?_push_size _ rfl) (kp _ _ ho1) hlen hZ turn h
theorem keySorted {l : Addr} {f : Value} {kw : List (Str × Value)} {Q : Value → Shared → Prop} (I : Inv X pins σ H s) (hl : s.heap.IsList l vs.toArray) (hlen : kz.length = vs.length) (hZ : vs.length ≤ 1000)
    (ha1 : argsOk "sorted" ⟨[.ref l], kw⟩) (ha2 : ∀ x, argsOk "list.sort" ⟨[.ref x], kw⟩) (ht : ∀ x, Builtin.«list.sort» ⟨[.ref x], kw⟩ = ksk_tree x f false) (turn : KeyTurn X A.in1.in1 σ H f kz vs)
    (h : ∀ (D : Addr) (s' : Shared) (out : Array Value) (c : Nat), Inv X pins σ H s' → FpOk X pins H D → s'.heap.get? D = some (seqObj "list" out c) → KskOutSt false kz vs out.toList → Q (.ref D) s') : wpAny (model X.prog X.w) A (call (.builtin "sorted") [.ref l] kw) Q E s := by
  refine call_function_entry_kw kind_sorted plain_sorted entry_sorted ha1 ?_
  unfold Builtin.«sorted»
  refine wpAny_bind (m := checkCount "sorted" 1 1 _) (wpAny_pure (wpAny_bind (collect_list hl (wpAny_bind (wpAny_newList ?_ (by rw [sizeLine_eq]; omega))) (by rw [sizeLine_eq]; omega))))
  have hsz : ((s.heap.push (seqObj "list" #[] 0)).update s.heap.objs.size (Obj.mapSeq (· ++ vs.toArray))).objs.size = s.heap.objs.size + 1 := by rw [Heap.size_update, size_push']
  have hoL : (((s.heap.push (seqObj "list" #[] 0)).update s.heap.objs.size (Obj.mapSeq (· ++ vs.toArray))).push (seqObj "list" vs.toArray 0)).get? (s.heap.objs.size + 1) = some (seqObj "list" vs.toArray 0) := by
    rw [← hsz]
    exact Heap.get?_push_size _ rfl
  have keep : ∀ b o, s.heap.get? b = some o → (((s.heap.push (seqObj "list" #[] 0)).update s.heap.objs.size (Obj.mapSeq (· ++ vs.toArray))).push (seqObj "list" vs.toArray 0)).get? b = some o := fun b o q => by
    refine Heap.get?_push_of_some _ ?_
    rw [Heap.get?_update_ne _ _ _ _ (Nat.ne_of_lt (Heap.lt_size q))]
    exact Heap.get?_push_of_some _ q
  have I1 := I.kept (t' := s.toks) (h' := ((s.heap.push (seqObj "list" #[] 0)).update s.heap.objs.size (Obj.mapSeq (· ++ vs.toArray))).push (seqObj "list" vs.toArray 0)) keep
  have fa : FpOk X pins H (s.heap.objs.size + 1) := I.fpOk (Nat.le_succ _) (I.hok.fresh (Nat.le_succ _))
  show wpAny _ _ _ _ _ { s with heap := ((s.heap.push (seqObj "list" #[] 0)).update s.heap.objs.size (Obj.mapSeq (· ++ vs.toArray))).push (seqObj "list" vs.toArray 0) }
  rw [hsz]
  refine wpAny_bind (wpAny_holding (wpAny_call_entry_kw slot_list_sort ⟨_, hoL, rfl⟩ entry_list_sort ?body (ha2 _)))
  case body =>
    have ht' := ht (s.heap.objs.size + 1)
    show wpAny (model X.prog X.w) A.in1.in1 (Builtin.«list.sort» ⟨[.ref (s.heap.objs.size + 1)], kw⟩) _ _ _
    rw [ht']
    exact keyTree I1 fa hoL hlen hZ turn fun s' out c I' hD hO => ⟨_, rfl, wpAny_pure ⟨_, rfl, h _ s' out c I' fa hD hO⟩⟩
end
end Ash

set_option Elab.async false
set_option linter.all false
set_option maxRecDepth 100000
set_option maxHeartbeats 4000000
namespace Ash
open PySem PySem.Spec PyProof.Rows L2
/-- ys is xs by the keys ks, equal keys in their order -/
def ByKey (ks : List Int) (xs ys : List V) : Prop :=
  ∃ ps : List (Int × V), ps.Perm (ks.zip xs) ∧ ys = ps.map (·.2) ∧ ps.Pairwise (fun p q => p.1 ≤ q.1) ∧ ∀ c, ps.filter (fun p => p.1 == c) = (ks.zip xs).filter (fun p => p.1 == c)
theorem byKey_of {ks : List Int} {xs : List V} {vs out : List Value} (hx : xs = vs.map backV) (h : KskOutSt false ks vs out) : ByKey ks xs (out.map backV) := by
  obtain ⟨ps, h1, h2, h3, h4⟩ := h
  have ez : ks.zip xs = (ks.zip vs).map (fun p => (p.1, backV p.2)) := by
    rw [hx, List.zip_map_right]
    rfl
  refine ⟨ps.map fun p => (p.1, backV p.2), ?_, ?_, ?_, fun c => ?_⟩
  · rw [ez]
    exact h1.map _
  · rw [h2, List.map_map, List.map_map]
    rfl
  · rw [List.pairwise_map]
    exact h3.imp fun q => by simpa using q
  · rw [ez, List.filter_map, List.filter_map]
    exact congrArg _ (h4 c)
section
variable {X : Cx} {k : Nat} {f : Addr} {fd : FuncData} {x : Str} {sp : Sp}
/-- sorted(xs, key=f), xs a list of objects, f an own def that leaves all as it is -/
def rSortKey (K : PySem.W.Frag) (f : Addr) (sp : Sp) : List V → List V → Hp → VK → Prop := fun vs zs H Q => ∃ (a : Addr) (xs : List V) (ks : List Int), vs = [V.ref a] ∧ zs = [V.ref f] ∧ SqL K H a xs ∧ (∀ v ∈ xs, ∃ t, v = V.ref t) ∧ ks.length = xs.length ∧ xs.length ≤ 1000 ∧
  (∀ (i : Nat) v n, xs[i]? = some v → ks[i]? = some n → sp [v] H (fun y H' => y = .int n ∧ H' = H) E0) ∧ ∀ ys p, ByKey ks xs ys → ys.Perm xs → H p = none → Q (.ref p) (L2.upd H p (.lst ys))
theorem cr_sortKey (F : FnOk X.prog X.w X.K X.mg X.base CX0 k f fd [x] sp) (hb : Binds X.K fd [x] []) (hr : Room (k + 2) X.A) : CallRK X (.builtin "sorted") [Str.ofString "key"] (rSortKey X.K f sp) := by
  intro pins s σ H vs zs us ws Q I r rz h
  obtain ⟨a, xs, ks, rfl, rfl, hs, hx, hl, hZ, turn, q⟩ := h
  obtain rfl := Vals.ref1 r
  obtain ⟨w1, rfl, e1⟩ := vals1 rz
  obtain rfl : w1 = Value.ref f := e1
  obtain ⟨its, rv, hL, hz⟩ := I.list hs
  obtain ⟨ex, er⟩ := refs_back rv hx
  have hlen := rv.length
  refine keySorted (kz := ks) I hL.isList (by omega) (by omega) (ksk_s1 _ _) (fun _ => ksk_l1 _ _) (fun x => ksk_t1 f x) (fun i v n hv hn ps s' I' => ?_) fun D s' out c I' fD hO hK => ?_
  · obtain ⟨t, rfl⟩ := er v (List.mem_of_getElem? hv)
    have hxi : xs[i]? = some (.ref t) := by rw [ex, List.getElem?_map, hv]; rfl
    refine wpAny_call (codeAny_mono (F.run X.A.in1.in1 X.stack s' H ⟨[.ref t], []⟩ [.ref t] [.ref t] _ E0 hr.in1.in1 I'.env0.in1.in1 (hb s' [.ref t] I'.kIn rfl) (.cons rfl .nil) (turn i _ n hxi hn)) fun rr s2 hq => ?_)
    cases rr with
    | error e => exact False.elim hq
    | ok fl =>
      cases fl with
      | ret u =>
        obtain ⟨y, H', I2, ry, rfl, rfl⟩ := I'.after hq
        obtain ⟨tk, rfl⟩ := ry
        exact ⟨I2, tk, rfl⟩
      | next => exact False.elim hq
      | brk => exact False.elim hq
      | cont => exact False.elim hq
  · have hB := byKey_of ex hK
    obtain ⟨ps, h1, h2, _⟩ := id hK
    have hP : out.toList.Perm its := by
      rw [h2]
      have := h1.map Prod.snd
      rwa [List.map_snd_zip (by omega)] at this
    have hr2 : ∀ u ∈ out.toList, ∃ a, u = Value.ref a := fun u hu => er u (hP.mem_iff.mp hu)
    have hY : (out.toList.map backV).Perm xs := by rw [ex]; exact hP.map backV
    refine ⟨.ref D, L2.upd H D (.lst (out.toList.map backV)), adopt I' fD ⟨?_, out.toList, c, vals_back hr2, hO⟩, rfl, q _ D hB hY fD.1⟩
    rw [hY.length_eq, sizeLine_eq]
    omega
end
end Ash

set_option Elab.async false
set_option linter.all false
set_option maxRecDepth 100000
set_option maxHeartbeats 4000000
namespace Ash
open PySem PySem.Spec PyProof.Rows L2
/-! ### entries joined by arrivals -/
def mrg : List Ent → List Ent → List Ent
  | [], ys => ys
  | x :: xs, [] => x :: xs
  | x :: xs, y :: ys => if x.arr ≤ y.arr then x :: mrg xs (y :: ys) else y :: mrg (x :: xs) ys
termination_by xs ys => xs.length + ys.length
theorem mrg_nil (ys : List Ent) : mrg [] ys = ys := by rw [mrg]
theorem mrg_nil' (xs : List Ent) : mrg xs [] = xs := by
  cases xs with
  | nil => rw [mrg]
  | cons x r => rw [mrg]
theorem mrg_le {x y : Ent} {xs ys : List Ent} (h : x.arr ≤ y.arr) : mrg (x :: xs) (y :: ys) = x :: mrg xs (y :: ys) := by rw [mrg, if_pos h]
theorem mrg_gt {x y : Ent} {xs ys : List Ent} (h : ¬ x.arr ≤ y.arr) : mrg (x :: xs) (y :: ys) = y :: mrg (x :: xs) ys := by rw [mrg, if_neg h]
/-- by which the two lists are walked through -/
theorem mrg_ind {M : List Ent → List Ent → Prop} (h1 : ∀ ys, M [] ys) (h2 : ∀ xs, M xs []) (h3 : ∀ x xs y ys, x.arr ≤ y.arr → M xs (y :: ys) → M (x :: xs) (y :: ys)) (h4 : ∀ x xs y ys, ¬ x.arr ≤ y.arr → M (x :: xs) ys → M (x :: xs) (y :: ys)) :
    ∀ (n : Nat) (xs ys : List Ent), xs.length + ys.length ≤ n → M xs ys
  | _, [], ys, _ => h1 ys
  | _, x :: xs, [], _ => h2 _
  | 0, x :: xs, y :: ys, h => absurd h (by simp)
  | n + 1, x :: xs, y :: ys, h => by
    by_cases c : x.arr ≤ y.arr
    · exact h3 x xs y ys c (mrg_ind h1 h2 h3 h4 n xs (y :: ys) (by simp only [List.length_cons] at h ⊢; omega))
    · exact h4 x xs y ys c (mrg_ind h1 h2 h3 h4 n (x :: xs) ys (by simp only [List.length_cons] at h ⊢; omega))
theorem mrg_perm (xs ys : List Ent) : (mrg xs ys).Perm (xs ++ ys) := by
  refine mrg_ind (M := fun xs ys => (mrg xs ys).Perm (xs ++ ys)) (fun ys => ?_) (fun xs => ?_) (fun x xs y ys c ih => ?_) (fun x xs y ys c ih => ?_) _ xs ys (Nat.le_refl _)
  · rw [mrg_nil]; exact List.Perm.refl _
  · rw [mrg_nil', List.append_nil]
  · rw [mrg_le c]; exact ih.cons x
  · rw [mrg_gt c]
    exact (ih.cons y).trans (List.perm_middle (l₁ := x :: xs)).symm
theorem mrg_mem {xs ys : List Ent} {z : Ent} : z ∈ mrg xs ys ↔ z ∈ xs ∨ z ∈ ys := by rw [(mrg_perm xs ys).mem_iff, List.mem_append]
theorem mrg_len (xs ys : List Ent) : (mrg xs ys).length = xs.length + ys.length := by rw [(mrg_perm xs ys).length_eq, List.length_append]
abbrev Asc (l : List Ent) : Prop := l.Pairwise fun a b => a.arr ≤ b.arr
theorem mrg_asc {xs ys : List Ent} : Asc xs → Asc ys → Asc (mrg xs ys) := by
  refine mrg_ind (M := fun xs ys => Asc xs → Asc ys → Asc (mrg xs ys)) (fun ys _ h => ?_) (fun xs h _ => ?_) (fun x xs y ys c ih hx hy => ?_) (fun x xs y ys c ih hx hy => ?_) _ xs ys (Nat.le_refl _)
  · rw [mrg_nil]; exact h
  · rw [mrg_nil']; exact h
  · rw [mrg_le c]
    have hx' := List.pairwise_cons.mp hx
    have hy' := List.pairwise_cons.mp hy
    refine List.pairwise_cons.mpr ⟨fun z hz => ?_, ih hx'.2 hy⟩
    rcases mrg_mem.mp hz with h | h
    · exact hx'.1 z h
    · rcases List.mem_cons.mp h with rfl | h
      · exact c
      · exact Int.le_trans c (hy'.1 z h)
  · rw [mrg_gt c]
    have hx' := List.pairwise_cons.mp hx
    have hy' := List.pairwise_cons.mp hy
    refine List.pairwise_cons.mpr ⟨fun z hz => ?_, ih hx hy'.2⟩
    rcases mrg_mem.mp hz with h | h
    · rcases List.mem_cons.mp h with rfl | h
      · omega
      · have := hx'.1 z h; omega
    · exact hy'.1 z h
/-- those of one arrival: the first list's ahead -/
theorem mrg_at (c : Int) {xs ys : List Ent} : Asc xs → Asc ys → (mrg xs ys).filter (fun e => e.arr == c) = xs.filter (fun e => e.arr == c) ++ ys.filter (fun e => e.arr == c) := by
  refine mrg_ind (M := fun xs ys => Asc xs → Asc ys → (mrg xs ys).filter (fun e => e.arr == c) = xs.filter (fun e => e.arr == c) ++ ys.filter (fun e => e.arr == c)) (fun ys _ h => ?_) (fun xs h _ => ?_) (fun x xs y ys d ih hx hy => ?_) (fun x xs y ys d ih hx hy => ?_) _ xs ys (Nat.le_refl _)
  · rw [mrg_nil]; rfl
  · rw [mrg_nil', List.filter_nil, List.append_nil]
  · rw [mrg_le d, List.filter_cons, ih (List.pairwise_cons.mp hx).2 hy, List.filter_cons (x := x) (xs := xs)]
    split <;> rfl
  · rw [mrg_gt d, List.filter_cons, ih hx (List.pairwise_cons.mp hy).2, List.filter_cons (x := y) (xs := ys)]
    by_cases e : (y.arr == c) = true
    · rw [if_pos e, if_pos e]
      have none_ : (x :: xs).filter (fun e => e.arr == c) = [] := by
        rw [List.filter_eq_nil_iff]
        intro z hz
        have e : y.arr = c := by simpa using e
        have : x.arr ≤ z.arr := by
          rcases List.mem_cons.mp hz with rfl | h
          · exact Int.le_refl _
          · exact (List.pairwise_cons.mp hx).1 z h
        simp
        omega
      rw [none_]
      rfl
    · rw [if_neg e, if_neg e]
/-- lists in the order of arrivals are one if those of each arrival are -/
theorem asc_uniq : ∀ {xs ys : List Ent}, Asc xs → Asc ys → (∀ c, xs.filter (fun e => e.arr == c) = ys.filter (fun e => e.arr == c)) → xs = ys
  | [], [], _, _, _ => rfl
  | [], y :: ys, _, _, h => by
    have := h y.arr
    rw [List.filter_cons_of_pos (by simp)] at this
    cases this
  | x :: xs, [], _, _, h => by
    have := h x.arr
    rw [List.filter_cons_of_pos (by simp)] at this
    cases this
  | x :: xs, y :: ys, hx, hy, h => by
    have hx' := List.pairwise_cons.mp hx
    have hy' := List.pairwise_cons.mp hy
    have e : x.arr = y.arr := by
      have a : x ∈ (y :: ys).filter (fun e => e.arr == x.arr) := by
        rw [← h]
        exact List.mem_filter.mpr ⟨List.mem_cons_self, by simp⟩
      have b : y ∈ (x :: xs).filter (fun e => e.arr == y.arr) := by
        rw [h]
        exact List.mem_filter.mpr ⟨List.mem_cons_self, by simp⟩
      have a' := (List.mem_filter.mp a).1
      have b' := (List.mem_filter.mp b).1
      have h1 : y.arr ≤ x.arr := by
        rcases List.mem_cons.mp a' with r | r
        · rw [r]; exact Int.le_refl _
        · exact hy'.1 x r
      have h2 : x.arr ≤ y.arr := by
        rcases List.mem_cons.mp b' with r | r
        · rw [r]; exact Int.le_refl _
        · exact hx'.1 y r
      omega
    have q := h x.arr
    rw [List.filter_cons_of_pos (by simp), List.filter_cons_of_pos (by simp [e])] at q
    injection q with q1 _
    subst q1
    congr 1
    refine asc_uniq hx'.2 hy'.2 fun c => ?_
    have := h c
    rw [List.filter_cons, List.filter_cons] at this
    split at this
    · injection this
    · exact this
/-- a good list's arrivals ascend -/
theorem wk_asc {L : List (Str × Int)} : ∀ {xs : List Ent} {i : Nat} {S : Kn} {l : Option Int}, (wk L (xs.map some) i S l).1 = none → Asc xs
  | [], _, _, _, _ => .nil
  | x :: r, i, S, l, h => by
    have h : (wk L (some x :: r.map some) i S l).1 = none := h
    by_cases c : late? l x.arr = true
    · rw [wk_late c] at h
      cases h
    · have c0 : late? l x.arr = false := Bool.eq_false_iff.mpr c
      cases hb : behind L x (S x.id) with
      | none =>
        rw [wk_bad c0 hb] at h
        cases h
      | some y =>
        rw [wk_go c0 hb] at h
        exact List.pairwise_cons.mpr ⟨fun z hz => wk_ge h z hz, wk_asc h⟩
/-- what is known of either -/
def joinK (A B : Kn) : Kn := fun id => match A id with
  | some r => some r
  | none => B id
theorem wk_step {L : List (Str × Int)} {x : Ent} {r : List Ent} {i : Nat} {S S1 : Kn} {l : Option Int} (h : wk L ((x :: r).map some) i S l = (none, S1)) : late? l x.arr = false ∧ ∃ y, behind L x (S x.id) = some y ∧ wk L (r.map some) (i + 1) (fun j => if j = x.id then some y else S j) (some x.arr) = (none, S1) := by
  have h : wk L (some x :: r.map some) i S l = (none, S1) := h
  by_cases c : late? l x.arr = true
  · rw [wk_late c] at h
    cases h
  · have c0 : late? l x.arr = false := Bool.eq_false_iff.mpr c
    cases hb : behind L x (S x.id) with
    | none =>
      rw [wk_bad c0 hb] at h
      cases h
    | some y =>
      rw [wk_go c0 hb] at h
      exact ⟨c0, y, rfl, h⟩
theorem join_l {A B : Kn} {id : Int} {r : RowSt} (h : B id = none) : (fun j => if j = id then some r else joinK A B j) = joinK (fun j => if j = id then some r else A j) B := by
  funext j
  unfold joinK
  show _ = match (if j = id then some r else A j) with | some r => some r | none => B j
  by_cases c : j = id
  · rw [if_pos c, if_pos c]
  · rw [if_neg c, if_neg c]
theorem join_r {A B : Kn} {id : Int} {r : RowSt} (h : A id = none) : (fun j => if j = id then some r else joinK A B j) = joinK A (fun j => if j = id then some r else B j) := by
  funext j
  unfold joinK
  by_cases c : j = id
  · rw [if_pos c, c, h]
    show _ = if id = id then _ else _
    rw [if_pos rfl]
  · rw [if_neg c]
    cases A j with
    | none => show _ = if j = id then _ else _; rw [if_neg c]
    | some q => rfl
theorem join_at_l {A B : Kn} {id : Int} (h : B id = none) : joinK A B id = A id := by
  unfold joinK
  cases e : A id with
  | none => exact h
  | some r => rfl
theorem join_at_r {A B : Kn} {id : Int} (h : A id = none) : joinK A B id = B id := by
  unfold joinK
  rw [h]
theorem late_of {t r : Int} (h : t ≤ r) : late? (some t) r = false := by
  show decide (r < t) = false
  exact decide_eq_false (by omega)
theorem wk_r {L : List (Str × Int)} : ∀ {ys : List Ent} {j k : Nat} {A B B' : Kn} {lb l : Option Int}, wk L (ys.map some) j B lb = (none, B') → (∀ y ∈ ys, A y.id = none) → (∀ z ∈ ys, late? l z.arr = false) → wk L (ys.map some) k (joinK A B) l = (none, joinK A B')
  | [], _, _, A, B, B', _, _, h, _, _ => by
    have h : ((none : Option Nat), B) = (none, B') := h
    cases h
    rfl
  | y :: ys, j, k, A, B, B', lb, l, h, hA, hl => by
    obtain ⟨_, r, h2, h3⟩ := wk_step h
    have a0 := hA y List.mem_cons_self
    show wk L (some y :: ys.map some) k (joinK A B) l = _
    rw [wk_go (hl y List.mem_cons_self) (by rw [join_at_r a0]; exact h2), join_r a0]
    exact wk_r h3 (fun z hz => hA z (List.mem_cons_of_mem _ hz)) fun z hz => late_of (wk_ge (by rw [h3]) z hz)
theorem wk_l {L : List (Str × Int)} : ∀ {xs : List Ent} {i k : Nat} {A B A' : Kn} {la l : Option Int}, wk L (xs.map some) i A la = (none, A') → (∀ x ∈ xs, B x.id = none) → (∀ z ∈ xs, late? l z.arr = false) → wk L (xs.map some) k (joinK A B) l = (none, joinK A' B)
  | [], _, _, A, B, A', _, _, h, _, _ => by
    have h : ((none : Option Nat), A) = (none, A') := h
    cases h
    rfl
  | x :: xs, i, k, A, B, A', la, l, h, hB, hl => by
    obtain ⟨_, r, h2, h3⟩ := wk_step h
    have b0 := hB x List.mem_cons_self
    show wk L (some x :: xs.map some) k (joinK A B) l = _
    rw [wk_go (hl x List.mem_cons_self) (by rw [join_at_l b0]; exact h2), join_l b0]
    exact wk_l h3 (fun z hz => hB z (List.mem_cons_of_mem _ hz)) fun z hz => late_of (wk_ge (by rw [h3]) z hz)
/-- joined, both are as good as apart -/
theorem wk_mrg {L : List (Str × Int)} {xs ys : List Ent} : ∀ {i j k : Nat} {A B A' B' : Kn} {la lb l : Option Int}, wk L (xs.map some) i A la = (none, A') → wk L (ys.map some) j B lb = (none, B') → (∀ x ∈ xs, B x.id = none) → (∀ y ∈ ys, A y.id = none) → (∀ x ∈ xs, ∀ y ∈ ys, x.id ≠ y.id) →
    (∀ z ∈ xs, late? l z.arr = false) → (∀ z ∈ ys, late? l z.arr = false) → wk L ((mrg xs ys).map some) k (joinK A B) l = (none, joinK A' B') := by
  refine mrg_ind (M := fun xs ys => ∀ {i j k : Nat} {A B A' B' : Kn} {la lb l : Option Int}, wk L (xs.map some) i A la = (none, A') → wk L (ys.map some) j B lb = (none, B') → (∀ x ∈ xs, B x.id = none) → (∀ y ∈ ys, A y.id = none) → (∀ x ∈ xs, ∀ y ∈ ys, x.id ≠ y.id) →
    (∀ z ∈ xs, late? l z.arr = false) → (∀ z ∈ ys, late? l z.arr = false) → wk L ((mrg xs ys).map some) k (joinK A B) l = (none, joinK A' B')) (fun ys => ?_) (fun xs => ?_) (fun x xs y ys c ih => ?_) (fun x xs y ys c ih => ?_) _ xs ys (Nat.le_refl _)
  · intro i j k A B A' B' la lb l hx hy hB hA _ _ hl
    have hx : ((none : Option Nat), A) = (none, A') := hx
    cases hx
    rw [mrg_nil]
    exact wk_r hy hA hl
  · intro i j k A B A' B' la lb l hx hy hB hA _ hl _
    have hy : ((none : Option Nat), B) = (none, B') := hy
    cases hy
    rw [mrg_nil']
    exact wk_l hx hB hl
  · intro i j k A B A' B' la lb l hx hy hB hA hd hlx hly
    obtain ⟨_, r, h2, h3⟩ := wk_step hx
    have b0 := hB x List.mem_cons_self
    rw [mrg_le c]
    show wk L (some x :: (mrg xs (y :: ys)).map some) k (joinK A B) l = _
    rw [wk_go (hlx x List.mem_cons_self) (by rw [join_at_l b0]; exact h2), join_l b0]
    have ya := List.pairwise_cons.mp (wk_asc (xs := y :: ys) (by rw [hy]))
    refine ih h3 hy (fun z hz => hB z (List.mem_cons_of_mem _ hz)) (fun z hz => ?_) (fun z hz => hd z (List.mem_cons_of_mem _ hz)) (fun z hz => late_of (wk_ge (by rw [h3]) z hz)) fun z hz => late_of ?_
    · rw [if_neg (fun e => hd x List.mem_cons_self z hz e.symm)]
      exact hA z hz
    · rcases List.mem_cons.mp hz with rfl | hz
      · exact c
      · exact Int.le_trans c (ya.1 z hz)
  · intro i j k A B A' B' la lb l hx hy hB hA hd hlx hly
    obtain ⟨_, r, h2, h3⟩ := wk_step hy
    have a0 := hA y List.mem_cons_self
    rw [mrg_gt c]
    show wk L (some y :: (mrg (x :: xs) ys).map some) k (joinK A B) l = _
    rw [wk_go (hly y List.mem_cons_self) (by rw [join_at_r a0]; exact h2), join_r a0]
    have xa := List.pairwise_cons.mp (wk_asc (xs := x :: xs) (by rw [hx]))
    refine ih hx h3 (fun z hz => ?_) (fun z hz => hA z (List.mem_cons_of_mem _ hz)) (fun z hz w hw => hd z hz w (List.mem_cons_of_mem _ hw)) (fun z hz => late_of ?_) fun z hz => late_of (wk_ge (by rw [h3]) z hz)
    · rw [if_neg (fun e => hd z hz y List.mem_cons_self e)]
      exact hB z hz
    · rcases List.mem_cons.mp hz with rfl | hz
      · omega
      · have := xa.1 z hz
        omega
end Ash

set_option Elab.async false
set_option linter.all false
set_option maxRecDepth 100000
set_option maxHeartbeats 4000000
namespace Ash
open PySem PySem.Spec PyProof.Rows L2
/-! ### journals of one book, joined -/
theorem Ent.vs_inj : ∀ {x y : Ent}, x.vs = y.vs → x = y
  | .row .., .row .., h => by simp [Ent.vs] at h ⊢; exact h
  | .fix .., .fix .., h => by simp [Ent.vs] at h ⊢; exact h
  | .gone .., .gone .., h => by simp [Ent.vs] at h ⊢; exact h
  | .row .., .fix .., h => by simp [Ent.vs] at h
  | .row .., .gone .., h => by simp [Ent.vs] at h
  | .fix .., .row .., h => by simp [Ent.vs] at h
  | .fix .., .gone .., h => by simp [Ent.vs] at h
  | .gone .., .row .., h => by simp [Ent.vs] at h
  | .gone .., .fix .., h => by simp [Ent.vs] at h
/-- each thing is its entry -/
def ThEs (K : PySem.W.Frag) (H : Hp) (us : List V) (xs : List Ent) : Prop := us.length = xs.length ∧ ∀ (i : Nat) v x, us[i]? = some v → xs[i]? = some x → ThAt K H v (some x)
theorem ThEs.nil {K : PySem.W.Frag} {H : Hp} : ThEs K H [] [] := ⟨rfl, fun i v x h => by simp at h⟩
theorem ThEs.tail {K : PySem.W.Frag} {H : Hp} {u : V} {us : List V} {x : Ent} {xs : List Ent} (h : ThEs K H (u :: us) (x :: xs)) : ThAt K H u (some x) ∧ ThEs K H us xs :=
  ⟨h.2 0 u x rfl rfl, by have := h.1; simp only [List.length_cons] at this; omega, fun i v y a b => h.2 (i + 1) v y a b⟩
theorem ThEs.cons {K : PySem.W.Frag} {H : Hp} {u : V} {us : List V} {x : Ent} {xs : List Ent} (h : ThAt K H u (some x)) (t : ThEs K H us xs) : ThEs K H (u :: us) (x :: xs) :=
  ⟨by rw [List.length_cons, List.length_cons, t.1], fun i v y a b => by
    cases i with
    | zero => cases a; cases b; exact h
    | succ i => exact t.2 i v y a b⟩
theorem ThEs.app {K : PySem.W.Frag} {H : Hp} : ∀ {us vs : List V} {xs ys : List Ent}, ThEs K H us xs → ThEs K H vs ys → ThEs K H (us ++ vs) (xs ++ ys)
  | [], _, [], _, _, g => g
  | u :: us, _, x :: xs, _, h, g => by
    obtain ⟨a, b⟩ := h.tail
    exact ThEs.cons a (b.app g)
  | [], _, _ :: _, _, h, _ => by have := h.1; simp at this
  | _ :: _, _, [], _, h, _ => by have := h.1; simp at this
theorem ThEs.same {K : PySem.W.Frag} {H H' : Hp} {us : List V} {xs : List Ent} (h : ThEs K H us xs) (s : Same H H') : ThEs K H' us xs := ⟨h.1, fun i v x a b => (h.2 i v x a b).same s⟩
/-- the entry that a thing is -/
theorem th_one {K : PySem.W.Frag} {H : Hp} {v : V} {x y : Ent} (h : ThAt K H v (some x)) (g : ThAt K H v (some y)) : x = y := by
  obtain ⟨e, rfl, he, _⟩ := h
  obtain ⟨e', h2, ge, _⟩ := g
  cases h2
  have he : H e = some (.tup x.vs) := he
  have ge : H e = some (.tup y.vs) := ge
  rw [he] at ge
  injection ge with ge
  injection ge with ge
  exact Ent.vs_inj ge
/-- of a thing: the entry, and its key -/
theorem thes_dec {K : PySem.W.Frag} {H : Hp} {us : List V} {xs : List Ent} (h : ThEs K H us xs) : ∃ D : V → Ent, (∀ v ∈ us, ThAt K H v (some (D v))) ∧ xs = us.map D := by
  classical
  have all : ∀ v ∈ us, ∃ x, ThAt K H v (some x) := fun v hv => by
    obtain ⟨i, hi, rfl⟩ := List.mem_iff_getElem.mp hv
    have hx : i < xs.length := by rw [← h.1]; exact hi
    exact ⟨xs[i], h.2 i _ _ (List.getElem?_eq_getElem hi) (List.getElem?_eq_getElem hx)⟩
  refine ⟨fun v => if c : ∃ x, ThAt K H v (some x) then c.choose else .gone 0 0, fun v hv => ?_, ?_⟩
  · have c := all v hv
    show ThAt K H v (some (if c : ∃ x, ThAt K H v (some x) then c.choose else .gone 0 0))
    rw [dif_pos c]
    exact c.choose_spec
  · refine List.ext_getElem? fun i => ?_
    rw [List.getElem?_map]
    cases e : us[i]? with
    | none =>
      rw [List.getElem?_eq_none_iff] at e
      have : xs.length ≤ i := by rw [← h.1]; exact e
      rw [List.getElem?_eq_none_iff.mpr this]
      rfl
    | some v =>
      have hi := (List.getElem?_eq_some_iff.mp e).1
      have hx : i < xs.length := by rw [← h.1]; exact hi
      have c := all v (List.mem_of_getElem? e)
      show _ = some (if c : ∃ x, ThAt K H v (some x) then c.choose else .gone 0 0)
      rw [dif_pos c, List.getElem?_eq_getElem hx]
      exact congrArg some (th_one (h.2 i v _ e (List.getElem?_eq_getElem hx)) c.choose_spec)
/-- sorted by arrivals, two lists in the order of arrivals are joined -/
theorem sort_mrg {K : PySem.W.Frag} {H : Hp} {us1 us2 zs : List V} {xs1 xs2 : List Ent} (h1 : ThEs K H us1 xs1) (h2 : ThEs K H us2 xs2) (a1 : Asc xs1) (a2 : Asc xs2) (hK : ByKey ((xs1 ++ xs2).map Ent.arr) (us1 ++ us2) zs) (hP : zs.Perm (us1 ++ us2)) : ThEs K H zs (mrg xs1 xs2) := by
  obtain ⟨D, hD, eD⟩ := thes_dec (h1.app h2)
  obtain ⟨ps, q1, q2, q3, q4⟩ := hK
  have ez : ((xs1 ++ xs2).map Ent.arr).zip (us1 ++ us2) = (us1 ++ us2).map fun v => ((D v).arr, v) := by
    rw [eD, List.map_map]
    generalize us1 ++ us2 = us
    induction us with
    | nil => rfl
    | cons u us ih => rw [List.map_cons, List.zip_cons_cons, List.map_cons, ih]; rfl
  rw [ez] at q1
  have hk : ∀ p ∈ ps, p.1 = (D p.2).arr := fun p hp => by
    obtain ⟨v, _, rfl⟩ := List.mem_map.mp (q1.mem_iff.mp hp)
    rfl
  have eps : ps = zs.map fun v => ((D v).arr, v) := by
    rw [q2, List.map_map]
    conv => lhs; rw [← List.map_id ps]
    refine List.map_congr_left fun p hp => ?_
    show p = ((D p.2).arr, p.2)
    rw [← hk p hp]
  have asc : Asc (zs.map D) := by
    rw [eps, List.pairwise_map] at q3
    exact List.pairwise_map.mpr q3
  have em : zs.map D = mrg xs1 xs2 := by
    refine asc_uniq asc (mrg_asc a1 a2) fun c => ?_
    rw [mrg_at c a1 a2, ← List.filter_append, eD]
    have q := q4 c
    rw [ez, eps, List.filter_map, List.filter_map] at q
    have q := congrArg (List.map fun p : Int × V => D p.2) q
    rw [List.map_map, List.map_map] at q
    rw [List.filter_map, List.filter_map]
    exact q
  rw [← em]
  refine ⟨(List.length_map _).symm, fun i v x a b => ?_⟩
  rw [List.getElem?_map, a] at b
  cases b
  exact hD v (hP.mem_iff.mp (List.mem_of_getElem? a))
/-- what of its slot the first n things are -/
theorem ThEs.take {K : PySem.W.Frag} {H : Hp} {us : List V} {xs : List Ent} (h : ThEs K H us xs) (n : Nat) : ThEs K H (us.take n) (xs.take n) := by
  refine ⟨by rw [List.length_take, List.length_take, h.1], fun i v x a b => ?_⟩
  rw [List.getElem?_take] at a b
  by_cases c : i < n
  · rw [if_pos c] at a b
    exact h.2 i v x a b
  · rw [if_neg c] at a
    cases a
theorem JAt.es {K : PySem.W.Frag} {aT CJ CB : Addr} {H : Hp} {j b : Addr} {L : List (Str × Int)} {us : List V} {xs : List Ent} (h : JAt K aT CJ CB H j b L us xs) : ThEs K H us xs ∧ Asc xs := by
  obtain ⟨dx, t, kd, h1, h2, h3, h4, h5, h6, h7⟩ := h
  exact ⟨⟨h4, h5⟩, wk_asc h6⟩
theorem cut400 (xs : List V) (h : xs.length ≤ 1000) : cutV xs none (some 400) = xs.take 400 := by
  unfold cutV
  rw [HT.sIx_none, show (some (400 : Int)) = some ((400 : Nat) : Int) from rfl, HT.sIx_nat, List.drop_zero, Nat.sub_zero]
  by_cases c : 400 ≤ xs.length
  · rw [Nat.min_eq_left c]
  · rw [Nat.min_eq_right (by omega), List.take_length, List.take_of_length_le (by omega)]
def spOr (K : PySem.W.Frag) (aT CJ CB CE : Addr) : Sp := fun vs H Q E => ∃ (j1 j2 b : Addr) (L : List (Str × Int)) (us1 us2 : List V) (xs1 xs2 : List Ent), vs = [.ref j1, .ref j2] ∧ JAt K aT CJ CB H j1 b L us1 xs1 ∧ JAt K aT CJ CB H j2 b L us2 xs2 ∧ us1.length ≤ 400 ∧ us2.length ≤ 400 ∧
  (∀ j' us' H', (mrg xs1 xs2).length ≤ 400 → (wk L ((mrg xs1 xs2).map some) 0 (fun _ => none) none).1 = none → Same H H' → JAt K aT CJ CB H' j' b L us' (mrg xs1 xs2) → Q (.ref j') H') ∧
  (∀ i d H', (wk L (((mrg xs1 xs2).take 400).map some) 0 (fun _ => none) none).1 = some i → Same H H' → Xd H' d "at" (.int (i : Int)) → E (.ref CE) (some d) H') ∧
  (∀ d H', 400 < (mrg xs1 xs2).length → (wk L (((mrg xs1 xs2).take 400).map some) 0 (fun _ => none) none).1 = none → Same H H' → Xd H' d "at" (.int 400) → E (.ref CE) (some d) H')
section
variable {P : Program} {w : World} {K : PySem.W.Frag} {mg : Str → Option Value} {base : Heap}
abbrev s_Journal_or : Stmt := inClass (topS 30) 3
theorem sc_Journal_or : FnScope ["self", "other", "entries", "whole"] ["self", "other"] (defScope s_Journal_or) := ⟨rfl, rfl, rfl, by decide +kernel, rfl, by decide +kernel, by decide +kernel⟩
theorem ok_or {f fb CJ CB CE fE aT : Addr} {fd fdb : FuncData} (F : Fun K "__or__" "Journal.__or__" s_Journal_or f fd) (B : Blt mg) (Cs : Cst mg) (T : Cj P K mg CJ CB) (TE : PySem.BadX.Txt P K mg "at" "at" CE fE) (c_BadEntry : mg "BadEntry" = some (.ref CE)) (G : K8 P w K mg base CB aT CJ CE)
    (Zb : NeC K CB fb) (hb : Binds K fdb ["self", "other"] []) (Fb : FnOk P w K mg base CX0 1 fb fdb ["self", "other"] (spEq (EqB CB))) : FnOk P w K mg base (L2.CX P w) 9 f fd ["self", "other"] (spOr K aT CJ CB CE) := by
  obtain ⟨t1, g_MOST_ENTRIES⟩ := Cs.k_MOST_ENTRIES
  obtain ⟨fa, fda, m_arr, _, b_arr, F_arr⟩ := G.arrival_of.ex
  refine F.okX sc_Journal_or (fun vs H Q E h => ?_) (fun cdv A outer s H vs Q E hr h => ?_)
  · obtain ⟨j1, j2, b, L, us1, us2, xs1, xs2, rfl, _⟩ := h
    rfl
  · obtain ⟨j1, j2, b, L, us1, us2, xs1, xs2, rfl, hJ, hJ', h4, h4', qg, qb, ql⟩ := h
    refine ⟨_, (pss_cons (ps_if (pt_cmpR (op_neG Fb Zb hb pass0 (hr.mono (by decide))) (pe_fld (pv 0) rfl) (pe_fld (pv 1) rfl) (nomark _))
      (pss_one ps_never)
      pss_nil)
    (pss_cons (ps_set (i := 2) sc_Journal_or.nd rfl (Or.inl rfl) (pe_callBK (cr_sortKey F_arr b_arr (hr.mono (by decide))) (by rfl) B.sorted (by decide +kernel) (pa_cons (pe_lst (StX.pa_star (pe_fld (pv 0) rfl) (StX.pa_star (pe_fld (pv 1) rfl) pa_nil))) pa_nil) (pk_cons (pe_glob (v := .ref fa) (by rfl) m_arr rfl) pk_nil)))
    (pss_cons (ps_set (i := 3) sc_Journal_or.nd rfl (Or.inl rfl) (pe_mak G.Journal (hr.mono (by decide)) (passE (takes_of rfl rfl rfl rfl)) (pa_cons (pe_fld (pv 0) rfl) (pa_cons (pe_slice sl_list (pv 2) po_none (po_some (pe_glob (v := .int 400) (by rfl) g_MOST_ENTRIES ⟨_, rfl⟩))) pa_nil))))
    (pss_cons (ps_if (pt_cmpR op_gt (pe_callB call_len_seq (by rfl) B.len (by decide +kernel) (pa_cons (pv 2) pa_nil)) (pe_glob (v := .int 400) (by rfl) g_MOST_ENTRIES ⟨_, rfl⟩) (nomark _))
      (pss_one (ps_raiseB rfl TE par_at c_BadEntry (hr.mono (Nat.zero_le _)) (takes_of rfl rfl rfl rfl) (pa_cons (pe_glob (v := .int 400) (by rfl) g_MOST_ENTRIES ⟨t1, rfl⟩) pa_nil) (by rfl)))
      pss_nil)
    (pss_one (ps_ret (pv 3))))))), ?_⟩
    obtain ⟨dx, t, kd, h1, h2, h3, hl, h5, h6, h7⟩ := id hJ
    obtain ⟨dy, t', kd', g1, g2, g3, gl, g5, g6, g7⟩ := id hJ'
    refine ⟨_, rfl, j1, CJ, dx, _, _, rfl, h1, T.cl, T.nB, jf_b _ _ _, _, rfl, j2, CJ, dy, _, _, rfl, g1, T.cl, T.nB, jf_b _ _ _, ?_⟩
    obtain ⟨bx, d, L', b1, b2, b3, nd⟩ := id h2
    refine ⟨⟨b, b, _, _, _, _, rfl, rfl, b1, b1, rfl, L, h2⟩, fun H1 e1 => ⟨_, rfl, iteF ?_⟩⟩
    refine ⟨_, rfl, j1, CJ, dx, _, _, rfl, e1 _ _ h1, T.cl, T.nE, jf_e _ _ _, t, us1, rfl, .inl (h3.ext e1), ?_⟩
    refine ⟨_, rfl, j2, CJ, dy, _, _, rfl, e1 _ _ g1, T.cl, T.nE, jf_e _ _ _, t', us2, rfl, .inl (g3.ext e1), ?_⟩
    refine ⟨by rw [List.append_nil, List.length_append]; exact Nat.le_of_lt (small1000 (by omega)), fun a ha => ?_⟩
    rw [List.append_nil]
    have sA : Same H (upd H1 a (.lst (us1 ++ us2))) := (show Same H H1 from e1).trans (sameAt (Same.refl H1) ha)
    obtain ⟨E1, A1⟩ := hJ.es
    obtain ⟨E2, A2⟩ := hJ'.es
    have EA := (E1.app E2).same sA
    have lm : (mrg xs1 xs2).length = (us1 ++ us2).length := by rw [mrg_len, List.length_append, hl, gl]
    refine ⟨a, us1 ++ us2, (xs1 ++ xs2).map Ent.arr, rfl, rfl, SqL.of upd_same, fun v hv => ?_, by rw [List.length_map, EA.1], by rw [List.length_append]; omega, fun i v n hv hn => ?_, fun zs p hK hP hp => ?_⟩
    · obtain ⟨D, hD, _⟩ := thes_dec EA
      obtain ⟨e, he, _⟩ := hD v hv
      exact ⟨e, he⟩
    · rw [List.getElem?_map] at hn
      cases ex : (xs1 ++ xs2)[i]? with
      | none => rw [ex] at hn; cases hn
      | some x =>
        rw [ex] at hn
        cases hn
        obtain ⟨e, rfl, he, _⟩ := EA.2 i v x hv ex
        exact ⟨e, x, rfl, he, rfl, rfl⟩
    · have Ez := sort_mrg E1 E2 A1 A2 hK hP
      have sP : Same H (upd (upd H1 a (.lst (us1 ++ us2))) p (.lst zs)) := sA.trans (sameAt (Same.refl _) hp)
      have hz : zs.length = (us1 ++ us2).length := hP.length_eq
      generalize eP : upd (upd H1 a (.lst (us1 ++ us2))) p (.lst zs) = HP at sP ⊢
      have hpz : HP p = some (.lst zs) := by rw [← eP, upd_same]
      have lz : zs.length ≤ 1000 := by rw [hz, List.length_append]; omega
      refine ⟨_, rfl, j1, CJ, dx, _, _, rfl, sP _ _ h1, T.cl, T.nB, jf_b _ _ _, _, rfl, 400, rfl, p, zs, rfl, SqL.of hpz, fun D hD => ?_⟩
      rw [cut400 zs lz]
      intro x dx' nx ndx nex
      have sD : Same H (upd HP D (.lst (zs.take 400))) := sP.trans (sameAt (Same.refl HP) hD)
      have sX1 : Same (upd HP D (.lst (zs.take 400))) (upd (upd (upd HP D (.lst (zs.take 400))) dx' (.own x)) x (.ins CJ dx' [])) := (sameAt (Same.refl _) ndx).trans (sameAt (Same.refl _) (by rw [upd_ne (Ne.symm nex)]; exact nx))
      have sX := sD.trans sX1
      have Et := (Ez.take 400).same sX
      have xD := sX1 _ _ (upd_same (H := HP) (a := D) (o := .lst (zs.take 400)))
      refine ⟨x, dx', b, D, L, zs.take 400, ((mrg xs1 xs2).take 400).map some, rfl, upd_same, h2.same sX, .inl xD, by rw [List.length_take]; omega, by rw [List.length_map, Et.1], fun i v' o' hi ho => ?_, fun H' ys hys hw hJn _ kk => ⟨rfl, ?_⟩, fun i d H' hw s hx => ?_⟩
      · rw [List.getElem?_map] at ho
        cases ex : ((mrg xs1 xs2).take 400)[i]? with
        | none => rw [ex] at ho; cases ho
        | some y =>
          rw [ex] at ho
          cases ho
          exact Et.2 i v' y hi ex
      · have e : ys = (mrg xs1 xs2).take 400 := (List.map_inj_right (fun a b h => Option.some.inj h)).mp hys.symm
        subst e
        have sN : Same H H' := sD.trans (mk_same nx ndx kk)
        have hpN : H' p = some (.lst zs) := (mk_same nx ndx kk) _ _ (sameAt (Same.refl HP) hD _ _ hpz)
        refine ⟨_, rfl, p, zs, rfl, .inl (SqL.of hpN), _, _, rfl, rfl, ?_⟩
        by_cases c4 : 400 < zs.length
        · refine ⟨_, rfl, ?_⟩
          rw [decide_eq_true (show (400 : Int) < (zs.length : Int) by omega)]
          refine iteT ⟨_, rfl, fun d hd => ql d _ (by omega) (by rw [← hys] at hw; exact hw) (sN.trans (sameAt (Same.refl H') hd)) upd_same⟩
        · refine ⟨_, rfl, ?_⟩
          rw [decide_eq_false (show ¬ (400 : Int) < (zs.length : Int) by omega)]
          have l4 : (mrg xs1 xs2).length ≤ 400 := by omega
          have tk : (mrg xs1 xs2).take 400 = mrg xs1 xs2 := List.take_of_length_le l4
          rw [tk] at hJn hw
          exact iteF ⟨_, rfl, qg x _ H' l4 hw sN hJn⟩
      · exact qb i d H' hw (sX.trans s) hx
end
end Ash

set_option Elab.async false
set_option linter.all false
set_option maxRecDepth 100000
set_option maxHeartbeats 4000000
namespace Ash
open PySem PySem.Spec PyProof.Rows L2
/-! ### the entries of some ids -/
def keepK (p : Int → Bool) (S : Kn) : Kn := fun id => if p id = true then S id else none
theorem keepK_set {p : Int → Bool} {S : Kn} {id : Int} {y : RowSt} (h : p id = true) : (fun j => if j = id then some y else keepK p S j) = keepK p (fun j => if j = id then some y else S j) := by
  funext j
  unfold keepK
  by_cases c : j = id
  · rw [if_pos c, c, if_pos h]
    show _ = if id = id then _ else _
    rw [if_pos rfl]
  · rw [if_neg c]
    show _ = if p j = true then (if j = id then _ else _) else _
    rw [if_neg c]
theorem keepK_skip {p : Int → Bool} {S : Kn} {id : Int} {y : RowSt} (h : p id = false) : keepK p (fun j => if j = id then some y else S j) = keepK p S := by
  funext j
  unfold keepK
  by_cases c : j = id
  · rw [c, h]
    rfl
  · show (if p j = true then (if j = id then _ else _) else _) = _
    rw [if_neg c]
theorem wk_keep {L : List (Str × Int)} (p : Int → Bool) : ∀ {xs : List Ent} {i k : Nat} {S S1 : Kn} {l l' : Option Int}, wk L (xs.map some) i S l = (none, S1) → (∀ z ∈ xs, late? l' z.arr = false) → wk L ((xs.filter fun e => p e.id).map some) k (keepK p S) l' = (none, keepK p S1)
  | [], _, _, S, S1, _, _, h, _ => by
    have h : ((none : Option Nat), S) = (none, S1) := h
    cases h
    rfl
  | x :: xs, i, k, S, S1, l, l', h, hl => by
    obtain ⟨_, y, h2, h3⟩ := wk_step h
    by_cases c : p x.id = true
    · rw [List.filter_cons, if_pos c]
      show wk L (some x :: (xs.filter fun e => p e.id).map some) k (keepK p S) l' = _
      have e : keepK p S x.id = S x.id := if_pos c
      rw [wk_go (hl x List.mem_cons_self) (by rw [e]; exact h2), keepK_set c]
      exact wk_keep p h3 fun z hz => late_of (wk_ge (by rw [h3]) z hz)
    · have c0 : p x.id = false := Bool.eq_false_iff.mpr c
      rw [List.filter_cons, if_neg c]
      have q := wk_keep p (k := k) (l' := l') h3 fun z hz => hl z (List.mem_cons_of_mem _ hz)
      rwa [keepK_skip c0] at q
/-- the things whose entries are kept -/
def fl2 (P : Ent → Bool) (us : List V) (xs : List Ent) : List V := ((us.zip xs).filter fun q => P q.2).map (·.1)
theorem fl2_es {K : PySem.W.Frag} {H : Hp} {P : Ent → Bool} : ∀ {us : List V} {xs : List Ent}, ThEs K H us xs → ThEs K H (fl2 P us xs) (xs.filter P)
  | [], [], _ => ThEs.nil
  | u :: us, x :: xs, h => by
    obtain ⟨a, b⟩ := h.tail
    have ih := fl2_es (P := P) b
    unfold fl2
    rw [List.zip_cons_cons, List.filter_cons, List.filter_cons]
    by_cases c : P x = true
    · rw [if_pos c, if_pos c]
      exact ThEs.cons a ih
    · rw [if_neg c, if_neg c]
      exact ih
  | [], _ :: _, h => by have := h.1; simp at this
  | _ :: _, [], h => by have := h.1; simp at this
theorem fl2_step {P : Ent → Bool} {us : List V} {xs : List Ent} {i : Nat} {v : V} {x : Ent} (hv : us[i]? = some v) (hx : xs[i]? = some x) : fl2 P (us.take (i + 1)) (xs.take (i + 1)) = fl2 P (us.take i) (xs.take i) ++ if P x = true then [v] else [] := by
  have l1 := (List.getElem?_eq_some_iff.mp hv).1
  have l2 := (List.getElem?_eq_some_iff.mp hx).1
  unfold fl2
  rw [list_take hv, list_take hx, List.zip_append (by rw [List.length_take, List.length_take]; omega), List.filter_append, List.map_append]
  congr 1
  show (([(v, x)] : List (V × Ent)).filter fun q => P q.2).map (·.1) = _
  rw [List.filter_cons]
  by_cases c : P x = true
  · rw [if_pos c, if_pos c]; rfl
  · rw [if_neg c, if_neg c]; rfl
theorem fl2_le {P : Ent → Bool} {us : List V} {xs : List Ent} : (fl2 P us xs).length ≤ us.length := by
  unfold fl2
  rw [List.length_map]
  refine Nat.le_trans (List.length_filter_le _ _) ?_
  rw [List.length_zip]
  omega
theorem list_take' {xs : List Ent} {i : Nat} {x : Ent} (h : xs[i]? = some x) : xs.take (i + 1) = xs.take i ++ [x] := by
  have := (List.getElem?_eq_some_iff.mp h)
  obtain ⟨l, e⟩ := this
  rw [List.take_succ, h]
  rfl
/-- a dict whose keys are just the ints of S -/
def KeysAt (H : Hp) (d : Addr) (S : Int → Bool) : Prop := ∃ kvs : List (Key × V), H d = some (.dK kvs) ∧ ∀ id : Int, (valV kvs (Sum.inl id : Key)).isSome = S id
/-- a row of this key -/
def ownE (key : Str) : Ent → Bool
  | .row _ _ k _ _ _ => decide (k = key)
  | _ => false
def ownP (key : Str) (xs : List Ent) : Int → Bool := fun id => xs.any fun x => ownE key x && decide (x.id = id)
def spOnly (K : PySem.W.Frag) (aT CJ CB : Addr) : Sp := fun vs H Q _ => ∃ (j b : Addr) (L : List (Str × Int)) (us : List V) (xs : List Ent) (key : Str), vs = [.ref j, .str key] ∧ JAt K aT CJ CB H j b L us xs ∧ us.length ≤ 400 ∧ IsNm key ∧
  ∀ us' j' H', Same H H' → JAt K aT CJ CB H' j' b L us' (xs.filter fun e => ownP key xs e.id) → Q (.ref j') H'
def spWithout (K : PySem.W.Frag) (aT CJ CB : Addr) : Sp := fun vs H Q _ => ∃ (j b a : Addr) (L : List (Str × Int)) (us : List V) (xs : List Ent) (ids : List Int), vs = [.ref j, .ref a] ∧ JAt K aT CJ CB H j b L us xs ∧ us.length ≤ 400 ∧ SqL K H a (ids.map V.int) ∧ ids.length ≤ 1000 ∧
  ∀ us' j' H', Same H H' → JAt K aT CJ CB H' j' b L us' (xs.filter fun e => !decide (e.id ∈ ids)) → Q (.ref j') H'
theorem ent_at1 (x : Ent) : atI x.vs 1 = some (.int x.id) := by cases x <;> rfl
section
variable {P : Program} {w : World} {K : PySem.W.Frag} {mg : Str → Option Value} {base : Heap}
abbrev s_Journal_only : Stmt := inClass (topS 30) 7
theorem sc_Journal_only : FnScope ["self", "key", "kept", "entry"] ["self", "key"] (defScope s_Journal_only) := ⟨rfl, rfl, rfl, by decide +kernel, rfl, by decide +kernel, by decide +kernel⟩
abbrev s_Journal_without : Stmt := inClass (topS 30) 8
theorem sc_Journal_without : FnScope ["self", "ids", "left_out", "number", "entry"] ["self", "ids"] (defScope s_Journal_without) := ⟨rfl, rfl, rfl, by decide +kernel, rfl, by decide +kernel, by decide +kernel⟩
theorem ok_without {f CJ CB CE aT : Addr} {fd : FuncData} (F : Fun K "without" "Journal.without" s_Journal_without f fd) (B : Blt mg) (T : Cj P K mg CJ CB) (G : K8 P w K mg base CB aT CJ CE) : FnOk P w K mg base CX0 9 f fd ["self", "ids"] (spWithout K aT CJ CB) := by
  refine F.ok sc_Journal_without (fun vs H Q E h => ?_) (fun cdv A outer s H vs Q E hr h => ?_)
  · obtain ⟨j, b, a, L, us, xs, ids, rfl, _⟩ := h
    rfl
  · obtain ⟨j, b, a, L, us, xs, ids, rfl, hJ, h4, hS, hi4, q⟩ := h
    have hu := hu_of hr
    refine ⟨_, (pss_cons (ps_set (i := 2) sc_Journal_without.nd rfl (Or.inr rfl) (pe_dc (own := [("number", 3)]) (g := gName 3) (tt := tYes) (by rfl) sc_Journal_without.nd (pi_list (pv 1)) (blkOk_by (own := [("number", 3)]) (N := ["self", "ids", "left_out", "number", "entry"]) (sc := defScope s_Journal_without) (by decide +kernel)) (fun _ _ _ _ _ => (pg_name (i := 3) sc_Journal_without.nd rfl (Or.inl rfl))) (fun _ _ _ _ _ => pts_nil) (fun _ _ _ _ _ => (pv 3)) (fun _ _ _ _ _ => pe_bl)))
    (pss_one (ps_ret (pe_mak G.Journal (hr.mono (by decide)) (passE takes0) (pa_cons (pe_fld (pv 0) rfl) (pa_cons (pe_lc (own := [("entry", 4)]) (g := gName 4) (by rfl) sc_Journal_without.nd (pi_tup (pe_fld (pv 0) rfl)) (blkOk_by (own := [("entry", 4)]) (N := ["self", "ids", "left_out", "number", "entry"]) (sc := defScope s_Journal_without) (by decide +kernel)) (fun _ _ _ _ _ => (pg_name (i := 4) sc_Journal_without.nd rfl (Or.inl rfl))) (fun _ _ _ _ _ => pts_one (pt_cmp (pc_dnotin hu (pe_ix (show IxR _ (rIxT K) from ix_tup) (pv 4) pe_int (fun _ _ => rfl)) (pv 2)) rfl)) (fun _ _ _ _ _ => (pv 4))) pa_nil)))))), ?_⟩
    obtain ⟨dx, t, kd, h1, h2, h3, hl, h5, h6, h7⟩ := id hJ
    refine ⟨_, rfl, a, rfl, ⟨_, hS⟩, fun D hD => dc_it (walk_list (xs := ids.map V.int)) (fun i H3 => (∃ kvs : List (Key × V), H3 D = some (.dK kvs) ∧ kvs.length ≤ i ∧ ∀ id : Int, (valV kvs (Sum.inl id : Key)).isSome = decide (id ∈ ids.take i)) ∧ Same H H3) ⟨⟨[], upd_same, Nat.zero_le _, fun id => rfl⟩, sameAt (Same.refl H) hD⟩ (fun i H3 _ hv => hS.ext hv.2) ?_ ?_⟩
    · rintro i x H3 H4 hi ⟨⟨kvs, hk1, hk2, hk3⟩, s3⟩ ⟨rfl, hx⟩
      rw [List.length_map] at hi
      obtain ⟨n, hn, rfl⟩ : ∃ n, ids[i]? = some n ∧ x = V.int n := by
        rw [List.getElem?_map] at hx
        cases e : ids[i]? with
        | none => rw [e] at hx; cases hx
        | some z => rw [e] at hx; exact ⟨z, rfl, (Option.some.inj hx).symm⟩
      have hp := length_putK kvs (Sum.inl n : Key) (V.bl true)
      refine ⟨rfl, _, rfl, _, Sum.inl n, rfl, hk1, small1000 (by omega), ⟨_, upd_same, by omega, fun id => ?_⟩, sameAt s3 hD⟩
      rw [valV_put, List.take_succ, hn]
      by_cases c : id = n
      · subst c
        simp
      · rw [if_neg (fun z => c (Sum.inl.inj z)), hk3]
        simp [c]
    · rintro H3 ⟨⟨kvs, hk1, hk2, hk3⟩, s3⟩
      rw [List.length_map, List.take_length] at hk3
      refine ⟨_, rfl, j, CJ, dx, _, _, rfl, s3 _ _ h1, T.cl, T.nB, jf_b _ _ _, _, rfl, j, CJ, dx, _, _, rfl, s3 _ _ h1, T.cl, T.nE, jf_e _ _ _, t, rfl, ⟨_, seqS h3 s3⟩, fun D2 hD2 => lc_it (walk_tup (xs := us)) (fun i H5 => H5 D2 = some (.lst (fl2 (fun e => !decide (e.id ∈ ids)) (us.take i) (xs.take i))) ∧ Same H3 H5) ⟨upd_same, sameAt (Same.refl H3) hD2⟩ (fun i H5 _ hv => seqS h3 (s3.trans hv.2)) ?_ ?_⟩
      · rintro i v H5 H6 hi ⟨hD5, s5⟩ ⟨rfl, hvi⟩
        have hix : i < xs.length := by rw [← hl]; exact hi
        obtain ⟨x, hx⟩ : ∃ x, xs[i]? = some x := ⟨_, List.getElem?_eq_getElem hix⟩
        obtain ⟨e, rfl, he, hok⟩ := (h5 i v x hvi hx).same (s3.trans s5)
        have lf : (fl2 (fun e => !decide (e.id ∈ ids)) (us.take i) (xs.take i)).length ≤ 400 := Nat.le_trans fl2_le (by rw [List.length_take]; omega)
        have q := fl2_step (P := fun e => !decide (e.id ∈ ids)) hvi hx
        refine ⟨rfl, _, rfl, _, _, _, _, rfl, rfl, SqT.of he, ent_at1 x, _, rfl, D, _, rfl, DGet.k (k := Sum.inl x.id) (s5 _ _ hk1), _, rfl, ?_⟩
        rw [hk3]
        refine ite2 (fun c => ?_) (fun c => ?_)
        · refine ⟨_, rfl, _, hD5, small1000 (by omega), ?_, sameAt s5 hD2⟩
          rw [upd_same, q, if_pos c]
        · refine ⟨?_, s5⟩
          rw [q, if_neg c, List.append_nil]
          exact hD5
      · rintro H5 ⟨hD5, s5⟩
        rw [List.take_length, show xs.take us.length = xs by rw [hl, List.take_length]] at hD5
        generalize eP : (fun e : Ent => !decide (e.id ∈ ids)) = P at hD5 q
        have s35 := s3.trans s5
        have hw0 : wk L (xs.map some) 0 (fun _ => none) none = (none, (wk L (xs.map some) 0 (fun _ => none) none).2) := by rw [← h6]
        have hwk : (wk L ((xs.filter P).map some) 0 (fun _ => none) none).1 = none := by
          have := wk_keep (L := L) (fun id => !decide (id ∈ ids)) (k := 0) (l' := none) hw0 fun z _ => rfl
          rw [← eP, show (fun _ : Int => (none : Option RowSt)) = keepK (fun id => !decide (id ∈ ids)) (fun _ => none) from by funext id; unfold keepK; split <;> rfl, this]
        intro x dx' nx ndx nex
        have sX : Same H5 (upd (upd H5 dx' (.own x)) x (.ins CJ dx' [])) := (sameAt (Same.refl _) ndx).trans (sameAt (Same.refl _) (by rw [upd_ne (Ne.symm nex)]; exact nx))
        have Et := (fl2_es (P := P) hJ.es.1).same (s35.trans sX)
        refine ⟨x, dx', b, D2, L, fl2 P us xs, (xs.filter P).map some, rfl, upd_same, h2.same (s35.trans sX), .inl (sX _ _ hD5), Nat.le_trans fl2_le h4, by rw [List.length_map, Et.1], fun i v' o' hi ho => ?_, fun H' ys hys hw hJ' _ kk => ⟨rfl, ?_⟩, fun i d H' hw s hx => ?_⟩
        · rw [List.getElem?_map] at ho
          cases ex : (xs.filter P)[i]? with
          | none => rw [ex] at ho; cases ho
          | some y =>
            rw [ex] at ho
            cases ho
            exact Et.2 i v' y hi ex
        · have e : ys = xs.filter P := (List.map_inj_right (fun a b h => Option.some.inj h)).mp hys.symm
          subst e
          exact q _ x H' (s35.trans (mk_same nx ndx kk)) hJ'
        · rw [hwk] at hw
          cases hw
theorem ok_only {f CJ CB CE aT : Addr} {fd : FuncData} (F : Fun K "only" "Journal.only" s_Journal_only f fd) (B : Blt mg) (T : Cj P K mg CJ CB) (G : K8 P w K mg base CB aT CJ CE) : FnOk P w K mg base CX0 9 f fd ["self", "key"] (spOnly K aT CJ CB) := by
  refine F.ok sc_Journal_only (fun vs H Q E h => ?_) (fun cdv A outer s H vs Q E hr h => ?_)
  · obtain ⟨j, b, L, us, xs, key, rfl, _⟩ := h
    rfl
  · obtain ⟨j, b, L, us, xs, key, rfl, hJ, h4, hk, q⟩ := h
    have hu := hu_of hr
    refine ⟨_, (pss_cons (ps_if (pt_not (pt_val (pe_cal G.is_name (hr.mono (by decide)) pass0 (pa_cons (pv 1) pa_nil))))
      (pss_one ps_never)
      pss_nil)
    (pss_cons (ps_set (i := 2) sc_Journal_only.nd rfl (Or.inr rfl) (pe_dc (own := [("entry", 3)]) (g := gName 3) (by rfl) sc_Journal_only.nd (pi_tup (pe_fld (pv 0) rfl)) (blkOk_by (own := [("entry", 3)]) (N := ["self", "key", "kept", "entry"]) (sc := defScope s_Journal_only) (by decide +kernel)) (fun _ _ _ _ _ => (pg_name (i := 3) sc_Journal_only.nd rfl (Or.inl rfl))) (fun _ _ _ _ _ => pts_one (PW.pt (pw_and (pt_cmpR op_eq (pe_ix (show IxR _ (rIxT K) from ix_tup) (pv 3) pe_int (fun _ _ => rfl)) pe_str (nomark _)) (pw_and1 (pt_cmpR op_eq (pe_ix (show IxR _ (rIxT K) from ix_tup) (pv 3) pe_int (fun _ _ => rfl)) (pv 1) (nomark _)))))) (fun _ _ _ _ _ => (pe_ix (show IxR _ (rIxT K) from ix_tup) (pv 3) pe_int (fun _ _ => rfl))) (fun _ _ _ _ _ => pe_bl)))
    (pss_one (ps_ret (pe_mak G.Journal (hr.mono (by decide)) (passE takes0) (pa_cons (pe_fld (pv 0) rfl) (pa_cons (pe_lc (own := [("entry", 3)]) (g := gName 3) (by rfl) sc_Journal_only.nd (pi_tup (pe_fld (pv 0) rfl)) (blkOk_by (own := [("entry", 3)]) (N := ["self", "key", "kept", "entry"]) (sc := defScope s_Journal_only) (by decide +kernel)) (fun _ _ _ _ _ => (pg_name (i := 3) sc_Journal_only.nd rfl (Or.inl rfl))) (fun _ _ _ _ _ => pts_one (pt_cmp (pc_din hu (pe_ix (show IxR _ (rIxT K) from ix_tup) (pv 3) pe_int (fun _ _ => rfl)) (pv 2)) rfl)) (fun _ _ _ _ _ => (pv 3))) pa_nil))))))), ?_⟩
    obtain ⟨dx, t, kd, h1, h2, h3, hl, h5, h6, h7⟩ := id hJ
    refine ⟨_, rfl, _, rfl, .inl ⟨key, rfl, (by have := hk.2.1; rw [sizeLine_eq]; omega), fun H1 s1 => ⟨_, rfl, ?_⟩⟩⟩
    rw [(nmB_iff key).mpr hk]
    refine iteF ?_
    have h3' := seqS h3 s1
    refine ⟨_, rfl, j, CJ, dx, _, _, rfl, s1 _ _ h1, T.cl, T.nE, jf_e _ _ _, t, rfl, ⟨_, h3'⟩, fun D hD => dc_it (walk_tup (xs := us)) (fun i H3 => (∃ kvs : List (Key × V), H3 D = some (.dK kvs) ∧ kvs.length ≤ i ∧ ∀ id : Int, (valV kvs (Sum.inl id : Key)).isSome = ownP key (xs.take i) id) ∧ Same H H3) ⟨⟨[], upd_same, Nat.zero_le _, fun id => rfl⟩, s1.trans (sameAt (Same.refl H1) hD)⟩ (fun i H3 _ hv => seqS h3 hv.2) ?_ ?_⟩
    · rintro i v H3 H4 hi ⟨⟨kvs, hk1, hk2, hk3⟩, s3⟩ ⟨rfl, hvi⟩
      have hDn : H D = none := by
        cases e : H D with
        | none => rfl
        | some o => rw [s1 _ _ e] at hD; cases hD
      have hix : i < xs.length := by rw [← hl]; exact hi
      obtain ⟨x, hx⟩ : ∃ x, xs[i]? = some x := ⟨_, List.getElem?_eq_getElem hix⟩
      obtain ⟨e, rfl, he, hok⟩ := (h5 i v x hvi hx).same s3
      have st : ∀ id, ownP key (xs.take (i + 1)) id = (ownP key (xs.take i) id || (ownE key x && decide (x.id = id))) := fun id => by
        unfold ownP
        rw [list_take' hx, List.any_append]
        simp
      have no_ : ownE key x = false → ∀ id : Int, (valV kvs (Sum.inl id : Key)).isSome = ownP key (xs.take (i + 1)) id := fun h id => by
        rw [st, h, hk3]
        simp
      refine ⟨rfl, ?_⟩
      cases x with
      | row id s k m a r =>
        have hp := length_putK kvs (Sum.inl id : Key) (V.bl true)
        refine ⟨_, rfl, _, _, _, _, rfl, rfl, SqT.of he, rfl, rfl, _, rfl, iteT ⟨_, rfl, _, _, _, _, rfl, rfl, SqT.of he, rfl, _, rfl, rfl, _, rfl, ?_⟩⟩
        refine ite2 (fun c => ?_) (fun c => ?_)
        · have c := V.str.inj (of_decide_eq_true c)
          refine ⟨_, rfl, _, _, _, _, rfl, rfl, SqT.of he, rfl, _, Sum.inl id, rfl, hk1, small1000 (by omega), ⟨_, upd_same, by omega, fun z => ?_⟩, sameAt s3 hDn⟩
          rw [valV_put, st]
          show _ = (_ || (decide (k = key) && decide (id = z)))
          rw [decide_eq_true c]
          by_cases d : z = id
          · subst d
            simp
          · rw [if_neg (fun z => d (Sum.inl.inj z)), hk3]
            simp [Ne.symm d]
        · have c : ¬ k = key := fun z => c (decide_eq_true (congrArg V.str z))
          exact ⟨⟨kvs, hk1, by omega, no_ (decide_eq_false c)⟩, s3⟩
      | fix id m a r => exact ⟨_, rfl, _, _, _, _, rfl, rfl, SqT.of he, rfl, rfl, _, rfl, iteF (iteF ⟨⟨kvs, hk1, by omega, no_ rfl⟩, s3⟩)⟩
      | gone id r => exact ⟨_, rfl, _, _, _, _, rfl, rfl, SqT.of he, rfl, rfl, _, rfl, iteF (iteF ⟨⟨kvs, hk1, by omega, no_ rfl⟩, s3⟩)⟩
    · rintro H3 ⟨⟨kvs, hk1, hk2, hk3⟩, s3⟩
      rw [show xs.take us.length = xs by rw [hl, List.take_length]] at hk3
      refine ⟨_, rfl, j, CJ, dx, _, _, rfl, s3 _ _ h1, T.cl, T.nB, jf_b _ _ _, _, rfl, j, CJ, dx, _, _, rfl, s3 _ _ h1, T.cl, T.nE, jf_e _ _ _, t, rfl, ⟨_, seqS h3 s3⟩, fun D2 hD2 => lc_it (walk_tup (xs := us)) (fun i H5 => H5 D2 = some (.lst (fl2 (fun e => ownP key xs e.id) (us.take i) (xs.take i))) ∧ Same H3 H5) ⟨upd_same, sameAt (Same.refl H3) hD2⟩ (fun i H5 _ hv => seqS h3 (s3.trans hv.2)) ?_ ?_⟩
      · rintro i v H5 H6 hi ⟨hD5, s5⟩ ⟨rfl, hvi⟩
        have hix : i < xs.length := by rw [← hl]; exact hi
        obtain ⟨x, hx⟩ : ∃ x, xs[i]? = some x := ⟨_, List.getElem?_eq_getElem hix⟩
        obtain ⟨e, rfl, he, hok⟩ := (h5 i v x hvi hx).same (s3.trans s5)
        have lf : (fl2 (fun e => ownP key xs e.id) (us.take i) (xs.take i)).length ≤ 400 := Nat.le_trans fl2_le (by rw [List.length_take]; omega)
        have q := fl2_step (P := fun e => ownP key xs e.id) hvi hx
        refine ⟨rfl, _, rfl, _, _, _, _, rfl, rfl, SqT.of he, ent_at1 x, _, rfl, D, _, rfl, DGet.k (k := Sum.inl x.id) (s5 _ _ hk1), _, rfl, ?_⟩
        rw [hk3]
        refine ite2 (fun c => ?_) (fun c => ?_)
        · refine ⟨_, rfl, _, hD5, small1000 (by omega), ?_, sameAt s5 hD2⟩
          rw [upd_same, q, if_pos c]
        · refine ⟨?_, s5⟩
          rw [q, if_neg c, List.append_nil]
          exact hD5
      · rintro H5 ⟨hD5, s5⟩
        rw [List.take_length, show xs.take us.length = xs by rw [hl, List.take_length]] at hD5
        generalize eP : (fun e : Ent => ownP key xs e.id) = P at hD5 q
        have s35 := s3.trans s5
        have hw0 : wk L (xs.map some) 0 (fun _ => none) none = (none, (wk L (xs.map some) 0 (fun _ => none) none).2) := by rw [← h6]
        have hwk : (wk L ((xs.filter P).map some) 0 (fun _ => none) none).1 = none := by
          have := wk_keep (L := L) (ownP key xs) (k := 0) (l' := none) hw0 fun z _ => rfl
          rw [← eP, show (fun _ : Int => (none : Option RowSt)) = keepK (ownP key xs) (fun _ => none) from by funext id; unfold keepK; split <;> rfl, this]
        intro x dx' nx ndx nex
        have sX : Same H5 (upd (upd H5 dx' (.own x)) x (.ins CJ dx' [])) := (sameAt (Same.refl _) ndx).trans (sameAt (Same.refl _) (by rw [upd_ne (Ne.symm nex)]; exact nx))
        have Et := (fl2_es (P := P) hJ.es.1).same (s35.trans sX)
        refine ⟨x, dx', b, D2, L, fl2 P us xs, (xs.filter P).map some, rfl, upd_same, h2.same (s35.trans sX), .inl (sX _ _ hD5), Nat.le_trans fl2_le h4, by rw [List.length_map, Et.1], fun i v' o' hi ho => ?_, fun H' ys hys hw hJ' _ kk => ⟨rfl, ?_⟩, fun i d H' hw s hx => ?_⟩
        · rw [List.getElem?_map] at ho
          cases ex : (xs.filter P)[i]? with
          | none => rw [ex] at ho; cases ho
          | some y =>
            rw [ex] at ho
            cases ho
            exact Et.2 i v' y hi ex
        · have e : ys = xs.filter P := (List.map_inj_right (fun a b h => Option.some.inj h)).mp hys.symm
          subst e
          exact q _ x H' (s35.trans (mk_same nx ndx kk)) hJ'
        · rw [hwk] at hw
          cases hw
end
end Ash

set_option Elab.async false
set_option linter.all false
set_option maxRecDepth 100000
set_option maxHeartbeats 4000000
namespace Ash
open PySem PySem.Spec PyProof.Rows L2 SrtT
open C8 (pss_cut)
/-! ### states made of entries, their rows -/
/-- StAt, each key once -/
def StK (H : Hp) (d : Addr) (S : Kn) (n : Nat) : Prop := ∃ kvs : List (Key × V), H d = some (.dK kvs) ∧ kvs.length ≤ n ∧ ((∀ kv ∈ kvs, ∃ id, kv.1 = Sum.inl id) ∧ (kvs.map (·.1)).Nodup) ∧ ∀ id, SV H (valV kvs (Sum.inl id)) (S id)
theorem StK.put {H H1 : Hp} {ds : Addr} {S : Kn} {n : Nat} {kvs : List (Key × V)} {id : Int} {v : V} {y : RowSt} (h1 : H ds = some (.dK kvs)) (h2 : kvs.length ≤ n) (h3 : (∀ kv ∈ kvs, ∃ id, kv.1 = Sum.inl id) ∧ (kvs.map (·.1)).Nodup) (h4 : ∀ id, SV H (valV kvs (Sum.inl id)) (S id))
    (s : Same H H1) (hv : SV H1 (some v) (some y)) : StK (upd H1 ds (.dK (putK kvs (Sum.inl id) v))) ds (setK S id y) (n + 1) := by
  obtain ⟨kk, a1, a2, a3, a4⟩ := StAt.put h1 h2 h3.1 h4 s hv
  rw [upd_same] at a1
  cases a1
  have q := (KLen.put (n := n) ⟨h2, h3.2, h3.1⟩ id v)
  exact ⟨_, upd_same, a2, ⟨a3, q.nd⟩, a4⟩
def spPutK : Sp := fun vs H Q _ => ∃ (ds e : Addr) (L : List (Str × Int)) (S : Kn) (n : Nat) (x : Ent) (y : RowSt), vs = [.ref ds, .ref e] ∧ StK H ds S n ∧ n ≤ 900 ∧ EntAt H e x ∧ behind L x (S x.id) = some y ∧
  ∀ H', StK H' ds (setK S x.id y) (n + 1) → (∀ c o, H c = some o → c ≠ ds → H' c = some o) → Q .non H'
def spStates : Sp := fun vs H Q _ => ∃ (a : Addr) (L : List (Str × Int)) (us : List V) (xs : List Ent) (S1 : Kn), vs = [.ref a] ∧ H a = some (.lst us) ∧ Ents H us xs ∧ xs.length ≤ 900 ∧ wk L (xs.map some) 0 (fun _ => none) none = (none, S1) ∧
  ∀ d H', H d = none → StK H' d S1 xs.length → Same H H' → Q (.ref d) H'
theorem wk_pre {L : List (Str × Int)} : ∀ {xs : List Ent} {i : Nat} {S S1 : Kn} {l : Option Int}, wk L (xs.map some) i S l = (none, S1) → ∀ k, ∃ Sk, wk L ((xs.take k).map some) i S l = (none, Sk)
  | [], _, S, _, _, _, k => ⟨S, by rw [List.take_nil]; rfl⟩
  | x :: xs, i, S, S1, l, h, 0 => ⟨S, rfl⟩
  | x :: xs, i, S, S1, l, h, k + 1 => by
    obtain ⟨c, y, h2, h3⟩ := wk_step h
    obtain ⟨Sk, hk⟩ := wk_pre h3 k
    refine ⟨Sk, ?_⟩
    rw [List.take_succ_cons]
    show wk L (some x :: (xs.take k).map some) i S l = _
    rw [wk_go c h2]
    exact hk
theorem wk_nth {L : List (Str × Int)} {xs : List Ent} {S S1 Sk : Kn} {l : Option Int} {k : Nat} {x : Ent} (h : wk L (xs.map some) 0 S l = (none, S1)) (hx : xs[k]? = some x) (hk : wk L ((xs.take k).map some) 0 S l = (none, Sk)) :
    ∃ y, behind L x (Sk x.id) = some y ∧ wk L ((xs.take (k + 1)).map some) 0 S l = (none, setK Sk x.id y) := by
  obtain ⟨S2, h2⟩ := wk_pre h (k + 1)
  have h2' := h2
  rw [list_take' hx, List.map_append] at h2
  have h2 : wk L ((xs.take k).map some ++ [some x]) 0 S l = _ := h2
  rw [wk_app [some x] hk] at h2
  obtain ⟨c, y, b, e⟩ := wk_step (r := []) h2
  refine ⟨y, b, ?_⟩
  rw [h2', ← e]
  rfl
def spLRows : Sp := fun vs H Q _ => ∃ (a : Addr) (L : List (Str × Int)) (us : List V) (xs : List Ent) (S1 : Kn) (z k : Str), vs = [.ref a, .str z, .str k] ∧ H a = some (.lst us) ∧ Ents H us xs ∧ xs.length ≤ 900 ∧ wk L (xs.map some) 0 (fun _ => none) none = (none, S1) ∧
  ∀ p ys ts H', Same H H' → H p = none → H' p = some (.lst ys) → TrAt H' ys ts → ys.length ≤ xs.length → RowsOf S1 z k ts → Q (.ref p) H'
theorem sel_allS {H : Hp} {kvs : List (Key × V)} {S : Kn} {z k : Str} {n : Nat} (hk : KLen kvs n) (hr : ∀ id, SV H (valV kvs (Sum.inl id)) (S id)) (hs : ∀ id, S id ≠ none → valV kvs (Sum.inl id : Key) ≠ none) : ∀ t, t ∈ kvs.filterMap (selK S z k) ↔ pick S z k t.2.1 = some t := by
  intro t
  rw [List.mem_filterMap]
  constructor
  · rintro ⟨kv, h1, h2⟩
    obtain ⟨id, e⟩ := hk.ik kv h1
    unfold selK at h2
    rw [e] at h2
    have := pick_id h2
    rw [this]
    exact h2
  · intro h
    have hS : S t.2.1 ≠ none := fun e => by
      unfold pick at h
      rw [e] at h
      cases h
    cases e : valV kvs (Sum.inl t.2.1 : Key) with
    | none => exact absurd e (hs _ hS)
    | some v =>
      obtain ⟨kv, h1, h2⟩ := mem_of_valV e
      refine ⟨kv, h1, ?_⟩
      unfold selK
      rw [h2]
      exact h
section
variable {P : Program} {w : World} {K : PySem.W.Frag} {mg : Str → Option Value} {base : Heap}
theorem ok_putk {f : Addr} {fd : FuncData} (F : Fun K "_law_put" "_law_put" s_l_put f fd) (B : Blt mg) : FnOk P w K mg base CX0 1 f fd ["states", "entry"] spPutK := by
  refine F.ok sc_l_put (fun vs H Q E h => ?_) (fun cdv A outer s H vs Q E hr h => ?_)
  · obtain ⟨ds, e, L, S, n, x, y, rfl, _⟩ := h
    rfl
  · obtain ⟨ds, e, L, S, n, x, y, rfl, hst, hn, hx, hb, q⟩ := h
    have hu := hu_of hr
    obtain ⟨kvs, h1, h2, h3, h4⟩ := id hst
    refine ⟨_, (pss_one (ps_if (pt_cmpR op_eq (pe_ix ix_tup (pv 1) pe_int (fun _ _ => rfl)) pe_str (nomark _))
      (pss_one (ps_dput hu (pv 0) (pe_ix ix_tup (pv 1) pe_int (fun _ _ => rfl)) (pe_tup (pa_cons (pe_ix ix_tup (pv 1) pe_int (fun _ _ => rfl)) (pa_cons (pe_ix ix_tup (pv 1) pe_int (fun _ _ => rfl)) (pa_cons (pe_ix ix_tup (pv 1) pe_int (fun _ _ => rfl)) (pa_cons (pe_ix ix_tup (pv 1) pe_int (fun _ _ => rfl)) pa_nil))))) rfl))
      (pss_one (ps_if (pt_cmpR op_eq (pe_ix ix_tup (pv 1) pe_int (fun _ _ => rfl)) pe_str (nomark _))
        (pss_cons (ps_set (i := 2) sc_l_put.nd rfl (Or.inl rfl) (pe_dget hu (pv 0) (pe_ix ix_tup (pv 1) pe_int (fun _ _ => rfl)) (fun _ _ => rfl)))
        (pss_one (ps_dput hu (pv 0) (pe_ix ix_tup (pv 1) pe_int (fun _ _ => rfl)) (pe_tup (pa_cons (pe_ix ix_tup (pv 2) pe_int (fun _ _ => rfl)) (pa_cons (pe_ix ix_tup (pv 2) pe_int (fun _ _ => rfl)) (pa_cons (pe_ix ix_tup (pv 1) pe_int (fun _ _ => rfl)) (pa_cons (pe_ix ix_tup (pv 1) pe_int (fun _ _ => rfl)) pa_nil))))) rfl)))
        (pss_one (ps_dput hu (pv 0) (pe_ix ix_tup (pv 1) pe_int (fun _ _ => rfl)) pe_non rfl)))))), ?_⟩
    cases x with
    | row id z k m a r =>
      obtain rfl := behind_row hb
      refine ⟨_, rfl, _, _, _, _, rfl, rfl, SqT.of hx, rfl, rfl, _, rfl, iteT ?_⟩
      refine ⟨_, rfl, _, _, _, _, rfl, rfl, SqT.of hx, rfl, _, rfl, _, _, _, _, rfl, rfl, SqT.of hx, rfl, _, rfl, _, _, _, _, rfl, rfl, SqT.of hx, rfl, _, rfl, _, _, _, _, rfl, rfl, SqT.of hx, rfl, (by show 4 ≤ sizeLine; decide), fun t ht => ?_⟩
      have s1 := sameAt (Same.refl H) ht (o := .tup [.str z, .str k, .int m, .int a])
      have hx1 : EntAt (upd H t (.tup [.str z, .str k, .int m, .int a])) e (.row id z k m a r) := s1 _ _ hx
      refine ⟨_, rfl, _, rfl, _, _, _, _, rfl, rfl, SqT.of hx1, rfl, ds, _, rfl, DPut.k (k := Sum.inl id) (s1 _ _ h1) (small1000 (by omega)), ?_⟩
      exact q _ (StK.put h1 h2 h3 h4 s1 ⟨t, rfl, upd_same⟩) fun c o hc hn => by rw [upd_ne hn]; exact s1 _ _ hc
    | fix id m a r =>
      obtain ⟨z, k, m0, a0, eS, rfl⟩ := behind_fix hb
      have sv := h4 id
      have eS : S id = some (.at_ z k m0 a0) := eS
      rw [eS] at sv
      obtain ⟨v, hv⟩ : ∃ v, valV kvs (Sum.inl id) = some v := by
        cases e : valV kvs (Sum.inl id : Key) with
        | none => rw [e] at sv; exact absurd sv (fun z => z)
        | some v => exact ⟨v, rfl⟩
      rw [hv] at sv
      obtain ⟨t0, rfl, ht0⟩ := sv
      have hg := DGet.k (k := Sum.inl id) h1
      rw [hv] at hg
      refine ⟨_, rfl, _, _, _, _, rfl, rfl, SqT.of hx, rfl, rfl, _, rfl, iteF ?_⟩
      refine ⟨_, rfl, _, _, _, _, rfl, rfl, SqT.of hx, rfl, rfl, _, rfl, iteT ?_⟩
      refine ⟨_, rfl, _, rfl, _, _, _, _, rfl, rfl, SqT.of hx, rfl, ds, _, rfl, hg, ?_⟩
      refine ⟨_, rfl, _, _, _, _, rfl, rfl, SqT.of ht0, rfl, _, rfl, _, _, _, _, rfl, rfl, SqT.of ht0, rfl, _, rfl, _, _, _, _, rfl, rfl, SqT.of hx, rfl, _, rfl, _, _, _, _, rfl, rfl, SqT.of hx, rfl, (by show 4 ≤ sizeLine; decide), fun t ht => ?_⟩
      have s1 := sameAt (Same.refl H) ht (o := .tup [.str z, .str k, .int m, .int a])
      have hx1 : EntAt (upd H t (.tup [.str z, .str k, .int m, .int a])) e (.fix id m a r) := s1 _ _ hx
      refine ⟨_, rfl, _, rfl, _, _, _, _, rfl, rfl, SqT.of hx1, rfl, ds, _, rfl, DPut.k (k := Sum.inl id) (s1 _ _ h1) (small1000 (by omega)), ?_⟩
      exact q _ (StK.put h1 h2 h3 h4 s1 ⟨t, rfl, upd_same⟩) fun c o hc hn => by rw [upd_ne hn]; exact s1 _ _ hc
    | gone id r =>
      obtain rfl := behind_gone hb
      refine ⟨_, rfl, _, _, _, _, rfl, rfl, SqT.of hx, rfl, rfl, _, rfl, iteF ?_⟩
      refine ⟨_, rfl, _, _, _, _, rfl, rfl, SqT.of hx, rfl, rfl, _, rfl, iteF ?_⟩
      refine ⟨_, rfl, _, rfl, _, _, _, _, rfl, rfl, SqT.of hx, rfl, ds, _, rfl, DPut.k (k := Sum.inl id) h1 (small1000 (by omega)), ?_⟩
      exact q _ (StK.put h1 h2 h3 h4 (Same.refl H) rfl) fun c o hc hn => by rw [upd_ne hn]; exact hc
structure G4k (P : Program) (w : World) (K : PySem.W.Frag) (mg : Str → Option Value) (base : Heap) : Prop where
  law_put : Cal P w K mg base CX0 "_law_put" 1 ["states", "entry"] spPutK
abbrev s_l_states : Stmt := topS 44
theorem sc_l_states : FnScope ["entries", "states", "entry"] ["entries"] (defScope s_l_states) := ⟨rfl, rfl, rfl, by decide +kernel, rfl, by decide +kernel, by decide +kernel⟩
theorem ok_states {f : Addr} {fd : FuncData} (F : Fun K "_law_states" "_law_states" s_l_states f fd) (B : Blt mg) (G : G4k P w K mg base) : FnOk P w K mg base CX0 2 f fd ["entries"] spStates := by
  refine F.ok sc_l_states (fun vs H Q E h => ?_) (fun cdv A outer s H vs Q E hr h => ?_)
  · obtain ⟨a, L, us, xs, S1, rfl, _⟩ := h
    rfl
  · obtain ⟨a, L, us, xs, S1, rfl, ha, hE, h9, hw, q⟩ := h
    refine ⟨_, (pss_cons (ps_set (i := 1) sc_l_states.nd rfl (Or.inl rfl) pe_dnewK)
    (pss_cons (ps_for PassesOwn.never rfl (pi_list (pv 0)) (pg_name (i := 2) sc_l_states.nd rfl (Or.inl rfl))
      (pss_one (ps_expr (pe_cal G.law_put (hr.mono (by decide)) pass0 (pa_cons (pv 1) (pa_cons (pv 2) pa_nil))))))
    (pss_one (ps_ret (pv 1))))), ?_⟩
    intro d hd
    have s1 := sameAt (Same.refl H) hd (o := .dK [])
    refine ⟨_, rfl, a, rfl, ⟨_, SqL.of (s1 _ _ ha)⟩, for_list (K := K) (a := a) (xs := us) (fun i σ H1 => (∃ b, σ = [some (.ref a), some (.ref d), b]) ∧ H1 a = some (.lst us) ∧ (∃ Si, wk L ((xs.take i).map some) 0 (fun _ => none) none = (none, Si) ∧ StK H1 d Si i) ∧ Same H H1) ?_ (fun i σ H1 _ hv => SqL.of hv.2.1) ?_ ?_⟩
    · exact ⟨⟨_, rfl⟩, s1 _ _ ha, ⟨_, rfl, [], upd_same, Nat.zero_le _, ⟨(fun _ h => nomatch h), .nil⟩, fun id => True.intro⟩, s1⟩
    · rintro i v σ H1 hi ⟨⟨b, rfl⟩, ha1, ⟨Si, hwi, hst⟩, sH⟩
      have hil := (List.getElem?_eq_some_iff.mp hi).1
      obtain ⟨x, hx⟩ : ∃ x, xs[i]? = some x := ⟨_, List.getElem?_eq_getElem (by rw [← hE.1]; exact hil)⟩
      obtain ⟨e, rfl, he, hok⟩ := hE.2 i v x hi hx
      obtain ⟨y, hb, hw1⟩ := wk_nth hw hx hwi
      have := hE.1
      obtain ⟨kvs, hd1, _⟩ := id hst
      refine ⟨_, rfl, _, rfl, d, e, L, Si, i, x, y, rfl, hst, by omega, sH _ _ he, hb, fun H2 st2 k2 => ?_⟩
      have sd : Same H H2 := fun c o hc => k2 c o (sH _ _ hc) (fun z => by rw [z, hd] at hc; cases hc)
      exact ⟨⟨_, rfl⟩, k2 _ _ ha1 (fun z => by rw [z, hd1] at ha1; cases ha1), ⟨_, hw1, st2⟩, sd⟩
    · rintro σ H1 ⟨⟨b, rfl⟩, ha1, ⟨Si, hwi, hst⟩, sH⟩
      rw [hE.1] at hwi hst
      rw [List.take_length, hw] at hwi
      cases hwi
      exact ⟨_, rfl, q d _ hd hst sH⟩
structure G5k (P : Program) (w : World) (K : PySem.W.Frag) (mg : Str → Option Value) (base : Heap) : Prop extends G4k P w K mg base where
  law_states : Cal P w K mg base CX0 "_law_states" 2 ["entries"] spStates
abbrev s_l_rows : Stmt := topS 45
theorem sc_l_rows : FnScope ["entries", "stream", "key", "states", "found", "number"] ["entries", "stream", "key"] (defScope s_l_rows) := ⟨rfl, rfl, rfl, by decide +kernel, rfl, by decide +kernel, by decide +kernel⟩
theorem ok_lrows {f : Addr} {fd : FuncData} (F : Fun K "_law_rows" "_law_rows" s_l_rows f fd) (B : Blt mg) (G : G5k P w K mg base) : FnOk P w K mg base CX0 3 f fd ["entries", "stream", "key"] spLRows := by
  refine F.ok sc_l_rows (fun vs H Q E h => ?_) (fun cdv A outer s H vs Q E hr h => ?_)
  · obtain ⟨a, L, us, xs, S1, z, k, rfl, _⟩ := h
    rfl
  · obtain ⟨a, L, us, xs, S, z, k, rfl, ha, hE, h9, hw, q⟩ := h
    have hu := hu_of hr
    refine ⟨_, (pss_cons (ps_set (i := 3) sc_l_rows.nd rfl (Or.inl rfl) (pe_cal G.law_states (hr.mono (by decide)) pass0 (pa_cons (pv 0) pa_nil)))
    (pss_cons (ps_set (i := 4) sc_l_rows.nd rfl (Or.inl rfl) (pe_lst pa_nil))
    (pss_cons (ps_for PassesOwn.never rfl (pi_list (pe_callTy (call_listD (by rfl)) (by rfl) B.list (by decide +kernel) (pa_cons (pv 3) pa_nil))) (pg_name (i := 5) sc_l_rows.nd rfl (Or.inl rfl))
      (pss_one (ps_if (PW.pt (pw_and (pt_cmpR op_notN (pe_dget hu (pv 3) (pv 5) (fun _ _ => rfl)) pe_non (nomark _)) (pw_and (pt_cmpR op_eq (pe_ix ix_tup (pe_dget hu (pv 3) (pv 5) (fun _ _ => rfl)) pe_int (fun _ _ => rfl)) (pv 1) (nomark _)) (pw_and1 (pt_cmpR op_eq (pe_ix ix_tup (pe_dget hu (pv 3) (pv 5) (fun _ _ => rfl)) pe_int (fun _ _ => rfl)) (pv 2) (nomark _))))))
        (pss_one (ps_expr (pe_bm PySem.F.plainAttrs_list PySem.F.slot_list_append PySem.F.type_list_append mt_append (pv 4) (pa_cons (pe_tup (pa_cons (pe_ix ix_tup (pe_dget hu (pv 3) (pv 5) (fun _ _ => rfl)) pe_int (fun _ _ => rfl)) (pa_cons (pv 5) (pa_cons (pe_ix ix_tup (pe_dget hu (pv 3) (pv 5) (fun _ _ => rfl)) pe_int (fun _ _ => rfl)) pa_nil)))) pa_nil))))
        pss_nil)))
    (pss_one (ps_ret (pe_callB cr_sorted3 (by rfl) B.sorted (by decide +kernel) (pa_cons (pv 4) pa_nil))))))), ?_⟩
    refine ⟨_, rfl, a, L, us, xs, S, rfl, ha, hE, h9, hw, fun d H1 hd hst s1 => ⟨(by show 0 ≤ sizeLine; decide), fun q0 hq0 => ?_⟩⟩
    obtain ⟨kvs, n1, n2, n3, n4⟩ := id hst
    have n5 : KLen kvs xs.length := ⟨n2, n3.2, n3.1⟩
    have s2 := sameAt (Same.refl H1) hq0 (o := .lst [])
    refine ⟨_, rfl, d, kvs, rfl, .of (s2 _ _ n1), fun l hl => ⟨l, rfl, ⟨_, SqL.of upd_same⟩, ?_⟩⟩
    have hql : q0 ≠ l := fun z => by rw [← z, upd_same] at hl; cases hl
    have s3 : Same H1 (upd (upd H1 q0 (.lst [])) l (.lst (kvs.map fun kv => kV kv.1))) := s2.trans (sameAt (Same.refl _) hl)
    refine for_list (K := K) (a := l) (xs := kvs.map fun kv => kV kv.1) (fun i σ H3 => ∃ (ys : List V), (∃ b, σ = [some (.ref a), some (.str z), some (.str k), some (.ref d), some (.ref q0), b]) ∧ H3 q0 = some (.lst ys) ∧ H3 l = some (.lst (kvs.map fun kv => kV kv.1)) ∧ TrAt H3 ys ((kvs.take i).filterMap (selK S z k)) ∧ ys.length ≤ i ∧ Same H1 H3) ?_ (fun i σ H3 _ ⟨_, hv⟩ => SqL.of hv.2.2.1) ?_ ?_
    · exact ⟨[], ⟨_, rfl⟩, by rw [upd_ne hql]; exact upd_same, upd_same, ⟨rfl, fun i v t a b => by simp at a⟩, Nat.le_refl _, s3⟩
    · rintro i x σ H3 hi ⟨ys, ⟨b, rfl⟩, g1, gl, g2, g3, s4⟩
      obtain ⟨kv, hkv, rfl⟩ : ∃ kv, kvs[i]? = some kv ∧ x = kV kv.1 := by
        rw [List.getElem?_map] at hi
        cases e : kvs[i]? with
        | none => rw [e] at hi; cases hi
        | some z => rw [e] at hi; exact ⟨z, rfl, (Option.some.inj hi).symm⟩
      have hil : i < kvs.length := (List.getElem?_eq_some_iff.mp hkv).1
      have hm := List.mem_of_getElem? hkv
      obtain ⟨id, hid⟩ := n3.1 _ hm
      have hv := valV_of n3.2 kv hm
      rw [hid] at hv ⊢
      have sv := (n4 id).but (fun t xs e => s4 _ _ e)
      rw [hv] at sv
      have hg := DGet.k (k := Sum.inl id) (s4 _ _ n1)
      rw [hv] at hg
      have hne : ∀ (o : Option T3), selK S z k kv = o → (kvs.take (i + 1)).filterMap (selK S z k) = (kvs.take i).filterMap (selK S z k) ++ o.toList := fun o ho => by
        rw [list_take hkv, List.filterMap_append]
        congr 1
        rw [List.filterMap_cons, ho]
        cases o <;> rfl
      have hsel : selK S z k kv = pick S z k id := by
        unfold selK
        rw [hid]
      have stay : selK S z k kv = none → TrAt H3 ys ((kvs.take (i + 1)).filterMap (selK S z k)) := fun e => by
        rw [hne none e, Option.toList_none, List.append_nil]
        exact g2
      cases eS : S id with
      | none => rw [eS] at sv; exact absurd sv (fun z => z)
      | some r =>
        rw [eS] at sv
        cases r with
        | tb =>
          have sv : kv.2 = .non := sv
          rw [sv] at hg
          refine ⟨_, rfl, _, rfl, d, _, rfl, hg, rfl, _, rfl, iteF ?_⟩
          exact ⟨ys, ⟨_, rfl⟩, g1, gl, stay (by rw [hsel]; unfold pick; rw [eS]), by omega, s4⟩
        | at_ z' k' m am =>
          obtain ⟨tt, e5, htt⟩ := sv
          rw [e5] at hg
          have hpk : pick S z k id = if z' = z ∧ k' = k then some (m, id, am) else none := by
            unfold pick
            rw [eS]
          have no : ¬ (z' = z ∧ k' = k) → selK S z k kv = none := fun h => by rw [hsel, hpk, if_neg h]
          refine ⟨_, rfl, _, rfl, d, _, rfl, hg, rfl, _, rfl, iteT ?_⟩
          refine ⟨_, rfl, _, rfl, d, _, rfl, hg, _, _, _, _, rfl, rfl, SqT.of htt, rfl, _, rfl, rfl, _, rfl, ?_⟩
          refine ite2 (fun c1 => ?_) (fun c1 => ?_)
          · have ez : z' = z := V.str.inj (of_decide_eq_true c1)
            refine ⟨_, rfl, _, rfl, d, _, rfl, hg, _, _, _, _, rfl, rfl, SqT.of htt, rfl, _, rfl, rfl, _, rfl, ?_⟩
            refine ite2 (fun c2 => ?_) (fun c2 => ?_)
            · have ek : k' = k := V.str.inj (of_decide_eq_true c2)
              refine ⟨_, rfl, .inl ⟨rfl, _, SqL.of g1⟩, _, rfl, _, rfl, d, _, rfl, hg, _, _, _, _, rfl, rfl, SqT.of htt, rfl, _, rfl, _, rfl, _, rfl, d, _, rfl, hg, _, _, _, _, rfl, rfl, SqT.of htt, rfl, (by show 3 ≤ sizeLine; decide), fun e he => ?_⟩
              have s5 : Same H3 (upd H3 e (.tup [.int m, .int id, .int am])) := sameAt (Same.refl _) he
              refine ⟨q0, ys, _, rfl, rfl, s5 _ _ g1, small1000 (by omega), ?_⟩
              have off : ∀ t xs, (upd H3 e (.tup [.int m, .int id, .int am])) t = some (.tup xs) → (upd (upd H3 e (.tup [.int m, .int id, .int am])) q0 (.lst (ys ++ [.ref e]))) t = some (.tup xs) := fun t xs h => by
                rw [upd_ne (ne_of h (s5 _ _ g1) (by intro z; cases z))]
                exact h
              refine ⟨ys ++ [.ref e], ⟨_, rfl⟩, upd_same, by rw [upd_ne (Ne.symm hql)]; exact s5 _ _ gl, ?_, by rw [List.length_append]; show ys.length + 1 ≤ i + 1; omega, sameAt (s4.trans s5) hq0⟩
              rw [hne (some (m, id, am)) (by rw [hsel, hpk, if_pos ⟨ez, ek⟩])]
              refine (TrAt.snoc (t := (m, id, am)) (g2.tk fun t xs h => s5 _ _ h) (?_ : (upd H3 e (.tup [.int m, .int id, .int am])) e = _)).tk off
              rw [upd_same]
              rfl
            · exact ⟨ys, ⟨_, rfl⟩, g1, gl, stay (no fun h => c2 (decide_eq_true (by rw [h.2]))), by omega, s4⟩
          · exact ⟨ys, ⟨_, rfl⟩, g1, gl, stay (no fun h => c1 (decide_eq_true (by rw [h.1]))), by omega, s4⟩
    · rintro σ H3 ⟨ys, ⟨b, rfl⟩, g1, gl, g2, g3, s4⟩
      rw [List.length_map] at g2 g3
      rw [List.take_length] at g2
      have gm := g2.map
      have hs : ∀ id, S id ≠ none → valV kvs (Sum.inl id : Key) ≠ none := fun id h e => by
        have := n4 id
        rw [e] at this
        cases eS : S id with
        | none => exact h eS
        | some r => rw [eS] at this; exact this
      have sF := s1.trans s4
      refine ⟨_, rfl, q0, ys, triOf H3, rfl, SqL.of g1, fun x hx => ?_, fun zs p hs' hp hnew => ?_⟩
      · obtain ⟨i, hi, e⟩ := List.getElem_of_mem hx
        obtain ⟨e1, h1, h2⟩ := g2.2 i _ _ (List.getElem?_eq_getElem hi) (List.getElem?_eq_getElem (by rw [← g2.1]; exact hi))
        refine ⟨e1, by rw [← e, h1], ?_⟩
        rw [← e, h1, triOf_at h2]
        exact h2
      · have sp : Same H3 (upd H3 p (.lst zs)) := sameAt (Same.refl _) hnew
        refine q p zs (zs.map (triOf H3)) _ (sF.trans sp) (none_of sF hnew) upd_same ⟨by rw [List.length_map], fun i v t a b => ?_⟩ (by have := hp.length_eq; omega) (rows_of (sel_allS n5 n4 hs) (sel_nd n5) (by rw [← gm]; exact hp.map _) (List.pairwise_map.mpr hs'))
        rw [List.getElem?_map, a] at b
        cases b
        have hv := hp.mem_iff.mp (List.mem_of_getElem? a)
        obtain ⟨i', hi', e⟩ := List.getElem_of_mem hv
        obtain ⟨e1, h1, h2⟩ := g2.2 i' _ _ (List.getElem?_eq_getElem hi') (List.getElem?_eq_getElem (by rw [← g2.1]; exact hi'))
        rw [e] at h1
        subst h1
        exact ⟨e1, rfl, sp _ _ (by rw [triOf_at h2]; exact h2)⟩
end
end Ash

set_option Elab.async false
set_option linter.all false
set_option maxRecDepth 100000
set_option maxHeartbeats 4000000
namespace Ash
open PySem PySem.Spec PyProof.Rows L2
open C8 (pss_cut)
/-! ### entries as data -/
def Ent.pd : Ent → PyData
  | .row id s k m a r => .tuple [.str "row", .int id, .str s, .str k, .int m, .int a, .int r]
  | .fix id m a r => .tuple [.str "fix", .int id, .int m, .int a, .int r]
  | .gone id r => .tuple [.str "gone", .int id, .int r]
theorem pd_dp {K : PySem.W.Frag} {H : Hp} {e : Addr} {x : Ent} (h : EntAt H e x) : Dp K H (.ref e) x.pd := by
  cases x with
  | row id s k m a r => exact .tup (SqT.of h) (.cons (.str _) (.cons (.int _) (.cons (.str _) (.cons (.str _) (.cons (.int _) (.cons (.int _) (.cons (.int _) .nil)))))))
  | fix id m a r => exact .tup (SqT.of h) (.cons (.str _) (.cons (.int _) (.cons (.int _) (.cons (.int _) (.cons (.int _) .nil)))))
  | gone id r => exact .tup (SqT.of h) (.cons (.str _) (.cons (.int _) (.cons (.int _) .nil)))
theorem pd_flat {x : Ent} (h : x.ok) : x.pd.canLay0 = true ∧ x.pd.depth ≤ 2 := by
  cases x with
  | row id s k m a r =>
    obtain ⟨hs, hk⟩ := h.2 _ _ _ _ _ _ rfl
    have e1 := nm_ok hs
    have e2 := nm_ok hk
    have e3 : PyData.strOk "row" = true := by decide +kernel
    simp [Ent.pd, PyData.canLay0, PyData.canLayAll0, PyData.depth, PyData.depthAll, e1, e2, e3]
  | fix id m a r =>
    have e3 : PyData.strOk "fix" = true := by decide +kernel
    simp [Ent.pd, PyData.canLay0, PyData.canLayAll0, PyData.depth, PyData.depthAll, e3]
  | gone id r =>
    have e3 : PyData.strOk "gone" = true := by decide +kernel
    simp [Ent.pd, PyData.canLay0, PyData.canLayAll0, PyData.depth, PyData.depthAll, e3]
theorem pds_flat : ∀ {xs : List Ent}, (∀ x ∈ xs, x.ok) → PyData.canLayAll0 (xs.map Ent.pd) = true ∧ PyData.depthAll (xs.map Ent.pd) ≤ 2
  | [], _ => by simp [PyData.canLayAll0, PyData.depthAll]
  | x :: xs, h => by
    obtain ⟨a1, a2⟩ := pd_flat (h x List.mem_cons_self)
    obtain ⟨b1, b2⟩ := pds_flat fun z hz => h z (List.mem_cons_of_mem _ hz)
    rw [List.map_cons]
    simp only [PyData.canLayAll0, PyData.depthAll, a1, b1, Bool.and_self, true_and]
    omega
theorem pds_l {xs : List Ent} (h : ∀ x ∈ xs, x.ok) : SeqAt.shaped (.list (xs.map Ent.pd)) = true := by
  obtain ⟨h1, h2⟩ := pds_flat h
  unfold SeqAt.shaped
  simp [PyData.canLay0, PyData.depth, h1]
  omega
theorem pds_t {xs : List Ent} (h : ∀ x ∈ xs, x.ok) : SeqAt.shaped (.tuple (xs.map Ent.pd)) = true := by
  obtain ⟨h1, h2⟩ := pds_flat h
  unfold SeqAt.shaped
  simp [PyData.canLay0, PyData.depth, h1]
  omega
theorem ThEs.dp {K : PySem.W.Frag} {H : Hp} : ∀ {us : List V} {xs : List Ent}, ThEs K H us xs → DpAll K H us (xs.map Ent.pd)
  | [], [], _ => .nil
  | u :: us, x :: xs, h => by
    obtain ⟨a, b⟩ := h.tail
    obtain ⟨e, rfl, he, _⟩ := a
    exact .cons (pd_dp he) (ThEs.dp b)
  | [], _ :: _, h => by have := h.1; simp at this
  | _ :: _, [], h => by have := h.1; simp at this
theorem ThEs.ok {K : PySem.W.Frag} {H : Hp} {us : List V} {xs : List Ent} (h : ThEs K H us xs) : ∀ x ∈ xs, x.ok := th_ok h.1 h.2
theorem ThEs.of {K : PySem.W.Frag} {H : Hp} {us : List V} {xs : List Ent} (h : Ents H us xs) : ThEs K H us xs := ⟨h.1, fun i v x a b => h.2 i v x a b⟩
theorem ThEs.to {K : PySem.W.Frag} {H : Hp} {us : List V} {xs : List Ent} (h : ThEs K H us xs) : Ents H us xs := ⟨h.1, fun i v x a b => h.2 i v x a b⟩
/-- journals of the same entries, in whatever objects -/
def EqJc (K : PySem.W.Frag) (aT CJ CB : Addr) : Addr → Addr → Hp → Prop := fun i j H => ∃ b L us us' xs, JAt K aT CJ CB H i b L us xs ∧ JAt K aT CJ CB H j b L us' xs
section
variable {P : Program} {w : World} {K : PySem.W.Frag} {mg : Str → Option Value} {base : Heap}
theorem ok_j_eqc {f fb CJournal CB aT : Addr} {fd fdb : FuncData} (F : Fun K "__eq__" "Journal.__eq__" s_Journal_eq f fd) (B : Blt mg) (T : Cj P K mg CJournal CB) (jk : ∀ H b dx fs, H b = some (.ins CJournal dx fs) → TyX K H (.ref b) (.ref CJournal))
    (hs : PySem.W.findIn K (.ref CB) "__eq__" = some (some (.ref fb))) (hf : PySem.W.isFn K (.ref fb) = true) (hb : Binds K fdb ["self", "other"] []) (Fb : FnOk P w K mg base CX0 1 fb fdb ["self", "other"] (spEq (EqB CB))) : FnOk P w K mg base CX0 3 f fd ["self", "other"] (spEq (EqJc K aT CJournal CB)) := by
  have c_Journal := T.c
  refine F.ok sc_Journal_eq (fun vs H Q E h => ?_) (fun cdv A outer s H vs Q E hr h => ?_)
  · obtain ⟨a, b, rfl, _⟩ := h
    rfl
  · obtain ⟨i, j, rfl, ⟨b, L, us, us', xs, hI, hJ⟩, q⟩ := h
    refine ⟨_, (pss_one (ps_ret (pe_and (pe_callB call_isi (by rfl) B.isinstance (by decide +kernel) (pa_cons (pv 1) (pa_cons (pe_glob (v := .ref CJournal) (by rfl) c_Journal rfl) pa_nil))) (pe_and (pe_cmpR (op_eqG (rcG_ins Fb hs hf hb pass0) (hr.mono (by decide))) (pe_fld (pv 0) rfl) (pe_fld (pv 1) rfl) (nomark _)) (pe_one (pe_cmpR (op_eqD hr.units) (pe_fld (pv 0) rfl) (pe_fld (pv 1) rfl) (nomark _))))))), ?_⟩
    obtain ⟨dx, t, kd, h1, h2, h3, hl, h5, h6, h7⟩ := id hI
    obtain ⟨dy, t', kd', g1, g2, g3, gl, g5, g6, g7⟩ := id hJ
    obtain ⟨bx, d, L', b1, b2, b3, nd⟩ := id h2
    have E1 := hI.es.1
    have E2 := hJ.es.1
    refine ⟨_, rfl, _, _, _, _, true, rfl, ClsV.own _, jk _ _ _ _ g1, (by show PySem.W.kitOne K _ _ = _; unfold PySem.W.kitOne; rw [if_pos (by simp)]), _, rfl, iteT ?_⟩
    refine ⟨_, rfl, i, CJournal, dx, _, _, rfl, h1, T.cl, T.nB, jf_b _ _ _, _, rfl, j, CJournal, dy, _, _, rfl, g1, T.cl, T.nB, jf_b _ _ _, ⟨b, b, _, _, _, _, rfl, rfl, b1, b1, rfl, L, h2⟩, fun H1 e1 => ⟨_, rfl, iteT ?_⟩⟩
    refine ⟨_, rfl, i, CJournal, dx, _, _, rfl, e1 _ _ h1, T.cl, T.nE, jf_e _ _ _, _, rfl, j, CJournal, dy, _, _, rfl, e1 _ _ g1, T.cl, T.nE, jf_e _ _ _, .tuple (xs.map Ent.pd), .tuple (xs.map Ent.pd), .tup (h3.ext e1) (E1.same e1).dp, .tup (g3.ext e1) (E2.same e1).dp, pds_t E1.ok, pds_t E1.ok, ?_⟩
    rw [SeqAt.eqv_refl _ (SeqAt.canLay_of_shaped (pds_t E1.ok))]
    exact q H1 e1
end
end Ash

set_option Elab.async false
set_option linter.all false
set_option maxRecDepth 100000
set_option maxHeartbeats 4000000
namespace Ash
open PySem PySem.Spec PyProof.Rows L2
open C8 (pss_cut)
def spMerged : Sp := fun vs H Q _ => ∃ (a b : Addr) (us1 us2 : List V) (xs1 xs2 : List Ent), vs = [.ref a, .ref b] ∧ H a = some (.lst us1) ∧ Ents H us1 xs1 ∧ H b = some (.lst us2) ∧ Ents H us2 xs2 ∧ xs1.length ≤ 400 ∧ xs2.length ≤ 400 ∧
  ∀ p ys H', H p = none → H' p = some (.lst ys) → Ents H' ys (mrg xs1 xs2) → Same H H' → Q (.ref p) H'
def MrgI (H : Hp) (a b p l r : Addr) (xs1 xs2 : List Ent) (i : Nat) (σ : L2.St) (H1 : Hp) : Prop := ∃ (ys ul ur : List V) (xf xl xr : List Ent), (∃ k : Option V, σ = [some (.ref a), some (.ref b), some (.ref p), some (.ref l), some (.ref r), k]) ∧ H1 p = some (.lst ys) ∧ H1 l = some (.lst ul) ∧ H1 r = some (.lst ur) ∧ Ents H1 ys xf ∧ Ents H1 ul xl ∧ Ents H1 ur xr ∧ xf ++ mrg xl xr = mrg xs1 xs2 ∧ xf.length = i ∧ Same H H1
theorem at0 (v : V) (us : List V) : atI (v :: us) 0 = some v := atI_nat (j := 0) rfl
theorem at_last (x : Ent) : atI x.vs ((x.vs.length : Int) - 1) = some (.int x.arr) := by cases x <;> rfl
section
variable {P : Program} {w : World} {K : PySem.W.Frag} {mg : Str → Option Value} {base : Heap}
abbrev s_l_merged : Stmt := topS 50
theorem sc_l_merged : FnScope ["one", "other", "found", "left", "right", "k"] ["one", "other"] (defScope s_l_merged) := ⟨rfl, rfl, rfl, by decide +kernel, rfl, by decide +kernel, by decide +kernel⟩
theorem ok_merged {f : Addr} {fd : FuncData} (F : Fun K "_law_merged" "_law_merged" s_l_merged f fd) (B : Blt mg) : FnOk P w K mg base CX0 1 f fd ["one", "other"] spMerged := by
  refine F.ok sc_l_merged (fun vs H Q E h => ?_) (fun cdv A outer s H vs Q E hr h => ?_)
  · obtain ⟨a, b, us1, us2, xs1, xs2, rfl, _⟩ := h
    rfl
  · obtain ⟨a, b, us1, us2, xs1, xs2, rfl, ha, E1, hb, E2, l1, l2, q⟩ := h
    refine ⟨_, (pss_cons (ps_set (i := 2) sc_l_merged.nd rfl (Or.inl rfl) (pe_lst pa_nil))
    (pss_cons (ps_set (i := 3) sc_l_merged.nd rfl (Or.inl rfl) (pe_callTy call_list_of (by rfl) B.list (by decide +kernel) (pa_cons (pv 0) pa_nil)))
    (pss_cons (ps_set (i := 4) sc_l_merged.nd rfl (Or.inl rfl) (pe_callTy call_list_of (by rfl) B.list (by decide +kernel) (pa_cons (pv 1) pa_nil)))
    (pss_cons (ps_for PassesOwn.never rfl (pi_range1 (by rfl) B.range (pa_cons (pe_op op_add (pe_callB call_len_seq (by rfl) B.len (by decide +kernel) (pa_cons (pv 0) pa_nil)) (pe_callB call_len_seq (by rfl) B.len (by decide +kernel) (pa_cons (pv 1) pa_nil))) pa_nil)) (pg_name (i := 5) sc_l_merged.nd rfl (Or.inl rfl))
      (pss_one (ps_if (PW.pt (pw_or (pt_cmpR op_eq (pe_callB call_len_seq (by rfl) B.len (by decide +kernel) (pa_cons (pv 4) pa_nil)) pe_int (nomark _)) (pw_or1 (PW.pt (pw_and (pt_cmpR op_gt (pe_callB call_len_seq (by rfl) B.len (by decide +kernel) (pa_cons (pv 3) pa_nil)) pe_int (nomark _)) (pw_and1 (pt_cmpR op_le (pe_ix ix_tup (pe_ix ix_list (pv 3) pe_int (fun _ _ => rfl)) (pe_op op_sub (pe_callB call_len_seq (by rfl) B.len (by decide +kernel) (pa_cons (pe_ix ix_list (pv 3) pe_int (fun _ _ => rfl)) pa_nil)) pe_int) (fun _ _ => rfl)) (pe_ix ix_tup (pe_ix ix_list (pv 4) pe_int (fun _ _ => rfl)) (pe_op op_sub (pe_callB call_len_seq (by rfl) B.len (by decide +kernel) (pa_cons (pe_ix ix_list (pv 4) pe_int (fun _ _ => rfl)) pa_nil)) pe_int) (fun _ _ => rfl)) (nomark _))))))))
        (pss_one (ps_expr (pe_bm PySem.F.plainAttrs_list PySem.F.slot_list_append PySem.F.type_list_append mt_append (pv 2) (pa_cons (pe_bm PySem.F.plainAttrs_list PySem.F.slot_list_pop PySem.F.type_list_pop mt_popAt (pv 3) (pa_cons pe_int pa_nil)) pa_nil))))
        (pss_one (ps_expr (pe_bm PySem.F.plainAttrs_list PySem.F.slot_list_append PySem.F.type_list_append mt_append (pv 2) (pa_cons (pe_bm PySem.F.plainAttrs_list PySem.F.slot_list_pop PySem.F.type_list_pop mt_popAt (pv 4) (pa_cons pe_int pa_nil)) pa_nil)))))))
    (pss_one (ps_ret (pv 2))))))), ?_⟩
    have e1 := E1.1
    have e2 := E2.1
    refine ⟨(by show 0 ≤ sizeLine; decide), fun p hp => ?_⟩
    have s1 : Same H (upd H p (.lst [])) := sameAt (Same.refl H) hp
    refine ⟨_, rfl, a, us1, rfl, .inl (SqL.of (s1 _ _ ha)), fun l hl => ?_⟩
    have s2 := s1.trans (sameAt (Same.refl _) hl (o := .lst us1))
    refine ⟨_, rfl, b, us2, rfl, .inl (SqL.of (s2 _ _ hb)), fun r hr0 => ?_⟩
    have s3 := s2.trans (sameAt (Same.refl _) hr0 (o := .lst us2))
    have hpl : p ≠ l := fun z => by rw [← z, upd_same] at hl; cases hl
    have hlr : l ≠ r := fun z => by rw [← z, upd_same] at hr0; cases hr0
    have hpr : p ≠ r := fun z => by rw [← z, upd_ne hpl, upd_same] at hr0; cases hr0
    have hl0 : H l = none := none_of s1 hl
    have hr00 : H r = none := none_of s2 hr0
    refine ⟨_, rfl, a, us1, rfl, .inl (SqL.of (s3 _ _ ha)), _, rfl, b, us2, rfl, .inl (SqL.of (s3 _ _ hb)), _, _, rfl, rfl, _, rfl, (by omega), (by omega), for_range (n := ((us1.length : Int) + us2.length).toNat) (MrgI H a b p l r xs1 xs2) ?_ ?_ ?_⟩
    · refine ⟨[], us1, us2, [], xs1, xs2, ⟨_, rfl⟩, by rw [upd_ne hpr, upd_ne hpl, upd_same], by rw [upd_ne hlr, upd_same], upd_same, ⟨rfl, fun i v x a b => by simp at a⟩, E1.tk (tk_same s3), E2.tk (tk_same s3), rfl, rfl, s3⟩
    · rintro i σ H1 hi ⟨ys, ul, ur, xf, xl, xr, ⟨k, rfl⟩, gp, gl, gr, Ef, El, Er, em, li, sH⟩
      have lm := congrArg List.length em
      rw [List.length_append, mrg_len, mrg_len] at lm
      have efl := Ef.1
      have ell := El.1
      have erl := Er.1
      have popL : ∀ {u : V} {ul' : List V} {x : Ent} {xl' : List Ent}, ul = u :: ul' → xl = x :: xl' → (mrg xl xr = x :: mrg xl' xr) → ∀ k', MrgI H a b p l r xs1 xs2 (i + 1) [some (.ref a), some (.ref b), some (.ref p), some (.ref l), some (.ref r), k'] (upd (upd H1 l (.lst ul')) p (.lst (ys ++ [u]))) := by
        intro u ul' x xl' hu hx hm k'
        subst hu hx
        have tk : TK H1 (upd (upd H1 l (.lst ul')) p (.lst (ys ++ [u]))) := (tk_off gl (fun xs z => by cases z)).trans (tk_off (by rw [upd_ne hpl]; exact gp) (fun xs z => by cases z))
        obtain ⟨e, rfl, he, hok⟩ := El.2 0 u x rfl rfl
        have El' : Ents H1 ul' xl' := ⟨by have := El.1; simp only [List.length_cons] at this; omega, fun i v y a b => El.2 (i + 1) v y a b⟩
        refine ⟨ys ++ [.ref e], ul', ur, xf ++ [x], xl', xr, ⟨_, rfl⟩, upd_same, by rw [upd_ne (Ne.symm hpl), upd_same], by rw [upd_ne (Ne.symm hpr), upd_ne (Ne.symm hlr)]; exact gr, (Ef.tk tk).snoc (tk _ _ he) hok, El'.tk tk, Er.tk tk, ?_, by rw [List.length_append, li]; rfl, ?_⟩
        · rw [← em, hm, List.append_assoc]
          rfl
        · exact fun c o hc => by rw [upd_ne (ne_of_none hc hp), upd_ne (ne_of_none hc hl0)]; exact sH _ _ hc
      have popR : ∀ {u : V} {ur' : List V} {x : Ent} {xr' : List Ent}, ur = u :: ur' → xr = x :: xr' → (mrg xl xr = x :: mrg xl xr') → ∀ k', MrgI H a b p l r xs1 xs2 (i + 1) [some (.ref a), some (.ref b), some (.ref p), some (.ref l), some (.ref r), k'] (upd (upd H1 r (.lst ur')) p (.lst (ys ++ [u]))) := by
        intro u ur' x xr' hu hx hm k'
        subst hu hx
        have tk : TK H1 (upd (upd H1 r (.lst ur')) p (.lst (ys ++ [u]))) := (tk_off gr (fun xs z => by cases z)).trans (tk_off (by rw [upd_ne hpr]; exact gp) (fun xs z => by cases z))
        obtain ⟨e, rfl, he, hok⟩ := Er.2 0 u x rfl rfl
        have Er' : Ents H1 ur' xr' := ⟨by have := Er.1; simp only [List.length_cons] at this; omega, fun i v y a b => Er.2 (i + 1) v y a b⟩
        refine ⟨ys ++ [.ref e], ul, ur', xf ++ [x], xl, xr', ⟨_, rfl⟩, upd_same, by rw [upd_ne (Ne.symm hpl), upd_ne hlr]; exact gl, by rw [upd_ne (Ne.symm hpr), upd_same], (Ef.tk tk).snoc (tk _ _ he) hok, El.tk tk, Er'.tk tk, ?_, by rw [List.length_append, li]; rfl, ?_⟩
        · rw [← em, hm, List.append_assoc]
          rfl
        · exact fun c o hc => by rw [upd_ne (ne_of_none hc hp), upd_ne (ne_of_none hc hr00)]; exact sH _ _ hc
      have ys4 : ys.length < sizeLine := small1000 (by omega)
      have sqi : ∀ {n : Nat}, seqIndex? 0 (n + 1) = some 0 := fun {n} => by
        unfold seqIndex?
        simp
      refine ⟨_, rfl, r, ur, rfl, .inl (SqL.of gr), rfl, _, rfl, ?_⟩
      cases xr with
      | nil =>
        have ur0 : ur = [] := List.length_eq_zero_iff.mp erl
        subst ur0
        refine iteT (iteT ?_)
        cases xl with
        | nil => simp only [List.length_nil] at lm; omega
        | cons x xl' =>
          cases ul with
          | nil => cases ell
          | cons u ul' =>
            refine ⟨_, rfl, .inl ⟨rfl, _, SqL.of gp⟩, _, rfl, .inl ⟨rfl, _, SqL.of gl⟩, l, _, 0, 0, u, rfl, rfl, gl, by decide, by decide, sqi, rfl, p, ys, _, rfl, rfl, by rw [upd_ne hpl]; exact gp, ys4, ?_⟩
            exact popL rfl rfl (by rw [mrg_nil', mrg_nil']) _
      | cons y xr' =>
        cases ur with
        | nil => cases erl
        | cons v ur' =>
          refine iteF ⟨_, rfl, l, ul, rfl, .inl (SqL.of gl), _, _, rfl, rfl, _, rfl, ?_⟩
          cases xl with
          | nil =>
            have ul0 : ul = [] := List.length_eq_zero_iff.mp ell
            subst ul0
            refine iteF (iteF ?_)
            refine ⟨_, rfl, .inl ⟨rfl, _, SqL.of gp⟩, _, rfl, .inl ⟨rfl, _, SqL.of gr⟩, r, _, 0, 0, v, rfl, rfl, gr, by decide, by decide, sqi, rfl, p, ys, _, rfl, rfl, by rw [upd_ne hpr]; exact gp, ys4, ?_⟩
            exact popR rfl rfl (by rw [mrg_nil, mrg_nil]) _
          | cons x xl' =>
            cases ul with
            | nil => cases ell
            | cons u ul' =>
              obtain ⟨ex, rfl, hex, _⟩ := El.2 0 u x rfl rfl
              obtain ⟨ey, rfl, hey, _⟩ := Er.2 0 v y rfl rfl
              refine ite2 (fun _ => ?_) (fun c => absurd (decide_eq_true (by simp only [List.length_cons]; omega)) c)
              have exs : SqT K H1 ex x.vs := SqT.of hex
              have eys : SqT K H1 ey y.vs := SqT.of hey
              refine ⟨_, rfl, _, _, _, _, rfl, rfl, SqL.of gl, at0 _ _, _, rfl, _, _, _, _, rfl, rfl, SqL.of gl, at0 _ _, ex, _, rfl, .inr exs, _, _, rfl, rfl, _, _, _, _, rfl, rfl, exs, at_last x, ?_⟩
              refine ⟨_, rfl, _, _, _, _, rfl, rfl, SqL.of gr, at0 _ _, _, rfl, _, _, _, _, rfl, rfl, SqL.of gr, at0 _ _, ey, _, rfl, .inr eys, _, _, rfl, rfl, _, _, _, _, rfl, rfl, eys, at_last y, _, _, rfl, rfl, _, rfl, ?_⟩
              refine ite2 (fun c => ?_) (fun c => ?_)
              · have c : x.arr ≤ y.arr := of_decide_eq_true c
                refine ⟨_, rfl, .inl ⟨rfl, _, SqL.of gp⟩, _, rfl, .inl ⟨rfl, _, SqL.of gl⟩, l, _, 0, 0, .ref ex, rfl, rfl, gl, by decide, by decide, sqi, rfl, p, ys, _, rfl, rfl, by rw [upd_ne hpl]; exact gp, ys4, ?_⟩
                exact popL rfl rfl (mrg_le c) _
              · have c : ¬ x.arr ≤ y.arr := fun z => c (decide_eq_true z)
                refine ⟨_, rfl, .inl ⟨rfl, _, SqL.of gp⟩, _, rfl, .inl ⟨rfl, _, SqL.of gr⟩, r, _, 0, 0, .ref ey, rfl, rfl, gr, by decide, by decide, sqi, rfl, p, ys, _, rfl, rfl, by rw [upd_ne hpr]; exact gp, ys4, ?_⟩
                exact popR rfl rfl (mrg_gt c) _
    · rintro σ H1 ⟨ys, ul, ur, xf, xl, xr, ⟨k, rfl⟩, gp, gl, gr, Ef, El, Er, em, li, sH⟩
      have lm := congrArg List.length em
      rw [List.length_append, mrg_len, mrg_len] at lm
      have x0 : xl = [] := List.length_eq_zero_iff.mp (by omega)
      have x1 : xr = [] := List.length_eq_zero_iff.mp (by omega)
      subst x0 x1
      rw [mrg_nil, List.append_nil] at em
      rw [em] at Ef
      exact ⟨_, rfl, q p ys H1 hp gp Ef sH⟩
end
end Ash

set_option Elab.async false
set_option linter.all false
set_option maxRecDepth 100000
set_option maxHeartbeats 4000000
namespace Ash
open PySem PySem.Spec PyProof.Rows L2
open SrtT (T3 lex3)
/-! ### the entries of keys, what is pure -/
abbrev K0 : Kn := fun _ => none
abbrev knw (L : List (Str × Int)) (xs : List Ent) : Kn := (wk L (xs.map some) 0 K0 none).2
def Good (L : List (Str × Int)) (xs : List Ent) : Prop := (wk L (xs.map some) 0 K0 none).1 = none
theorem Good.w {L : List (Str × Int)} {xs : List Ent} (h : Good L xs) : wk L (xs.map some) 0 K0 none = (none, knw L xs) := by rw [← show (wk L (xs.map some) 0 K0 none).1 = none from h]
theorem Good.of {L : List (Str × Int)} {xs : List Ent} {S : Kn} (h : wk L (xs.map some) 0 K0 none = (none, S)) : Good L xs ∧ knw L xs = S := ⟨by unfold Good; rw [h], by unfold knw; rw [h]⟩
theorem Good.asc {L : List (Str × Int)} {xs : List Ent} (h : Good L xs) : Asc xs := wk_asc h
theorem Good.keep {L : List (Str × Int)} {xs : List Ent} (h : Good L xs) (p : Int → Bool) : Good L (xs.filter fun e => p e.id) ∧ knw L (xs.filter fun e => p e.id) = keepK p (knw L xs) := by
  have q := wk_keep p (k := 0) (l' := none) h.w fun _ _ => rfl
  have e : keepK p K0 = K0 := by funext id; unfold keepK; split <;> rfl
  rw [e] at q
  exact Good.of q
theorem Good.heard {L : List (Str × Int)} {xs : List Ent} (h : Good L xs) (n : Int) : Good L (xs.filter fun x => decide (x.arr ≤ n)) := by
  obtain ⟨k, k1, k2, k3, k4⟩ := wk_cut n h
  rw [k4]
  exact k3
/-- what is known of an id comes of its own entries -/
theorem Good.at_ {L : List (Str × Int)} {xs : List Ent} (h : Good L xs) (i : Int) : knw L xs i = knw L (xs.filter fun e => decide (e.id = i)) i := by
  rw [(h.keep fun id => decide (id = i)).2]
  unfold keepK
  rw [if_pos (decide_eq_true rfl)]
/-- a row that is known came as a row -/
theorem wk_row {L : List (Str × Int)} {id : Int} {z k : Str} {m a : Int} : ∀ {xs : List Ent} {i : Nat} {S S1 : Kn} {l : Option Int}, wk L (xs.map some) i S l = (none, S1) → S1 id = some (.at_ z k m a) → (∃ m' a', S id = some (.at_ z k m' a')) ∨ ∃ m' a' r, Ent.row id z k m' a' r ∈ xs
  | [], _, S, S1, _, h, n => by
    have h : ((none : Option Nat), S) = (none, S1) := h
    cases h
    exact .inl ⟨_, _, n⟩
  | x :: xs, i, S, S1, l, h, n => by
    obtain ⟨_, y, hb, h3⟩ := wk_step h
    rcases wk_row h3 n with ⟨m', a', q⟩ | ⟨m', a', r, q⟩
    · have q : (if id = x.id then some y else S id) = _ := q
      by_cases c : id = x.id
      · rw [if_pos c] at q
        cases q
        cases x with
        | row id' s' k' m1 a1 r1 =>
          have e := behind_row hb
          cases e
          exact .inr ⟨_, _, r1, by rw [c]; exact List.mem_cons_self⟩
        | fix id' m1 a1 r1 =>
          obtain ⟨s', k', m0, a0, e1, e2⟩ := behind_fix hb
          cases e2
          exact .inl ⟨m0, a0, by rw [c]; exact e1⟩
        | gone id' r1 =>
          exfalso
          have hb : behind L (.gone id' r1) (S id') = some (.at_ z k m' a') := hb
          cases e : S id' with
          | none => rw [e] at hb; cases hb
          | some y =>
            rw [e] at hb
            cases y with
            | tb => cases hb
            | at_ s' k' m0 a0 =>
              have hb : (L.lookup s').bind _ = _ := hb
              cases e2 : L.lookup s' with
              | none => rw [e2] at hb; cases hb
              | some l =>
                rw [e2, Option.bind_some] at hb
                split at hb
                · cases hb
                · cases hb
      · rw [if_neg c] at q
        exact .inl ⟨_, _, q⟩
    · exact .inr ⟨m', a', r, List.mem_cons_of_mem _ q⟩
/-- no row comes twice -/
theorem wk_row1 {L : List (Str × Int)} {id : Int} {z k : Str} {m a r : Int} : ∀ {xs : List Ent} {i : Nat} {S S1 : Kn} {l : Option Int}, wk L (xs.map some) i S l = (none, S1) → Ent.row id z k m a r ∈ xs → S id = none
  | [], _, _, _, _, _, h => nomatch h
  | x :: xs, i, S, S1, l, h, hx => by
    obtain ⟨_, y, hb, h3⟩ := wk_step h
    rcases List.mem_cons.mp hx with e | hx
    · subst e
      have hb : behind L (.row id z k m a r) (S id) = some y := hb
      cases e : S id with
      | none => rfl
      | some o => rw [e] at hb; cases hb
    · have q := wk_row1 h3 hx
      have q : (if id = x.id then some y else S id) = none := q
      by_cases c : id = x.id
      · rw [if_pos c] at q; cases q
      · rwa [if_neg c] at q
theorem wk_rows {L : List (Str × Int)} {id : Int} {z k z' k' : Str} {m a r m' a' r' : Int} : ∀ {xs : List Ent} {i : Nat} {S S1 : Kn} {l : Option Int}, wk L (xs.map some) i S l = (none, S1) → Ent.row id z k m a r ∈ xs → Ent.row id z' k' m' a' r' ∈ xs → k = k'
  | [], _, _, _, _, _, h, _ => nomatch h
  | x :: xs, i, S, S1, l, h, hx, hy => by
    obtain ⟨_, y, hb, h3⟩ := wk_step h
    rcases List.mem_cons.mp hx with e | gx <;> rcases List.mem_cons.mp hy with e' | gy
    · subst e; cases e'; rfl
    · subst e
      have q : (if id = id then some y else S id) = none := wk_row1 h3 gy
      rw [if_pos rfl] at q; cases q
    · subst e'
      have q : (if id = id then some y else S id) = none := wk_row1 h3 gx
      rw [if_pos rfl] at q; cases q
    · exact wk_rows h3 gx gy
/-- each entry is of a row that came -/
theorem wk_has {L : List (Str × Int)} : ∀ {xs : List Ent} {i : Nat} {S S1 : Kn} {l : Option Int}, wk L (xs.map some) i S l = (none, S1) → ∀ x ∈ xs, S x.id ≠ none ∨ ∃ z k m a r, Ent.row x.id z k m a r ∈ xs
  | [], _, _, _, _, _, _, h => nomatch h
  | x :: xs, i, S, S1, l, h, w, hw => by
    obtain ⟨_, y, hb, h3⟩ := wk_step h
    have self : S x.id ≠ none ∨ ∃ z k m a r, Ent.row x.id z k m a r ∈ x :: xs := by
      cases x with
      | row id s k m a r => exact .inr ⟨s, k, m, a, r, List.mem_cons_self⟩
      | fix id m a r =>
        obtain ⟨s', k', m0, a0, e1, e2⟩ := behind_fix hb
        exact .inl (by show S id ≠ none; rw [show S id = _ from e1]; exact fun z => nomatch z)
      | gone id r =>
        left
        show S id ≠ none
        intro e
        have hb : behind L (.gone id r) (S id) = some y := hb
        rw [e] at hb
        cases hb
    rcases List.mem_cons.mp hw with e | hw
    · subst e; exact self
    · rcases wk_has h3 w hw with q | ⟨z, k, m, a, r, q⟩
      · by_cases c : w.id = x.id
        · rw [c]; exact self
        · have q : (if w.id = x.id then some y else S w.id) ≠ none := q
          rw [if_neg c] at q
          exact .inl q
      · exact .inr ⟨z, k, m, a, r, List.mem_cons_of_mem _ q⟩
theorem Good.has {L : List (Str × Int)} {xs : List Ent} (h : Good L xs) {x : Ent} (hx : x ∈ xs) : ∃ z k m a r, Ent.row x.id z k m a r ∈ xs := by
  rcases wk_has h.w x hx with q | q
  · exact absurd rfl q
  · exact q
theorem own_iff {key : Str} {xs : List Ent} {id : Int} : ownP key xs id = true ↔ ∃ z m a r, Ent.row id z key m a r ∈ xs := by
  unfold ownP
  rw [List.any_eq_true]
  constructor
  · rintro ⟨x, hx, h⟩
    rw [Bool.and_eq_true] at h
    cases x with
    | row id' s k m a r =>
      obtain ⟨h1, h2⟩ := h
      have h1 : k = key := of_decide_eq_true h1
      have h2 : id' = id := of_decide_eq_true h2
      subst h1 h2
      exact ⟨s, m, a, r, hx⟩
    | fix id' m a r => exact absurd h.1 Bool.false_ne_true
    | gone id' r => exact absurd h.1 Bool.false_ne_true
  · rintro ⟨z, m, a, r, hx⟩
    refine ⟨_, hx, ?_⟩
    show (decide (key = key) && decide (id = id)) = true
    simp
/-- an id has one key -/
theorem Good.one {L : List (Str × Int)} {xs : List Ent} (h : Good L xs) {k k' : Str} {id : Int} (a : ownP k xs id = true) (b : ownP k' xs id = true) : k = k' := by
  obtain ⟨_, _, _, _, a⟩ := own_iff.mp a
  obtain ⟨_, _, _, _, b⟩ := own_iff.mp b
  exact wk_rows h.w a b
/-- the part of a key -/
abbrev part (key : Str) (xs : List Ent) : List Ent := xs.filter fun e => ownP key xs e.id
theorem Good.part {L : List (Str × Int)} {xs : List Ent} (h : Good L xs) (key : Str) : Good L (part key xs) := (h.keep (ownP key xs)).1
theorem pick_at {S : Kn} {z k : Str} {id : Int} {t : T3} (h : pick S z k id = some t) : ∃ m a, S id = some (.at_ z k m a) := by
  unfold pick at h
  split at h
  · rename_i z' k' m a e
    split at h
    · rename_i c
      exact ⟨m, a, by rw [e, c.1, c.2]⟩
    · cases h
  · cases h
theorem Good.own {L : List (Str × Int)} {xs : List Ent} (h : Good L xs) {z k : Str} {id : Int} {t : T3} (e : pick (knw L xs) z k id = some t) : ownP k xs id = true := by
  obtain ⟨m, a, q⟩ := pick_at e
  rcases wk_row h.w q with ⟨_, _, q⟩ | ⟨m', a', r, q⟩
  · cases q
  · exact own_iff.mpr ⟨_, _, _, _, q⟩
theorem own_sub {k : Str} {xs ys : List Ent} {id : Int} (sub : ∀ x ∈ xs, x ∈ ys) (h : ownP k xs id = true) : ownP k ys id = true := by
  obtain ⟨z, m, a, r, q⟩ := own_iff.mp h
  exact own_iff.mpr ⟨z, m, a, r, sub _ q⟩
theorem pick_cong {S S' : Kn} {z k : Str} {id : Int} (h : S id = S' id) : pick S z k id = pick S' z k id := by
  unfold pick
  rw [h]
theorem filt_comm (p q : Ent → Bool) (xs : List Ent) : (xs.filter p).filter q = (xs.filter q).filter p := by
  rw [List.filter_filter, List.filter_filter]
  exact List.filter_congr fun x _ => Bool.and_comm _ _
/-- entries of the same ids give the same rows -/
theorem Good.same {L : List (Str × Int)} {xs ys : List Ent} (hx : Good L xs) (hy : Good L ys) {id : Int} (h : (xs.filter fun e => decide (e.id = id)) = ys.filter fun e => decide (e.id = id)) (z k : Str) : pick (knw L xs) z k id = pick (knw L ys) z k id :=
  pick_cong (by rw [hx.at_, hy.at_, h])
theorem heard_same {xs ys : List Ent} {id : Int} (n : Int) (h : (xs.filter fun e => decide (e.id = id)) = ys.filter fun e => decide (e.id = id)) :
    ((xs.filter fun x => decide (x.arr ≤ n)).filter fun e => decide (e.id = id)) = (ys.filter fun x => decide (x.arr ≤ n)).filter fun e => decide (e.id = id) := by
  rw [filt_comm, h, filt_comm]
theorem part_id {key : Str} {xs : List Ent} {id : Int} (h : ownP key xs id = true) : ((part key xs).filter fun e => decide (e.id = id)) = xs.filter fun e => decide (e.id = id) := by
  unfold part
  rw [List.filter_filter]
  refine List.filter_congr fun x _ => ?_
  by_cases c : x.id = id
  · rw [c, h, Bool.and_true]
  · rw [decide_eq_false c, Bool.false_and]
theorem part_no {key : Str} {xs : List Ent} {id : Int} (h : ownP key xs id = false) : ((part key xs).filter fun e => decide (e.id = id)) = [] := by
  unfold part
  rw [List.filter_filter, List.filter_eq_nil_iff]
  intro x _
  by_cases c : x.id = id
  · rw [c, h, Bool.and_false]; exact Bool.false_ne_true
  · rw [decide_eq_false c, Bool.false_and]; exact Bool.false_ne_true
theorem opt_none {α : Type} {o : Option α} (h : ∀ t, o ≠ some t) : o = none := by
  cases o with
  | none => rfl
  | some t => exact absurd rfl (h t)
/-- the part's rows of its key are those of all -/
theorem part_rows {L : List (Str × Int)} {xs : List Ent} (h : Good L xs) (key z : Str) (n id : Int) : pick (knw L ((part key xs).filter fun x => decide (x.arr ≤ n))) z key id = pick (knw L (xs.filter fun x => decide (x.arr ≤ n))) z key id := by
  cases c : ownP key xs id with
  | true => exact ((h.part key).heard n).same (h.heard n) (heard_same n (part_id c)) z key
  | false =>
    have no : ∀ {ys : List Ent}, Good L ys → (∀ x ∈ ys, x ∈ xs) → pick (knw L (ys.filter fun x => decide (x.arr ≤ n))) z key id = none := fun hy sub => opt_none fun t e => by
      have := own_sub (fun x hx => sub x (List.mem_filter.mp hx).1) ((hy.heard n).own e)
      rw [c] at this
      cases this
    rw [no (h.part key) fun x hx => (List.mem_filter.mp hx).1, no h fun x hx => hx]
/-- and it has none of another key -/
theorem part_none {L : List (Str × Int)} {xs : List Ent} (h : Good L xs) {key k : Str} (ne : k ≠ key) (z : Str) (n id : Int) : pick (knw L ((part key xs).filter fun x => decide (x.arr ≤ n))) z k id = none := opt_none fun t e => by
  have q := ((h.part key).heard n).own e
  have q1 := own_sub (ys := xs) (fun x hx => (List.mem_filter.mp (List.mem_filter.mp hx).1).1) q
  obtain ⟨z', m, a, r, q2⟩ := own_iff.mp q
  have q3 : ownP key xs id = true := (List.mem_filter.mp (List.mem_filter.mp q2).1).2
  exact ne (h.one q1 q3)
theorem mrg_filter {xs ys : List Ent} (p : Ent → Bool) (hx : Asc xs) (hy : Asc ys) : (mrg xs ys).filter p = mrg (xs.filter p) (ys.filter p) :=
  asc_uniq (List.Pairwise.filter p (mrg_asc hx hy)) (mrg_asc (List.Pairwise.filter p hx) (List.Pairwise.filter p hy)) fun c => by
    rw [mrg_at c (List.Pairwise.filter p hx) (List.Pairwise.filter p hy), filt_comm, mrg_at c hx hy, List.filter_append, filt_comm p, filt_comm p]
theorem mrg_ok {L : List (Str × Int)} {xs ys : List Ent} (hx : Good L xs) (hy : Good L ys) (d : ∀ x ∈ xs, ∀ y ∈ ys, x.id ≠ y.id) : Good L (mrg xs ys) := by
  have := wk_mrg (k := 0) (l := none) hx.w hy.w (fun _ _ => rfl) (fun _ _ => rfl) d (fun _ _ => rfl) (fun _ _ => rfl)
  have e : (K0 : Kn) = joinK K0 K0 := rfl
  rw [← e] at this
  exact (Good.of this).1
/-- what the parts of some keys make -/
structure Some5 (L : List (Str × Int)) (xs ys : List Ent) (used : List Str) : Prop where
  good : Good L ys
  yes : ∀ id, (∃ k ∈ used, ownP k xs id = true) → (ys.filter fun e => decide (e.id = id)) = xs.filter fun e => decide (e.id = id)
  no : ∀ id, (∀ k ∈ used, ownP k xs id = false) → (ys.filter fun e => decide (e.id = id)) = []
theorem Some5.nil {L : List (Str × Int)} {xs : List Ent} : Some5 L xs [] [] := ⟨rfl, fun id h => (by obtain ⟨k, hk, _⟩ := h; cases hk), fun id h => rfl⟩
theorem Some5.owner {L : List (Str × Int)} {xs ys : List Ent} {used : List Str} (s : Some5 L xs ys used) {y : Ent} (hy : y ∈ ys) : ∃ k ∈ used, ownP k xs y.id = true := by
  by_cases c : ∃ k ∈ used, ownP k xs y.id = true
  · exact c
  · have q := s.no y.id fun k hk => by
      cases e : ownP k xs y.id with
      | false => rfl
      | true => exact absurd ⟨k, hk, e⟩ c
    have m : y ∈ ys.filter fun e => decide (e.id = y.id) := List.mem_filter.mpr ⟨hy, decide_eq_true rfl⟩
    rw [q] at m
    cases m
theorem Some5.step {L : List (Str × Int)} {xs ys : List Ent} {used : List Str} (h : Good L xs) (s : Some5 L xs ys used) {key : Str} (hk : key ∉ used) : Some5 L xs (mrg ys (part key xs)) (used ++ [key]) := by
  have gp := h.part key
  have dis : ∀ {id}, (∃ k ∈ used, ownP k xs id = true) → ownP key xs id = false := fun {id} ⟨k, hu, e⟩ => by
    cases c : ownP key xs id with
    | false => rfl
    | true => exact absurd (h.one e c ▸ hu) hk
  refine ⟨mrg_ok s.good gp fun x hx y hy e => ?_, fun id q => ?_, fun id q => ?_⟩
  · have a := dis (s.owner hx)
    have b : ownP key xs y.id = true := (List.mem_filter.mp hy).2
    rw [e, b] at a
    cases a
  · rw [mrg_filter _ s.good.asc gp.asc]
    obtain ⟨k, hu, e⟩ := q
    rcases List.mem_append.mp hu with hu | hu
    · rw [part_no (dis ⟨k, hu, e⟩), mrg_nil', s.yes id ⟨k, hu, e⟩]
    · rw [List.mem_singleton.mp hu] at e
      rw [part_id e, s.no id fun k' hk' => ?_, mrg_nil]
      cases c : ownP k' xs id with
      | false => rfl
      | true => exact absurd (h.one e c ▸ hk') hk
  · rw [mrg_filter _ s.good.asc gp.asc, s.no id fun k hk => q k (List.mem_append_left _ hk), part_no (q key (List.mem_append_right _ (List.mem_singleton.mpr rfl))), mrg_nil]
/-- all keys: all entries -/
theorem Some5.all {L : List (Str × Int)} {xs ys : List Ent} {used : List Str} (h : Good L xs) (s : Some5 L xs ys used) (hk : ∀ x ∈ xs, KIn used x) : ∀ id, (ys.filter fun e => decide (e.id = id)) = xs.filter fun e => decide (e.id = id) := fun id => by
  by_cases c : ∃ k ∈ used, ownP k xs id = true
  · exact s.yes id c
  · rw [s.no id fun k hk => by
      cases e : ownP k xs id with
      | false => rfl
      | true => exact absurd ⟨k, hk, e⟩ c]
    symm
    rw [List.filter_eq_nil_iff]
    intro x hx e
    have e : x.id = id := of_decide_eq_true e
    obtain ⟨z, k, m, a, r, q⟩ := h.has hx
    exact c ⟨k, hk _ q _ _ _ _ _ _ rfl, by rw [← e]; exact own_iff.mpr ⟨_, _, _, _, q⟩⟩
theorem perm_of {xs ys : List Ent} (h : ∀ id, (ys.filter fun e => decide (e.id = id)) = xs.filter fun e => decide (e.id = id)) : ys.Perm xs := by
  rw [List.perm_iff_count]
  intro a
  have q : ∀ zs : List Ent, zs.count a = (zs.filter fun e => decide (e.id = a.id)).count a := fun zs => by
    rw [List.count_filter]
    exact decide_eq_true rfl
  rw [q ys, q xs, h]
theorem RowsOf.eq_of {S S' : Kn} {z k : Str} {a b : List T3} (ha : RowsOf S z k a) (hb : RowsOf S' z k b) (h : ∀ id, pick S z k id = pick S' z k id) : a = b := asc_ext ha.asc hb.asc fun t => by rw [ha.all, hb.all, h]
end Ash

set_option Elab.async false
set_option linter.all false
set_option maxRecDepth 100000
set_option maxHeartbeats 4000000
namespace L2
open PySem PySem.Spec PyProof.Rows
/-! ### sets of keys (ints, texts) that can be walked; sorted(set(xs)) -/
/-- the key that a value is -/
def vK : Value → Key
  | .int k _ => .inl k
  | .str x _ => .inr x
  | _ => .inl 0
theorem vK_of {k : Key} {v : Value} (r : RelV (kV k) v) : vK v = k := by
  cases k with
  | inl i =>
    obtain ⟨t, rfl⟩ := r
    rfl
  | inr x =>
    obtain ⟨t, rfl⟩ := r
    rfl
def GoodM (w : World) (e : Int × Value) : Prop := ∃ k, RelV (kV k) e.2 ∧ e.1 = keyH w k
def eK (e : Int × Value) : Key := vK e.2
/-- among the keys -/
def kIn (ks : List Key) (j : Key) : Bool := ks.any fun x => decide (x = j)
theorem kIn_iff {ks : List Key} {j : Key} : kIn ks j = true ↔ j ∈ ks := by
  unfold kIn
  rw [List.any_eq_true]
  constructor
  · rintro ⟨x, hx, e⟩
    rw [← of_decide_eq_true e]
    exact hx
  · intro h
    exact ⟨j, h, decide_eq_true rfl⟩
theorem kIn_next {ks : List Key} {i : Nat} {z : Key} (hz : ks[i]? = some z) (j : Key) : kIn (ks.take (i + 1)) j = (kIn (ks.take i) j || decide (j = z)) := by
  rw [List.take_add_one, hz]
  unfold kIn
  rw [List.any_append]
  congr 1
  by_cases c : j = z
  · subst c
    simp
  · have c' : ¬ z = j := fun q => c q.symm
    simp [c, c']
/-- the set at a: S its members, n their number; it can be walked -/
def SetM (w : World) (h : Heap) (a : Addr) (S : Key → Bool) (n : Nat) : Prop :=
  ∃ o es ep t, h.get? a = some o ∧ o.ExactSet ∧ o.data = .set es ep t ∧ (∀ e ∈ es.toList, GoodM w e) ∧ (es.toList.map eK).Nodup ∧ (∀ k, S k = true ↔ k ∈ es.toList.map eK) ∧
    es.size < scanBound ∧ t.fits es.size = true ∧ es.size = n ∧ Ris t.place.toList ∧ (w.params.followText "set-order" = true ∨ t.led = true)
section
variable {P : Program} {w : World} {h h' : Heap} {a : Addr} {S : Key → Bool} {n : Nat}
theorem SetM.at (R : SetM w h a S n) (k : ∀ o, h.get? a = some o → h'.get? a = some o) : SetM w h' a S n := by
  obtain ⟨o, es, ep, t, ho, r⟩ := R
  exact ⟨o, es, ep, t, k o ho, r⟩
theorem SetM.congr {S' : Key → Bool} (R : SetM w h a S n) (e : ∀ k, S' k = S k) : SetM w h a S' n := by
  rw [show S' = S from funext e]
  exact R
theorem goodM_elems {l : List (Int × Value)} (g : ∀ e ∈ l, GoodM w e) : ElemsOf (mixKind P w) l := fun e he => by
  obtain ⟨k, h1, h2⟩ := g e he
  exact ⟨⟨k, kV_is h1, h2⟩, key_scan h1⟩
theorem goodM_is {e : Int × Value} (g : GoodM w e) (k : Key) : (mixKind P w).is k e.2 = true ↔ eK e = k := by
  obtain ⟨k0, h1, _⟩ := g
  unfold eK
  rw [vK_of h1]
  constructor
  · intro q
    exact (mixKind P w).inj _ _ _ (kV_is h1) q
  · intro q
    rw [← q]
    exact kV_is h1
theorem goodM_mem {l : List (Int × Value)} (g : ∀ e ∈ l, GoodM w e) (k : Key) : k ∈ l.map eK ↔ ∃ e ∈ l, (mixKind P w).is k e.2 = true := by
  rw [List.mem_map]
  constructor
  · rintro ⟨e, he, q⟩
    exact ⟨e, he, (goodM_is (g e he) k).2 q⟩
  · rintro ⟨e, he, q⟩
    exact ⟨e, he, (goodM_is (g e he) k).1 q⟩
end
section
variable {P : Program} {w : World} {A : Around} {E : Value → Shared → Prop} {s : Shared} {a : Addr} {S : Key → Bool} {n : Nat}
theorem setM_tail {g : Bool → Sem Unit} (hg : ∀ (b : Bool) (s₁ : Shared) (Q' : Unit → Shared → Prop), Q' () s₁ → wpAny (model P w) A (g b) Q' E s₁)
    {o : Obj} {es : Array (Int × Value)} {ep : Nat} {t : SetTable} (ho : s.heap.get? a = some o) (hex : o.ExactSet) (hd : o.data = .set es ep t)
    {fs : Array (Int × Value)} {u : SetTable} {S' : Key → Bool} (gf : ∀ e ∈ fs.toList, GoodM w e) (nf : (fs.toList.map eK).Nodup) (mf : ∀ k, S' k = true ↔ k ∈ fs.toList.map eK)
    (bf : fs.size < scanBound) (ff : u.fits fs.size = true) (rf : Ris u.place.toList) (lf : w.params.followText "set-order" = true ∨ u.led = true) {wasDummy : Bool} {R : Option Bool → Shared → Prop}
    (hR : ∀ h', Heap.SameBut a s.heap h' → SetM w h' a S' fs.size → R (some true) { s with heap := h' }) :
    wpAny (model P w) A (do
        storeSet a fs u
        if (!wasDummy && u.tooFull) = true then do
            g (relayAll u fs (SetTable.grown fs.size)).2.2
            storeSet a (relayAll u fs (SetTable.grown fs.size)).1 (relayAll u fs (SetTable.grown fs.size)).2.1
            pure (some true)
          else pure (some true)) R E s := by
  refine wpAny_bind (wpAny_storeSet_of ho hd ?_ (fits_of_scanBound bf))
  have h1 := store_at (es' := fs) (t' := u) ho hd
  have b1 := Heap.SameBut.update s.heap a (Obj.putSet fs u)
  split
  · have pm := relayAll_perm u fs (SetTable.grown fs.size)
    have f2 := relayAll_fits u fs (SetTable.grown fs.size)
    have r2 := relayAll_ris u fs (SetTable.grown fs.size)
    have l2 := relayAll_led u fs (SetTable.grown fs.size)
    generalize relayAll u fs (SetTable.grown fs.size) = Z at pm f2 r2 l2 ⊢
    obtain ⟨gs, u2, gave⟩ := Z
    dsimp only at pm f2 r2 l2 ⊢
    have sz : gs.size = fs.size := by rw [← Array.length_toList, pm.length_eq, Array.length_toList]
    have bg : gs.size < scanBound := by rw [sz]; exact bf
    refine wpAny_bind (hg _ _ _ ?_)
    refine wpAny_bind (wpAny_storeSet_of h1 rfl ?_ (fits_of_scanBound bg))
    have h2 := store_at (es' := gs) (t' := u2) h1 rfl
    refine wpAny_pure (hR _ (b1.trans (Heap.SameBut.update _ a _)) ?_)
    exact ⟨_, gs, _, u2, h2, hex, rfl, fun e he => gf e (pm.mem_iff.mp he), (pm.map eK).nodup_iff.mpr nf, fun k => (mf k).trans (pm.map eK).mem_iff.symm, bg, f2, sz, r2, lf.imp id fun z => by rw [l2]; exact z⟩
  · exact wpAny_pure (hR _ b1 ⟨_, fs, _, u, h1, hex, rfl, gf, nf, mf, bf, ff, rfl, rf, lf⟩)
theorem setM_add {k : Key} {v : Value} {Q : Bool → Shared → Prop} (rv : RelV (kV k) v) (R : SetM w s.heap a S n) (room : n + 1 < scanBound)
    (hQ : ∀ h', Heap.SameBut a s.heap h' → SetM w h' a (fun j => S j || decide (j = k)) (if S k = true then n else n + 1) → Q (!S k) { s with heap := h' }) :
    wpAny (model P w) A (setAddHashed a v ((mixKind P w).hash k)) Q E s := by
  obtain ⟨o, es, ep, t, ho, hex, hd, g, nd, hm, hb, hf, hn, hr, hl⟩ := R
  have hkey : (mixKind P w).is k v = true := kV_is rv
  have hsc : v.scannable = true := key_scan rv
  have hel : ElemsOf (mixKind P w) es.toList := goodM_elems g
  unfold setAddHashed setAddHashedIn
  refine wpAny_holding (wpAny_bind (wpAny_setState_of ho hd hf ?_))
  dsimp only
  rw [byScan_of hsc hb hel]
  simp only [↓reduceIte]
  unfold setAddByScan
  refine wpAny_bind ?_
  refine wpAny_bind (wpAny_rule ?_)
  refine wpAny_bind (wpAny_setScan_of hkey ho hd hf hel ?_)
  cases hfi : List.findIdx? (fun e => (mixKind P w).is k e.2) es.toList with
  | some j =>
    dsimp only
    obtain ⟨hj, pj, _⟩ := List.findIdx?_eq_some_iff_getElem.mp hfi
    have hSk : S k = true := (hm k).2 ((goodM_mem (P := P) g k).2 ⟨es.toList[j], List.getElem_mem hj, pj⟩)
    refine wpAny_pure (wpAny_pure ?_)
    have q := hQ s.heap (Heap.SameBut.refl a s.heap) ⟨o, es, ep, t, ho, hex, hd, g, nd, fun i => by
      rw [Bool.or_eq_true, decide_eq_true_eq, ← hm i]
      exact ⟨fun z => z.elim id (fun e => e ▸ hSk), .inl⟩, hb, hf, by rw [if_pos hSk]; exact hn, hr, hl⟩
    rw [hSk] at q
    exact q
  | none =>
    dsimp only
    have hnk : k ∉ es.toList.map eK := fun z => by
      obtain ⟨e, he, q⟩ := (goodM_mem (P := P) (w := w) g k).1 z
      have c := List.findIdx?_eq_none_iff.mp hfi e he
      rw [q] at c
      cases c
    have hSk : S k = false := Bool.eq_false_iff.mpr fun q => hnk ((hm k).1 q)
    have hgw : ∀ (b : Bool) {s₁ : Shared} {Q' : Unit → Shared → Prop}, Q' () s₁ → wpAny (model P w) A (match b with | true => rule "set.scan.the-table-gave-way" | false => pure ()) Q' E s₁ :=
      fun b s₁ Q' q => by cases b <;> first | exact wpAny_pure q | exact wpAny_rule q
    have pm := layNew_perm t es ((mixKind P w).hash k) v
    have f1 := layNew_fits t es ((mixKind P w).hash k) v
    have r1 := layNew_ris t es ((mixKind P w).hash k) v hr
    have l1 := layNew_led t es ((mixKind P w).hash k) v
    generalize layNew t es ((mixKind P w).hash k) v = Z at pm f1 r1 l1 ⊢
    obtain ⟨fs, t1, wasDummy, gave⟩ := Z
    dsimp only at pm f1 r1 l1 ⊢
    rw [Array.toList_push] at pm
    have pc : fs.toList.Perm (((mixKind P w).hash k, v) :: es.toList) := pm.trans (List.perm_append_singleton _ _)
    have pk : (fs.toList.map eK).Perm (k :: es.toList.map eK) := by
      have z := pc.map eK
      rw [List.map_cons, show eK ((mixKind P w).hash k, v) = k from vK_of rv] at z
      exact z
    have gf : ∀ e ∈ fs.toList, GoodM w e := fun e he => by
      rcases List.mem_cons.mp (pc.mem_iff.mp he) with z | z
      · rw [z]
        exact ⟨k, rv, rfl⟩
      · exact g e z
    have nf : (fs.toList.map eK).Nodup := pk.nodup_iff.mpr (List.nodup_cons.mpr ⟨hnk, nd⟩)
    have mf : ∀ i, (S i || decide (i = k)) = true ↔ i ∈ fs.toList.map eK := fun i => by
      rw [Bool.or_eq_true, decide_eq_true_eq, hm i, pk.mem_iff, List.mem_cons]
      exact Or.comm
    have sz : fs.size = n + 1 := by rw [← Array.length_toList, pc.length_eq, List.length_cons, Array.length_toList, hn]
    have bf : fs.size < scanBound := by rw [sz]; exact room
    have lf : w.params.followText "set-order" = true ∨ t1.led = true := hl.imp id fun z => by rw [l1]; exact z
    have fin : ∀ h', Heap.SameBut a s.heap h' → SetM w h' a (fun j => S j || decide (j = k)) fs.size → Q true { s with heap := h' } := fun h' sb r => by
      have q := hQ h' sb
      rw [hSk] at q
      rw [sz] at r
      exact q r
    refine wpAny_bind (hgw _ ?_)
    split
    · refine wpAny_bind ?_
      rw [hashByValue_scannable 8 hsc]
      refine wpAny_pure ?_
      refine setM_tail ?_ ho hex hd gf nf mf bf ?_ ?_ ?_ ?_
      · intro b s₁ Q' q; cases b <;> first | exact wpAny_pure q | exact wpAny_rule q
      · first | (split <;> first | exact f1 | exact SetTable.fits_plain_off f1) | exact f1
      · first | (split <;> exact r1) | exact r1
      · first | (split <;> exact lf) | exact lf
      · intro h' sb r; dsimp only; exact wpAny_pure (fin h' sb r)
    · refine wpAny_bind (wpAny_pure ?_)
      simp only [↓reduceIte]
      refine setM_tail ?_ ho hex hd gf nf mf bf f1 r1 lf ?_
      · intro b s₁ Q' q; cases b <;> first | exact wpAny_pure q | exact wpAny_rule q
      · intro h' sb r; dsimp only; exact wpAny_pure (fin h' sb r)
theorem setM_new {h : Heap} {a : Addr} (ho : h.get? a = some { cls := .type "set", dict := none, data := .set #[] 0 (.fresh 0 0 (!w.params.followText "set-order")) }) : SetM w h a (fun _ => false) 0 :=
  ⟨_, #[], 0, _, ho, ⟨rfl, rfl, rfl⟩, rfl, (fun e he => by simp at he), (by simp), (fun k => by simp), (by decide), (by rfl), rfl, List.Pairwise.nil, by
    show _ ∨ (!w.params.followText "set-order") = true
    cases w.params.followText "set-order"
    · exact .inr rfl
    · exact .inl rfl⟩
theorem setM_update {I : Addr} {fp wr : List Addr} {G : Array GenState → Array GenState → Prop} {n : Nat} {Pv : Nat → Value → Prop} {St : Nat → Shared → Prop} {R : Result → Shared → Prop}
    (W : WalksS P w A.in1 I fp wr G n Pv St) (S : Addr) (hSf : S ∉ fp) (ks : List Key) (hn : n = ks.length) (hb : ks.length + 1 < scanBound) (hval : ∀ i v, Pv i v → ∃ k, ks[i]? = some k ∧ RelV (kV k) v) :
    ∀ (m i : Nat) (s : Shared), n - i = m → i ≤ n → St i s → (∃ c, c ≤ i ∧ SetM w s.heap S (kIn (ks.take i)) c) →
      (∀ s' c, Moved (S :: wr) G s s' → c ≤ n → SetM w s'.heap S (kIn ks) c → R (.ok (.ret .none)) s') →
      codeAny (model P w) A (.builtin "set.update.loop" ⟨[.ref S, .ref I], []⟩) R s := by
  have hSw : S ∉ wr := fun h => hSf (W.sub _ h)
  have sub : ∀ b ∈ wr, b ∈ S :: wr := fun b hb => List.mem_cons_of_mem _ hb
  intro m
  induction m with
  | zero =>
    intro i s hm hi hst ⟨c, hc, hS⟩ hR
    obtain rfl : i = n := by omega
    refine codeAny_builtin F.entry_set_update_loop ?_
    rw [Around.under_plainId F.plain_set_update_loop _]
    show wpAny _ A.in1 (pyNext (.ref I) >>= _) _ _ s
    refine wpAny_bind (W.done s _ _ hst fun s' mv => ?_)
    show wpAny _ A.in1 (ret Value.none) _ _ s'
    rw [List.take_of_length_le (show ks.length ≤ i by omega)] at hS
    exact wpAny_pure (hR s' c (mv.mono sub) hc (hS.at fun o e => mv.heap S o hSw e))
  | succ m ih =>
    intro i s hm hi hst ⟨c, hc, hS⟩ hR
    have hlt : i < n := by omega
    refine codeAny_builtin F.entry_set_update_loop ?_
    rw [Around.under_plainId F.plain_set_update_loop _]
    show wpAny _ A.in1 (pyNext (.ref I) >>= _) _ _ s
    refine wpAny_bind (W.item i s _ _ hlt hst fun v s' hP hst' mv => ?_)
    obtain ⟨z, hz, rz⟩ := hval i v hP
    have hS1 : SetM w s'.heap S (kIn (ks.take i)) c := hS.at fun o e => mv.heap S o hSw e
    show wpAny _ A.in1 (holding [v] (setAdd S v) >>= _) _ _ s'
    refine wpAny_bind (wpAny_holding ?_)
    unfold setAdd
    refine wpAny_holding ?_
    refine wpAny_bind ((mixKind P w).pyHash (k := z) (kV_is rz) ?_)
    refine setM_add (s := { s' with toks := s'.toks + 1 }) rz hS1 (by omega) fun h' sb hS2 => ?_
    have hS3 : SetM w h' S (kIn (ks.take (i + 1))) (if kIn (ks.take i) z = true then c else c + 1) := hS2.congr fun j => kIn_next hz j
    have hc3 : (if kIn (ks.take i) z = true then c else c + 1) ≤ i + 1 := by
      split <;> omega
    refine wpAny_pure ⟨plainId_quiet F.plain_set_update_loop _, ih (i + 1) _ (by omega) hlt (W.frame _ s' _ _ hst' (Nat.le_succ _) fun b hb o e => ?_) ⟨_, hc3, hS3⟩ fun s2 c2 mv2 hc2 hS4 => ?_⟩
    · rw [sb.2 b (fun h : b = S => hSf (by rw [← h]; exact hb))]
      exact e
    · refine hR s2 c2 (Moved.trans W.gtrans ((mv.mono sub).then_heap (Nat.le_succ _) fun b o hb e => ?_) mv2) hc2 hS4
      rw [sb.2 b (fun h : b = S => hb (by rw [h]; exact List.mem_cons_self))]
      exact e
end
end L2

set_option Elab.async false
set_option linter.all false
set_option maxRecDepth 100000
set_option maxHeartbeats 4000000
namespace L2
open PySem PySem.Spec PyProof.Rows
section
variable {P : Program} {w : World} {A : Around} {E : Value → Shared → Prop} {s : Shared}
/-- the empty set's object -/
abbrev noSet (w : World) : Obj := { cls := .type "set", dict := none, data := .set #[] 0 (.fresh 0 0 (!w.params.followText "set-order")) }
/-- set(xs) of a list of keys -/
theorem call_setL {l : Addr} {items : Array Value} (ks : List Key) {Q : Value → Shared → Prop} (hh : A.handled = none) (hl : s.heap.IsList l items) (hit : Vals (ks.map kV) items.toList) (hb : ks.length + 1 < scanBound)
    (h : ∀ (h' : Heap) (tk c : Nat), SetM w h' s.heap.objs.size (kIn ks) c → c ≤ ks.length → (∀ b o, s.heap.get? b = some o → h'.get? b = some o) → Q (.ref s.heap.objs.size) { s with heap := h', toks := tk }) :
    wpAny (model P w) A (call (.type "set") [.ref l]) Q E s := by
  have hisz : items.size = ks.length := by
    have q := hit.length
    have q2 : items.toList.length = items.size := Array.length_toList
    rw [List.length_map] at q
    omega
  obtain ⟨c, tl, hmro⟩ := F.called_set.mro
  have hmade := F.called_set.made
  have hsub := F.called_set.sub
  refine wpAny_call (codeAny_of_tree ?_)
  show wpAny _ _ (callAny (.type "set") _) _ _ _
  refine wpAny_pure ⟨Code.quiet_builtin _ (by decide +kernel), codeAny_builtin F.entry_type_call ?_⟩
  rw [Around.under_plain (weight_type_call_type "set" [.ref l] []) rfl]
  have h1 := F.called_set.notType
  have h2 := F.called_set.canCreate
  have hct := F.typeCall_set_1 (.ref l)
  repeat (any_goals (first | assumption | wp_step))
  refine codeAny_mono (code_set_led1 (.ref l) (E := E) (Q₁ := fun obj s₁ => obj = .ref s.heap.objs.size ∧ s₁ = { s with heap := s.heap.push (noSet w) }) ⟨rfl, rfl⟩) fun r s₁ hr => ?_
  cases r with
  | error e => exact hr
  | ok fl =>
    cases fl with
    | ret obj =>
      obtain ⟨rfl, rfl⟩ := hr
      have hS : (s.heap.push (noSet w)).get? s.heap.objs.size = some (noSet w) := Heap.get?_push_size _ rfl
      have hT : Shared.TypeIs { s with heap := s.heap.push (noSet w) } (.ref s.heap.objs.size) "set" := ⟨_, hS, rfl⟩
      have hli := F.called_set.init.lookup
      have hbi := F.called_set.init.bind (.ref s.heap.objs.size)
      repeat (any_goals (first | assumption | wp_step))
      refine codeAny_mono (codeAny_call_builtin (R := wants (fun r s₂ => r = .none ∧ ∃ h' tk c, s₂ = { s with heap := h', toks := tk } ∧ SetM w h' s.heap.objs.size (kIn ks) c ∧ c ≤ ks.length ∧
          (∀ b o, s.heap.get? b = some o → h'.get? b = some o)) E) F.called_set.init.plain F.entry_set_init (check_set_init_1 hT ?_)) fun r₂ s₂ hr₂ => ?_
      · obtain ⟨ol, hol, hcl, nl, hdl⟩ := hl
        obtain ⟨ocls, odict, odata, oslots⟩ := ol
        simp only at hcl hdl
        subst hcl; subst hdl
        have hol' : (s.heap.push (noSet w)).get? l = some { cls := .type "list", dict := odict, data := .seq items nl, slots := oslots } := Heap.get?_push_of_some _ hol
        have hsls := F.sub_list_set
        have hslf := F.sub_list_frozenset
        have hne : (Value.type "list" == Value.type "dict") = false := by decide
        have hl1 : (s.heap.push (noSet w)).IsList l items := ⟨_, hol', rfl, nl, rfl⟩
        unfold Builtin.«set.__init__» noKeywords Builtin.Frozenset.updateFrom
        generalize hPI : pyIter = PI
        wp_walk
        subst hPI
        refine wpAny_pyIter_list hl1 ?_
        refine wpAny_bind (wpAny_runValue ?_)
        have hlS : l < s.heap.objs.size := Heap.lt_size hol
        have hh3 : A.in1.in1.in1.handled = none := by simp [hh]
        have hneI : l ≠ (s.heap.push (noSet w)).objs.size := by
          rw [Heap.size_push]
          exact Nat.ne_of_lt (Nat.lt_succ_of_lt hlS)
        have hSf : s.heap.objs.size ∉ [(s.heap.push (noSet w)).objs.size, l] := by
          rw [Heap.size_push]
          simp only [List.mem_cons, List.mem_singleton, List.not_mem_nil, or_false, not_or]
          exact ⟨Nat.ne_of_lt (Nat.lt_succ_self _), Nat.ne_of_gt hlS⟩
        have hval : ∀ (i : Nat) (v : Value), items[i]? = some v → ∃ k, ks[i]? = some k ∧ RelV (kV k) v := fun i v hv => by
          have hi : i < ks.length := by rw [← hisz]; exact (Array.getElem?_eq_some_iff.mp hv).1
          have e : (ks.map kV)[i]? = some (kV ks[i]) := by rw [List.getElem?_map, List.getElem?_eq_getElem hi]; rfl
          obtain ⟨u, hu, ru⟩ := hit.get e
          rw [Array.getElem?_toList, hv] at hu
          cases hu
          exact ⟨_, List.getElem?_eq_getElem hi, ru⟩
        refine setM_update ((Walks.list hh3 _ l hneI items).toS) s.heap.objs.size hSf ks hisz hb hval (items.size - 0) 0 _ (by omega) (Nat.zero_le _) ⟨⟨_, Heap.get?_push_size _ rfl, rfl, rfl⟩, (hl1.push _)⟩ ?hS0 ?hR
        case hS0 =>
          have hget : ((s.heap.push (noSet w)).push { cls := .type "list_iterator", data := .fields #[.ref l, .int 0 0] }).get? s.heap.objs.size = some (noSet w) := Heap.get?_push_of_some _ hS
          exact ⟨0, Nat.le_refl 0, (setM_new hget).congr fun k => rfl⟩
        case hR =>
          intro s' c' hm hc' hS'
          obtain ⟨h', g2, d', tk', os'⟩ := s'
          have eg : g2 = s.gens := hm.gens
          have ed : d' = s.drawn := hm.drawn
          have eo : os' = s.os := hm.os
          subst eg; subst ed; subst eo
          show wpAny _ _ _ _ _ _
          refine wpAny_pure ?_
          show wpAny _ _ (ret Value.none) _ _ _
          rw [hisz] at hc'
          refine wpAny_pure ⟨rfl, h', tk', c', rfl, hS', hc', fun b o e => ?_⟩
          have hb0 : b < s.heap.objs.size := Heap.lt_size e
          have hb1 : b ≠ s.heap.objs.size := Nat.ne_of_lt hb0
          have hb2 : b ≠ (s.heap.push (noSet w)).objs.size := by
            rw [Heap.size_push]
            exact Nat.ne_of_lt (Nat.lt_succ_of_lt hb0)
          exact hm.heap b o (by simp only [List.mem_cons, List.mem_singleton, List.not_mem_nil, or_false, not_or]; exact ⟨hb1, hb2⟩) (Heap.get?_push_of_some _ (Heap.get?_push_of_some _ e))
      · cases r₂ with
        | error e => exact hr₂
        | ok fl₂ =>
          cases fl₂ with
          | ret r =>
            obtain ⟨rfl, h', tk, c', rfl, hS', hc', hk'⟩ := hr₂
            repeat (any_goals (first | assumption | wp_step))
            exact h _ _ _ hS' hc' hk'
          | _ => exact hr₂.elim
    | _ => exact hr.elim
/-- sorted(set), any kind of keys -/
theorem sorted_setG {κ : PyProof.Rows.KeyKind} (hO : κ.OneLt) {a : Addr} {S : Key → Bool} {n : Nat} {Q : Value → Shared → Prop} (R : SetM w s.heap a S n) (hh : A.handled = none)
    (hK : ∀ vs : List Value, (∀ v ∈ vs, ∃ k, S k = true ∧ RelV (kV k) v) → KeysOf κ (pairsOf vs) ∧ ∀ v₁ v₂ rest, vs = v₁ :: v₂ :: rest → keyKind' (v₁ :: v₂ :: rest).toArray = pure oneType')
    (hQ : ∀ s' p (vs : List Value) (st' : SortSt) (c : Nat), (∀ b o, s.heap.get? b = some o → s'.heap.get? b = some o) → s'.gens = s.gens → s'.os = s.os → s.heap.objs.size ≤ p → s'.heap.get? p = some (seqObj "list" ((arrOf st').map (·.2)) c) →
      (∀ v ∈ vs, ∃ k, S k = true ∧ RelV (kV k) v) → (vs.map vK).Nodup → (∀ k, S k = true ↔ k ∈ vs.map vK) → vs.length = n → (arrOf st').Perm (pairsOf vs) → SortedToK κ (arrOf st') (pairsOf vs).size → Q (.ref p) s') :
    wpAny (model P w) A (call (.builtin "sorted") [.ref a]) Q E s := by
  obtain ⟨o, es, ep, t, ho, hex, hd, g, nd, hm, hb, hf, hn, hr, hl⟩ := R
  refine Calls.call_function_entry kind_sorted plain_sorted entry_sorted (args_sorted1 _) ?_
  unfold Builtin.«sorted»
  refine wpAny_bind (m := checkCount "sorted" 1 1 _) (wpAny_pure ?_)
  refine wpAny_bind (collect_set (A := A.in1) hh ⟨o, ho, hex.1, hd⟩ hf hb hr hl fun s1 vs k1 hz g1 o1 pm => ?_)
  have hvl : vs.length = n := by rw [pm.length_eq, List.length_map, Array.length_toList]; exact hn
  have ev : (es.toList.map (·.2)).map vK = es.toList.map eK := by rw [List.map_map]; rfl
  have pk : (vs.map vK).Perm (es.toList.map eK) := by rw [← ev]; exact pm.map vK
  have hv : ∀ v ∈ vs, ∃ k, S k = true ∧ RelV (kV k) v := fun v hv => by
    obtain ⟨e, he, rfl⟩ := List.mem_map.mp (pm.mem_iff.mp hv)
    obtain ⟨k, h1, _⟩ := g e he
    exact ⟨k, (hm k).2 (List.mem_map.mpr ⟨e, he, vK_of h1⟩), h1⟩
  have hn2 : vs.length ≤ sizeLine := by rw [hvl, ← hn]; exact fits_of_scanBound hb
  refine wpAny_bind (wpAny_newList ?_ hn2)
  have hoL : (s1.heap.push (seqObj "list" vs.toArray 0)).get? s1.heap.objs.size = some (seqObj "list" vs.toArray 0) := Heap.get?_push_size _ rfl
  obtain ⟨q1, q2⟩ := hK vs hv
  refine wpAny_bind (wpAny_holding (wpAny_call_entry slot_list_sort ⟨_, hoL, rfl⟩ entry_list_sort (list_sort_treeKAny hO hoL q1 q2 hn2 fun st' a1 a2 => ⟨_, rfl, ?_⟩) (args_list_sort _)))
  obtain ⟨c, hc⟩ := sortedHeap_at (vs := vs) (out := (arrOf st').map (·.2)) hoL
  refine wpAny_pure ⟨_, rfl, hQ _ s1.heap.objs.size vs st' c (fun b u e => ?_) g1 o1 hz hc hv (pk.nodup_iff.mpr nd) (fun k => by rw [pk.mem_iff, ← hm k]) hvl a1 a2⟩
  have q := k1 b u e
  have hlt := Heap.lt_size q
  show (sortedHeap (s1.heap.push (seqObj "list" vs.toArray 0)) s1.heap.objs.size vs ((arrOf st').map (·.2))).get? b = some u
  rw [sortedHeap_old (Nat.ne_of_lt hlt) (by rw [size_push']; exact Nat.lt_succ_of_lt hlt)]
  exact Heap.get?_push_of_some _ q
end
/-- texts, strictly ascending -/
theorem strs_of_keys : ∀ {vs : List Value}, (∀ v ∈ vs, ∃ x : Str, RelV (.str x) v) → ∃ ss : List Str, StrsAre vs ss ∧ vs.map vK = ss.map Sum.inr
  | [], _ => ⟨[], .nil, rfl⟩
  | v :: vs, h => by
    obtain ⟨ss, h1, h2⟩ := strs_of_keys (vs := vs) fun u hu => h u (List.mem_cons_of_mem _ hu)
    obtain ⟨x, t, rfl⟩ := h v List.mem_cons_self
    exact ⟨x :: ss, .cons x t h1, by rw [List.map_cons, h2]; rfl⟩
theorem ints_of_keys : ∀ {vs : List Value}, (∀ v ∈ vs, ∃ x : Int, RelV (.int x) v) → ∃ ss : List Int, IntsAre vs ss ∧ vs.map vK = ss.map Sum.inl
  | [], _ => ⟨[], .nil, rfl⟩
  | v :: vs, h => by
    obtain ⟨ss, h1, h2⟩ := ints_of_keys (vs := vs) fun u hu => h u (List.mem_cons_of_mem _ hu)
    obtain ⟨x, t, rfl⟩ := h v List.mem_cons_self
    exact ⟨x :: ss, .cons x t h1, by rw [List.map_cons, h2]; rfl⟩
/-- the set of keys at a, that can be walked -/
def SetMO (w : World) (a : Addr) (S : Key → Bool) (n : Nat) : HO := .ext fun h => SetM w h a S n
section
variable {X : Cx}
theorem setMO_new {w : World} {P : Program} {H : Hp} {h : Heap} {a : Addr} {S : Key → Bool} {n : Nat} (R : SetM w h a S n) : ObjOk P w H h a (SetMO w a S n) := by
  have ⟨o, _, _, _, ho, _⟩ := R
  exact ⟨R, ⟨o, ho⟩, fun h1 h2 p k => SetM.at p k⟩
/-- set(xs), xs a list of ints or texts -/
def rSetLs (K : PySem.W.Frag) (w : World) : List V → Hp → VK → Prop := fun xs H Q => ∃ (l : Addr) (ks : List Key), xs = [V.ref l] ∧ SqL K H l (ks.map kV) ∧ ks.length ≤ 1000 ∧ ∀ p n, H p = none → n ≤ ks.length → Q (.ref p) (upd H p (SetMO w p (kIn ks) n))
theorem cr_setL (hc : X.calm = true) : CallR X (.type "set") (rSetLs X.K X.w) := by
  intro pins s σ H xs us Q I r h
  obtain ⟨l, ks, rfl, hl, hk, q⟩ := h
  rw [Vals.ref1 r]
  obtain ⟨its, rv, pl, hz⟩ := I.list hl
  have hn : H s.heap.objs.size = none := I.hok.fresh (Nat.le_refl _)
  refine call_setL (P := X.prog) (w := X.w) ks (I.ok.hd hc) pl.isList (by simpa using rv) (by unfold scanBound; omega) fun h' tk c R hcn k => ?_
  exact ⟨.ref s.heap.objs.size, upd H s.heap.objs.size (SetMO X.w s.heap.objs.size (kIn ks) c), I.laid (t' := tk) k (Nat.le_refl _) (setMO_new R), rfl, q _ c hn hcn⟩
/-- sorted(set) -/
def rSortM (w : World) : List V → Hp → VK → Prop := fun vs H Q => ∃ (a : Addr) (S : Key → Bool) (n : Nat), vs = [V.ref a] ∧ H a = some (SetMO w a S n) ∧
  ((∃ xs : List Str, (∀ k, S k = true ↔ k ∈ xs.map (Sum.inr : Str → Key)) ∧ ∀ (ys : List Str) (p : Addr), H p = none → ys.Nodup → (∀ z, z ∈ ys ↔ z ∈ xs) → sortedS ys = true → ys.length = n → Q (.ref p) (upd H p (.lst (ys.map V.str)))) ∨
   (∃ xs : List Int, (∀ k, S k = true ↔ k ∈ xs.map (Sum.inl : Int → Key)) ∧ ∀ (ys : List Int) (p : Addr), H p = none → ys.Pairwise (· < ·) → (∀ z, z ∈ ys ↔ z ∈ xs) → ys.length = n → Q (.ref p) (upd H p (.lst (ys.map V.int)))))
theorem nodup_inj {α β : Type} {f : α → β} {l : List α} (h : (l.map f).Nodup) : l.Nodup := List.Pairwise.of_map f (fun _ _ hne e => hne (congrArg f e)) h
theorem cr_sortM (hc : X.calm = true) : CallR X (.builtin "sorted") (rSortM X.w) := by
  intro pins s σ H vs us Q I r h
  obtain ⟨a, S, n, rfl, ha, h⟩ := h
  have R : SetM X.w s.heap a S n := (I.hok a _ ha).1
  have nz : n ≤ sizeLine := by
    obtain ⟨o, es, ep, t, _, _, _, _, _, _, hb, _, hn, _⟩ := R
    rw [← hn]
    exact fits_of_scanBound hb
  rw [Vals.ref1 r]
  rcases h with ⟨xs, hx, q⟩ | ⟨xs, hx, q⟩
  · have hstr : ∀ vs : List Value, (∀ v ∈ vs, ∃ k, S k = true ∧ RelV (kV k) v) → ∃ ss : List Str, StrsAre vs ss ∧ vs.map vK = ss.map Sum.inr := fun vs hv => strs_of_keys fun v hm => by
      obtain ⟨k, h1, h2⟩ := hv v hm
      obtain ⟨x, _, rfl⟩ := List.mem_map.mp ((hx k).1 h1)
      exact ⟨x, h2⟩
    refine sorted_setG strKind_oneLt R (I.ok.hd hc) (fun vs hv => ?_) fun s' p vs st' c k g o hp hg hv nd hm hl a1 a2 => ?_
    · obtain ⟨ss, h1, _⟩ := hstr vs hv
      exact ⟨h1.keysOf, fun v₁ v₂ rest e => keyKind_strs (by rw [← e]; exact h1)⟩
    · obtain ⟨ss, h1, h2⟩ := hstr vs hv
      obtain ⟨ys, b1, b2, b3⟩ := sorted_out_str h1 a1 a2
      have ln : ys.length = n := by
        rw [b2.length_eq, ← hl]
        have z := congrArg List.length h2
        rw [List.length_map, List.length_map] at z
        exact z.symm
      have hlen : (ys.map V.str).length ≤ sizeLine := by rw [List.length_map, ln]; exact nz
      have hn : H p = none := I.hok.fresh hp
      have J : Inv X pins σ (upd H p (.lst (ys.map V.str))) { s with heap := s'.heap, gens := s'.gens, drawn := s'.drawn, toks := s'.toks } :=
        I.call (ch := []) (Un.laid k hp hn) (I.hok.laid k hp ⟨hlen, _, c, vals_of_strs b1, hg⟩) (by rw [g]; exact I.bare) (fun _ z => nomatch z)
      have e : s' = { s with heap := s'.heap, gens := s'.gens, drawn := s'.drawn, toks := s'.toks } := by
        cases s'
        cases s
        cases o
        rfl
      rw [e]
      rw [h2] at nd
      refine ⟨.ref p, _, J, rfl, q ys p hn (b2.nodup_iff.mpr (nodup_inj nd)) (fun z => ?_) b3 ln⟩
      have e1 := hm (Sum.inr z)
      rw [h2] at e1
      have e2 := hx (Sum.inr z)
      have inj : ∀ l : List Str, (Sum.inr z : Key) ∈ l.map Sum.inr ↔ z ∈ l := fun l => by simp
      rw [inj] at e1 e2
      rw [b2.mem_iff, ← e1, e2]
  · have hint : ∀ vs : List Value, (∀ v ∈ vs, ∃ k, S k = true ∧ RelV (kV k) v) → ∃ ss : List Int, IntsAre vs ss ∧ vs.map vK = ss.map Sum.inl := fun vs hv => ints_of_keys fun v hm => by
      obtain ⟨k, h1, h2⟩ := hv v hm
      obtain ⟨x, _, rfl⟩ := List.mem_map.mp ((hx k).1 h1)
      exact ⟨x, h2⟩
    refine sorted_setG PyProof.Rows.intKind_oneLt R (I.ok.hd hc) (fun vs hv => ?_) fun s' p vs st' c k g o hp hg hv nd hm hl a1 a2 => ?_
    · obtain ⟨ss, h1, _⟩ := hint vs hv
      exact ⟨h1.keysOfInt, fun v₁ v₂ rest e => keyKind_ints (by rw [← e]; exact h1)⟩
    · obtain ⟨ss, h1, h2⟩ := hint vs hv
      obtain ⟨ys, b1, b2, b3⟩ := sorted_out h1 a1 (sortedTo_of_int a2)
      have ln : ys.length = n := by
        rw [b2.length_eq, ← hl]
        have z := congrArg List.length h2
        rw [List.length_map, List.length_map] at z
        exact z.symm
      have hlen : (ys.map V.int).length ≤ sizeLine := by rw [List.length_map, ln]; exact nz
      have hn : H p = none := I.hok.fresh hp
      have J : Inv X pins σ (upd H p (.lst (ys.map V.int))) { s with heap := s'.heap, gens := s'.gens, drawn := s'.drawn, toks := s'.toks } :=
        I.call (ch := []) (Un.laid k hp hn) (I.hok.laid k hp ⟨hlen, _, c, vals_of_ints b1, hg⟩) (by rw [g]; exact I.bare) (fun _ z => nomatch z)
      have e : s' = { s with heap := s'.heap, gens := s'.gens, drawn := s'.drawn, toks := s'.toks } := by
        cases s'
        cases s
        cases o
        rfl
      rw [e]
      rw [h2] at nd
      refine ⟨.ref p, _, J, rfl, q ys p hn (lt_of_le_nodup ys b3 (b2.nodup_iff.mpr (nodup_inj nd))) (fun z => ?_) ln⟩
      have e1 := hm (Sum.inl z)
      rw [h2] at e1
      have e2 := hx (Sum.inl z)
      have inj : ∀ l : List Int, (Sum.inl z : Key) ∈ l.map Sum.inl ↔ z ∈ l := fun l => by simp
      rw [inj] at e1 e2
      rw [b2.mem_iff, ← e1, e2]
end
end L2

set_option Elab.async false
set_option linter.all false
set_option maxRecDepth 100000
set_option maxHeartbeats 4000000
namespace L2
open PySem PySem.Spec PyProof.Rows
section
variable {X : Cx} {n : Nat} {CX : CXT} {C f : Addr} {fd : FuncData} {ps : List Str} {sp : Sp} {E : XK}
/-- x op y of two instances of one class, with an own method for it -/
def rOwnOp (C : Addr) (sp : Sp) (E : XK) : R2 := fun x y H Q => ∃ a b dx dy fs gs, x = .ref a ∧ y = .ref b ∧ H a = some (.ins C dx fs) ∧ H b = some (.ins C dy gs) ∧ sp [x, y] H Q E
theorem op_own {op : Operator} (hc : PySem.W.selfFirst X.K C = true) (hs : PySem.W.findIn X.K (.ref C) (PySem.dunder op.info.2) = some (some (.ref f))) (hf : PySem.W.isFn X.K (.ref f) = true)
    (F : FnOk X.prog X.w X.K X.mg X.base CX n f fd ps sp) (hb : Binds X.K fd ps []) (hx : Passes CX X E) (hr : Room n X.A) : OpR X (binaryOp op) (rOwnOp C sp E) := by
  intro pins s σ H x y v u Q I rx ry hq
  obtain ⟨a, b, dx, dy, fs, gs, rfl, rfl, ha, hb', hsp⟩ := hq
  cases rx
  cases ry
  obtain ⟨mA, J, _⟩ := ins_get I.hok ha
  obtain ⟨mB, J', _⟩ := ins_get I.hok hb'
  obtain ⟨od, J, _⟩ := J.look
  obtain ⟨od', J', _⟩ := J'.look
  obtain ⟨m, Fm⟩ := I.fr
  refine PySem.W.binop_K Fm I.ok.mod.kin J J'.type hc hs hf (wpAny_mono (run_fn (us := [.ref a, .ref b]) (vs := [.ref a, .ref b]) F hr hb .nil hx I (.cons rfl (.cons rfl .nil)) hsp) (fun z s' hz => ?_) fun _ _ e => e)
  obtain ⟨zv, H', I', rz, q⟩ := hz
  exact SlX.cmpback rz ⟨zv, H', I', rz, q⟩
end
end L2

set_option Elab.async false
set_option linter.all false
set_option maxRecDepth 100000
set_option maxHeartbeats 4000000
namespace L2
open PySem PySem.Spec PyProof.Rows
section
variable {X : Cx} {n : Nat} {CX : CXT} {C f : Addr} {fd : FuncData} {ps : List Str} {sp : Sp} {E : XK}
/-- x == y of two instances of one class by an own __eq__, whatever it says -/
theorem op_eqO (hs : PySem.W.findIn X.K (.ref C) "__eq__" = some (some (.ref f))) (hf : PySem.W.isFn X.K (.ref f) = true)
    (F : FnOk X.prog X.w X.K X.mg X.base CX n f fd ps sp) (hb : Binds X.K fd ps []) (hx : Passes CX X E) (hr : Room n X.A) : OpR X (compareOp .Eq) (rOwnOp C sp E) := by
  intro pins s σ H x y v u Q I rx ry hq
  obtain ⟨a, b, dx, dy, fs, gs, rfl, rfl, ha, hb', hsp⟩ := hq
  cases rx
  cases ry
  obtain ⟨mA, J, _⟩ := ins_get I.hok ha
  obtain ⟨mB, J', _⟩ := ins_get I.hok hb'
  obtain ⟨od, J, _⟩ := J.look
  obtain ⟨od', J', _⟩ := J'.look
  obtain ⟨m, Fm⟩ := I.fr
  refine PySem.W.cmp_K (op := .Eq) (tb := .ref C) hr.units0 Fm I.ok.mod.kin J J'.type (by simp [PySem.W.notFirst]) hs hf (wpAny_mono (run_fn (us := [.ref a, .ref b]) (vs := [.ref a, .ref b]) F hr hb .nil hx I (.cons rfl (.cons rfl .nil)) hsp) (fun z s' hz => ?_) fun _ _ e => e)
  obtain ⟨zv, H', I', rz, q⟩ := hz
  exact SlX.cmpback rz ⟨zv, H', I', rz, q⟩
end
end L2

set_option Elab.async false
set_option linter.all false
set_option maxRecDepth 100000
set_option maxHeartbeats 4000000
namespace L2
open PySem PySem.Spec PyProof.Rows
/-! ### sorted(d) of a dict whose keys are ints -/
section
variable {prog : Program} {w : World} {A : Around} {E : Value → Shared → Prop} {s : Shared} {T : String} {r d : Addr} {n : Nat} {P : Nat → Value → Prop} {OK : Heap → Prop}
/-- collect over a source of KdlSrc: the heap has grown -/
theorem collect_grown {R : List Value → Shared → Prop} (K : PySem.W.KdlSrc prog w T r d n P OK) (hh : A.handled = none) (hok : OK s.heap) (hn : n ≤ sizeLine)
    (h : ∀ (h' : Heap) (tk : Nat) (acc : Array Value), (∀ b o, s.heap.get? b = some o → h'.get? b = some o) → s.heap.objs.size ≤ h'.objs.size → ItemsOf P acc n → R acc.toList { s with heap := h', toks := tk }) :
    wpAny (model prog w) A (collect (.ref r)) R E s := by
  obtain ⟨lr, ld⟩ := K.there _ hok
  obtain ⟨o1, e1⟩ : ∃ o1 : Obj, o1 = { cls := .type "list", data := .seq ([] : List Value).toArray } := ⟨_, rfl⟩
  have at1 : (s.heap.push o1).get? s.heap.objs.size = some o1 := by rw [e1]; exact Heap.get?_push_size _ rfl
  have old : ∀ b o, s.heap.get? b = some o → (s.heap.push o1).get? b = some o := fun b o e => Heap.get?_push_of_some _ e
  let Rz : Result → Shared → Prop := fun q s' => q = .ok (.ret (.ref s.heap.objs.size)) ∧ ∃ (h' : Heap) (tk : Nat) (acc : Array Value) (c : Nat), s' = { s with heap := h', toks := tk } ∧ (∀ b o, s.heap.get? b = some o → h'.get? b = some o) ∧ h'.get? s.heap.objs.size = some { cls := .type "list", dict := none, data := .seq acc c, slots := #[] } ∧ ItemsOf P acc n
  unfold collect
  refine wpAny_bind (wpAny_runValue (codeAny_builtin entry_proto_collect' ?_))
  rw [Around.under_plainId PySem.F.plain_proto_collect _]
  refine wpAny_bind (wpAny_newObj_type ?_)
  refine wpAny_pure ⟨plainId_quiet PySem.F.plain_list_iadd _, codeAny_builtin entry_list_iadd' ?_⟩
  rw [Around.under_plainId PySem.F.plain_list_iadd _]
  subst e1
  have go := PySem.W.kdl_extend (A := A) (s := { s with heap := s.heap.push { cls := .type "list", data := .seq ([] : List Value).toArray } }) (R := Rz) K hh (K.keep _ _ hok fun b _ o e => old b o e) s.heap.objs.size (Nat.ne_of_gt lr) (Nat.ne_of_gt ld) (.ref s.heap.objs.size) 0 at1
    (fun h' tk acc c k e i => ⟨rfl, h', tk, acc, c, rfl, fun b o eb => k b o (Nat.ne_of_lt (Heap.lt_size eb)) (old b o eb), e, i⟩) hn
  refine wpAny_mono go (fun f s' x => ?_) fun e s' x => (nomatch x.1)
  cases f with
  | done f =>
    obtain ⟨e, h', tk, acc, c, rfl, k, e2, i⟩ := x
    cases e
    exact wpAny_bind (wpAny_load e2 (wpAny_pure (h h' tk acc k (Nat.le_of_lt (Heap.lt_size e2)) i)))
  | again c1 =>
    refine ⟨x.1, codeAny_mono x.2 fun q s2 y => ?_⟩
    obtain ⟨rfl, h', tk, acc, c, rfl, k, e2, i⟩ := y
    exact wpAny_bind (wpAny_load e2 (wpAny_pure (h h' tk acc k (Nat.le_of_lt (Heap.lt_size e2)) i)))
end
section
variable {X : Cx}
def rSortD : List V → Hp → VK → Prop := fun vs H Q => ∃ (a : Addr) (kvs : List (Key × V)) (ks : List Int), vs = [.ref a] ∧ Rd H a (.dK kvs) ∧ kvs.map (·.1) = ks.map Sum.inl ∧
  ∀ (ys : List Int) (p : Addr), H p = none → ys.Pairwise (· ≤ ·) → ys.Perm ks → Q (.ref p) (upd H p (.lst (ys.map V.int)))
theorem cr_sortD (hc : X.calm = true) : CallR X (.builtin "sorted") rSortD := by
  intro pins s σ H xs us Q I r q
  obtain ⟨a, kvs, ks, ex, hd, hk, q⟩ := q
  subst ex
  obtain ⟨u, eu, rx⟩ := vals1 r
  subst eu
  cases rx
  obtain ⟨z, lo, vs, rel, dd⟩ := dk_rd I.hok hd
  obtain ⟨ep, hat⟩ := dd.dictAt
  have ek : (kvs.map fun kv => kV kv.1) = vs.map fun p => kV p.1 := by
    have e := congrArg (List.map kV) rel.keys
    rw [List.map_map, List.map_map] at e
    exact e
  have ei : (kvs.map fun kv => kV kv.1) = ks.map V.int := by
    have e := congrArg (List.map kV) hk
    rw [List.map_map, List.map_map] at e
    exact e
  refine PySem.Calls.call_function_entry kind_sorted plain_sorted entry_sorted (args_sorted1 _) ?_
  unfold Builtin.«sorted»
  refine wpAny_bind (m := checkCount "sorted" 1 1 _) (wpAny_pure ?_)
  refine wpAny_bind (collect_grown (A := X.A.in1) (PySem.W.kdl_dict (knd := mixKind X.prog X.w) (kvs := vs) (ep := ep) lo) (by have := I.ok.hd hc; simpa using this) hat (by rw [← rel.length]; exact z) fun h' tk acc hk' hp hacc => ?_)
  have hv : Vals (vs.map fun p => kV p.1) acc.toList := keys_at (by rw [Array.length_toList]; exact hacc.1) fun j v e => hacc.2 j v (by rw [← Array.getElem?_toList]; exact e)
  rw [← ek, ei] at hv
  have h1 : IntsAre acc.toList ks := Vals.ints hv
  have hn2 : acc.toList.length ≤ sizeLine := by
    have := hv.length
    rw [List.length_map] at this
    have e2 := congrArg List.length hk
    rw [List.length_map, List.length_map] at e2
    omega
  refine wpAny_bind (wpAny_newList ?_ hn2)
  have hoL : (h'.push (seqObj "list" acc.toList.toArray 0)).get? h'.objs.size = some (seqObj "list" acc.toList.toArray 0) := Heap.get?_push_size _ rfl
  refine wpAny_bind (wpAny_holding (wpAny_call_entry slot_list_sort ⟨_, hoL, rfl⟩ entry_list_sort (list_sort_treeKAny PyProof.Rows.intKind_oneLt hoL h1.keysOfInt (fun v₁ v₂ rest e => keyKind_ints (by rw [← e]; exact h1)) hn2 fun st' a1 a2 => ⟨_, rfl, ?_⟩) (args_list_sort _)))
  obtain ⟨c, hc'⟩ := sortedHeap_at (vs := acc.toList) (out := (arrOf st').map (·.2)) hoL
  obtain ⟨ys, b1, b2, b3⟩ := sorted_out h1 a1 (sortedTo_of_int a2)
  refine wpAny_pure ⟨_, rfl, ?_⟩
  have hold : ∀ b o, s.heap.get? b = some o → (sortedHeap (h'.push (seqObj "list" acc.toList.toArray 0)) h'.objs.size acc.toList ((arrOf st').map (·.2))).get? b = some o := fun b o e => by
    have q := hk' b o e
    have hlt := Heap.lt_size q
    rw [sortedHeap_old (Nat.ne_of_lt hlt) (by rw [size_push']; exact Nat.lt_succ_of_lt hlt)]
    exact Heap.get?_push_of_some _ q
  have hn : H h'.objs.size = none := I.hok.fresh hp
  have hlen : (ys.map V.int).length ≤ sizeLine := by
    have := b2.length_eq
    have e2 := h1.length
    rw [List.length_map]
    omega
  refine ⟨.ref h'.objs.size, upd H h'.objs.size (.lst (ys.map V.int)), I.laid (t' := _) hold hp ⟨hlen, _, c, vals_of_ints b1, hc'⟩, rfl, q ys h'.objs.size hn b3 b2⟩
end
end L2

set_option Elab.async false
set_option linter.all false
set_option maxRecDepth 100000
set_option maxHeartbeats 4000000
namespace Ash
open PySem PySem.Spec PyProof.Rows L2
open SrtT (T3 lex3 lex3_iff lex3_no)
open C8 (pss_cut)
theorem JAt.ins {K : PySem.W.Frag} {aT CJ CB : Addr} {H : Hp} {j b : Addr} {L : List (Str × Int)} {us : List V} {xs : List Ent} (h : JAt K aT CJ CB H j b L us xs) : ∃ dx t kd, H j = some (.ins CJ dx (jf b t kd)) := by
  obtain ⟨dx, t, kd, h1, _⟩ := h
  exact ⟨dx, t, kd, h1⟩
theorem JAt.len {K : PySem.W.Frag} {aT CJ CB : Addr} {H : Hp} {j b : Addr} {L : List (Str × Int)} {us : List V} {xs : List Ent} (h : JAt K aT CJ CB H j b L us xs) : us.length = xs.length := h.es.1.1
def NL (H H' : Hp) : Prop := ∀ c o, H c = some o → (∀ xs, o ≠ .lst xs) → H' c = some o
theorem NL.trans {H H1 H2 : Hp} (a : NL H H1) (b : NL H1 H2) : NL H H2 := fun c o h n => b c o (a c o h n) n
theorem nl_same {H H' : Hp} (s : Same H H') : NL H H' := fun c o h _ => s c o h
theorem PoolAt.lst' {H : Hp} {p s : Addr} (h : PoolAt H p s) : ∃ xs, H p = some (.lst xs) := by
  obtain ⟨ns, i, c, k, n, h1, _⟩ := h
  exact ⟨_, h1⟩
theorem Pl.nl {H H' : Hp} {p s : Addr} (P : Pl H H' p s) (P0 : PoolAt H p s) : NL H H' := fun c o h n => P.keep h (fun z => by
  obtain ⟨xs, hx⟩ := P0.lst'
  rw [z, hx] at h
  exact n xs (Option.some.inj h).symm)
theorem NL.tk {H H' : Hp} (a : NL H H') : TK H H' := fun t xs h => a _ _ h (fun _ z => nomatch z)
theorem JAt.fr {K : PySem.W.Frag} {aT CJ CB : Addr} {H H' : Hp} {j b : Addr} {L : List (Str × Int)} {us : List V} {xs : List Ent} (h : JAt K aT CJ CB H j b L us xs)
    (n : ∀ c o, H c = some o → (∀ xs, o ≠ .lst xs) → (∀ kvs, o ≠ .dK kvs) → H' c = some o) (hb : ∀ d L', H d = some (.dK (LK L')) → (∃ dx, H b = some (.ins CB dx [("_lates", .ref d)])) → H' d = some (.dK (LK L')))
    (hk : ∀ kd kvs, H kd = some (.dK kvs) → (∃ dx t, H j = some (.ins CJ dx (jf b t kd))) → H' kd = some (.dK kvs)) : JAt K aT CJ CB H' j b L us xs := by
  obtain ⟨dx, t, kd, h1, ⟨bx, d, L', b1, b2, b3⟩, h3, h4, h5, h6, kvs, k1, k2, k3⟩ := h
  have no : ∀ {c o}, H c = some o → (∀ xs, o ≠ .lst xs) → (∀ kvs, o ≠ .dK kvs) → H' c = some o := fun {c o} => n c o
  refine ⟨dx, t, kd, no h1 (fun _ z => nomatch z) (fun _ z => nomatch z), ⟨bx, d, L', no b1 (fun _ z => nomatch z) (fun _ z => nomatch z), hb d L' b2 ⟨bx, b1⟩, b3⟩, ?_, h4, fun i v x p q => ?_, h6, kvs, hk kd kvs k1 ⟨dx, t, h1⟩, k2, fun id => ?_⟩
  · rcases h3 with (h | ⟨o, h⟩) | h
    · exact .inl (.inl (no h (fun _ z => nomatch z) (fun _ z => nomatch z)))
    · exact .inl (.inr ⟨o, no h (fun _ z => nomatch z) (fun _ z => nomatch z)⟩)
    · exact .inr h
  · obtain ⟨e, e1, e2, e3⟩ := h5 i v x p q
    exact ⟨e, e1, no e2 (fun _ z => nomatch z) (fun _ z => nomatch z), e3⟩
  · have q := k3 id
    cases e : valV kvs (Sum.inl id : Key) with
    | none => rw [e] at q; cases eS : (wk L (xs.map some) 0 (fun _ => none) none).2 id <;> (rw [eS] at q; exact q)
    | some v =>
      rw [e] at q
      cases eS : (wk L (xs.map some) 0 (fun _ => none) none).2 id with
      | none => rw [eS] at q; exact q
      | some o =>
        rw [eS] at q
        cases o with
        | tb => exact q
        | at_ z kk m a =>
          obtain ⟨t, e1, e2⟩ := q
          exact ⟨t, e1, no e2 (fun _ z => nomatch z) (fun _ z => nomatch z)⟩
theorem JAt.nl {K : PySem.W.Frag} {aT CJ CB : Addr} {H H' : Hp} {j b : Addr} {L : List (Str × Int)} {us : List V} {xs : List Ent} (h : JAt K aT CJ CB H j b L us xs) (n : NL H H') : JAt K aT CJ CB H' j b L us xs :=
  h.fr (fun c o e n1 _ => n c o e n1) (fun d L' e _ => n d _ e (fun _ z => nomatch z)) (fun d kvs e _ => n d _ e (fun _ z => nomatch z))
theorem BookAt.nl {CB : Addr} {H H' : Hp} {b : Addr} {L : List (Str × Int)} (h : BookAt CB H b L) (n : NL H H') : BookAt CB H' b L := by
  obtain ⟨bx, d, L', b1, b2, b3⟩ := h
  exact ⟨bx, d, L', n _ _ b1 (fun _ z => nomatch z), n _ _ b2 (fun _ z => nomatch z), b3⟩
theorem JAt.bk {K : PySem.W.Frag} {aT CJ CB : Addr} {H : Hp} {j b : Addr} {L : List (Str × Int)} {us : List V} {xs : List Ent} (h : JAt K aT CJ CB H j b L us xs) : BookAt CB H b L := by
  obtain ⟨dx, t, kd, h1, h2, _⟩ := h
  exact h2
theorem mkJ {K : PySem.W.Frag} {aT CJ CB CE b : Addr} {L : List (Str × Int)} {H' : Hp} {a' : Addr} {us' : List V} {xs : List Ent} {S : Kn} {x dx' : Addr} (hb : BookAt CB H' b L) (ha : H' a' = some (.lst us')) (he : Ents H' us' xs) (hl : xs.length ≤ 400) (hw : wk L (xs.map some) 0 (fun _ => none) none = (none, S)) (nx : H' x = none) (ndx : H' dx' = none) (nex : dx' ≠ x) {Qj : Hp → Prop} (hq : ∀ H2, Same H' H2 → JAt K aT CJ CB H2 x b L us' xs → Qj H2) :
    spJInit K aT CJ CB CE [.ref x, .ref b, .ref a'] (upd (upd H' dx' (.own x)) x (.ins CJ dx' [])) (fun v H2 => v = .non ∧ Qj H2) (fun _ _ _ => False) := by
  have sX : Same H' (upd (upd H' dx' (.own x)) x (.ins CJ dx' [])) := (sameAt (Same.refl _) ndx).trans (sameAt (Same.refl _) (by rw [upd_ne (Ne.symm nex)]; exact nx))
  refine ⟨x, dx', b, a', L, us', xs.map some, rfl, upd_same, hb.same sX, .inl (sX _ _ ha), by rw [he.1]; exact hl, by rw [List.length_map]; exact he.1, fun i v o hi ho => ?_, fun H2 ys hys hw2 hJ _ kk => ⟨rfl, ?_⟩, fun i d H2 hw2 _ _ => ?_⟩
  · rw [List.getElem?_map] at ho
    cases ex : xs[i]? with
    | none => rw [ex] at ho; cases ho
    | some y =>
      rw [ex] at ho
      cases ho
      exact (ThEs.of (K := K) (he.tk (tk_same sX))).2 i v y hi ex
  · have ey : ys = xs := (List.map_inj_right (fun a b h => Option.some.inj h)).mp hys.symm
    subst ey
    exact hq H2 (mk_same nx ndx kk) hJ
  · rw [hw] at hw2
    cases hw2
theorem same_str (z : Str) : SameV (.str z) (.str z) := .inl ⟨rfl, rfl, by simp [eqV]⟩
theorem same_int {i j : Int} (h : i = j) : SameV (.int i) (.int j) := .inl ⟨rfl, rfl, by simp [eqV, h]⟩
theorem eqv_self {d : PyData} (h : SeqAt.shaped d = true) : PyData.eqv d d = true := SeqAt.eqv_refl d (SeqAt.canLay_of_shaped h)
def StD (H : Hp) (d : Addr) (S : Kn) (ks : List Int) : Prop := ∃ kvs : List (Key × V), H d = some (.dK kvs) ∧ kvs.map (·.1) = ks.map Sum.inl ∧ ks.Nodup ∧ ∀ id, SV H (valV kvs (Sum.inl id)) (S id)
theorem StD.to {H H' : Hp} {d : Addr} {S : Kn} {ks : List Int} (h : StD H d S ks) (hd : ∀ kvs, H d = some (.dK kvs) → H' d = some (.dK kvs)) (s : ∀ t xs, H t = some (.tup xs) → H' t = some (.tup xs)) : StD H' d S ks := by
  obtain ⟨kvs, h1, h2, h3, h4⟩ := h
  exact ⟨kvs, hd _ h1, h2, h3, fun id => (h4 id).but s⟩
theorem StD.same {H H' : Hp} {d : Addr} {S : Kn} {ks : List Int} (h : StD H d S ks) (s : Same H H') : StD H' d S ks := h.to (fun _ e => s _ _ e) fun _ _ e => s _ _ e
theorem mem_key {kvs : List (Key × V)} {k : Key} : k ∈ kvs.map (·.1) ↔ (valV kvs k).isSome := by
  rw [← valV_any, List.any_eq_true]
  refine ⟨fun h => ?_, fun ⟨x, hx, e⟩ => ?_⟩
  · obtain ⟨x, hx, rfl⟩ := List.mem_map.mp h
    exact ⟨x, hx, decide_eq_true rfl⟩
  · exact List.mem_map.mpr ⟨x, hx, of_decide_eq_true e⟩
theorem StD.dom {H : Hp} {d : Addr} {S : Kn} {ks : List Int} (h : StD H d S ks) (id : Int) : id ∈ ks ↔ S id ≠ none := by
  obtain ⟨kvs, h1, h2, h3, h4⟩ := h
  have e : id ∈ ks ↔ (Sum.inl id : Key) ∈ kvs.map (·.1) := by rw [h2]; simp
  rw [e, mem_key]
  have q := h4 id
  cases ev : valV kvs (Sum.inl id : Key) with
  | none =>
    rw [ev] at q
    cases es : S id with
    | none => simp
    | some y => rw [es] at q; exact q.elim
  | some v =>
    rw [ev] at q
    cases es : S id with
    | none => rw [es] at q; exact q.elim
    | some y => simp
def addK (ks : List Int) (id : Int) : List Int := if id ∈ ks then ks else ks ++ [id]
theorem addK_nd {ks : List Int} {id : Int} (h : ks.Nodup) : (addK ks id).Nodup := by
  unfold addK
  split
  · exact h
  · next n => exact List.nodup_append.mpr ⟨h, List.pairwise_singleton _ _, fun a ha b hb e => n (by rw [← List.mem_singleton.mp hb, ← e]; exact ha)⟩
theorem addK_len {ks : List Int} {id : Int} : (addK ks id).length ≤ ks.length + 1 := by
  unfold addK
  split
  · omega
  · rw [List.length_append]
    exact Nat.le_refl _
theorem putK_keys {kvs : List (Key × V)} {ks : List Int} {id : Int} {v : V} (h : kvs.map (·.1) = ks.map Sum.inl) : (putK kvs (Sum.inl id : Key) v).map (·.1) = (addK ks id).map Sum.inl := by
  have e : id ∈ ks ↔ (Sum.inl id : Key) ∈ kvs.map (·.1) := by rw [h]; simp
  unfold addK
  by_cases c : id ∈ ks
  · rw [if_pos c, ← h]
    have q : (kvs.any fun x => decide (x.1 = (Sum.inl id : Key))) = true := by
      rw [valV_any]
      exact mem_key.mp (e.mp c)
    unfold putK
    rw [if_pos q, List.map_map]
    refine List.map_congr_left fun x hx => ?_
    show (if x.1 = _ then _ else x).1 = x.1
    split
    · next e => first | rfl | exact e.symm
    · rfl
  · rw [if_neg c]
    have n : valV kvs (Sum.inl id : Key) = none := by
      cases ev : valV kvs (Sum.inl id : Key) with
      | none => rfl
      | some v => exact absurd (e.mpr (mem_key.mpr (by rw [ev]; rfl))) c
    rw [putK_new _ n, List.map_append, List.map_append, h]
    rfl
theorem StD.put {H : Hp} {d : Addr} {S : Kn} {ks : List Int} {kvs : List (Key × V)} {id : Int} {v : V} {y : RowSt} (h1 : H d = some (.dK kvs)) (h2 : kvs.map (·.1) = ks.map Sum.inl) (h3 : ks.Nodup) (h4 : ∀ id, SV H (valV kvs (Sum.inl id)) (S id)) (hv : SV H (some v) (some y)) :
    StD (upd H d (.dK (putK kvs (Sum.inl id) v))) d (fun j => if j = id then some y else S j) (addK ks id) := by
  have tk : ∀ t xs, H t = some (.tup xs) → (upd H d (.dK (putK kvs (Sum.inl id) v))) t = some (.tup xs) := fun t xs q => by rw [upd_ne (ne_of q h1 (by intro z; cases z))]; exact q
  refine ⟨_, upd_same, putK_keys h2, addK_nd h3, fun j => ?_⟩
  rw [valV_put]
  show SV _ (if (Sum.inl j : Key) = Sum.inl id then some v else valV kvs (Sum.inl j)) (if j = id then some y else S j)
  by_cases c : j = id
  · subst c
    rw [if_pos rfl, if_pos rfl]
    exact hv.but tk
  · rw [if_neg (fun z => c (Sum.inl.inj z)), if_neg c]
    exact (h4 j).but tk
theorem lookup_in : ∀ {L : List (Str × Int)} {z : Str} {n : Int}, L.lookup z = some n → ∃ (i : Nat) (h : i < L.length), L[i] = (z, n)
  | [], _, _, h => nomatch h
  | (a1, a2) :: L, z, n, h => by
    by_cases c : z = a1
    · subst c
      simp only [List.lookup, beq_self_eq_true] at h
      cases h
      exact ⟨0, Nat.succ_pos _, rfl⟩
    · have h' : (z == a1) = false := by simpa using c
      simp only [List.lookup, h'] at h
      obtain ⟨i, hi, e⟩ := lookup_in h
      exact ⟨i + 1, Nat.succ_lt_succ hi, e⟩
theorem lastA_in : ∀ {xs : List Ent} {l : Option Int} {t : Int}, lastA xs l = some t → l = some t ∨ ∃ x ∈ xs, x.arr = t
  | [], _, _, h => .inl h
  | x :: r, _, t, h => by
    rcases lastA_in (xs := r) h with e | ⟨y, hy, e⟩
    · exact .inr ⟨x, List.mem_cons_self, Option.some.inj e⟩
    · exact .inr ⟨y, List.mem_cons_of_mem _ hy, e⟩
theorem wk_more {L : List (Str × Int)} {xs : List Ent} {S : Kn} {x : Ent} {y : RowSt} (h : wk L (xs.map some) 0 K0 none = (none, S)) (ha : ∀ z ∈ xs, z.arr ≤ x.arr) (hb : behind L x (S x.id) = some y) :
    wk L ((xs ++ [x]).map some) 0 K0 none = (none, fun j => if j = x.id then some y else S j) := by
  rw [List.map_append, wk_app _ h]
  have c : late? (lastA xs none) x.arr = false := by
    cases e : lastA xs none with
    | none => rfl
    | some t =>
      rcases lastA_in e with e | ⟨z, hz, e⟩
      · cases e
      · have := ha z hz
        show decide (x.arr < t) = false
        exact decide_eq_false (by omega)
  show wk L [some x] _ S _ = _
  rw [wk_go c hb]
  rfl
structure En (L : List (Str × Int)) (xs : List Ent) (S : Kn) (arr top : Int) : Prop where
  w : wk L (xs.map some) 0 K0 none = (none, S)
  le : ∀ x ∈ xs, x.arr ≤ arr
  ok : ∀ x ∈ xs, x.ok
  low : ∀ id, S id ≠ none → 0 ≤ id ∧ id < top
theorem En.nil {L : List (Str × Int)} {a t : Int} : En L [] K0 a t := ⟨rfl, fun _ h => (nomatch h), fun _ h => (nomatch h), fun _ h => absurd rfl h⟩
theorem En.mono {L : List (Str × Int)} {xs : List Ent} {S : Kn} {a t a' t' : Int} (h : En L xs S a t) (la : a ≤ a') (lt : t ≤ t') : En L xs S a' t' :=
  ⟨h.w, fun x hx => Int.le_trans (h.le x hx) la, h.ok, fun id hi => by have := h.low id hi; omega⟩
theorem En.knok {L : List (Str × Int)} {xs : List Ent} {S : Kn} {a t : Int} (h : En L xs S a t) : KnOk L S := wk_knok h.w (fun _ _ _ _ _ e => by cases e) h.ok
theorem En.snoc {L : List (Str × Int)} {xs : List Ent} {S : Kn} {a t number t' : Int} {x : Ent} {y : RowSt} (h : En L xs S a t) (ok : x.ok) (ha : x.arr = a) (hb : behind L x (S x.id) = some y) (hi : x.id = number ∨ S x.id ≠ none) (h0 : 0 ≤ number) (n1 : number < t') (tt : t ≤ t') :
    En L (xs ++ [x]) (fun j => if j = x.id then some y else S j) a t' := by
  refine ⟨wk_more h.w (fun z hz => by rw [ha]; exact h.le z hz) hb, fun z hz => ?_, fun z hz => ?_, fun id q => ?_⟩
  · rcases List.mem_append.mp hz with hz | hz
    · exact h.le z hz
    · rw [List.mem_singleton.mp hz, ha]
      exact Int.le_refl _
  · rcases List.mem_append.mp hz with hz | hz
    · exact h.ok z hz
    · rw [List.mem_singleton.mp hz]
      exact ok
  · by_cases c : id = x.id
    · rcases hi with hi | hi
      · rw [c, hi]; omega
      · have := h.low _ hi
        rw [c]; omega
    · have q : (if id = x.id then some y else S id) ≠ none := q
      rw [if_neg c] at q
      have := h.low id q
      omega
theorem En.good {L : List (Str × Int)} {xs : List Ent} {S : Kn} {a t : Int} (h : En L xs S a t) : Good L xs ∧ knw L xs = S := Good.of h.w
theorem nil_of {α : Type} {l : List α} (h : ∀ t, t ∉ l) : l = [] := by
  cases l with
  | nil => rfl
  | cons a r => exact absurd List.mem_cons_self (h a)
def keysOf (xs : List Ent) : List Str := xs.filterMap fun x => match x with
  | .row _ _ k _ _ _ => some k
  | _ => none
def spKeyNames (K : PySem.W.Frag) (aT CJ CB : Addr) : Sp := fun vs H Q _ => ∃ (j b : Addr) (L : List (Str × Int)) (us : List V) (xs : List Ent), vs = [.ref j] ∧ JAt K aT CJ CB H j b L us xs ∧ us.length ≤ 400 ∧
  ∀ p ys H', Same H H' → H p = none → H' p = some (.lst (ys.map V.str)) → ys.Nodup → sortedS ys = true → (∀ z, z ∈ ys ↔ z ∈ keysOf xs) → Q (.ref p) H'
section
variable {P : Program} {w : World} {K : PySem.W.Frag} {mg : Str → Option Value} {base : Heap}
abbrev s_Journal_key_names : Stmt := inClass (topS 30) 11
theorem sc_Journal_key_names : FnScope ["self", "entry"] ["self"] (defScope s_Journal_key_names) := ⟨rfl, rfl, rfl, by decide +kernel, rfl, by decide +kernel, by decide +kernel⟩
theorem ok_keynames {f CJ CB aT : Addr} {fd : FuncData} (F : Fun K "key_names" "Journal.key_names" s_Journal_key_names f fd) (B : Blt mg) (T : Cj P K mg CJ CB) : FnOk P w K mg base CX0 1 f fd ["self"] (spKeyNames K aT CJ CB) := by
  refine F.ok sc_Journal_key_names (fun vs H Q E h => ?_) (fun cdv A outer s H vs Q E hr h => ?_)
  · obtain ⟨j, b, L, us, xs, rfl, _⟩ := h
    rfl
  · obtain ⟨j, b, L, us, xs, rfl, hJ, h4, q⟩ := h
    refine ⟨_, (pss_one (ps_ret (pe_callB (cr_sortM rfl) (by rfl) B.sorted (by decide +kernel) (pa_cons (pe_callTy (cr_setL rfl) (by rfl) B.set (by decide +kernel) (pa_cons (pe_lc (own := [("entry", 1)]) (g := gName 1) (by rfl) sc_Journal_key_names.nd (pi_tup (pe_fld (pv 0) rfl)) (blkOk_by (own := [("entry", 1)]) (N := ["self", "entry"]) (sc := defScope s_Journal_key_names) (by decide +kernel)) (fun _ _ _ _ _ => (pg_name (i := 1) sc_Journal_key_names.nd rfl (Or.inl rfl))) (fun _ _ _ _ _ => pts_one (pt_cmpR op_eq (pe_ix (show IxR _ (rIxT K) from ix_tup) (pv 1) pe_int (fun _ _ => rfl)) pe_str (nomark _))) (fun _ _ _ _ _ => (pe_ix (show IxR _ (rIxT K) from ix_tup) (pv 1) pe_int (fun _ _ => rfl)))) pa_nil)) pa_nil)))), ?_⟩
    obtain ⟨dx, t, kd, h1, h2, h3, hl, h5, h6, h7⟩ := id hJ
    refine ⟨_, rfl, j, CJ, dx, _, _, rfl, h1, T.cl, T.nE, jf_e _ _ _, t, rfl, ⟨_, h3⟩, fun D hD => lc_it (walk_tup (xs := us)) (fun i H5 => H5 D = some (.lst ((keysOf (xs.take i)).map V.str)) ∧ Same H H5) ⟨upd_same, sameAt (Same.refl H) hD⟩ (fun i H5 _ hv => seqS h3 hv.2) ?_ ?_⟩
    · rintro i v H5 H6 hi ⟨hD5, s5⟩ ⟨rfl, hvi⟩
      have hix : i < xs.length := by rw [← hl]; exact hi
      obtain ⟨x, hx⟩ : ∃ x, xs[i]? = some x := ⟨_, List.getElem?_eq_getElem hix⟩
      obtain ⟨e, rfl, he, hok⟩ := (h5 i v x hvi hx).same s5
      have lf : (keysOf (xs.take i)).length ≤ 400 := Nat.le_trans (List.length_filterMap_le _ _) (by rw [List.length_take]; omega)
      have st : keysOf (xs.take (i + 1)) = keysOf (xs.take i) ++ keysOf [x] := by
        unfold keysOf
        rw [list_take' hx, List.filterMap_append]
      refine ⟨rfl, ?_⟩
      cases x with
      | row id s k m a r =>
        refine ⟨_, rfl, _, _, _, _, rfl, rfl, SqT.of he, rfl, rfl, _, rfl, iteT ⟨_, rfl, _, _, _, _, rfl, rfl, SqT.of he, rfl, _, hD5, (by rw [List.length_map]; exact small1000 (by omega)), ?_, sameAt s5 hD⟩⟩
        rw [upd_same, st, List.map_append]
        rfl
      | fix id m a r =>
        refine ⟨_, rfl, _, _, _, _, rfl, rfl, SqT.of he, rfl, rfl, _, rfl, iteF ⟨?_, s5⟩⟩
        rw [st]
        exact hD5.trans (by rw [show keysOf [Ent.fix id m a r] = [] from rfl, List.append_nil])
      | gone id r =>
        refine ⟨_, rfl, _, _, _, _, rfl, rfl, SqT.of he, rfl, rfl, _, rfl, iteF ⟨?_, s5⟩⟩
        rw [st]
        exact hD5.trans (by rw [show keysOf [Ent.gone id r] = [] from rfl, List.append_nil])
    · rintro H5 ⟨hD5, s5⟩
      rw [show xs.take us.length = xs by rw [hl, List.take_length]] at hD5
      have lf : (keysOf xs).length ≤ 400 := Nat.le_trans (List.length_filterMap_le _ _) (by omega)
      have ek : ((keysOf xs).map (Sum.inr : Str → Key)).map kV = (keysOf xs).map V.str := by rw [List.map_map]; rfl
      refine ⟨D, (keysOf xs).map Sum.inr, rfl, SqL.of (by rw [ek]; exact hD5), by rw [List.length_map]; omega, fun p n hp hn => ?_⟩
      refine ⟨p, _, n, rfl, upd_same, .inl ⟨keysOf xs, fun k => kIn_iff, fun ys q1 hq1 nd hm hs hln => ?_⟩⟩
      have s7 : Same H5 (upd (upd H5 p (SetMO _ p (kIn ((keysOf xs).map Sum.inr)) n)) q1 (.lst (ys.map V.str))) := (sameAt (Same.refl _) hp).trans (sameAt (Same.refl _) hq1)
      exact q q1 ys _ (s5.trans s7) (none_of (s5.trans (sameAt (Same.refl _) hp)) hq1) upd_same nd hs hm
end
end Ash

set_option Elab.async false
set_option linter.all false
set_option maxRecDepth 100000
set_option maxHeartbeats 4000000
set_option pp.maxSteps 600
namespace Ash
open PySem PySem.Spec PyProof.Rows L2
open C8 (pss_cut)
/-! ### what k85 draws -/
def spLates85 : Sp := fun vs H Q _ => ∃ (p s l : Addr) (names : List Str), vs = [.ref p, .ref l] ∧ PoolAt H p s ∧ H l = some (.lst (names.map V.str)) ∧ l ≠ p ∧ 1 ≤ names.length ∧ names.length ≤ 8 ∧ names.Nodup ∧ (∀ z ∈ names, IsNm z) ∧
  ∀ (d : Addr) (L : List (Str × Int)) H', H d = none → H' d = some (.dK (LK L)) → Lates L → L.map (·.1) = names → Pl H H' p s → Q (.ref d) H'
theorem tk1 {α : Type} {l : List α} {i : Nat} {x : α} (h : l[i]? = some x) : l.take (i + 1) = l.take i ++ [x] := by
  rw [List.take_succ, h]
  rfl
/-- what is worked on -/
structure Wk (H : Hp) (w we ds mk : Addr) (kys : List Str) (us : List V) (xs : List Ent) (S : Kn) (ks : List Int) (a n : Int) : Prop where
  w_ : H w = some (.lst [.ref we, .ref ds, .int a, .int n, .ref mk])
  e_ : H we = some (.lst us)
  es : Ents H us xs
  st : StD H ds S ks
  m_ : ∃ kvs : List (Key × V), H mk = some (.dK kvs) ∧ kvs.length ≤ 30 ∧ ∀ k ∈ kys, ∃ c : Int, valV kvs (Sum.inr k : Key) = some (.int c)
/-- what is drawn from -/
structure Bs (H : Hp) (p s dl dk : Addr) (L : List (Str × Int)) (kys : List Str) : Prop where
  pool : PoolAt H p s
  dl : H dl = some (.dK (LK L))
  LL : Lates L
  dk : H dk = some (.lst (kys.map V.str))
  k1 : 1 ≤ kys.length
  k2 : kys.length ≤ 8
  kn : ∀ z ∈ kys, IsNm z
def spEntry85 : Sp := fun vs H Q _ => ∃ (p s dl dk w we ds mk : Addr) (L : List (Str × Int)) (kys : List Str) (us : List V) (xs : List Ent) (S : Kn) (ks : List Int) (a n arrival : Int), vs = [.ref p, .ref dl, .ref dk, .ref w, .int arrival] ∧ Bs H p s dl dk L kys ∧ Wk H w we ds mk kys us xs S ks a n ∧ KnOk L S ∧ (∀ id, S id ≠ none → 0 ≤ id) ∧ 0 ≤ n ∧ S n = none ∧ ks.length ≤ 100 ∧ w ≠ p ∧ dk ≠ p ∧
  (∀ H', Pl H H' p s → Q .non H') ∧ ∀ e x y H', EntAt H' e x → x.ok → KIn kys x → x.arr = arrival → behind L x (S x.id) = some y → (x.id = n ∨ S x.id ≠ none) → Pl H H' p s → Q (.ref e) H'
section
variable {P : Program} {w : World} {K : PySem.W.Frag} {mg : Str → Option Value} {base : Heap}
theorem StD.pl {H H' : Hp} {d p s : Addr} {S : Kn} {ks : List Int} (h : StD H d S ks) (P0 : PoolAt H p s) (P : Pl H H' p s) : StD H' d S ks := h.to (fun _ e => P.dk P0 e) fun _ _ e => P.tp P0 e
abbrev s_l_lates : Stmt := topS 40
theorem sc_l_lates : FnScope ["pool", "names", "lates", "name"] ["pool", "names"] (defScope s_l_lates) := ⟨rfl, rfl, rfl, by decide +kernel, rfl, by decide +kernel, by decide +kernel⟩
theorem ok_lates {f : Addr} {fd : FuncData} (F : Fun K "_law_lates" "_law_lates" s_l_lates f fd) (B : Blt mg) (G : G2 P w K mg base) : FnOk P w K mg base CX0 2 f fd ["pool", "names"] spLates85 := by
  refine F.ok sc_l_lates (fun vs H Q E h => ?_) (fun cdv A outer s H vs Q E hr h => ?_)
  · obtain ⟨p, _, l, _, rfl, _⟩ := h
    rfl
  · obtain ⟨p, s0, l, names, rfl, hP, hl, lp, n1, n8, hnd, hnm, kk⟩ := h
    have hu := hu_of hr
    refine ⟨_, (pss_cons (ps_set (i := 2) sc_l_lates.nd rfl (Or.inl rfl) pe_dnewK)
    (pss_cons (ps_for PassesOwn.never rfl (pi_list (pv 1)) (pg_name (i := 3) sc_l_lates.nd rfl (Or.inl rfl))
      (pss_one (ps_dput hu (pv 2) (pv 3) (pe_ix ix_list (pe_lst (pa_cons pe_int (pa_cons pe_int (pa_cons pe_int (pa_cons pe_int (pa_cons pe_int (pa_cons pe_int (pa_cons pe_int (pa_cons pe_int pa_nil))))))))) (pe_cal G.law_draw (hr.mono (by decide)) pass0 (pa_cons (pv 0) (pa_cons pe_int pa_nil))) (fun _ _ => rfl)) rfl)))
    (pss_one (ps_ret (pv 2))))), ?_⟩
    refine fun d hd => ⟨_, rfl, l, rfl, ⟨_, SqL.of (sameAt (Same.refl H) hd _ _ hl)⟩, ?_⟩
    have dp : d ≠ p := fun z => hP.ne.1 (z ▸ hd)
    have dl : d ≠ l := fun z => by rw [z, hl] at hd; cases hd
    have ds : d ≠ s0 := fun z => hP.ne.2 (z ▸ hd)
    refine for_list (K := K) (a := l) (xs := names.map V.str) (fun i σ H' => (∃ x3, σ = [some (.ref p), some (.ref l), some (.ref d), x3]) ∧ (∃ L : List (Str × Int), H' d = some (.dK (LK L)) ∧ L.map (·.1) = names.take i ∧ ∀ x ∈ L, 0 ≤ x.2 ∧ x.2 ≤ 1000) ∧ (PoolAt H' p s0 ∧ ∀ c o, H c = some o → c ≠ p → H' c = some o)) ⟨⟨_, rfl⟩, ⟨[], upd_same, rfl, fun x hx => nomatch hx⟩, hP.same (sameAt (Same.refl H) hd), fun c o h _ => sameAt (Same.refl H) hd _ _ h⟩ (fun i σ H' _ hv => SqL.of (hv.2.2.2 _ _ hl lp)) ?_ ?_
    · rintro i v σ H7 hi ⟨⟨x3, rfl⟩, ⟨L, hd7, eL, bL⟩, hP7, kp⟩
      obtain ⟨nm, hnmi, rfl⟩ : ∃ nm, names[i]? = some nm ∧ v = .str nm := by
        rw [List.getElem?_map] at hi
        cases e : names[i]? with
        | none => rw [e] at hi; cases hi
        | some z => rw [e] at hi; exact ⟨z, rfl, (Option.some.inj hi).symm⟩
      have hil : i < names.length := (List.getElem?_eq_some_iff.mp hnmi).1
      have hnL : nm ∉ L.map (·.1) := by
        rw [eL]
        intro z
        obtain ⟨j, hj⟩ := List.getElem?_of_mem z
        rw [List.getElem?_take] at hj
        split at hj
        · next c =>
          have := (List.getElem?_inj (by omega) hnd).mp (hj.trans hnmi.symm)
          omega
        · cases hj
      have lL : L.length ≤ 8 := by
        have := congrArg List.length eL
        rw [List.length_map, List.length_take] at this
        omega
      refine ⟨(by show 8 ≤ sizeLine; decide), fun u hu => ?_⟩
      have s8 := sameAt (Same.refl H7) hu (o := .lst [V.int 0, .int 1, .int 2, .int 3, .int 4, .int 5, .int 9, .int 1000])
      have hu8 : (upd H7 u (.lst [V.int 0, .int 1, .int 2, .int 3, .int 4, .int 5, .int 9, .int 1000])) u = some (.lst [V.int 0, .int 1, .int 2, .int 3, .int 4, .int 5, .int 9, .int 1000]) := upd_same
      have up : u ≠ p := fun z => hP7.ne.1 (z ▸ hu)
      have hd8 := s8 _ _ hd7
      generalize (upd H7 u (.lst [V.int 0, .int 1, .int 2, .int 3, .int 4, .int 5, .int 9, .int 1000])) = H8 at s8 hu8 hd8 ⊢
      refine ⟨_, rfl, p, s0, 8, rfl, hP7.same s8, (by decide), (by decide), fun g H9 g0 g8 P9 => ?_⟩
      obtain ⟨v, hv, v0, v1⟩ : ∃ v : Int, atI [V.int 0, .int 1, .int 2, .int 3, .int 4, .int 5, .int 9, .int 1000] g = some (V.int v) ∧ 0 ≤ v ∧ v ≤ 1000 := by
        have : g = 0 ∨ g = 1 ∨ g = 2 ∨ g = 3 ∨ g = 4 ∨ g = 5 ∨ g = 6 ∨ g = 7 := by omega
        rcases this with rfl | rfl | rfl | rfl | rfl | rfl | rfl | rfl
        · exact ⟨0, rfl, by omega, by omega⟩
        · exact ⟨1, rfl, by omega, by omega⟩
        · exact ⟨2, rfl, by omega, by omega⟩
        · exact ⟨3, rfl, by omega, by omega⟩
        · exact ⟨4, rfl, by omega, by omega⟩
        · exact ⟨5, rfl, by omega, by omega⟩
        · exact ⟨9, rfl, by omega, by omega⟩
        · exact ⟨1000, rfl, by omega, by omega⟩
      have hd9 := P9.keep hd8 dp
      refine ⟨_, _, _, V.int v, rfl, rfl, SqL.of (P9.keep hu8 up), hv, _, rfl, _, rfl, d, _, rfl, DPut.k (k := Sum.inr nm) hd9 (by rw [LK_len]; exact small1000 (by omega)), ?_⟩
      have hput : putK (LK L) (Sum.inr nm : Key) (V.int v) = LK (L ++ [(nm, v)]) := by
        rw [putK_new _ (by rw [LK_val, lookup_none hnL]; rfl)]
        unfold LK
        rw [List.map_append]
        rfl
      rw [hput]
      refine ⟨⟨_, rfl⟩, ⟨L ++ [(nm, v)], upd_same, ?_, ?_⟩, P9.now.off dp ds, fun c o h n => ?_⟩
      · rw [List.map_append, eL, tk1 hnmi]
        rfl
      · intro x hx
        rcases List.mem_append.mp hx with hx | hx
        · exact bL x hx
        · rw [List.mem_singleton.mp hx]
          exact ⟨v0, v1⟩
      · rw [upd_ne (fun z => by rw [z, hd] at h; cases h)]
        exact P9.keep (s8 _ _ (kp c o h n)) n
    · rintro σ H7 ⟨⟨x3, rfl⟩, ⟨L, hd7, eL, bL⟩, hP7, kp⟩
      rw [List.length_map, List.take_length] at eL
      have LL : Lates L := ⟨by rw [← List.length_map (f := (·.1)), eL]; omega, by rw [← List.length_map (f := (·.1)), eL]; omega, by rw [eL]; exact hnd, fun x hx => hnm _ (by rw [← eL]; exact List.mem_map_of_mem hx), fun x hx => (bL x hx).1, fun x hx => by have := (bL x hx).2; omega⟩
      exact ⟨_, rfl, kk d L H7 hd hd7 LL eL ⟨hP7, hP.ne.1, hP.ne.2, fun c o h n => kp c o h n⟩⟩
abbrev s_l_amount : Stmt := topS 41
theorem sc_l_amount : FnScope ["pool"] ["pool"] (defScope s_l_amount) := ⟨rfl, rfl, rfl, by decide +kernel, rfl, by decide +kernel, by decide +kernel⟩
theorem ok_amount {f : Addr} {fd : FuncData} (F : Fun K "_law_amount" "_law_amount" s_l_amount f fd) (B : Blt mg) (G : G2 P w K mg base) : FnOk P w K mg base CX0 2 f fd ["pool"] spInt := by
  refine F.ok sc_l_amount (fun vs H Q E h => ?_) (fun cdv A outer s H vs Q E hr h => ?_)
  · obtain ⟨p, s, rfl, _⟩ := h
    rfl
  · obtain ⟨p, s0, rfl, hP, q⟩ := h
    refine ⟨_, (pss_cons (ps_if (pt_cmpR op_eq (pe_cal G.law_draw (hr.mono (by decide)) pass0 (pa_cons (pv 0) (pa_cons pe_int pa_nil))) pe_int (nomark _))
      (pss_one (ps_ret (pe_op op_sub (pe_cal G.law_draw (hr.mono (by decide)) pass0 (pa_cons (pv 0) (pa_cons pe_int pa_nil))) pe_int)))
      pss_nil)
    (pss_one (ps_ret (pe_op op_sub (pe_cal G.law_draw (hr.mono (by decide)) pass0 (pa_cons (pv 0) (pa_cons pe_int pa_nil))) pe_int)))), ?_⟩
    refine ⟨_, rfl, p, s0, 6, rfl, hP, (by decide), (by decide), fun x H1 x0 x6 P1 => ⟨rfl, _, rfl, ?_⟩⟩
    refine ite2 (fun c => ?_) (fun c => ?_)
    · exact ⟨_, rfl, p, s0, _, rfl, P1.now, (by decide), (by decide), fun y H2 y0 y6 P2 => ⟨_, _, rfl, rfl, q _ H2 (P1.trans P2)⟩⟩
    · exact ⟨_, rfl, p, s0, 9, rfl, P1.now, (by decide), (by decide), fun y H2 y0 y6 P2 => ⟨_, _, rfl, rfl, q _ H2 (P1.trans P2)⟩⟩
abbrev s_l_begin : Stmt := topS 42
theorem sc_l_begin : FnScope ["pool"] ["pool"] (defScope s_l_begin) := ⟨rfl, rfl, rfl, by decide +kernel, rfl, by decide +kernel, by decide +kernel⟩
theorem ok_begin {f : Addr} {fd : FuncData} (F : Fun K "_law_begin" "_law_begin" s_l_begin f fd) (B : Blt mg) (G : G2 P w K mg base) : FnOk P w K mg base CX0 2 f fd ["pool"] spInt := by
  refine F.ok sc_l_begin (fun vs H Q E h => ?_) (fun cdv A outer s H vs Q E hr h => ?_)
  · obtain ⟨p, s, rfl, _⟩ := h
    rfl
  · obtain ⟨p, s0, rfl, hP, q⟩ := h
    refine ⟨_, (pss_cons (ps_if (pt_cmpR op_eq (pe_cal G.law_draw (hr.mono (by decide)) pass0 (pa_cons (pv 0) (pa_cons pe_int pa_nil))) pe_int (nomark _))
      (pss_one (ps_ret (pe_op op_sub (pe_cal G.law_draw (hr.mono (by decide)) pass0 (pa_cons (pv 0) (pa_cons pe_int pa_nil))) pe_int)))
      pss_nil)
    (pss_one (ps_ret (pe_op op_sub (pe_cal G.law_draw (hr.mono (by decide)) pass0 (pa_cons (pv 0) (pa_cons pe_int pa_nil))) pe_int)))), ?_⟩
    refine ⟨_, rfl, p, s0, 4, rfl, hP, (by decide), (by decide), fun x H1 x0 x6 P1 => ⟨rfl, _, rfl, ?_⟩⟩
    refine ite2 (fun c => ?_) (fun c => ?_)
    · exact ⟨_, rfl, p, s0, _, rfl, P1.now, (by decide), (by decide), fun y H2 y0 y6 P2 => ⟨_, _, rfl, rfl, q _ H2 (P1.trans P2)⟩⟩
    · exact ⟨_, rfl, p, s0, 9, rfl, P1.now, (by decide), (by decide), fun y H2 y0 y6 P2 => ⟨_, _, rfl, rfl, q _ H2 (P1.trans P2)⟩⟩
structure G3d (P : Program) (w : World) (K : PySem.W.Frag) (mg : Str → Option Value) (base : Heap) : Prop extends G2 P w K mg base where
  law_lates : Cal P w K mg base CX0 "_law_lates" 2 ["pool", "names"] spLates85
  law_amount : Cal P w K mg base CX0 "_law_amount" 2 ["pool"] spInt
  law_begin : Cal P w K mg base CX0 "_law_begin" 2 ["pool"] spInt
abbrev s_l_entry : Stmt := topS 48
theorem sc_l_entry : FnScope ["pool", "lates", "keys", "work", "arrival", "open_ones", "number", "state", "kind", "key", "stream", "behind", "amount", "late"] ["pool", "lates", "keys", "work", "arrival"] (defScope s_l_entry) := ⟨rfl, rfl, rfl, by decide +kernel, rfl, by decide +kernel, by decide +kernel⟩
theorem ok_entry {f : Addr} {fd : FuncData} (F : Fun K "_law_entry" "_law_entry" s_l_entry f fd) (B : Blt mg) (G : G3d P w K mg base) : FnOk P w K mg base CX0 3 f fd ["pool", "lates", "keys", "work", "arrival"] spEntry85 := by
  refine F.ok sc_l_entry (fun vs H Q E h => ?_) (fun cdv A outer s H vs Q E hr h => ?_)
  · obtain ⟨p, s, dl, dk, w, we, ds, mk, L, kys, us, xs, S, ks, a, n, arrival, rfl, _⟩ := h
    rfl
  · obtain ⟨p, s0, dl, dk, w0, we, ds, mk, L, kys, us, xs, S, ks, a, n, arrival, rfl, D, W, hok, hpos, hn, hSn, few, wp, kp, q0, q⟩ := h
    have hu := hu_of hr
    refine ⟨_, (pss_cons (ps_set (i := 5) sc_l_entry.nd rfl (Or.inl rfl) (pe_lst pa_nil))
    (pss_cut (ps_for PassesOwn.never rfl (pi_list (pe_callB (cr_sortD rfl) (by rfl) B.sorted (by decide +kernel) (pa_cons (pe_ix ix_list (pv 3) pe_int (fun _ _ => rfl)) pa_nil))) (pg_name (i := 6) sc_l_entry.nd rfl (Or.inl rfl))
      (pss_cons (ps_set (i := 7) sc_l_entry.nd rfl (Or.inl rfl) (pe_dget hu (pe_ix ix_list (pv 3) pe_int (fun _ _ => rfl)) (pv 6) (fun _ _ => rfl)))
      (pss_one (ps_if (PW.pt (pw_and (pt_cmpR op_notN (pv 7) pe_non (nomark _)) (pw_and1 (pt_cmpR op_le (pv 4) (pe_op op_add (pe_ix ix_tup (pv 7) pe_int (fun _ _ => rfl)) (pe_dget hu (pv 1) (pe_ix ix_tup (pv 7) pe_int (fun _ _ => rfl)) (fun _ _ => rfl))) (nomark _)))))
        (pss_one (ps_expr (pe_bm PySem.F.plainAttrs_list PySem.F.slot_list_append PySem.F.type_list_append mt_append (pv 5) (pa_cons (pv 6) pa_nil))))
        pss_nil))))
    (pss_cons (ps_set (i := 8) sc_l_entry.nd rfl (Or.inl rfl) (pe_cal G.law_draw (hr.mono (by decide)) pass0 (pa_cons (pv 0) (pa_cons pe_int pa_nil))))
    (pss_cons (ps_set (i := 9) sc_l_entry.nd rfl (Or.inl rfl) (pe_ix ix_list (pv 2) (pe_cal G.law_draw (hr.mono (by decide)) pass0 (pa_cons (pv 0) (pa_cons (pe_callB call_len_seq (by rfl) B.len (by decide +kernel) (pa_cons (pv 2) pa_nil)) pa_nil))) (fun _ _ => rfl)))
    (pss_cons (ps_set (i := 10) sc_l_entry.nd rfl (Or.inl rfl) (pe_ix ix_list (pe_callTy (call_listD (by rfl)) (by rfl) B.list (by decide +kernel) (pa_cons (pv 1) pa_nil)) (pe_cal G.law_draw (hr.mono (by decide)) pass0 (pa_cons (pv 0) (pa_cons (pe_callB call_lenD (by rfl) B.len (by decide +kernel) (pa_cons (pv 1) pa_nil)) pa_nil))) (fun _ _ => rfl)))
    (pss_cons (ps_set (i := 11) sc_l_entry.nd rfl (Or.inl rfl) (pe_cal G.law_draw (hr.mono (by decide)) pass0 (pa_cons (pv 0) (pa_cons (pe_op op_add (pe_callB (call_min2 rfl) (by rfl) B.min (by decide +kernel) (pa_cons (pe_dget hu (pv 1) (pv 10) (fun _ _ => rfl)) (pa_cons pe_int pa_nil))) pe_int) pa_nil))))
    (pss_cons (ps_set (i := 12) sc_l_entry.nd rfl (Or.inl rfl) (pe_cal G.law_amount (hr.mono (by decide)) pass0 (pa_cons (pv 0) pa_nil)))
    (pss_cons (ps_if (PW.pt (pw_and (PW.pt (pw_or (pt_cmpR op_lt (pv 8) pe_int (nomark _)) (pw_or1 (pt_cmpR op_eq (pe_callB call_len_seq (by rfl) B.len (by decide +kernel) (pa_cons (pv 5) pa_nil)) pe_int (nomark _))))) (pw_and1 (pt_cmpR op_lt (pe_dget hu (pe_ix ix_list (pv 3) pe_int (fun _ _ => rfl)) (pv 9) (fun _ _ => rfl)) pe_int (nomark _)))))
      (pss_one (ps_ret (pe_tup (pa_cons pe_str (pa_cons (pe_ix ix_list (pv 3) pe_int (fun _ _ => rfl)) (pa_cons (pv 10) (pa_cons (pv 9) (pa_cons (pe_op op_sub (pv 4) (pv 11)) (pa_cons (pv 12) (pa_cons (pv 4) pa_nil))))))))))
      pss_nil)
    (pss_cons (ps_if (pt_cmpR op_eq (pe_callB call_len_seq (by rfl) B.len (by decide +kernel) (pa_cons (pv 5) pa_nil)) pe_int (nomark _))
      (pss_one (ps_ret pe_non))
      pss_nil)
    (pss_cons (ps_set (i := 6) sc_l_entry.nd rfl (Or.inl rfl) (pe_ix ix_list (pv 5) (pe_cal G.law_draw (hr.mono (by decide)) pass0 (pa_cons (pv 0) (pa_cons (pe_callB call_len_seq (by rfl) B.len (by decide +kernel) (pa_cons (pv 5) pa_nil)) pa_nil))) (fun _ _ => rfl)))
    (pss_cons (ps_if (pt_cmpR op_eq (pv 8) pe_int (nomark _))
      (pss_one (ps_ret (pe_tup (pa_cons pe_str (pa_cons (pv 6) (pa_cons (pv 4) pa_nil))))))
      pss_nil)
    (pss_cons (ps_set (i := 13) sc_l_entry.nd rfl (Or.inl rfl) (pe_dget hu (pv 1) (pe_ix ix_tup (pe_dget hu (pe_ix ix_list (pv 3) pe_int (fun _ _ => rfl)) (pv 6) (fun _ _ => rfl)) pe_int (fun _ _ => rfl)) (fun _ _ => rfl)))
    (pss_one (ps_ret (pe_tup (pa_cons pe_str (pa_cons (pv 6) (pa_cons (pe_op op_sub (pv 4) (pe_callB (call_min2 rfl) (by rfl) B.min (by decide +kernel) (pa_cons (pv 11) (pa_cons (pv 13) pa_nil)))) (pa_cons (pv 12) (pa_cons (pv 4) pa_nil)))))))))))))))))))), ?_⟩
    have l8 := D.LL.few
    have l1 := D.LL.some_
    have k1 := D.k1
    have k2 := D.k2
    refine ⟨(by show 0 ≤ sizeLine; decide), fun q1 hq1 => ?_⟩
    obtain ⟨kvs, hst, hst1, hst2, hst3⟩ := id W.st
    have s1 := sameAt (Same.refl H) hq1 (o := .lst [])
    have hq11 : (upd H q1 (.lst [])) q1 = some (.lst []) := upd_same
    generalize (upd H q1 (.lst [])) = H1 at s1 hq11 ⊢
    refine ⟨fun σ H3 => (∃ x6 x7, ∃ ids : List Int, σ = [some (.ref p), some (.ref dl), some (.ref dk), some (.ref w0), some (.int arrival), some (.ref q1), x6, x7, none, none, none, none, none, none] ∧ H3 q1 = some (.lst (ids.map V.int)) ∧ ids.length ≤ 100 ∧
      ∀ id ∈ ids, ∃ z k m a lt, S id = some (.at_ z k m a) ∧ L.lookup z = some lt ∧ arrival ≤ m + lt) ∧ Same H H3, ?_, ?_⟩
    · have hw1 := s1 _ _ W.w_
      refine ⟨_, rfl, _, _, _, _, rfl, rfl, SqL.of hw1, rfl, ds, kvs, ks, rfl, .of (s1 _ _ hst), hst1, fun ys pl hpl hasc hperm => ⟨pl, rfl, ⟨_, SqL.of upd_same⟩, ?_⟩⟩
      have s2 : Same H1 (upd H1 pl (.lst (ys.map V.int))) := sameAt (Same.refl _) hpl
      have hpl2 : (upd H1 pl (.lst (ys.map V.int))) pl = some (.lst (ys.map V.int)) := upd_same
      have hql : q1 ≠ pl := fun z => by rw [← z, hq11] at hpl; cases hpl
      have yl : ys.length ≤ 100 := by rw [hperm.length_eq]; exact few
      have hq12 := s2 _ _ hq11
      have s2 := s1.trans s2
      generalize (upd H1 pl (.lst (ys.map V.int))) = H2 at s2 hpl2 hq12 ⊢
      refine for_list (K := K) (a := pl) (xs := ys.map V.int) (fun i σ H1 => (∃ x6 x7, ∃ ids : List Int, σ = [some (.ref p), some (.ref dl), some (.ref dk), some (.ref w0), some (.int arrival), some (.ref q1), x6, x7, none, none, none, none, none, none] ∧ H1 q1 = some (.lst (ids.map V.int)) ∧ ids.length ≤ i ∧
        ∀ id ∈ ids, ∃ z k m a lt, S id = some (.at_ z k m a) ∧ L.lookup z = some lt ∧ arrival ≤ m + lt) ∧ H1 pl = some (.lst (ys.map V.int)) ∧ Same H H1) ?_ (fun i σ H1 _ hv => SqL.of hv.2.1) ?_ ?_
      · exact ⟨⟨_, _, [], rfl, hq12, Nat.le_refl _, fun _ h => absurd h List.not_mem_nil⟩, hpl2, s2⟩
      · rintro i x σ H3 hi ⟨⟨x6, x7, ids, rfl, hq3, hlen, hids⟩, hl3, s3⟩
        obtain ⟨id, hid, rfl⟩ : ∃ id, ys[i]? = some id ∧ x = V.int id := by
          rw [List.getElem?_map] at hi
          cases e : ys[i]? with
          | none => rw [e] at hi; cases hi
          | some z => rw [e] at hi; exact ⟨z, rfl, (Option.some.inj hi).symm⟩
        have hil : i < ys.length := (List.getElem?_eq_some_iff.mp hid).1
        have hik : id ∈ ks := hperm.mem_iff.mp (List.mem_of_getElem? hid)
        have sv := (hst3 id).but (fun t xs e => s3 _ _ e)
        have hdl3 := s3 _ _ D.dl
        have hg2 := DGet.k (k := Sum.inl id) (s3 _ _ hst)
        have hsome : (valV kvs (Sum.inl id : Key)).isSome := mem_key.mp (by rw [hst1]; exact List.mem_map_of_mem hik)
        cases ev : valV kvs (Sum.inl id : Key) with
        | none => rw [ev] at hsome; cases hsome
        | some v =>
          rw [ev] at sv hg2
          have hw3 := s3 _ _ W.w_
          refine ⟨_, rfl, _, _, _, _, rfl, rfl, SqL.of hw3, rfl, _, rfl, ds, _, rfl, hg2, ?_⟩
          cases eS : S id with
          | none => rw [eS] at sv; exact sv.elim
          | some r =>
            rw [eS] at sv
            cases r with
            | tb =>
              obtain rfl : v = .non := sv
              exact ⟨_, rfl, rfl, _, rfl, iteF ⟨⟨_, _, ids, rfl, hq3, by omega, hids⟩, hl3, s3⟩⟩
            | at_ z k m a =>
              obtain ⟨t, rfl, ht⟩ := sv
              obtain ⟨_, _, hz⟩ := hok _ _ _ _ _ eS
              obtain ⟨lt, hlt⟩ := Option.isSome_iff_exists.mp hz
              have hgl := DGet.k (k := Sum.inr z) hdl3
              rw [LK_val, hlt] at hgl
              refine ⟨_, rfl, rfl, _, rfl, iteT ⟨_, rfl, _, rfl, _, _, _, _, rfl, rfl, SqT.of ht, rfl, _, rfl, _, rfl, _, _, _, _, rfl, rfl, SqT.of ht, rfl, dl, _, rfl, hgl, _, _, rfl, rfl, _, _, rfl, rfl, _, rfl, ?_⟩⟩
              refine ite2 (fun c => ?_) (fun c => ?_)
              · have c : arrival ≤ m + lt := of_decide_eq_true c
                refine ⟨_, rfl, .inl ⟨rfl, _, SqL.of hq3⟩, _, rfl, q1, _, _, rfl, rfl, hq3, (by rw [List.length_map]; exact small1000 (by omega)), ⟨_, _, ids ++ [id], rfl, ?_, by rw [List.length_append]; show ids.length + 1 ≤ i + 1; omega, fun id' hid' => ?_⟩, ?_, ?_⟩
                · rw [upd_same, List.map_append]
                  rfl
                · rcases List.mem_append.mp hid' with h | h
                  · exact hids _ h
                  · rw [List.mem_singleton.mp h]
                    exact ⟨z, k, m, a, lt, eS, hlt, c⟩
                · rw [upd_ne (Ne.symm hql)]
                  exact hl3
                · exact sameAt s3 hq1
              · exact ⟨⟨_, _, ids, rfl, hq3, by omega, hids⟩, hl3, s3⟩
      · rintro σ H3 ⟨⟨x6, x7, ids, rfl, hq3, hlen, hids⟩, hl3, s3⟩
        rw [List.length_map] at hlen
        exact ⟨⟨_, _, ids, rfl, hq3, by omega, hids⟩, s3⟩
    rintro σ H3 ⟨⟨x6, x7, ids, rfl, hq3, hlen, hids⟩, s3⟩
    have hP3 := D.pool.same s3
    have qp : q1 ≠ p := fun z => D.pool.ne.1 (z ▸ hq1)
    refine ⟨_, rfl, p, s0, 4, rfl, hP3, (by decide), (by decide), fun kind H4 kd0 kd4 P4 => ?_⟩
    have hdk4 := P4.keep (s3 _ _ D.dk) kp
    refine ⟨_, rfl, _, rfl, _, rfl, dk, _, rfl, .inl (SqL.of hdk4), p, s0, _, rfl, P4.now, (by rw [List.length_map]; omega), (by rw [List.length_map]; exact Int.lt_of_le_of_lt (show ((kys.length : Nat) : Int) ≤ 8 by omega) (by decide)), fun gk H5 gk0 gk1 P5 => ?_⟩
    rw [List.length_map] at gk1
    obtain ⟨gk, rfl⟩ : ∃ n : Nat, gk = (n : Int) := ⟨gk.toNat, by omega⟩
    have hgk : gk < kys.length := by omega
    have hkm : kys[gk] ∈ kys := List.getElem_mem hgk
    refine ⟨_, _, _, V.str kys[gk], rfl, rfl, SqL.of (P5.keep hdk4 kp), atI_nat (by rw [List.getElem?_map, List.getElem?_eq_getElem hgk]; rfl), ?_⟩
    have PA : Pl H H5 p s0 := (((Pl.refl D.pool).same s3).trans P4).trans P5
    have q5 := (P4.trans P5).keep hq3 qp
    generalize kys[gk] = key at hkm
    refine ⟨_, rfl, dl, _, rfl, .of (PA.dk D.pool D.dl), fun l hl => ?_⟩
    have e1 : (LK L).map (fun kv => kV kv.1) = (L.map (·.1)).map V.str := by
      unfold LK
      rw [List.map_map, List.map_map]
      rfl
    rw [e1]
    have PB := PA.new hl (o := .lst ((L.map (·.1)).map V.str))
    have hlp : l ≠ p := fun z => PA.now.ne.1 (z ▸ hl)
    have hq1l : q1 ≠ l := fun z => by rw [← z, q5] at hl; cases hl
    have q6 : (upd H5 l (.lst ((L.map (·.1)).map V.str))) q1 = some (.lst (ids.map V.int)) := by rw [upd_ne hq1l]; exact q5
    have hl6 : (upd H5 l (.lst ((L.map (·.1)).map V.str))) l = some (.lst ((L.map (·.1)).map V.str)) := upd_same
    generalize (upd H5 l (.lst ((L.map (·.1)).map V.str))) = H6 at PB q6 hl6 ⊢
    refine ⟨_, rfl, _, rfl, dl, _, rfl, PB.dk D.pool D.dl, p, s0, _, rfl, PB.now, (by rw [LK_len]; omega), (by rw [LK_len]; omega), fun g H7 g0 g1 P7 => ?_⟩
    rw [LK_len] at g1
    obtain ⟨g, rfl⟩ : ∃ n : Nat, g = (n : Int) := ⟨g.toNat, by omega⟩
    have hg : g < L.length := by omega
    have PC := PB.trans P7
    have hm : L[g] ∈ L := List.getElem_mem hg
    have hlk : L.lookup L[g].1 = some L[g].2 := lookup_mem D.LL.nd hm
    have b0 := D.LL.lo _ hm
    have b1 := D.LL.hi _ hm
    refine ⟨_, _, _, V.str L[g].1, rfl, rfl, SqL.of (P7.keep hl6 hlp), atI_nat (by rw [List.getElem?_map, List.getElem?_map, List.getElem?_eq_getElem hg]; rfl), ?_⟩
    have hgl := DGet.k (k := Sum.inr L[g].1) (PC.dk D.pool D.dl)
    rw [LK_val, hlk] at hgl
    have q7 := P7.keep q6 qp
    obtain ⟨mn, hmn, mn0, mn1⟩ : ∃ mn : Int, (if (6 : Int) < L[g].2 then 6 else L[g].2) = mn ∧ 0 ≤ mn ∧ mn ≤ 6 := by
      refine ⟨_, rfl, ?_, ?_⟩ <;> split <;> omega
    have mnL : mn ≤ L[g].2 := by rw [← hmn]; split <;> omega
    refine ⟨_, rfl, _, rfl, _, rfl, dl, _, rfl, hgl, _, _, rfl, _, _, rfl, rfl, p, s0, mn + 1, by rw [← hmn]; rfl, PC.now, (by omega), Int.lt_of_le_of_lt (show mn + 1 ≤ 7 by omega) (by decide), fun bh H8 bh0 bh1 P8 => ?_⟩
    refine ⟨_, rfl, p, s0, rfl, P8.now, fun am H9 P9 => ?_⟩
    have PD := (PC.trans P8).trans P9
    have q9 := (P8.trans P9).keep q7 qp
    have hw9 := PD.keep W.w_ wp
    obtain ⟨kvm, hm1, hm2, hm3⟩ := W.m_
    obtain ⟨cc, hcc⟩ := hm3 key hkm
    have hm9 := PD.dk D.pool hm1
    have hgm := DGet.k (k := Sum.inr key) hm9
    rw [hcc] at hgm
    refine ⟨_, rfl, _, _, rfl, rfl, _, rfl, ?_⟩
    refine ite2 (fun c1 => ?_) (fun c1 => ?_)
    · refine iteT ?_
      refine ⟨_, rfl, _, _, _, _, rfl, rfl, SqL.of hw9, rfl, _, rfl, mk, _, rfl, hgm, _, _, rfl, rfl, _, rfl, ?_⟩
      refine ite2 (fun c3 => ?_) (fun c3 => ?_)
      · skip
        refine ⟨_, rfl, _, _, _, _, rfl, rfl, SqL.of hw9, rfl, _, rfl, _, rfl, _, rfl, _, rfl, _, _, rfl, rfl, _, rfl, _, rfl, (by show 7 ≤ sizeLine; decide), fun e he => ?_⟩
        have s9 := sameAt (Same.refl H9) he (o := .tup [.str "row", .int n, .str L[g].1, .str key, .int (arrival - bh), .int am, .int arrival])
        refine q e (.row n L[g].1 key (arrival - bh) am arrival) (.at_ L[g].1 key (arrival - bh) am) _ upd_same ⟨hn, fun _ _ _ _ _ _ z => by
          cases z
          exact ⟨D.LL.nm _ hm, D.kn _ hkm⟩⟩ (fun _ _ _ _ _ _ z => by cases z; exact hkm) rfl ?_ (.inl rfl) (PD.same s9)
        show behind L _ (S n) = _
        rw [hSn]
        show (L.lookup L[g].1).bind _ = _
        rw [hlk, Option.bind_some, if_pos ⟨by omega, by omega⟩]
      · skip
        refine ⟨_, rfl, q1, _, rfl, .inl (SqL.of q9), rfl, _, rfl, ?_⟩
        refine ite2 (fun c4 => ?_) (fun c4 => ?_)
        · exact q0 _ PD
        · have hne : 0 < ids.length := by
            refine Nat.pos_of_ne_zero fun z => c4 (decide_eq_true ?_)
            rw [List.length_map, z]
            rfl
          refine ⟨_, rfl, _, rfl, _, rfl, q1, _, rfl, .inl (SqL.of q9), p, s0, _, rfl, PD.now, (by rw [List.length_map]; omega), (by rw [List.length_map]; exact Int.lt_of_le_of_lt (show ((ids.length : Nat) : Int) ≤ 100 by omega) (by decide)), fun go HE go0 go1 PE_ => ?_⟩
          rw [List.length_map] at go1
          obtain ⟨go, rfl⟩ : ∃ n : Nat, go = (n : Int) := ⟨go.toNat, by omega⟩
          have hgo : go < ids.length := by omega
          have PE := PD.trans PE_
          obtain ⟨old, hold⟩ : ∃ old, old = ids[go] := ⟨_, rfl⟩
          refine ⟨_, _, _, V.int old, rfl, rfl, SqL.of (PE_.keep q9 qp), atI_nat (by rw [List.getElem?_map, List.getElem?_eq_getElem hgo, hold]; rfl), ?_⟩
          obtain ⟨z, ky, m0, a0, lt, eS, hlt, har⟩ := hids old (by rw [hold]; exact List.getElem_mem hgo)
          have hpo := hpos old (by rw [eS]; exact fun z => nomatch z)
          obtain ⟨x, hx, hx1⟩ : ∃ x, x ∈ L ∧ x = (z, lt) := by
            obtain ⟨i, hi, e⟩ := lookup_in hlt
            exact ⟨_, List.getElem_mem hi, e⟩
          have b2 := D.LL.lo _ hx
          have b3 := D.LL.hi _ hx
          rw [hx1] at b2 b3
          have b2 : 0 ≤ lt := b2
          have hwE := PE.keep W.w_ wp
          refine ⟨_, rfl, rfl, _, rfl, ?_⟩
          refine ite2 (fun c5 => ?_) (fun c5 => ?_)
          · refine ⟨_, rfl, _, rfl, (by show 3 ≤ sizeLine; decide), fun e he => ?_⟩
            have s9 := sameAt (Same.refl HE) he (o := .tup [.str "gone", .int old, .int arrival])
            refine q e (.gone old arrival) .tb _ upd_same ⟨hpo, fun _ _ _ _ _ _ z => nomatch z⟩ (fun _ _ _ _ _ _ z => nomatch z) rfl ?_ (.inr (by show S old ≠ none; rw [eS]; exact fun z => nomatch z)) (PE.same s9)
            show behind L _ (S old) = _
            rw [eS]
            show (L.lookup z).bind _ = _
            rw [hlt, Option.bind_some, if_pos har]
          · obtain ⟨kvE, hE, _, _, hE3⟩ := W.st.pl D.pool PE
            have hgE := DGet.k (k := Sum.inl old) hE
            have svE := hE3 old
            rw [eS] at svE
            cases ev : valV kvE (Sum.inl old : Key) with
            | none => rw [ev] at svE; exact svE.elim
            | some v =>
              rw [ev] at svE hgE
              obtain ⟨tt, rfl, htt⟩ := svE
              have hglE := DGet.k (k := Sum.inr z) (PE.dk D.pool D.dl)
              rw [LK_val, hlt] at hglE
              refine ⟨_, rfl, _, rfl, _, _, _, _, rfl, rfl, SqL.of hwE, rfl, _, rfl, ds, _, rfl, hgE, _, _, _, _, rfl, rfl, SqT.of htt, rfl, dl, _, rfl, hglE, ?_⟩
              refine ⟨_, rfl, _, rfl, _, rfl, _, rfl, _, _, rfl, _, _, rfl, rfl, _, rfl, _, rfl, (by show 5 ≤ sizeLine; decide), fun e he => ?_⟩
              obtain ⟨mb, hmb, mb0, mb1⟩ : ∃ mb : Int, (if lt < bh then lt else bh) = mb ∧ 0 ≤ mb ∧ mb ≤ lt := by
                refine ⟨_, rfl, ?_, ?_⟩ <;> split <;> omega
              have s9 := sameAt (Same.refl HE) he (o := .tup [.str "fix", .int old, .int (arrival - (if lt < bh then lt else bh)), .int am, .int arrival])
              refine q e (.fix old (arrival - (if lt < bh then lt else bh)) am arrival) (.at_ z ky (arrival - (if lt < bh then lt else bh)) am) _ upd_same ⟨hpo, fun _ _ _ _ _ _ z => nomatch z⟩ (fun _ _ _ _ _ _ z => nomatch z) rfl ?_ (.inr (by show S old ≠ none; rw [eS]; exact fun z => nomatch z)) (PE.same s9)
              show behind L _ (S old) = _
              rw [eS]
              show (L.lookup z).bind _ = _
              rw [hlt, Option.bind_some, hmb, if_pos ⟨har, by omega, by omega⟩]
    · refine ⟨_, rfl, q1, _, rfl, .inl (SqL.of q9), rfl, _, rfl, ?_⟩
      refine ite2 (fun c2 => ?_) (fun c2 => iteF ?_)
      · skip
        refine ⟨_, rfl, _, _, _, _, rfl, rfl, SqL.of hw9, rfl, _, rfl, mk, _, rfl, hgm, _, _, rfl, rfl, _, rfl, ?_⟩
        refine ite2 (fun c3 => ?_) (fun c3 => ?_)
        · skip
          refine ⟨_, rfl, _, _, _, _, rfl, rfl, SqL.of hw9, rfl, _, rfl, _, rfl, _, rfl, _, rfl, _, _, rfl, rfl, _, rfl, _, rfl, (by show 7 ≤ sizeLine; decide), fun e he => ?_⟩
          have s9 := sameAt (Same.refl H9) he (o := .tup [.str "row", .int n, .str L[g].1, .str key, .int (arrival - bh), .int am, .int arrival])
          refine q e (.row n L[g].1 key (arrival - bh) am arrival) (.at_ L[g].1 key (arrival - bh) am) _ upd_same ⟨hn, fun _ _ _ _ _ _ z => by
            cases z
            exact ⟨D.LL.nm _ hm, D.kn _ hkm⟩⟩ (fun _ _ _ _ _ _ z => by cases z; exact hkm) rfl ?_ (.inl rfl) (PD.same s9)
          show behind L _ (S n) = _
          rw [hSn]
          show (L.lookup L[g].1).bind _ = _
          rw [hlk, Option.bind_some, if_pos ⟨by omega, by omega⟩]
        · skip
          refine ⟨_, rfl, q1, _, rfl, .inl (SqL.of q9), rfl, _, rfl, ?_⟩
          refine ite2 (fun c4 => ?_) (fun c4 => ?_)
          · exact q0 _ PD
          · have hne : 0 < ids.length := by
              refine Nat.pos_of_ne_zero fun z => c4 (decide_eq_true ?_)
              rw [List.length_map, z]
              rfl
            refine ⟨_, rfl, _, rfl, _, rfl, q1, _, rfl, .inl (SqL.of q9), p, s0, _, rfl, PD.now, (by rw [List.length_map]; omega), (by rw [List.length_map]; exact Int.lt_of_le_of_lt (show ((ids.length : Nat) : Int) ≤ 100 by omega) (by decide)), fun go HE go0 go1 PE_ => ?_⟩
            rw [List.length_map] at go1
            obtain ⟨go, rfl⟩ : ∃ n : Nat, go = (n : Int) := ⟨go.toNat, by omega⟩
            have hgo : go < ids.length := by omega
            have PE := PD.trans PE_
            obtain ⟨old, hold⟩ : ∃ old, old = ids[go] := ⟨_, rfl⟩
            refine ⟨_, _, _, V.int old, rfl, rfl, SqL.of (PE_.keep q9 qp), atI_nat (by rw [List.getElem?_map, List.getElem?_eq_getElem hgo, hold]; rfl), ?_⟩
            obtain ⟨z, ky, m0, a0, lt, eS, hlt, har⟩ := hids old (by rw [hold]; exact List.getElem_mem hgo)
            have hpo := hpos old (by rw [eS]; exact fun z => nomatch z)
            obtain ⟨x, hx, hx1⟩ : ∃ x, x ∈ L ∧ x = (z, lt) := by
              obtain ⟨i, hi, e⟩ := lookup_in hlt
              exact ⟨_, List.getElem_mem hi, e⟩
            have b2 := D.LL.lo _ hx
            have b3 := D.LL.hi _ hx
            rw [hx1] at b2 b3
            have b2 : 0 ≤ lt := b2
            have hwE := PE.keep W.w_ wp
            refine ⟨_, rfl, rfl, _, rfl, ?_⟩
            refine ite2 (fun c5 => ?_) (fun c5 => ?_)
            · refine ⟨_, rfl, _, rfl, (by show 3 ≤ sizeLine; decide), fun e he => ?_⟩
              have s9 := sameAt (Same.refl HE) he (o := .tup [.str "gone", .int old, .int arrival])
              refine q e (.gone old arrival) .tb _ upd_same ⟨hpo, fun _ _ _ _ _ _ z => nomatch z⟩ (fun _ _ _ _ _ _ z => nomatch z) rfl ?_ (.inr (by show S old ≠ none; rw [eS]; exact fun z => nomatch z)) (PE.same s9)
              show behind L _ (S old) = _
              rw [eS]
              show (L.lookup z).bind _ = _
              rw [hlt, Option.bind_some, if_pos har]
            · obtain ⟨kvE, hE, _, _, hE3⟩ := W.st.pl D.pool PE
              have hgE := DGet.k (k := Sum.inl old) hE
              have svE := hE3 old
              rw [eS] at svE
              cases ev : valV kvE (Sum.inl old : Key) with
              | none => rw [ev] at svE; exact svE.elim
              | some v =>
                rw [ev] at svE hgE
                obtain ⟨tt, rfl, htt⟩ := svE
                have hglE := DGet.k (k := Sum.inr z) (PE.dk D.pool D.dl)
                rw [LK_val, hlt] at hglE
                refine ⟨_, rfl, _, rfl, _, _, _, _, rfl, rfl, SqL.of hwE, rfl, _, rfl, ds, _, rfl, hgE, _, _, _, _, rfl, rfl, SqT.of htt, rfl, dl, _, rfl, hglE, ?_⟩
                refine ⟨_, rfl, _, rfl, _, rfl, _, rfl, _, _, rfl, _, _, rfl, rfl, _, rfl, _, rfl, (by show 5 ≤ sizeLine; decide), fun e he => ?_⟩
                obtain ⟨mb, hmb, mb0, mb1⟩ : ∃ mb : Int, (if lt < bh then lt else bh) = mb ∧ 0 ≤ mb ∧ mb ≤ lt := by
                  refine ⟨_, rfl, ?_, ?_⟩ <;> split <;> omega
                have s9 := sameAt (Same.refl HE) he (o := .tup [.str "fix", .int old, .int (arrival - (if lt < bh then lt else bh)), .int am, .int arrival])
                refine q e (.fix old (arrival - (if lt < bh then lt else bh)) am arrival) (.at_ z ky (arrival - (if lt < bh then lt else bh)) am) _ upd_same ⟨hpo, fun _ _ _ _ _ _ z => nomatch z⟩ (fun _ _ _ _ _ _ z => nomatch z) rfl ?_ (.inr (by show S old ≠ none; rw [eS]; exact fun z => nomatch z)) (PE.same s9)
                show behind L _ (S old) = _
                rw [eS]
                show (L.lookup z).bind _ = _
                rw [hlt, Option.bind_some, hmb, if_pos ⟨har, by omega, by omega⟩]
      · skip
        refine ⟨_, rfl, q1, _, rfl, .inl (SqL.of q9), rfl, _, rfl, ?_⟩
        refine ite2 (fun c4 => ?_) (fun c4 => ?_)
        · exact q0 _ PD
        · have hne : 0 < ids.length := by
            refine Nat.pos_of_ne_zero fun z => c4 (decide_eq_true ?_)
            rw [List.length_map, z]
            rfl
          refine ⟨_, rfl, _, rfl, _, rfl, q1, _, rfl, .inl (SqL.of q9), p, s0, _, rfl, PD.now, (by rw [List.length_map]; omega), (by rw [List.length_map]; exact Int.lt_of_le_of_lt (show ((ids.length : Nat) : Int) ≤ 100 by omega) (by decide)), fun go HE go0 go1 PE_ => ?_⟩
          rw [List.length_map] at go1
          obtain ⟨go, rfl⟩ : ∃ n : Nat, go = (n : Int) := ⟨go.toNat, by omega⟩
          have hgo : go < ids.length := by omega
          have PE := PD.trans PE_
          obtain ⟨old, hold⟩ : ∃ old, old = ids[go] := ⟨_, rfl⟩
          refine ⟨_, _, _, V.int old, rfl, rfl, SqL.of (PE_.keep q9 qp), atI_nat (by rw [List.getElem?_map, List.getElem?_eq_getElem hgo, hold]; rfl), ?_⟩
          obtain ⟨z, ky, m0, a0, lt, eS, hlt, har⟩ := hids old (by rw [hold]; exact List.getElem_mem hgo)
          have hpo := hpos old (by rw [eS]; exact fun z => nomatch z)
          obtain ⟨x, hx, hx1⟩ : ∃ x, x ∈ L ∧ x = (z, lt) := by
            obtain ⟨i, hi, e⟩ := lookup_in hlt
            exact ⟨_, List.getElem_mem hi, e⟩
          have b2 := D.LL.lo _ hx
          have b3 := D.LL.hi _ hx
          rw [hx1] at b2 b3
          have b2 : 0 ≤ lt := b2
          have hwE := PE.keep W.w_ wp
          refine ⟨_, rfl, rfl, _, rfl, ?_⟩
          refine ite2 (fun c5 => ?_) (fun c5 => ?_)
          · refine ⟨_, rfl, _, rfl, (by show 3 ≤ sizeLine; decide), fun e he => ?_⟩
            have s9 := sameAt (Same.refl HE) he (o := .tup [.str "gone", .int old, .int arrival])
            refine q e (.gone old arrival) .tb _ upd_same ⟨hpo, fun _ _ _ _ _ _ z => nomatch z⟩ (fun _ _ _ _ _ _ z => nomatch z) rfl ?_ (.inr (by show S old ≠ none; rw [eS]; exact fun z => nomatch z)) (PE.same s9)
            show behind L _ (S old) = _
            rw [eS]
            show (L.lookup z).bind _ = _
            rw [hlt, Option.bind_some, if_pos har]
          · obtain ⟨kvE, hE, _, _, hE3⟩ := W.st.pl D.pool PE
            have hgE := DGet.k (k := Sum.inl old) hE
            have svE := hE3 old
            rw [eS] at svE
            cases ev : valV kvE (Sum.inl old : Key) with
            | none => rw [ev] at svE; exact svE.elim
            | some v =>
              rw [ev] at svE hgE
              obtain ⟨tt, rfl, htt⟩ := svE
              have hglE := DGet.k (k := Sum.inr z) (PE.dk D.pool D.dl)
              rw [LK_val, hlt] at hglE
              refine ⟨_, rfl, _, rfl, _, _, _, _, rfl, rfl, SqL.of hwE, rfl, _, rfl, ds, _, rfl, hgE, _, _, _, _, rfl, rfl, SqT.of htt, rfl, dl, _, rfl, hglE, ?_⟩
              refine ⟨_, rfl, _, rfl, _, rfl, _, rfl, _, _, rfl, _, _, rfl, rfl, _, rfl, _, rfl, (by show 5 ≤ sizeLine; decide), fun e he => ?_⟩
              obtain ⟨mb, hmb, mb0, mb1⟩ : ∃ mb : Int, (if lt < bh then lt else bh) = mb ∧ 0 ≤ mb ∧ mb ≤ lt := by
                refine ⟨_, rfl, ?_, ?_⟩ <;> split <;> omega
              have s9 := sameAt (Same.refl HE) he (o := .tup [.str "fix", .int old, .int (arrival - (if lt < bh then lt else bh)), .int am, .int arrival])
              refine q e (.fix old (arrival - (if lt < bh then lt else bh)) am arrival) (.at_ z ky (arrival - (if lt < bh then lt else bh)) am) _ upd_same ⟨hpo, fun _ _ _ _ _ _ z => nomatch z⟩ (fun _ _ _ _ _ _ z => nomatch z) rfl ?_ (.inr (by show S old ≠ none; rw [eS]; exact fun z => nomatch z)) (PE.same s9)
              show behind L _ (S old) = _
              rw [eS]
              show (L.lookup z).bind _ = _
              rw [hlt, Option.bind_some, hmb, if_pos ⟨har, by omega, by omega⟩]
end
end Ash

set_option Elab.async false
set_option linter.all false
set_option maxRecDepth 100000
set_option maxHeartbeats 4000000
set_option pp.maxSteps 600
namespace Ash
open PySem PySem.Spec PyProof.Rows L2
open C8 (pss_cut)
def spPutD : Sp := fun vs H Q _ => ∃ (ds e : Addr) (L : List (Str × Int)) (S : Kn) (ks : List Int) (x : Ent) (y : RowSt), vs = [.ref ds, .ref e] ∧ StD H ds S ks ∧ ks.length ≤ 900 ∧ EntAt H e x ∧ behind L x (S x.id) = some y ∧
  ∀ H', StD H' ds (fun j => if j = x.id then some y else S j) (addK ks x.id) → (∀ c o, H c = some o → c ≠ ds → H' c = some o) → Q .non H'
structure Fr6 (H0 H : Hp) (p s w we ds mk : Addr) : Prop where
  now : PoolAt H p s
  keep : ∀ c o, H0 c = some o → c ≠ p → c ≠ w → c ≠ we → c ≠ ds → c ≠ mk → H c = some o
structure Dis (w we ds mk p s : Addr) : Prop where
  w1 : w ≠ we
  w2 : w ≠ ds
  w3 : w ≠ mk
  e2 : we ≠ ds
  e3 : we ≠ mk
  d3 : ds ≠ mk
  wp : w ≠ p ∧ w ≠ s
  ep : we ≠ p ∧ we ≠ s
  dp : ds ≠ p ∧ ds ≠ s
  mp : mk ≠ p ∧ mk ≠ s
def spNext85 : Sp := fun vs H Q _ => ∃ (p s dl dk w we ds mk : Addr) (L : List (Str × Int)) (kys : List Str) (us : List V) (xs : List Ent) (S : Kn) (ks : List Int) (a n floor : Int), vs = [.ref p, .ref dl, .ref dk, .ref w, .int floor] ∧ Bs H p s dl dk L kys ∧ Wk H w we ds mk kys us xs S ks a n ∧ En L xs S a n ∧ (∀ x ∈ xs, KIn kys x) ∧ 0 ≤ n ∧ ks.length ≤ 50 ∧ us.length ≤ 50 ∧ dk ≠ p ∧ Dis w we ds mk p s ∧
  ∀ v us' xs' S' ks' a' n' H', Wk H' w we ds mk kys us' xs' S' ks' a' n' → En L xs' S' a' n' → (∀ x ∈ xs', KIn kys x) → 0 ≤ n' → a ≤ a' → (a' ≤ a + 4 ∨ a' = floor) → xs'.length ≤ xs.length + 1 → ks'.length ≤ ks.length + 1 → Fr6 H H' p s w we ds mk → Q v H'
theorem Wk.pl {H H' : Hp} {w we ds mk p s : Addr} {kys : List Str} {us : List V} {xs : List Ent} {S : Kn} {ks : List Int} {a n : Int} (W : Wk H w we ds mk kys us xs S ks a n) (P0 : PoolAt H p s) (P : Pl H H' p s) (n1 : w ≠ p) (n2 : we ≠ p) : Wk H' w we ds mk kys us xs S ks a n := by
  obtain ⟨kvs, h1, h2⟩ := W.m_
  exact ⟨P.keep W.w_ n1, P.keep W.e_ n2, W.es.tk (P.tk P0), W.st.pl P0 P, kvs, P.dk P0 h1, h2⟩
theorem Wk.same {H H' : Hp} {w we ds mk : Addr} {kys : List Str} {us : List V} {xs : List Ent} {S : Kn} {ks : List Int} {a n : Int} (W : Wk H w we ds mk kys us xs S ks a n) (P : Same H H') : Wk H' w we ds mk kys us xs S ks a n := by
  obtain ⟨kvs, h1, h2⟩ := W.m_
  exact ⟨P _ _ W.w_, P _ _ W.e_, W.es.tk (tk_same P), W.st.same P, kvs, P _ _ h1, h2⟩
theorem PoolAt.but {H H' : Hp} {p s d : Addr} (h : PoolAt H p s) (b : But d H H') (n1 : d ≠ p) (n2 : d ≠ s) : PoolAt H' p s := by
  obtain ⟨ns, i, c, k, n, h1, h2, h3, h4⟩ := h
  exact ⟨ns, i, c, k, n, b _ _ h1 (Ne.symm n1), b _ _ h2 (Ne.symm n2), h3, h4⟩
section
variable {P : Program} {w : World} {K : PySem.W.Frag} {mg : Str → Option Value} {base : Heap}
theorem ok_putD {f : Addr} {fd : FuncData} (F : Fun K "_law_put" "_law_put" s_l_put f fd) (B : Blt mg) : FnOk P w K mg base CX0 1 f fd ["states", "entry"] spPutD := by
  refine F.ok sc_l_put (fun vs H Q E h => ?_) (fun cdv A outer s H vs Q E hr h => ?_)
  · obtain ⟨ds, e, L, S, ks, x, y, rfl, _⟩ := h
    rfl
  · obtain ⟨ds, e, L, S, ks, x, y, rfl, hst, hn, hx, hb, q⟩ := h
    have hu := hu_of hr
    obtain ⟨kvs, h1, h2, h3, h4⟩ := id hst
    have kl : kvs.length ≤ 900 := by
      have := congrArg List.length h2
      rw [List.length_map, List.length_map] at this
      omega
    refine ⟨_, (pss_one (ps_if (pt_cmpR op_eq (pe_ix ix_tup (pv 1) pe_int (fun _ _ => rfl)) pe_str (nomark _))
      (pss_one (ps_dput hu (pv 0) (pe_ix ix_tup (pv 1) pe_int (fun _ _ => rfl)) (pe_tup (pa_cons (pe_ix ix_tup (pv 1) pe_int (fun _ _ => rfl)) (pa_cons (pe_ix ix_tup (pv 1) pe_int (fun _ _ => rfl)) (pa_cons (pe_ix ix_tup (pv 1) pe_int (fun _ _ => rfl)) (pa_cons (pe_ix ix_tup (pv 1) pe_int (fun _ _ => rfl)) pa_nil))))) rfl))
      (pss_one (ps_if (pt_cmpR op_eq (pe_ix ix_tup (pv 1) pe_int (fun _ _ => rfl)) pe_str (nomark _))
        (pss_cons (ps_set (i := 2) sc_l_put.nd rfl (Or.inl rfl) (pe_dget hu (pv 0) (pe_ix ix_tup (pv 1) pe_int (fun _ _ => rfl)) (fun _ _ => rfl)))
        (pss_one (ps_dput hu (pv 0) (pe_ix ix_tup (pv 1) pe_int (fun _ _ => rfl)) (pe_tup (pa_cons (pe_ix ix_tup (pv 2) pe_int (fun _ _ => rfl)) (pa_cons (pe_ix ix_tup (pv 2) pe_int (fun _ _ => rfl)) (pa_cons (pe_ix ix_tup (pv 1) pe_int (fun _ _ => rfl)) (pa_cons (pe_ix ix_tup (pv 1) pe_int (fun _ _ => rfl)) pa_nil))))) rfl)))
        (pss_one (ps_dput hu (pv 0) (pe_ix ix_tup (pv 1) pe_int (fun _ _ => rfl)) pe_non rfl)))))), ?_⟩
    cases x with
    | row id z k m a r =>
      obtain rfl := behind_row hb
      refine ⟨_, rfl, _, _, _, _, rfl, rfl, SqT.of hx, rfl, rfl, _, rfl, iteT ?_⟩
      refine ⟨_, rfl, _, _, _, _, rfl, rfl, SqT.of hx, rfl, _, rfl, _, _, _, _, rfl, rfl, SqT.of hx, rfl, _, rfl, _, _, _, _, rfl, rfl, SqT.of hx, rfl, _, rfl, _, _, _, _, rfl, rfl, SqT.of hx, rfl, (by show 4 ≤ sizeLine; decide), fun t ht => ?_⟩
      have s1 := sameAt (Same.refl H) ht (o := .tup [.str z, .str k, .int m, .int a])
      have hx1 : EntAt (upd H t (.tup [.str z, .str k, .int m, .int a])) e (.row id z k m a r) := s1 _ _ hx
      refine ⟨_, rfl, _, rfl, _, _, _, _, rfl, rfl, SqT.of hx1, rfl, ds, _, rfl, DPut.k (k := Sum.inl id) (s1 _ _ h1) (small1000 (by omega)), ?_⟩
      exact q _ (StD.put (s1 _ _ h1) h2 h3 (fun j => (h4 j).but fun t xs e => s1 _ _ e) ⟨t, rfl, upd_same⟩) fun c o hc hn => by rw [upd_ne hn]; exact s1 _ _ hc
    | fix id m a r =>
      obtain ⟨z, k, m0, a0, eS, rfl⟩ := behind_fix hb
      have sv := h4 id
      have eS : S id = some (.at_ z k m0 a0) := eS
      rw [eS] at sv
      obtain ⟨v, hv⟩ : ∃ v, valV kvs (Sum.inl id) = some v := by
        cases e : valV kvs (Sum.inl id : Key) with
        | none => rw [e] at sv; exact absurd sv (fun z => z)
        | some v => exact ⟨v, rfl⟩
      rw [hv] at sv
      obtain ⟨t0, rfl, ht0⟩ := sv
      have hg := DGet.k (k := Sum.inl id) h1
      rw [hv] at hg
      refine ⟨_, rfl, _, _, _, _, rfl, rfl, SqT.of hx, rfl, rfl, _, rfl, iteF ?_⟩
      refine ⟨_, rfl, _, _, _, _, rfl, rfl, SqT.of hx, rfl, rfl, _, rfl, iteT ?_⟩
      refine ⟨_, rfl, _, rfl, _, _, _, _, rfl, rfl, SqT.of hx, rfl, ds, _, rfl, hg, ?_⟩
      refine ⟨_, rfl, _, _, _, _, rfl, rfl, SqT.of ht0, rfl, _, rfl, _, _, _, _, rfl, rfl, SqT.of ht0, rfl, _, rfl, _, _, _, _, rfl, rfl, SqT.of hx, rfl, _, rfl, _, _, _, _, rfl, rfl, SqT.of hx, rfl, (by show 4 ≤ sizeLine; decide), fun t ht => ?_⟩
      have s1 := sameAt (Same.refl H) ht (o := .tup [.str z, .str k, .int m, .int a])
      have hx1 : EntAt (upd H t (.tup [.str z, .str k, .int m, .int a])) e (.fix id m a r) := s1 _ _ hx
      refine ⟨_, rfl, _, rfl, _, _, _, _, rfl, rfl, SqT.of hx1, rfl, ds, _, rfl, DPut.k (k := Sum.inl id) (s1 _ _ h1) (small1000 (by omega)), ?_⟩
      exact q _ (StD.put (s1 _ _ h1) h2 h3 (fun j => (h4 j).but fun t xs e => s1 _ _ e) ⟨t, rfl, upd_same⟩) fun c o hc hn => by rw [upd_ne hn]; exact s1 _ _ hc
    | gone id r =>
      obtain rfl := behind_gone hb
      refine ⟨_, rfl, _, _, _, _, rfl, rfl, SqT.of hx, rfl, rfl, _, rfl, iteF ?_⟩
      refine ⟨_, rfl, _, _, _, _, rfl, rfl, SqT.of hx, rfl, rfl, _, rfl, iteF ?_⟩
      refine ⟨_, rfl, _, rfl, _, _, _, _, rfl, rfl, SqT.of hx, rfl, ds, _, rfl, DPut.k (k := Sum.inl id) h1 (small1000 (by omega)), ?_⟩
      exact q _ (StD.put h1 h2 h3 h4 rfl) fun c o hc hn => by rw [upd_ne hn]; exact hc
structure G4d (P : Program) (w : World) (K : PySem.W.Frag) (mg : Str → Option Value) (base : Heap) : Prop extends G3d P w K mg base where
  law_entry : Cal P w K mg base CX0 "_law_entry" 3 ["pool", "lates", "keys", "work", "arrival"] spEntry85
  law_put : Cal P w K mg base CX0 "_law_put" 1 ["states", "entry"] spPutD
abbrev s_l_next_entry : Stmt := topS 49
theorem sc_l_next_entry : FnScope ["pool", "lates", "keys", "work", "floor", "arrival", "entry", "many"] ["pool", "lates", "keys", "work", "floor"] (defScope s_l_next_entry) := ⟨rfl, rfl, rfl, by decide +kernel, rfl, by decide +kernel, by decide +kernel⟩
theorem ok_next {f : Addr} {fd : FuncData} (F : Fun K "_law_next_entry" "_law_next_entry" s_l_next_entry f fd) (B : Blt mg) (G : G4d P w K mg base) : FnOk P w K mg base CX0 4 f fd ["pool", "lates", "keys", "work", "floor"] spNext85 := by
  refine F.ok sc_l_next_entry (fun vs H Q E h => ?_) (fun cdv A outer s H vs Q E hr h => ?_)
  · obtain ⟨p, s, dl, dk, w, we, ds, mk, L, kys, us, xs, S, ks, a, n, floor, rfl, _⟩ := h
    rfl
  · obtain ⟨p, s0, dl, dk, w0, we, ds, mk, L, kys, us, xs, S, ks, a, n, floor, rfl, D, W, EN, hkin, hn, few, fewu, kp, Ds, q⟩ := h
    have hu := hu_of hr
    refine ⟨_, (pss_cons (ps_set (i := 5) sc_l_next_entry.nd rfl (Or.inl rfl) (pe_callB (call_max2 rfl) (by rfl) B.max (by decide +kernel) (pa_cons (pv 4) (pa_cons (pe_op op_add (pe_ix ix_list (pv 3) pe_int (fun _ _ => rfl)) (pe_ix ix_list (pe_lst (pa_cons pe_int (pa_cons pe_int (pa_cons pe_int (pa_cons pe_int (pa_cons pe_int (pa_cons pe_int pa_nil))))))) (pe_cal G.law_draw (hr.mono (by decide)) pass0 (pa_cons (pv 0) (pa_cons pe_int pa_nil))) (fun _ _ => rfl))) pa_nil))))
    (pss_cons (ps_set (i := 6) sc_l_next_entry.nd rfl (Or.inl rfl) (pe_cal G.law_entry (hr.mono (by decide)) pass0 (pa_cons (pv 0) (pa_cons (pv 1) (pa_cons (pv 2) (pa_cons (pv 3) (pa_cons (pv 5) pa_nil)))))))
    (pss_cons (ps_if (pt_cmpR op_isN (pv 6) pe_non (nomark _))
      (pss_one (ps_ret pe_non))
      pss_nil)
    (pss_cut (ps_if (pt_cmpR op_eq (pe_ix ix_tup (pv 6) pe_int (fun _ _ => rfl)) pe_str (nomark _))
      (pss_cons (ps_set (i := 7) sc_l_next_entry.nd rfl (Or.inl rfl) (pe_ix ix_list (pv 3) pe_int (fun _ _ => rfl)))
      (pss_cons (ps_daug hu (pv 7) (pe_ix ix_tup (pv 6) pe_int (fun _ _ => rfl)) pe_int in_add (fun _ _ _ => rfl))
      (pss_one (ps_asg (pe_op op_add (pe_op op_add (pe_ix ix_list (pv 3) pe_int (fun _ _ => rfl)) pe_int) (pe_cal G.law_draw (hr.mono (by decide)) pass0 (pa_cons (pv 0) (pa_cons pe_int pa_nil)))) (pg_sub (pv 3) pe_int set_list)))))
      pss_nil)
    (pss_cons (ps_expr (pe_cal G.law_put (hr.mono (by decide)) pass0 (pa_cons (pe_ix ix_list (pv 3) pe_int (fun _ _ => rfl)) (pa_cons (pv 6) pa_nil))))
    (pss_cons (ps_expr (pe_bm PySem.F.plainAttrs_list PySem.F.slot_list_append PySem.F.type_list_append mt_append (pe_ix ix_list (pv 3) pe_int (fun _ _ => rfl)) (pa_cons (pv 6) pa_nil)))
    (pss_cons (ps_asg (pv 5) (pg_sub (pv 3) pe_int set_list))
    (pss_one (ps_ret (pv 6)))))))))), ?_⟩
    have hw := W.w_
    refine ⟨_, rfl, _, rfl, _, _, _, _, rfl, rfl, SqL.of hw, rfl, (by show 6 ≤ sizeLine; decide), fun u hu1 => ?_⟩
    have s1 := sameAt (Same.refl H) hu1 (o := .lst [V.int 0, .int 0, .int 1, .int 1, .int 2, .int 4])
    have hu2 : (upd H u (.lst [V.int 0, .int 0, .int 1, .int 1, .int 2, .int 4])) u = some (.lst [V.int 0, .int 0, .int 1, .int 1, .int 2, .int 4]) := upd_same
    have up : u ≠ p := fun z => D.pool.ne.1 (z ▸ hu1)
    generalize (upd H u (.lst [V.int 0, .int 0, .int 1, .int 1, .int 2, .int 4])) = H1 at s1 hu2 ⊢
    refine ⟨_, rfl, p, s0, 6, rfl, D.pool.same s1, (by decide), (by decide), fun g H2 g0 g8 P2 => ?_⟩
    obtain ⟨v, hv, v0, v1⟩ : ∃ v : Int, atI [V.int 0, .int 0, .int 1, .int 1, .int 2, .int 4] g = some (V.int v) ∧ 0 ≤ v ∧ v ≤ 4 := by
      have : g = 0 ∨ g = 1 ∨ g = 2 ∨ g = 3 ∨ g = 4 ∨ g = 5 := by omega
      rcases this with rfl | rfl | rfl | rfl | rfl | rfl
      · exact ⟨0, rfl, by omega, by omega⟩
      · exact ⟨0, rfl, by omega, by omega⟩
      · exact ⟨1, rfl, by omega, by omega⟩
      · exact ⟨1, rfl, by omega, by omega⟩
      · exact ⟨2, rfl, by omega, by omega⟩
      · exact ⟨4, rfl, by omega, by omega⟩
    refine ⟨_, _, _, V.int v, rfl, rfl, SqL.of (P2.keep hu2 up), hv, _, _, rfl, rfl, _, _, rfl, ?_⟩
    have PA : Pl H H2 p s0 := ((Pl.refl D.pool).same s1).trans P2
    have D2 : Bs H2 p s0 dl dk L kys := ⟨PA.now, PA.dk D.pool D.dl, D.LL, PA.keep D.dk kp, D.k1, D.k2, D.kn⟩
    have W2 := W.pl D.pool PA Ds.wp.1 Ds.ep.1
    obtain ⟨arr, harr, ar1, ar2⟩ : ∃ arr : Int, (if a + v > floor then a + v else floor) = arr ∧ a ≤ arr ∧ (arr ≤ a + 4 ∨ arr = floor) := by
      refine ⟨_, rfl, ?_, ?_⟩ <;> split <;> omega
    rw [harr]
    have hSn : S n = none := by
      cases e : S n with
      | none => rfl
      | some y0 =>
        have := (EN.low _ (by rw [e]; exact fun z => nomatch z)).2
        omega
    refine ⟨_, rfl, _, rfl, _, rfl, _, rfl, _, rfl, p, s0, dl, dk, w0, we, ds, mk, L, kys, us, xs, S, ks, a, n, arr, rfl, D2, W2, EN.knok, (fun id h => (EN.low id h).1), hn, hSn, (by omega), Ds.wp.1, kp, fun H3 P3 => ?_, fun e x y H3 he ok hki ha hb hi P3 => ?_⟩
    · have PB := PA.trans P3
      refine ⟨_, rfl, rfl, _, rfl, iteT ?_⟩
      exact q _ _ _ _ _ a n _ (W.pl D.pool PB Ds.wp.1 Ds.ep.1) EN hkin hn (Int.le_refl _) (.inl (by omega)) (by omega) (by omega) ⟨PB.now, fun c o h n1 _ _ _ _ => PB.keep h n1⟩
    · have PB := PA.trans P3
      have W3 := W.pl D.pool PB Ds.wp.1 Ds.ep.1
      refine ⟨_, rfl, rfl, _, rfl, iteF ?_⟩
      refine ⟨fun σ H4 => (∃ x7, σ = [some (.ref p), some (.ref dl), some (.ref dk), some (.ref w0), some (.int floor), some (.int arr), some (.ref e), x7]) ∧ (∃ n' : Int, n ≤ n' ∧ x.id < n' ∧ Wk H4 w0 we ds mk kys us xs S ks a n') ∧ EntAt H4 e x ∧ Fr6 H H4 p s0 w0 we ds mk, ?_, ?_⟩
      · cases x with
        | row id z k m am r =>
          have hmk : k ∈ kys := hki _ _ _ _ _ _ rfl
          obtain ⟨kvm, hm1, hm2, hm3⟩ := W3.m_
          obtain ⟨cc, hcc⟩ := hm3 k hmk
          have hgm := DGet.k (k := Sum.inr k) hm1
          rw [hcc] at hgm
          have hw3 := W3.w_
          refine ⟨_, rfl, _, _, _, _, rfl, rfl, SqT.of he, rfl, rfl, _, rfl, iteT ?_⟩
          have kl : kvm.length < sizeLine := small1000 (by omega)
          refine ⟨_, rfl, _, _, _, _, rfl, rfl, SqL.of hw3, rfl, _, rfl, _, rfl, _, _, _, _, rfl, rfl, SqT.of he, rfl, mk, _, rfl, hgm, _, _, rfl, rfl, _, DPut.k (k := Sum.inr k) hm1 kl, ?_⟩
          have hmk5 : (upd H3 mk (.dK (putK kvm (Sum.inr k) (.int (cc + 1))))) mk = some (.dK (putK kvm (Sum.inr k) (.int (cc + 1)))) := upd_same
          have k5 : ∀ c o, H3 c = some o → c ≠ mk → (upd H3 mk (.dK (putK kvm (Sum.inr k) (.int (cc + 1))))) c = some o := fun c o h n => by rw [upd_ne n]; exact h
          have pool5 := PB.now.off (o := .dK (putK kvm (Sum.inr k) (.int (cc + 1)))) Ds.mp.1 Ds.mp.2
          generalize (upd H3 mk (.dK (putK kvm (Sum.inr k) (.int (cc + 1))))) = H5 at hmk5 k5 pool5 ⊢
          have hw5 := k5 _ _ hw3 Ds.w3
          refine ⟨_, rfl, _, _, _, _, rfl, rfl, SqL.of hw5, rfl, _, _, rfl, rfl, _, rfl, p, s0, 3, rfl, pool5, (by decide), (by decide), fun u6 H6 u60 u63 P6 => ⟨_, _, rfl, rfl, ?_⟩⟩
          have hw6 := P6.keep hw5 Ds.wp.1
          refine ⟨_, rfl, _, _, _, _, rfl, rfl, hw6, rfl, ?_⟩
          have kF : ∀ c o, H3 c = some o → c ≠ p → c ≠ w0 → c ≠ mk → (upd H6 w0 (.lst [.ref we, .ref ds, .int a, .int (n + 1 + u6), .ref mk])) c = some o := fun c o h n1 n2 n3 => by rw [upd_ne n2]; exact P6.keep (k5 _ _ h n3) n1
          have tF : ∀ t zs, H3 t = some (.tup zs) → (upd H6 w0 (.lst [.ref we, .ref ds, .int a, .int (n + 1 + u6), .ref mk])) t = some (.tup zs) := fun t zs h => by
            refine kF _ _ h (fun c => ?_) (fun c => ?_) (fun c => ?_)
            · obtain ⟨xs0, e0⟩ := PB.now.lst'
              rw [c, e0] at h; cases h
            · rw [c, hw3] at h; cases h
            · rw [c, hm1] at h; cases h
          refine ⟨⟨_, rfl⟩, ⟨n + 1 + u6, by omega, ?_, ?_⟩, tF _ _ he, (P6.now.off Ds.wp.1 Ds.wp.2), fun c o h n1 n2 n3 n4 n5 => kF _ _ (PB.keep h n1) n1 n2 n5⟩
          · rcases hi with hi | hi
            · rw [hi]; omega
            · have := (EN.low _ hi).2; omega
          · refine ⟨upd_same, kF _ _ W3.e_ Ds.ep.1 (Ne.symm Ds.w1) Ds.e3, W3.es.tk tF, W3.st.to (fun kv h => kF _ _ h Ds.dp.1 (Ne.symm Ds.w2) Ds.d3) tF, putK kvm (Sum.inr k) (.int (cc + 1)), ?_, ?_, fun k' hk' => ?_⟩
            · rw [upd_ne (Ne.symm Ds.w3)]
              exact P6.keep hmk5 Ds.mp.1
            · have e : (putK kvm (Sum.inr k : Key) (.int (cc + 1))).length = kvm.length := by
                unfold putK
                rw [if_pos (by rw [valV_any, hcc]; rfl), List.length_map]
              omega
            · rw [valV_put]
              by_cases c : k' = k
              · exact ⟨cc + 1, by rw [if_pos (by rw [c])]⟩
              · obtain ⟨c', hc'⟩ := hm3 k' hk'
                exact ⟨c', by rw [if_neg (fun z => c (Sum.inr.inj z))]; exact hc'⟩
        | fix id m am r =>
          refine ⟨_, rfl, _, _, _, _, rfl, rfl, SqT.of he, rfl, rfl, _, rfl, iteF ⟨⟨_, rfl⟩, ⟨n, Int.le_refl _, ?_, W3⟩, he, PB.now, fun c o h n1 _ _ _ _ => PB.keep h n1⟩⟩
          rcases hi with hi | hi
          · exact absurd hb (by rw [hi, hSn]; exact fun z => nomatch z)
          · exact (EN.low _ hi).2
        | gone id r =>
          refine ⟨_, rfl, _, _, _, _, rfl, rfl, SqT.of he, rfl, rfl, _, rfl, iteF ⟨⟨_, rfl⟩, ⟨n, Int.le_refl _, ?_, W3⟩, he, PB.now, fun c o h n1 _ _ _ _ => PB.keep h n1⟩⟩
          rcases hi with hi | hi
          · exact absurd hb (by rw [hi, hSn]; exact fun z => nomatch z)
          · exact (EN.low _ hi).2
      rintro σ H4 ⟨⟨x7, rfl⟩, ⟨n', nn, nx, W4⟩, he4, F4⟩
      have hw4 := W4.w_
      refine ⟨_, rfl, _, _, _, _, rfl, rfl, SqL.of hw4, rfl, _, rfl, ds, e, L, S, ks, x, y, rfl, W4.st, (by omega), he4, hb, fun H5 st5 k5 => ?_⟩
      obtain ⟨kv4, hd4, _⟩ := W4.st
      obtain ⟨kvm, hm1, hm2, hm3⟩ := W4.m_
      have tk5 : ∀ t zs, H4 t = some (.tup zs) → H5 t = some (.tup zs) := fun t zs h => k5 _ _ h (fun c => by rw [c, hd4] at h; cases h)
      have hw5 := k5 _ _ hw4 Ds.w2
      have he5 := k5 _ _ W4.e_ Ds.e2
      have hm5 := k5 _ _ hm1 (Ne.symm Ds.d3)
      refine ⟨_, rfl, _, _, _, _, rfl, rfl, SqL.of hw5, rfl, .inl ⟨rfl, _, SqL.of he5⟩, _, rfl, we, us, _, rfl, rfl, he5, small1000 (by omega), ?_⟩
      have hw6 : (upd H5 we (.lst (us ++ [.ref e]))) w0 = some (.lst [.ref we, .ref ds, .int a, .int n', .ref mk]) := by rw [upd_ne Ds.w1]; exact hw5
      refine ⟨_, rfl, _, rfl, _, _, _, _, rfl, rfl, hw6, rfl, ?_⟩
      refine ⟨_, rfl, ?_⟩
      have kF : ∀ c o, H5 c = some o → c ≠ w0 → c ≠ we → (upd (upd H5 we (.lst (us ++ [.ref e]))) w0 (.lst [.ref we, .ref ds, .int arr, .int n', .ref mk])) c = some o := fun c o h n2 n3 => by rw [upd_ne n2, upd_ne n3]; exact h
      have tF : ∀ t zs, H5 t = some (.tup zs) → (upd (upd H5 we (.lst (us ++ [.ref e]))) w0 (.lst [.ref we, .ref ds, .int arr, .int n', .ref mk])) t = some (.tup zs) := fun t zs h => kF _ _ h (fun c => by rw [c, hw5] at h; cases h) (fun c => by rw [c, he5] at h; cases h)
      have EN4 := EN.mono (a' := arr) (t' := n) ar1 (Int.le_refl _)
      have EN5 := EN4.snoc (number := x.id) (t' := n') ok ha hb (.inl rfl) (by exact ok.1) nx nn
      refine q _ (us ++ [.ref e]) (xs ++ [x]) _ (addK ks x.id) arr n' _ ⟨upd_same, ?_, ?_, st5.to (fun kv h => kF _ _ h (Ne.symm Ds.w2) (Ne.symm Ds.e2)) tF, kvm, kF _ _ hm5 (Ne.symm Ds.w3) (Ne.symm Ds.e3), hm2, hm3⟩ EN5 ?_ (by omega) ar1 ar2 (by rw [List.length_append]; exact Nat.le_refl _) addK_len ⟨(F4.now.but ?_ Ds.dp.1 Ds.dp.2 |>.off Ds.ep.1 Ds.ep.2).off Ds.wp.1 Ds.wp.2, fun c o h n1 n2 n3 n4 n5 => kF _ _ (k5 _ _ (F4.keep _ _ h n1 n2 n3 n4 n5) n4) n2 n3⟩
      · rw [upd_ne (Ne.symm Ds.w1), upd_same]
      · exact (W4.es.tk fun t zs h => tF _ _ (tk5 _ _ h)).snoc (tF _ _ (tk5 _ _ he4)) ok
      · intro z hz
        rcases List.mem_append.mp hz with hz | hz
        · exact hkin z hz
        · rw [List.mem_singleton.mp hz]
          exact hki
      · exact fun c o h n => k5 c o h n
end
end Ash

set_option Elab.async false
set_option linter.all false
set_option maxRecDepth 100000
set_option maxHeartbeats 4000000
set_option pp.maxSteps 600
namespace Ash
open PySem PySem.Spec PyProof.Rows L2
open C8 (pss_cut)
abbrev rLenS (K : PySem.W.Frag) : List V → Hp → (V → Hp → Prop) → Prop := fun xs H Q => ∃ p ys, xs = [.ref p] ∧ (SqL K H p ys ∨ SqT K H p ys) ∧ Q (.int ys.length) H
def spWork85 : Sp := fun vs H Q _ => ∃ (p s dk : Addr) (kys : List Str), vs = [.ref p, .ref dk] ∧ PoolAt H p s ∧ H dk = some (.lst (kys.map V.str)) ∧ dk ≠ p ∧ kys.length ≤ 8 ∧
  ∀ w we ds mk a n H', H w = none → H we = none → H ds = none → H mk = none → Dis w we ds mk p s → Wk H' w we ds mk kys [] [] K0 [] a n → 0 ≤ n → Pl H H' p s → Q (.ref w) H'
def spLHeard85 : Sp := fun vs H Q _ => ∃ (a : Addr) (us : List V) (xs : List Ent) (h : Int), vs = [.ref a, .int h] ∧ H a = some (.lst us) ∧ Ents H us xs ∧ us.length ≤ 400 ∧
  ∀ q us' H', Same H H' → H q = none → H' q = some (.lst us') → Ents H' us' (xs.filter fun x => decide (x.arr ≤ h)) → Q (.ref q) H'
def spOwned : Sp := fun vs H Q _ => ∃ (a : Addr) (us : List V) (xs : List Ent) (key : Str), vs = [.ref a, .str key] ∧ H a = some (.lst us) ∧ Ents H us xs ∧ xs.length ≤ 400 ∧
  ∀ p ys H', H p = none → H' p = some (.lst ys) → Ents H' ys (xs.filter fun e => ownP key xs e.id) → Same H H' → Q (.ref p) H'
def spShuf85 : Sp := fun vs H Q _ => ∃ (p s l : Addr) (names : List Str), vs = [.ref p, .ref l] ∧ PoolAt H p s ∧ H l = some (.lst (names.map V.str)) ∧ l ≠ p ∧ names.length ≤ 100 ∧
  ∀ (q : Addr) (ns : List Str) H', H q = none → H' q = some (.lst (ns.map V.str)) → ns.Perm names → Pl H H' p s → Q (.ref q) H'
theorem own_in (key : Str) (xs : List Ent) (id : Int) : inV (.int id) ((xs.filter (ownE key)).map fun e => V.int e.id) = ownP key xs id := by
  unfold inV ownP
  rw [List.any_map, List.any_filter]
  congr 1
section
variable {P : Program} {w : World} {K : PySem.W.Frag} {mg : Str → Option Value} {base : Heap}
abbrev s_l_work : Stmt := topS 47
theorem sc_l_work : FnScope ["pool", "keys", "many", "key"] ["pool", "keys"] (defScope s_l_work) := ⟨rfl, rfl, rfl, by decide +kernel, rfl, by decide +kernel, by decide +kernel⟩
theorem ok_work {f : Addr} {fd : FuncData} (F : Fun K "_law_work" "_law_work" s_l_work f fd) (B : Blt mg) (G : G3d P w K mg base) : FnOk P w K mg base CX0 3 f fd ["pool", "keys"] spWork85 := by
  refine F.ok sc_l_work (fun vs H Q E h => ?_) (fun cdv A outer s H vs Q E hr h => ?_)
  · obtain ⟨p, s, dk, kys, rfl, _⟩ := h
    rfl
  · obtain ⟨p, s0, dk, kys, rfl, hP, hk, kp, k8, q⟩ := h
    have hu := hu_of hr
    refine ⟨_, (pss_cons (ps_set (i := 2) sc_l_work.nd rfl (Or.inl rfl) pe_dnewK)
    (pss_cons (ps_for PassesOwn.never rfl (pi_list (pv 1)) (pg_name (i := 3) sc_l_work.nd rfl (Or.inl rfl))
      (pss_one (ps_dput hu (pv 2) (pv 3) pe_int rfl)))
    (pss_one (ps_ret (pe_lst (pa_cons (pe_lst pa_nil) (pa_cons pe_dnewK (pa_cons (pe_cal G.law_begin (hr.mono (by decide)) pass0 (pa_cons (pv 0) pa_nil)) (pa_cons (pe_cal G.law_draw (hr.mono (by decide)) pass0 (pa_cons (pv 0) (pa_cons pe_int pa_nil))) (pa_cons (pv 2) pa_nil)))))))))), ?_⟩
    refine fun mk hmk => ⟨_, rfl, dk, rfl, ⟨_, SqL.of (sameAt (Same.refl H) hmk _ _ hk)⟩, ?_⟩
    have mp : mk ≠ p ∧ mk ≠ s0 := ⟨fun z => hP.ne.1 (z ▸ hmk), fun z => hP.ne.2 (z ▸ hmk)⟩
    refine for_list (K := K) (a := dk) (xs := kys.map V.str) (fun i σ H' => (∃ x3, σ = [some (.ref p), some (.ref dk), some (.ref mk), x3]) ∧ (∃ kvs : List (Key × V), H' mk = some (.dK kvs) ∧ kvs.length ≤ i ∧ ∀ k ∈ kys.take i, ∃ c : Int, valV kvs (Sum.inr k : Key) = some (.int c)) ∧ Same H H') ⟨⟨_, rfl⟩, ⟨[], upd_same, Nat.le_refl _, fun k h => nomatch h⟩, sameAt (Same.refl H) hmk⟩ (fun i σ H' _ hv => SqL.of (hv.2.2 _ _ hk)) ?_ ?_
    · rintro i v σ H7 hi ⟨⟨x3, rfl⟩, ⟨kvs, h1, h2, h3⟩, s7⟩
      obtain ⟨key, hkey, rfl⟩ : ∃ key, kys[i]? = some key ∧ v = .str key := by
        rw [List.getElem?_map] at hi
        cases e : kys[i]? with
        | none => rw [e] at hi; cases hi
        | some z => rw [e] at hi; exact ⟨z, rfl, (Option.some.inj hi).symm⟩
      have hil : i < kys.length := (List.getElem?_eq_some_iff.mp hkey).1
      refine ⟨_, rfl, _, rfl, mk, _, rfl, DPut.k (k := Sum.inr key) h1 (small1000 (by omega)), ⟨_, rfl⟩, ⟨_, upd_same, Nat.le_trans (pk_len _ _ _) (by omega), fun k hk' => ?_⟩, sameAt s7 hmk⟩
      rw [tk1 hkey] at hk'
      rw [valV_put]
      by_cases c : k = key
      · exact ⟨0, by rw [if_pos (by rw [c])]⟩
      · rw [if_neg (fun z => c (Sum.inr.inj z))]
        rcases List.mem_append.mp hk' with h | h
        · exact h3 k h
        · exact absurd (List.mem_singleton.mp h) c
    · rintro σ H7 ⟨⟨x3, rfl⟩, ⟨kvs, h1, h2, h3⟩, s7⟩
      rw [List.length_map] at h2
      rw [List.length_map, List.take_length] at h3
      have P7 := hP.same s7
      refine ⟨(by show 0 ≤ sizeLine; decide), fun we hwe => fun ds hds => ?_⟩
      have ne1 : we ≠ ds := fun z => by rw [← z, upd_same] at hds; cases hds
      have hds0 : H7 ds = none := by rw [upd_ne (Ne.symm ne1)] at hds; exact hds
      have PN : Pl H7 (upd (upd H7 we (.lst [])) ds (.dK [])) p s0 := ((Pl.refl P7).new hwe).new hds
      have hwe2 : (upd (upd H7 we (.lst [])) ds (.dK [])) we = some (.lst []) := by rw [upd_ne ne1, upd_same]
      have hds2 : (upd (upd H7 we (.lst [])) ds (.dK [])) ds = some (.dK []) := upd_same
      generalize (upd (upd H7 we (.lst [])) ds (.dK [])) = H8 at PN hwe2 hds2 ⊢
      refine ⟨_, rfl, p, s0, rfl, PN.now, fun a H9 P9 => ⟨_, rfl, p, s0, 9, rfl, P9.now, (by decide), (by decide), fun n H10 n0 n9 P10 => ⟨_, rfl, (by show 5 ≤ sizeLine; decide), fun w0 hw0 => ?_⟩⟩⟩
      have PA : Pl H7 H10 p s0 := (PN.trans P9).trans P10
      have P8 := P9.trans P10
      have wep : we ≠ p ∧ we ≠ s0 := ⟨fun z => P7.ne.1 (z ▸ hwe), fun z => P7.ne.2 (z ▸ hwe)⟩
      have dsp : ds ≠ p ∧ ds ≠ s0 := ⟨fun z => P7.ne.1 (z ▸ hds0), fun z => P7.ne.2 (z ▸ hds0)⟩
      have w0p : w0 ≠ p ∧ w0 ≠ s0 := ⟨fun z => PA.now.ne.1 (z ▸ hw0), fun z => PA.now.ne.2 (z ▸ hw0)⟩
      have we10 := P8.keep hwe2 wep.1
      have ds10 := P8.dk PN.now hds2
      have mk10 := PA.dk P7 h1
      have n1 : w0 ≠ we := fun z => by rw [z, we10] at hw0; cases hw0
      have n2 : w0 ≠ ds := fun z => by rw [z, ds10] at hw0; cases hw0
      have n3 : w0 ≠ mk := fun z => by rw [z, mk10] at hw0; cases hw0
      have n4 : we ≠ mk := fun z => by rw [z, h1] at hwe; cases hwe
      have n5 : ds ≠ mk := fun z => by rw [z, h1] at hds0; cases hds0
      have PF := PA.new hw0 (o := .lst [.ref we, .ref ds, .int a, .int n, .ref mk])
      refine q w0 we ds mk a n _ (none_of s7 (PA.free hw0)) (none_of s7 hwe) (none_of s7 hds0) hmk ⟨n1, n2, n3, ne1, n4, n5, w0p, wep, dsp, mp⟩ ⟨upd_same, by rw [upd_ne (Ne.symm n1)]; exact we10, ⟨rfl, fun i v x a => by simp at a⟩, ⟨[], by rw [upd_ne (Ne.symm n2)]; exact ds10, rfl, List.nodup_nil, fun id => trivial⟩, kvs, by rw [upd_ne (Ne.symm n3)]; exact mk10, by omega, h3⟩ n0 ⟨PF.now, hP.ne.1, hP.ne.2, fun c o h n => PF.keep (s7 _ _ h) n⟩
abbrev s_l_heard : Stmt := topS 46
theorem sc_l_heard : FnScope ["entries", "h", "entry"] ["entries", "h"] (defScope s_l_heard) := ⟨rfl, rfl, rfl, by decide +kernel, rfl, by decide +kernel, by decide +kernel⟩
theorem ok_lheard {f : Addr} {fd : FuncData} (F : Fun K "_law_heard" "_law_heard" s_l_heard f fd) (B : Blt mg) : FnOk P w K mg base CX0 1 f fd ["entries", "h"] spLHeard85 := by
  refine F.ok sc_l_heard (fun vs H Q E h => ?_) (fun cdv A outer s H vs Q E hr h => ?_)
  · obtain ⟨a, us, xs, h, rfl, _⟩ := h
    rfl
  · obtain ⟨a, us, xs, h, rfl, ha, E0, lu, q⟩ := h
    refine ⟨_, (pss_one (ps_ret (pe_lc (own := [("entry", 2)]) (g := gName 2) (by rfl) sc_l_heard.nd (pi_list (pv 0)) (blkOk_by (own := [("entry", 2)]) (N := ["entries", "h", "entry"]) (sc := defScope s_l_heard) (by decide +kernel)) (fun _ _ _ _ _ => (pg_name (i := 2) sc_l_heard.nd rfl (Or.inl rfl))) (fun _ _ _ _ _ => pts_one (pt_cmpR op_le (pe_ix (show IxR _ (rIxT K) from ix_tup) (pv 2) (pe_op op_sub (pe_callB (show CallR _ _ (rLenS K) from call_len_seq) (by rfl) B.len (by decide +kernel) (pa_cons (pv 2) pa_nil)) pe_int) (fun _ _ => rfl)) (pv 1) (nomark _))) (fun _ _ _ _ _ => (pv 2))))), ?_⟩
    have l0 := E0.1
    refine ⟨_, rfl, a, rfl, ⟨_, SqL.of ha⟩, fun D hD => lc_list (a := a) (xs := us) (fun i H1 => H1 D = some (.lst (fl2 (fun e => decide (e.arr ≤ h)) (us.take i) (xs.take i))) ∧ Same H H1) ⟨upd_same, sameAt (Same.refl _) hD⟩ (fun i H1 _ hv => SqL.of (hv.2 _ _ ha)) ?_ ?_⟩
    · rintro i v H1 hvi ⟨hD1, s1⟩
      have hil := (List.getElem?_eq_some_iff.mp hvi).1
      obtain ⟨x, hx⟩ : ∃ x, xs[i]? = some x := ⟨_, List.getElem?_eq_getElem (by omega)⟩
      obtain ⟨e, rfl, he, hok⟩ := (E0.tk (tk_same s1)).2 i v x hvi hx
      have q4 := fl2_step (P := fun e => decide (e.arr ≤ h)) hvi hx
      have lf := (fl2_le (P := fun e => decide (e.arr ≤ h)) (us := us.take i) (xs := xs.take i))
      rw [List.length_take] at lf
      refine ⟨rfl, _, rfl, _, rfl, e, _, rfl, .inr (SqT.of he), _, _, rfl, rfl, _, _, _, _, rfl, rfl, SqT.of he, at_last x, _, rfl, _, _, rfl, rfl, _, rfl, ?_⟩
      refine ite2 (fun c => ?_) (fun c => ?_)
      · refine ⟨_, rfl, _, hD1, small1000 (by omega), ?_, sameAt s1 hD⟩
        rw [upd_same, q4, if_pos c]
      · refine ⟨?_, s1⟩
        rw [q4, if_neg c, List.append_nil]
        exact hD1
    · rintro H1 ⟨hD1, s1⟩
      rw [List.take_length, show xs.take us.length = xs by rw [l0, List.take_length]] at hD1
      exact q D _ H1 s1 hD hD1 (fl2_es (K := K) (P := fun e => decide (e.arr ≤ h)) (ThEs.of (K := K) (E0.tk (tk_same s1)))).to
abbrev s_l_of_key : Stmt := topS 52
theorem sc_l_of_key : FnScope ["entries", "key", "numbers", "entry"] ["entries", "key"] (defScope s_l_of_key) := ⟨rfl, rfl, rfl, by decide +kernel, rfl, by decide +kernel, by decide +kernel⟩
theorem ok_ofkey {f : Addr} {fd : FuncData} (F : Fun K "_law_of_key" "_law_of_key" s_l_of_key f fd) (B : Blt mg) : FnOk P w K mg base CX0 1 f fd ["entries", "key"] spOwned := by
  refine F.ok sc_l_of_key (fun vs H Q E h => ?_) (fun cdv A outer s H vs Q E hr h => ?_)
  · obtain ⟨a, us, xs, key, rfl, _⟩ := h
    rfl
  · obtain ⟨a, us, xs, key, rfl, ha, hE, h4, q⟩ := h
    refine ⟨_, (pss_cons (ps_set (i := 2) sc_l_of_key.nd rfl (Or.inr rfl) (pe_lc (own := [("entry", 3)]) (g := gName 3) (by rfl) sc_l_of_key.nd (pi_list (pv 0)) (blkOk_by (own := [("entry", 3)]) (N := ["entries", "key", "numbers", "entry"]) (sc := defScope s_l_of_key) (by decide +kernel)) (fun _ _ _ _ _ => (pg_name (i := 3) sc_l_of_key.nd rfl (Or.inl rfl))) (fun _ _ _ _ _ => pts_one (PW.pt (pw_and (pt_cmpR op_eq (pe_ix (show IxR _ (rIxT K) from ix_tup) (pv 3) pe_int (fun _ _ => rfl)) pe_str (nomark _)) (pw_and1 (pt_cmpR op_eq (pe_ix (show IxR _ (rIxT K) from ix_tup) (pv 3) pe_int (fun _ _ => rfl)) (pv 1) (nomark _)))))) (fun _ _ _ _ _ => (pe_ix (show IxR _ (rIxT K) from ix_tup) (pv 3) pe_int (fun _ _ => rfl)))))
    (pss_one (ps_ret (pe_lc (own := [("entry", 3)]) (g := gName 3) (by rfl) sc_l_of_key.nd (pi_list (pv 0)) (blkOk_by (own := [("entry", 3)]) (N := ["entries", "key", "numbers", "entry"]) (sc := defScope s_l_of_key) (by decide +kernel)) (fun _ _ _ _ _ => (pg_name (i := 3) sc_l_of_key.nd rfl (Or.inl rfl))) (fun _ _ _ _ _ => pts_one (pt_cmpR (show OpR _ _ (rIn K false) from op_in_seq) (pe_ix (show IxR _ (rIxT K) from ix_tup) (pv 3) pe_int (fun _ _ => rfl)) (pv 2) rfl)) (fun _ _ _ _ _ => (pv 3)))))), ?_⟩
    refine ⟨_, rfl, a, rfl, ⟨_, SqL.of ha⟩, fun D hD => lc_list (a := a) (xs := us) (fun i H1 => H1 D = some (.lst (((xs.take i).filter (ownE key)).map fun e => V.int e.id)) ∧ Same H H1) ⟨upd_same, sameAt (Same.refl H) hD⟩ (fun i H1 _ hv => SqL.of (hv.2 _ _ ha)) ?_ ?_⟩
    · rintro i v H1 hvi ⟨hD1, s1⟩
      have hil := (List.getElem?_eq_some_iff.mp hvi).1
      obtain ⟨x, hx⟩ : ∃ x, xs[i]? = some x := ⟨_, List.getElem?_eq_getElem (by rw [← hE.1]; exact hil)⟩
      obtain ⟨e, rfl, he, hok⟩ := (hE.tk (tk_same s1)).2 i v x hvi hx
      have st : (xs.take (i + 1)).filter (ownE key) = (xs.take i).filter (ownE key) ++ [x].filter (ownE key) := by rw [list_take' hx, List.filter_append]
      have ln : (((xs.take i).filter (ownE key)).map fun e => V.int e.id).length ≤ 400 := by
        rw [List.length_map]
        exact Nat.le_trans (List.length_filter_le _ _) (by rw [List.length_take]; omega)
      have no_ : ownE key x = false → H1 D = some (.lst (((xs.take (i + 1)).filter (ownE key)).map fun e => V.int e.id)) := fun h => by
        rw [st, List.filter_cons, if_neg (by rw [h]; exact fun z => nomatch z), List.filter_nil, List.append_nil]
        exact hD1
      refine ⟨rfl, ?_⟩
      cases x with
      | row id s k m a' r =>
        refine ⟨_, rfl, _, _, _, _, rfl, rfl, SqT.of he, rfl, rfl, _, rfl, iteT ⟨_, rfl, _, _, _, _, rfl, rfl, SqT.of he, rfl, _, rfl, rfl, _, rfl, ?_⟩⟩
        refine ite2 (fun c => ?_) (fun c => ?_)
        · have c := V.str.inj (of_decide_eq_true c)
          refine ⟨_, rfl, _, _, _, _, rfl, rfl, SqT.of he, rfl, _, hD1, small1000 (by omega), ?_, sameAt s1 hD⟩
          rw [upd_same, st, List.filter_cons, if_pos (show ownE key (.row id s k m a' r) = true from decide_eq_true c), List.filter_nil, List.map_append]
          rfl
        · have c : ¬ k = key := fun z => c (decide_eq_true (congrArg V.str z))
          exact ⟨no_ (decide_eq_false c), s1⟩
      | fix id m a' r => exact ⟨_, rfl, _, _, _, _, rfl, rfl, SqT.of he, rfl, rfl, _, rfl, iteF (iteF ⟨no_ rfl, s1⟩)⟩
      | gone id r => exact ⟨_, rfl, _, _, _, _, rfl, rfl, SqT.of he, rfl, rfl, _, rfl, iteF (iteF ⟨no_ rfl, s1⟩)⟩
    · rintro H1 ⟨hD1, s1⟩
      rw [show xs.take us.length = xs by rw [hE.1, List.take_length]] at hD1
      refine ⟨_, rfl, a, rfl, ⟨_, SqL.of (s1 _ _ ha)⟩, fun D2 hD2 => lc_list (a := a) (xs := us) (fun i H2 => H2 D2 = some (.lst (fl2 (fun e => ownP key xs e.id) (us.take i) (xs.take i))) ∧ Same H1 H2) ⟨upd_same, sameAt (Same.refl H1) hD2⟩ (fun i H2 _ hv => SqL.of (hv.2 _ _ (s1 _ _ ha))) ?_ ?_⟩
      · rintro i v H2 hvi ⟨hD3, s2⟩
        have hil := (List.getElem?_eq_some_iff.mp hvi).1
        obtain ⟨x, hx⟩ : ∃ x, xs[i]? = some x := ⟨_, List.getElem?_eq_getElem (by rw [← hE.1]; exact hil)⟩
        obtain ⟨e, rfl, he, hok⟩ := (hE.tk (tk_same (s1.trans s2))).2 i v x hvi hx
        have q := fl2_step (P := fun e => ownP key xs e.id) hvi hx
        have lf : (fl2 (fun e => ownP key xs e.id) (us.take i) (xs.take i)).length ≤ 400 := Nat.le_trans fl2_le (by rw [List.length_take]; have := hE.1; omega)
        refine ⟨rfl, _, rfl, _, _, _, _, rfl, rfl, SqT.of he, ent_at1 x, _, rfl, D, _, rfl, .inl (SqL.of (s2 _ _ hD1)), rfl, ?_, _, rfl, ?_⟩
        · rw [List.all_eq_true]
          intro y hy
          obtain ⟨z, _, rfl⟩ := List.mem_map.mp hy
          rfl
        · rw [if_neg (by decide), own_in]
          refine ite2 (fun c => ?_) (fun c => ?_)
          · refine ⟨_, rfl, _, hD3, small1000 (by omega), ?_, sameAt s2 hD2⟩
            rw [upd_same, q, if_pos c]
          · refine ⟨?_, s2⟩
            rw [q, if_neg c, List.append_nil]
            exact hD3
      · rintro H2 ⟨hD3, s2⟩
        rw [List.take_length, show xs.take us.length = xs by rw [hE.1, List.take_length]] at hD3
        have := (fl2_es (P := fun e => ownP key xs e.id) (ThEs.of (K := K) (hE.tk (tk_same (s1.trans s2))))).to
        exact q D2 _ H2 (none_of s1 hD2) hD3 this (s1.trans s2)
abbrev s_l_shuffled : Stmt := topS 51
theorem sc_l_shuffled : FnScope ["pool", "items", "found", "item"] ["pool", "items"] (defScope s_l_shuffled) := ⟨rfl, rfl, rfl, by decide +kernel, rfl, by decide +kernel, by decide +kernel⟩
theorem ok_shuf {f : Addr} {fd : FuncData} (F : Fun K "_law_shuffled" "_law_shuffled" s_l_shuffled f fd) (B : Blt mg) (G : G1 P w K mg base) : FnOk P w K mg base CX0 2 f fd ["pool", "items"] spShuf85 := by
  refine F.ok sc_l_shuffled (fun vs H Q E h => ?_) (fun cdv A outer s H vs Q E hr h => ?_)
  · obtain ⟨p, s, l, names, rfl, _⟩ := h
    rfl
  · obtain ⟨p, s0, l, names, rfl, hP, hl, lp, l100, q⟩ := h
    refine ⟨_, (pss_cons (ps_set (i := 2) sc_l_shuffled.nd rfl (Or.inl rfl) (pe_lst pa_nil))
    (pss_cons (ps_for PassesOwn.never rfl (pi_list (pv 1)) (pg_name (i := 3) sc_l_shuffled.nd rfl (Or.inl rfl))
      (pss_one (ps_expr (pe_bm PySem.F.plainAttrs_list PySem.F.slot_list_insert PySem.F.type_list_insert mt_insert (pv 2) (pa_cons (pe_cal G.law_draw (hr.mono (by decide)) pass0 (pa_cons (pv 0) (pa_cons (pe_op op_add (pe_callB call_len_seq (by rfl) B.len (by decide +kernel) (pa_cons (pv 2) pa_nil)) pe_int) pa_nil))) (pa_cons (pv 3) pa_nil))))))
    (pss_one (ps_ret (pv 2))))), ?_⟩
    refine ⟨(by show 0 ≤ sizeLine; decide), fun F0 hF0 => ⟨_, rfl, l, rfl, ⟨_, SqL.of (sameAt (Same.refl H) hF0 _ _ hl)⟩, ?_⟩⟩
    have Fp : F0 ≠ p ∧ F0 ≠ s0 := ⟨fun z => hP.ne.1 (z ▸ hF0), fun z => hP.ne.2 (z ▸ hF0)⟩
    have Fl : F0 ≠ l := fun z => by rw [z, hl] at hF0; cases hF0
    refine for_list (K := K) (a := l) (xs := names.map V.str) (fun i σ H' => (∃ x3, σ = [some (.ref p), some (.ref l), some (.ref F0), x3]) ∧ (∃ ns : List Str, H' F0 = some (.lst (ns.map V.str)) ∧ ns.Perm (names.take i)) ∧ Pl H H' p s0) ⟨⟨_, rfl⟩, ⟨[], upd_same, List.Perm.refl _⟩, (Pl.refl hP).new hF0⟩ (fun i σ H' _ hv => SqL.of (hv.2.2.keep hl lp)) ?_ ?_
    · rintro i v σ H7 hi ⟨⟨x3, rfl⟩, ⟨ns, h1, h2⟩, P7⟩
      obtain ⟨key, hkey, rfl⟩ : ∃ key, names[i]? = some key ∧ v = .str key := by
        rw [List.getElem?_map] at hi
        cases e : names[i]? with
        | none => rw [e] at hi; cases hi
        | some z => rw [e] at hi; exact ⟨z, rfl, (Option.some.inj hi).symm⟩
      have hil : i < names.length := (List.getElem?_eq_some_iff.mp hkey).1
      have ln : ns.length ≤ 100 := by rw [h2.length_eq, List.length_take]; omega
      refine ⟨_, rfl, .inl ⟨rfl, _, SqL.of h1⟩, _, rfl, _, rfl, F0, _, rfl, .inl (SqL.of h1), _, _, rfl, rfl, p, s0, _, rfl, P7.now, (by rw [List.length_map]; omega), (by rw [List.length_map]; exact Int.lt_of_le_of_lt (show ((ns.length : Nat) : Int) + 1 ≤ 101 by omega) (by decide)), fun g H8 g0 g1 P8 => ?_⟩
      rw [List.length_map] at g1
      have h8 := P8.keep h1 Fp.1
      refine ⟨_, rfl, F0, _, g, _, rfl, rfl, h8, (by rw [List.length_map]; exact small1000 (by omega)), g0, Int.lt_of_le_of_lt (show g ≤ 101 by omega) (by decide), ⟨_, rfl⟩, ⟨ns.take g.toNat ++ [key] ++ ns.drop g.toNat, ?_, ?_⟩, ⟨P8.now.off Fp.1 Fp.2, P7.op, P7.os, fun c o h n => ?_⟩⟩
      · rw [upd_same, List.map_append, List.map_append, List.map_take, List.map_drop]
        rfl
      · rw [tk1 hkey]
        have e1 : (ns.take g.toNat ++ [key] ++ ns.drop g.toNat).Perm (ns ++ [key]) := by
          have := (List.perm_append_comm (l₁ := [key]) (l₂ := ns.drop g.toNat)).append_left (ns.take g.toNat)
          rw [← List.append_assoc, ← List.append_assoc, List.take_append_drop] at this
          exact this
        exact e1.trans (h2.append_right _)
      · rw [upd_ne (fun z => by rw [z, hF0] at h; cases h)]
        exact (P7.trans P8).keep h n
    · rintro σ H7 ⟨⟨x3, rfl⟩, ⟨ns, h1, h2⟩, P7⟩
      rw [List.length_map, List.take_length] at h2
      exact ⟨_, rfl, q F0 ns H7 hF0 h1 h2 P7⟩
end
end Ash

set_option Elab.async false
set_option linter.all false
set_option maxRecDepth 100000
set_option maxHeartbeats 4000000
set_option pp.maxSteps 600
namespace Ash
open PySem PySem.Spec PyProof.Rows L2
open C8 (pss_cut)
def spCut85 (K : PySem.W.Frag) (aT CJ CB : Addr) : Sp := fun vs H Q _ => ∃ (j b : Addr) (L : List (Str × Int)) (us : List V) (xs : List Ent) (h : Int), vs = [.ref j, .int h] ∧ JAt K aT CJ CB H j b L us xs ∧ us.length ≤ 400 ∧
  ∀ (t j2 q : Addr) (us1 us2 : List V) H', Same H H' → H' t = some (.tup [.ref j2, .ref q]) → JAt K aT CJ CB H' j2 b L us1 (xs.filter fun x => decide (x.arr ≤ h)) → H q = none → H' q = some (.lst us2) → ThEs K H' us2 (xs.filter fun x => decide (h < x.arr)) → Q (.ref t) H'
/-- journals joined from left to right -/
def mrgs (zss : List (List Ent)) : List Ent := zss.foldl mrg []
theorem mrgs_snoc (zss : List (List Ent)) (zs : List Ent) : mrgs (zss ++ [zs]) = mrg (mrgs zss) zs := by
  unfold mrgs
  rw [List.foldl_append]
  rfl
def spJoined85 (K : PySem.W.Frag) (aT CJ CB : Addr) : Sp := fun vs H Q _ => ∃ (a b : Addr) (L : List (Str × Int)) (js : List Addr) (zss : List (List Ent)), vs = [.ref a] ∧ (H a = some (.lst (js.map V.ref)) ∨ H a = some (.tup (js.map V.ref))) ∧ 1 ≤ js.length ∧ js.length ≤ 6 ∧ js.length = zss.length ∧
  (∀ (i : Nat) j zs, js[i]? = some j → zss[i]? = some zs → ∃ us, JAt K aT CJ CB H j b L us zs) ∧ (∀ k, k ≤ zss.length → (wk L ((mrgs (zss.take k)).map some) 0 (fun _ => none) none).1 = none ∧ (mrgs (zss.take k)).length ≤ 100) ∧ (∀ zs ∈ zss, zs.length ≤ 100) ∧
  ∀ j' us' H', Same H H' → JAt K aT CJ CB H' j' b L us' (mrgs zss) → Q (.ref j') H'
def spByKeys85 (K : PySem.W.Frag) (aT CJ CB : Addr) : Sp := fun vs H Q _ => ∃ (j b : Addr) (L : List (Str × Int)) (us : List V) (xs : List Ent), vs = [.ref j] ∧ JAt K aT CJ CB H j b L us xs ∧ us.length ≤ 400 ∧ (∀ z ∈ keysOf xs, IsNm z) ∧
  ∀ (d : Addr) (ys : List Str) (kvs : List (Key × V)) H', Same H H' → H' d = some (.dK kvs) → kvs.map (·.1) = ys.map Sum.inr → ys.Nodup → sortedS ys = true → (∀ z, z ∈ ys ↔ z ∈ keysOf xs) → (∀ key ∈ ys, ∃ jp up, valV kvs (Sum.inr key : Key) = some (.ref jp) ∧ JAt K aT CJ CB H' jp b L up (part key xs)) → Q (.ref d) H'
theorem pe_met0 {X : Cx} {CX : CXT} {k : Nat} {ps : List Str} {sp : Sp} {E : XK} {o : Expr} {ta : TE} {C : Addr} {m : Str} {apos pos : Pos} {pl : Sem Bool} (c : Cls X.K C) (G : Met X.prog X.w X.K X.mg X.base CX C m k ps sp) (hr : Room k X.A) (hx : Passes CX X E) (ho : PE X o ta)
    (ht : eval (.Call (.Attribute o m apos) [] [] pos) X.env = (do
      let ov ← eval o X.env
      standAt apos.atName
      let (f, first) ← holding [ov] (getMethod ov m pl)
      callWith pos f first (backTo pos (starEach [] X.env)) (backToKw pos (keywordEach [] X.env))) := by rfl) :
    PE X (.Call (.Attribute o m apos) [] [] pos) (tMeth C m sp [] E ta tNil) := by
  obtain ⟨f, fd, hm, hb, F⟩ := G.ex
  exact pe_meth0 ho c hm F hr hb .nil hx ht
theorem ty_tup {K : PySem.W.Frag} {H : Hp} {a : Addr} {xs : List V} (h : SqT K H a xs) : TyX K H (.ref a) (.type "tuple") := by
  rcases h with (h | ⟨o, h⟩) | ⟨o, its, n, h1, h2, h3⟩
  · exact .base (.tup h)
  · exact .fTuple h
  · exact .kTuple h1 h2
/-- only(key), and where it stands -/
def spOnlyF (K : PySem.W.Frag) (aT CJ CB : Addr) : Sp := fun vs H Q _ => ∃ (j b : Addr) (L : List (Str × Int)) (us : List V) (xs : List Ent) (key : Str), vs = [.ref j, .str key] ∧ JAt K aT CJ CB H j b L us xs ∧ us.length ≤ 400 ∧ IsNm key ∧
  ∀ us' j' H', Same H H' → JAt K aT CJ CB H' j' b L us' (xs.filter fun e => ownP key xs e.id) → (∃ dx t kd, H' j' = some (.ins CJ dx (jf b t kd)) ∧ H kd = none) → Q (.ref j') H'
theorem cut1 (js : List V) : cutV js (some 1) none = js.drop 1 := by
  unfold cutV
  rw [show (some (1 : Int)) = some ((1 : Nat) : Int) from rfl, HT.sIx_nat, HT.sIx_none]
  cases js with
  | nil => rfl
  | cons a r =>
    rw [List.length_cons, Nat.min_eq_left (by omega)]
    show List.take _ r = r
    exact List.take_of_length_le (by omega)
structure GP85 (P : Program) (w : World) (K : PySem.W.Frag) (mg : Str → Option Value) (base : Heap) (aT CJ CB CM : Addr) : Prop where
  arrival_of : Cal P w K mg base CX0 "arrival_of" 1 ["entry"] (spArr K)
  is_row : Cal P w K mg base CX0 "is_row" 1 ["thing"] (spIsRow K)
  heard : Met P w K mg base (L2.CX P w) CJ "heard" 9 ["self", "h"] (spHeard K aT CJ CB CM)
  only : Met P w K mg base CX0 CJ "only" 9 ["self", "key"] (spOnlyF K aT CJ CB)
  key_names : Met P w K mg base CX0 CJ "key_names" 1 ["self"] (spKeyNames K aT CJ CB)
section
variable {P : Program} {w : World} {K : PySem.W.Frag} {mg : Str → Option Value} {base : Heap}
theorem ok_onlyF {f CJ CB CE aT : Addr} {fd : FuncData} (F : Fun K "only" "Journal.only" s_Journal_only f fd) (B : Blt mg) (T : Cj P K mg CJ CB) (G : K8 P w K mg base CB aT CJ CE) : FnOk P w K mg base CX0 9 f fd ["self", "key"] (spOnlyF K aT CJ CB) := by
  refine F.ok sc_Journal_only (fun vs H Q E h => ?_) (fun cdv A outer s H vs Q E hr h => ?_)
  · obtain ⟨j, b, L, us, xs, key, rfl, _⟩ := h
    rfl
  · obtain ⟨j, b, L, us, xs, key, rfl, hJ, h4, hk, q⟩ := h
    have hu := hu_of hr
    refine ⟨_, (pss_cons (ps_if (pt_not (pt_val (pe_cal G.is_name (hr.mono (by decide)) pass0 (pa_cons (pv 1) pa_nil))))
      (pss_one ps_never)
      pss_nil)
    (pss_cons (ps_set (i := 2) sc_Journal_only.nd rfl (Or.inr rfl) (pe_dc (own := [("entry", 3)]) (g := gName 3) (by rfl) sc_Journal_only.nd (pi_tup (pe_fld (pv 0) rfl)) (blkOk_by (own := [("entry", 3)]) (N := ["self", "key", "kept", "entry"]) (sc := defScope s_Journal_only) (by decide +kernel)) (fun _ _ _ _ _ => (pg_name (i := 3) sc_Journal_only.nd rfl (Or.inl rfl))) (fun _ _ _ _ _ => pts_one (PW.pt (pw_and (pt_cmpR op_eq (pe_ix (show IxR _ (rIxT K) from ix_tup) (pv 3) pe_int (fun _ _ => rfl)) pe_str (nomark _)) (pw_and1 (pt_cmpR op_eq (pe_ix (show IxR _ (rIxT K) from ix_tup) (pv 3) pe_int (fun _ _ => rfl)) (pv 1) (nomark _)))))) (fun _ _ _ _ _ => (pe_ix (show IxR _ (rIxT K) from ix_tup) (pv 3) pe_int (fun _ _ => rfl))) (fun _ _ _ _ _ => pe_bl)))
    (pss_one (ps_ret (pe_mak G.Journal (hr.mono (by decide)) (passE takes0) (pa_cons (pe_fld (pv 0) rfl) (pa_cons (pe_lc (own := [("entry", 3)]) (g := gName 3) (by rfl) sc_Journal_only.nd (pi_tup (pe_fld (pv 0) rfl)) (blkOk_by (own := [("entry", 3)]) (N := ["self", "key", "kept", "entry"]) (sc := defScope s_Journal_only) (by decide +kernel)) (fun _ _ _ _ _ => (pg_name (i := 3) sc_Journal_only.nd rfl (Or.inl rfl))) (fun _ _ _ _ _ => pts_one (pt_cmp (pc_din hu (pe_ix (show IxR _ (rIxT K) from ix_tup) (pv 3) pe_int (fun _ _ => rfl)) (pv 2)) rfl)) (fun _ _ _ _ _ => (pv 3))) pa_nil))))))), ?_⟩
    obtain ⟨dx, t, kd, h1, h2, h3, hl, h5, h6, h7⟩ := id hJ
    refine ⟨_, rfl, _, rfl, .inl ⟨key, rfl, (by have := hk.2.1; rw [sizeLine_eq]; omega), fun H1 s1 => ⟨_, rfl, ?_⟩⟩⟩
    rw [(nmB_iff key).mpr hk]
    refine iteF ?_
    have h3' := seqS h3 s1
    refine ⟨_, rfl, j, CJ, dx, _, _, rfl, s1 _ _ h1, T.cl, T.nE, jf_e _ _ _, t, rfl, ⟨_, h3'⟩, fun D hD => dc_it (walk_tup (xs := us)) (fun i H3 => (∃ kvs : List (Key × V), H3 D = some (.dK kvs) ∧ kvs.length ≤ i ∧ ∀ id : Int, (valV kvs (Sum.inl id : Key)).isSome = ownP key (xs.take i) id) ∧ Same H H3) ⟨⟨[], upd_same, Nat.zero_le _, fun id => rfl⟩, s1.trans (sameAt (Same.refl H1) hD)⟩ (fun i H3 _ hv => seqS h3 hv.2) ?_ ?_⟩
    · rintro i v H3 H4 hi ⟨⟨kvs, hk1, hk2, hk3⟩, s3⟩ ⟨rfl, hvi⟩
      have hDn : H D = none := by
        cases e : H D with
        | none => rfl
        | some o => rw [s1 _ _ e] at hD; cases hD
      have hix : i < xs.length := by rw [← hl]; exact hi
      obtain ⟨x, hx⟩ : ∃ x, xs[i]? = some x := ⟨_, List.getElem?_eq_getElem hix⟩
      obtain ⟨e, rfl, he, hok⟩ := (h5 i v x hvi hx).same s3
      have st : ∀ id, ownP key (xs.take (i + 1)) id = (ownP key (xs.take i) id || (ownE key x && decide (x.id = id))) := fun id => by
        unfold ownP
        rw [list_take' hx, List.any_append]
        simp
      have no_ : ownE key x = false → ∀ id : Int, (valV kvs (Sum.inl id : Key)).isSome = ownP key (xs.take (i + 1)) id := fun h id => by
        rw [st, h, hk3]
        simp
      refine ⟨rfl, ?_⟩
      cases x with
      | row id s k m a r =>
        have hp := length_putK kvs (Sum.inl id : Key) (V.bl true)
        refine ⟨_, rfl, _, _, _, _, rfl, rfl, SqT.of he, rfl, rfl, _, rfl, iteT ⟨_, rfl, _, _, _, _, rfl, rfl, SqT.of he, rfl, _, rfl, rfl, _, rfl, ?_⟩⟩
        refine ite2 (fun c => ?_) (fun c => ?_)
        · have c := V.str.inj (of_decide_eq_true c)
          refine ⟨_, rfl, _, _, _, _, rfl, rfl, SqT.of he, rfl, _, Sum.inl id, rfl, hk1, small1000 (by omega), ⟨_, upd_same, by omega, fun z => ?_⟩, sameAt s3 hDn⟩
          rw [valV_put, st]
          show _ = (_ || (decide (k = key) && decide (id = z)))
          rw [decide_eq_true c]
          by_cases d : z = id
          · subst d
            simp
          · rw [if_neg (fun z => d (Sum.inl.inj z)), hk3]
            simp [Ne.symm d]
        · have c : ¬ k = key := fun z => c (decide_eq_true (congrArg V.str z))
          exact ⟨⟨kvs, hk1, by omega, no_ (decide_eq_false c)⟩, s3⟩
      | fix id m a r => exact ⟨_, rfl, _, _, _, _, rfl, rfl, SqT.of he, rfl, rfl, _, rfl, iteF (iteF ⟨⟨kvs, hk1, by omega, no_ rfl⟩, s3⟩)⟩
      | gone id r => exact ⟨_, rfl, _, _, _, _, rfl, rfl, SqT.of he, rfl, rfl, _, rfl, iteF (iteF ⟨⟨kvs, hk1, by omega, no_ rfl⟩, s3⟩)⟩
    · rintro H3 ⟨⟨kvs, hk1, hk2, hk3⟩, s3⟩
      rw [show xs.take us.length = xs by rw [hl, List.take_length]] at hk3
      refine ⟨_, rfl, j, CJ, dx, _, _, rfl, s3 _ _ h1, T.cl, T.nB, jf_b _ _ _, _, rfl, j, CJ, dx, _, _, rfl, s3 _ _ h1, T.cl, T.nE, jf_e _ _ _, t, rfl, ⟨_, seqS h3 s3⟩, fun D2 hD2 => lc_it (walk_tup (xs := us)) (fun i H5 => H5 D2 = some (.lst (fl2 (fun e => ownP key xs e.id) (us.take i) (xs.take i))) ∧ Same H3 H5) ⟨upd_same, sameAt (Same.refl H3) hD2⟩ (fun i H5 _ hv => seqS h3 (s3.trans hv.2)) ?_ ?_⟩
      · rintro i v H5 H6 hi ⟨hD5, s5⟩ ⟨rfl, hvi⟩
        have hix : i < xs.length := by rw [← hl]; exact hi
        obtain ⟨x, hx⟩ : ∃ x, xs[i]? = some x := ⟨_, List.getElem?_eq_getElem hix⟩
        obtain ⟨e, rfl, he, hok⟩ := (h5 i v x hvi hx).same (s3.trans s5)
        have lf : (fl2 (fun e => ownP key xs e.id) (us.take i) (xs.take i)).length ≤ 400 := Nat.le_trans fl2_le (by rw [List.length_take]; omega)
        have q := fl2_step (P := fun e => ownP key xs e.id) hvi hx
        refine ⟨rfl, _, rfl, _, _, _, _, rfl, rfl, SqT.of he, ent_at1 x, _, rfl, D, _, rfl, DGet.k (k := Sum.inl x.id) (s5 _ _ hk1), _, rfl, ?_⟩
        rw [hk3]
        refine ite2 (fun c => ?_) (fun c => ?_)
        · refine ⟨_, rfl, _, hD5, small1000 (by omega), ?_, sameAt s5 hD2⟩
          rw [upd_same, q, if_pos c]
        · refine ⟨?_, s5⟩
          rw [q, if_neg c, List.append_nil]
          exact hD5
      · rintro H5 ⟨hD5, s5⟩
        rw [List.take_length, show xs.take us.length = xs by rw [hl, List.take_length]] at hD5
        generalize eP : (fun e : Ent => ownP key xs e.id) = P at hD5 q
        have s35 := s3.trans s5
        have hw0 : wk L (xs.map some) 0 (fun _ => none) none = (none, (wk L (xs.map some) 0 (fun _ => none) none).2) := by rw [← h6]
        have hwk : (wk L ((xs.filter P).map some) 0 (fun _ => none) none).1 = none := by
          have := wk_keep (L := L) (ownP key xs) (k := 0) (l' := none) hw0 fun z _ => rfl
          rw [← eP, show (fun _ : Int => (none : Option RowSt)) = keepK (ownP key xs) (fun _ => none) from by funext id; unfold keepK; split <;> rfl, this]
        intro x dx' nx ndx nex
        have sX : Same H5 (upd (upd H5 dx' (.own x)) x (.ins CJ dx' [])) := (sameAt (Same.refl _) ndx).trans (sameAt (Same.refl _) (by rw [upd_ne (Ne.symm nex)]; exact nx))
        have Et := (fl2_es (P := P) hJ.es.1).same (s35.trans sX)
        refine ⟨x, dx', b, D2, L, fl2 P us xs, (xs.filter P).map some, rfl, upd_same, h2.same (s35.trans sX), .inl (sX _ _ hD5), Nat.le_trans fl2_le h4, by rw [List.length_map, Et.1], fun i v' o' hi ho => ?_, fun H' ys hys hw hJ' fx kk => ⟨rfl, ?_⟩, fun i d H' hw s hx => ?_⟩
        · rw [List.getElem?_map] at ho
          cases ex : (xs.filter P)[i]? with
          | none => rw [ex] at ho; cases ho
          | some y =>
            rw [ex] at ho
            cases ho
            exact Et.2 i v' y hi ex
        · have e : ys = xs.filter P := (List.map_inj_right (fun a b h => Option.some.inj h)).mp hys.symm
          subst e
          obtain ⟨dxx, tx, kdx, f1, f2⟩ := fx
          exact q _ x H' (s35.trans (mk_same nx ndx kk)) hJ' ⟨dxx, tx, kdx, f1, none_of (s35.trans sX) f2⟩
        · rw [hwk] at hw
          cases hw
abbrev s_cut : Stmt := topS 33
theorem sc_cut : FnScope ["journal", "h", "entry"] ["journal", "h"] (defScope s_cut) := ⟨rfl, rfl, rfl, by decide +kernel, rfl, by decide +kernel, by decide +kernel⟩
theorem ok_cut {f CJournal CB CM aT : Addr} {fd : FuncData} (F : Fun K "cut" "cut" s_cut f fd) (B : Blt mg) (T : Cj P K mg CJournal CB) (jk : ∀ H b dx fs, H b = some (.ins CJournal dx fs) → TyX K H (.ref b) (.ref CJournal)) (G : GP85 P w K mg base aT CJournal CB CM) : FnOk P w K mg base CX0 10 f fd ["journal", "h"] (spCut85 K aT CJournal CB) := by
  have c_Journal := T.c
  refine F.ok sc_cut (fun vs H Q E h => ?_) (fun cdv A outer s H vs Q E hr h => ?_)
  · obtain ⟨j, b, L, us, xs, h, rfl, _⟩ := h
    rfl
  · obtain ⟨j, b, L, us, xs, h, rfl, hJ, l4, q⟩ := h
    refine ⟨_, (pss_cons (ps_if (pt_not (pt_val (pe_callB call_isi (by rfl) B.isinstance (by decide +kernel) (pa_cons (pv 0) (pa_cons (pe_glob (v := .ref CJournal) (by rfl) c_Journal rfl) pa_nil)))))
      (pss_one ps_never)
      pss_nil)
    (pss_one (ps_ret (pe_tup (pa_cons (pe_met T.cl G.heard (hr.mono (by decide)) (passE takes0) (pv 0) (pa_cons (pv 1) pa_nil)) (pa_cons (pe_lc (own := [("entry", 2)]) (g := gName 2) (by rfl) sc_cut.nd (pi_tup (pe_fld (pv 0) rfl)) (blkOk_by (own := [("entry", 2)]) (N := ["journal", "h", "entry"]) (sc := defScope s_cut) (by decide +kernel)) (fun _ _ _ _ _ => (pg_name (i := 2) sc_cut.nd rfl (Or.inl rfl))) (fun _ _ _ _ _ => pts_one (pt_cmpR op_gt (pe_cal G.arrival_of (hr.mono (by decide)) pass0 (pa_cons (pv 2) pa_nil)) (pv 1) (nomark _))) (fun _ _ _ _ _ => (pv 2))) pa_nil)))))), ?_⟩
    obtain ⟨dx, tt, kd, h1, h2, h3, hl, h5, h6, h7⟩ := id hJ
    refine ⟨_, rfl, _, _, _, _, true, rfl, ClsV.own _, jk _ _ _ _ h1, (by show PySem.W.kitOne K _ _ = _; unfold PySem.W.kitOne; rw [if_pos (by simp)]), _, rfl, iteF ?_⟩
    refine ⟨_, rfl, j, dx, _, rfl, h1, jf_no _ _ _ (by decide +kernel) (by decide +kernel) (by decide +kernel), _, rfl, j, b, L, _, _, .int h, rfl, hJ, l4, .inl ⟨h, rfl, fun k j2 H1 hf s1 hJ2 => ?_⟩⟩
    refine ⟨_, rfl, j, CJournal, dx, _, _, rfl, s1 _ _ h1, T.cl, T.nE, jf_e _ _ _, tt, rfl, ⟨_, seqS h3 s1⟩, fun D hD => lc_it (walk_tup (xs := us)) (fun i H5 => H5 D = some (.lst (fl2 (fun e => decide (h < e.arr)) (us.take i) (xs.take i))) ∧ Same H1 H5) ⟨upd_same, sameAt (Same.refl H1) hD⟩ (fun i H5 _ hv => seqS h3 (s1.trans hv.2)) ?_ ?_⟩
    · rintro i v H5 H6 hi ⟨hD5, s5⟩ ⟨rfl, hvi⟩
      have hix : i < xs.length := by rw [← hl]; exact hi
      obtain ⟨x, hx⟩ : ∃ x, xs[i]? = some x := ⟨_, List.getElem?_eq_getElem hix⟩
      obtain ⟨e, rfl, he, hok⟩ := (h5 i v x hvi hx).same (s1.trans s5)
      have q4 := fl2_step (P := fun e => decide (h < e.arr)) hvi hx
      have lf := (fl2_le (P := fun e => decide (h < e.arr)) (us := us.take i) (xs := xs.take i))
      rw [List.length_take] at lf
      refine ⟨rfl, _, rfl, e, x, rfl, he, _, rfl, _, _, rfl, rfl, _, rfl, ?_⟩
      refine ite2 (fun c => ?_) (fun c => ?_)
      · have c : decide (h < x.arr) = true := c
        refine ⟨_, rfl, _, hD5, small1000 (by omega), ?_, sameAt s5 hD⟩
        rw [upd_same, q4, if_pos c]
      · have c : ¬ decide (h < x.arr) = true := c
        refine ⟨?_, s5⟩
        rw [q4, if_neg c, List.append_nil]
        exact hD5
    · rintro H5 ⟨hD5, s5⟩
      rw [List.take_length, show xs.take us.length = xs by rw [hl, List.take_length]] at hD5
      have hE : ThEs K H5 us xs := hJ.es.1.same (s1.trans s5)
      have hE2 := fl2_es (P := fun e => decide (h < e.arr)) hE
      refine ⟨(by show 2 ≤ sizeLine; decide), fun t ht => ?_⟩
      have s6 := sameAt (Same.refl H5) ht (o := .tup [.ref j2, .ref D])
      rw [← hf] at hJ2
      exact q t j2 D _ _ _ (s1.trans (s5.trans s6)) upd_same (hJ2.same (s5.trans s6)) (none_of s1 hD) (s6 _ _ hD5) (hE2.same s6)
abbrev s_joined : Stmt := topS 34
theorem sc_joined : FnScope ["journals", "journal", "whole"] ["journals"] (defScope s_joined) := ⟨rfl, rfl, rfl, by decide +kernel, rfl, by decide +kernel, by decide +kernel⟩
theorem ok_joined {f fo CJournal CB CE aT CM : Addr} {fd fdo : FuncData} (F : Fun K "joined" "joined" s_joined f fd) (B : Blt mg) (T : Cj P K mg CJournal CB) (kM : ∃ t, mg "MOST_JOURNALS" = some (.int 6 t)) (jk : ∀ H b dx fs, H b = some (.ins CJournal dx fs) → TyX K H (.ref b) (.ref CJournal)) (G : GP85 P w K mg base aT CJournal CB CM)
    (oc : PySem.W.selfFirst K CJournal = true) (os : PySem.W.findIn K (.ref CJournal) (PySem.dunder Operator.BitOr.info.2) = some (some (.ref fo))) (of_ : PySem.W.isFn K (.ref fo) = true) (ob : Binds K fdo ["self", "other"] []) (Fo : FnOk P w K mg base (L2.CX P w) 9 fo fdo ["self", "other"] (spOr K aT CJournal CB CE)) : FnOk P w K mg base CX0 10 f fd ["journals"] (spJoined85 K aT CJournal CB) := by
  have c_Journal := T.c
  obtain ⟨t0, g_MOST_JOURNALS⟩ := kM
  refine F.ok sc_joined (fun vs H Q E h => ?_) (fun cdv A outer s H vs Q E hr h => ?_)
  · obtain ⟨a, b, L, js, zss, rfl, _⟩ := h
    rfl
  · obtain ⟨a, b, L, js, zss, rfl, ha, j1, j6, jz, hJs, hW, hz, q⟩ := h
    rcases ha with ha | ha
    · refine ⟨_, (pss_cons (ps_if (PW.pt (pw_or (pt_not (pt_val (pe_cal G.is_row (hr.mono (by decide)) pass0 (pa_cons (pv 0) pa_nil)))) (pw_or1 (pt_not (pt_chain op_le op_le pe_int (pe_callB call_len_seq (by rfl) B.len (by decide +kernel) (pa_cons (pv 0) pa_nil)) (pe_glob (v := .int 6) (by rfl) g_MOST_JOURNALS ⟨_, rfl⟩))))))
      (pss_one ps_never)
      pss_nil)
    (pss_cons (ps_if (pt_not (pt_val (pe_callB (cr_all rfl) (by rfl) B.all (by decide +kernel) (pa_cons (pe_lc (own := [("journal", 1)]) (g := gName 1) (tt := tYes) (by rfl) sc_joined.nd (pi_list (pv 0)) (blkOk_by (own := [("journal", 1)]) (N := ["journals", "journal", "whole"]) (sc := defScope s_joined) (by decide +kernel)) (fun _ _ _ _ _ => (pg_name (i := 1) sc_joined.nd rfl (Or.inl rfl))) (fun _ _ _ _ _ => pts_nil) (fun _ _ _ _ _ => (pe_callB (show CallR _ _ (rIsi K) from call_isi) (by rfl) B.isinstance (by decide +kernel) (pa_cons (pv 1) (pa_cons (pe_glob (v := .ref CJournal) (by rfl) c_Journal rfl) pa_nil))))) pa_nil))))
      (pss_one ps_never)
      pss_nil)
    (pss_cons (ps_set (i := 2) sc_joined.nd rfl (Or.inl rfl) (pe_ix ix_list (pv 0) pe_int (fun _ _ => rfl)))
    (pss_cons (ps_for PassesOwn.never rfl (pi_list (pe_slice sl_list (pv 0) (po_some pe_int) po_none)) (pg_name (i := 1) sc_joined.nd rfl (Or.inl rfl))
      (pss_one (ps_set (i := 2) sc_joined.nd rfl (Or.inl rfl) (pe_op (op_own oc os of_ Fo ob (passE takes0) (hr.mono (by decide))) (pv 2) (pv 1)))))
    (pss_one (ps_ret (pv 2))))))), ?_⟩
      refine ⟨_, rfl, a, _, rfl, .inl ha, fun H1 s1 => ⟨_, rfl, iteF ?_⟩⟩
      have l6 : (js.map V.ref).length = js.length := List.length_map _
      refine ⟨_, rfl, a, _, rfl, .inl (SqL.of (s1 _ _ ha)), _, _, rfl, rfl, ?_⟩
      refine ⟨true, congrArg V.bl (decide_eq_true (by rw [l6]; omega)), iteT ⟨_, _, rfl, rfl, true, congrArg V.bl (decide_eq_true (by rw [l6]; omega)), iteF ?_⟩⟩
      refine ⟨_, rfl, a, rfl, ⟨_, SqL.of (s1 _ _ ha)⟩, fun D hD => lc_list (a := a) (xs := js.map V.ref) (fun i H2 => H2 D = some (.lst ((List.replicate i true).map V.bl)) ∧ Same H1 H2) ⟨upd_same, sameAt (Same.refl H1) hD⟩ (fun i H2 _ hv => SqL.of (hv.2 _ _ (s1 _ _ ha))) ?_ ?_⟩
      · rintro i v H2 hvi ⟨hD2, s2⟩
        obtain ⟨j, hj, rfl⟩ : ∃ j, js[i]? = some j ∧ v = .ref j := by
          rw [List.getElem?_map] at hvi
          cases e : js[i]? with
          | none => rw [e] at hvi; cases hvi
          | some z => rw [e] at hvi; exact ⟨z, rfl, (Option.some.inj hvi).symm⟩
        have hil := (List.getElem?_eq_some_iff.mp hj).1
        obtain ⟨zs, hzs⟩ : ∃ zs, zss[i]? = some zs := ⟨_, List.getElem?_eq_getElem (by omega)⟩
        obtain ⟨uj, hJj⟩ := hJs i j zs hj hzs
        obtain ⟨dxj, tj, kj, ej⟩ := hJj.ins
        refine ⟨rfl, _, rfl, _, _, _, _, true, rfl, ClsV.own _, jk _ _ _ _ (s2 _ _ (s1 _ _ ej)), (by show PySem.W.kitOne K _ _ = _; unfold PySem.W.kitOne; rw [if_pos (by simp)]), _, hD2, (by rw [List.length_map, List.length_replicate]; exact small1000 (by omega)), ?_, sameAt s2 hD⟩
        rw [upd_same, List.replicate_succ', List.map_append]
        rfl
      rintro H2 ⟨hD2, s2⟩
      refine ⟨D, _, rfl, SqL.of hD2, ?_⟩
      rw [show (List.replicate (js.map V.ref).length true).all id = true by rw [List.all_eq_true]; intro x hx; exact (List.eq_of_mem_replicate hx)]
      refine ⟨_, rfl, iteF ?_⟩
      have s12 := s1.trans s2
      obtain ⟨j0, hj0⟩ : ∃ j0, js[0]? = some j0 := ⟨_, List.getElem?_eq_getElem (by omega)⟩
      obtain ⟨z0, hz0⟩ : ∃ z0, zss[0]? = some z0 := ⟨_, List.getElem?_eq_getElem (by omega)⟩
      obtain ⟨u0, hJ0⟩ := hJs 0 j0 z0 hj0 hz0
      refine ⟨_, rfl, _, _, _, .ref j0, rfl, rfl, SqL.of (s12 _ _ ha), (atI_nat (j := 0) (by rw [List.getElem?_map, hj0]; rfl)), ?_⟩
      refine ⟨_, rfl, _, rfl, a, _, rfl, SqL.of (s12 _ _ ha), fun qj hqj => ⟨qj, rfl, ⟨_, SqL.of upd_same⟩, ?_⟩⟩
      rw [cut1]
      have s3 := sameAt (Same.refl H2) hqj (o := .lst ((js.map V.ref).drop 1))
      have hq3 : (upd H2 qj (.lst ((js.map V.ref).drop 1))) qj = some (.lst ((js.map V.ref).drop 1)) := upd_same
      generalize (upd H2 qj (.lst ((js.map V.ref).drop 1))) = H3 at s3 hq3 ⊢
      have s13 := s12.trans s3
      refine for_list (K := K) (a := qj) (xs := (js.map V.ref).drop 1) (fun i σ H' => (∃ x1 jn, σ = [some (.ref a), x1, some (.ref jn)] ∧ ∃ un, JAt K aT CJournal CB H' jn b L un (mrgs (zss.take (i + 1)))) ∧ Same H3 H') ?_ (fun i σ H' _ hv => SqL.of (hv.2 _ _ hq3)) ?_ ?_
      · refine ⟨⟨_, j0, rfl, u0, ?_⟩, Same.refl _⟩
        rw [tk1 hz0, mrgs_snoc]
        show JAt _ _ _ _ _ _ _ _ _ (mrg (mrgs (zss.take 0)) z0)
        rw [List.take_zero, show mrgs [] = [] from rfl, mrg_nil]
        exact hJ0.same s13
      · rintro i v σ H4 hvi ⟨⟨x1, jn, rfl, un, Jn⟩, s4⟩
        rw [List.getElem?_drop, List.getElem?_map] at hvi
        obtain ⟨j, hj, rfl⟩ : ∃ j, js[1 + i]? = some j ∧ v = .ref j := by
          cases e : js[1 + i]? with
          | none => rw [e] at hvi; cases hvi
          | some z => rw [e] at hvi; exact ⟨z, rfl, (Option.some.inj hvi).symm⟩
        have hil := (List.getElem?_eq_some_iff.mp hj).1
        obtain ⟨zs, hzs⟩ : ∃ zs, zss[1 + i]? = some zs := ⟨_, List.getElem?_eq_getElem (by omega)⟩
        obtain ⟨uj, hJj⟩ := hJs (1 + i) j zs hj hzs
        have Jp := hJj.same (s13.trans s4)
        obtain ⟨dxn, tn, kn, en⟩ := Jn.ins
        obtain ⟨dxp, tp, kp', ep⟩ := Jp.ins
        have lun := Jn.len
        have lup := Jp.len
        have w1 := (hW (i + 1) (by omega)).2
        have w2 := hz zs (List.mem_of_getElem? hzs)
        have et : zss.take (i + 1 + 1) = zss.take (i + 1) ++ [zs] := tk1 (by rw [← hzs, Nat.add_comm])
        have w3 := hW (i + 1 + 1) (by omega)
        rw [et, mrgs_snoc] at w3
        refine ⟨_, rfl, _, rfl, jn, j, dxn, dxp, _, _, rfl, rfl, en, ep, jn, j, b, L, un, uj, _, zs, rfl, Jn, Jp, by omega, by omega, fun j' us' H5 hl hw s5 J5 => ?_, fun i0 d H5 hw _ _ => ?_, fun d H5 hl _ _ _ => ?_⟩
        · refine ⟨⟨_, j', rfl, us', ?_⟩, s4.trans s5⟩
          rw [et, mrgs_snoc]
          exact J5
        · rw [List.take_of_length_le (by omega), w3.1] at hw
          cases hw
        · omega
      · rintro σ H4 ⟨⟨x1, jn, rfl, un, Jn⟩, s4⟩
        rw [List.length_drop, List.length_map, show js.length - 1 + 1 = zss.length by omega, List.take_length] at Jn
        exact ⟨_, rfl, q jn un H4 (s13.trans s4) Jn⟩
    · refine ⟨_, (pss_cons (ps_if (PW.pt (pw_or (pt_not (pt_val (pe_cal G.is_row (hr.mono (by decide)) pass0 (pa_cons (pv 0) pa_nil)))) (pw_or1 (pt_not (pt_chain op_le op_le pe_int (pe_callB call_len_seq (by rfl) B.len (by decide +kernel) (pa_cons (pv 0) pa_nil)) (pe_glob (v := .int 6) (by rfl) g_MOST_JOURNALS ⟨_, rfl⟩))))))
      (pss_one ps_never)
      pss_nil)
    (pss_cons (ps_if (pt_not (pt_val (pe_callB (cr_all rfl) (by rfl) B.all (by decide +kernel) (pa_cons (pe_lc (own := [("journal", 1)]) (g := gName 1) (tt := tYes) (by rfl) sc_joined.nd (pi_tup (pv 0)) (blkOk_by (own := [("journal", 1)]) (N := ["journals", "journal", "whole"]) (sc := defScope s_joined) (by decide +kernel)) (fun _ _ _ _ _ => (pg_name (i := 1) sc_joined.nd rfl (Or.inl rfl))) (fun _ _ _ _ _ => pts_nil) (fun _ _ _ _ _ => (pe_callB (show CallR _ _ (rIsi K) from call_isi) (by rfl) B.isinstance (by decide +kernel) (pa_cons (pv 1) (pa_cons (pe_glob (v := .ref CJournal) (by rfl) c_Journal rfl) pa_nil))))) pa_nil))))
      (pss_one ps_never)
      pss_nil)
    (pss_cons (ps_set (i := 2) sc_joined.nd rfl (Or.inl rfl) (pe_ix ix_tup (pv 0) pe_int (fun _ _ => rfl)))
    (pss_cons (ps_for PassesOwn.never rfl (pi_tup (pe_slice sl_tup (pv 0) (po_some pe_int) po_none)) (pg_name (i := 1) sc_joined.nd rfl (Or.inl rfl))
      (pss_one (ps_set (i := 2) sc_joined.nd rfl (Or.inl rfl) (pe_op (op_own oc os of_ Fo ob (passE takes0) (hr.mono (by decide))) (pv 2) (pv 1)))))
    (pss_one (ps_ret (pv 2))))))), ?_⟩
      refine ⟨_, rfl, a, _, rfl, .inr (SqT.of ha), fun H1 s1 => ⟨_, rfl, iteF ?_⟩⟩
      have l6 : (js.map V.ref).length = js.length := List.length_map _
      refine ⟨_, rfl, a, _, rfl, .inr (SqT.of (s1 _ _ ha)), _, _, rfl, rfl, ?_⟩
      refine ⟨true, congrArg V.bl (decide_eq_true (by rw [l6]; omega)), iteT ⟨_, _, rfl, rfl, true, congrArg V.bl (decide_eq_true (by rw [l6]; omega)), iteF ?_⟩⟩
      refine ⟨_, rfl, a, rfl, ⟨_, SqT.of (s1 _ _ ha)⟩, fun D hD => lc_it (walk_tup (xs := js.map V.ref)) (fun i H2 => H2 D = some (.lst ((List.replicate i true).map V.bl)) ∧ Same H1 H2) ⟨upd_same, sameAt (Same.refl H1) hD⟩ (fun i H2 _ hv => SqT.of (hv.2 _ _ (s1 _ _ ha))) ?_ ?_⟩
      · rintro i v H2 H2' hi' ⟨hD2, s2⟩ ⟨rfl, hvi⟩
        obtain ⟨j, hj, rfl⟩ : ∃ j, js[i]? = some j ∧ v = .ref j := by
          rw [List.getElem?_map] at hvi
          cases e : js[i]? with
          | none => rw [e] at hvi; cases hvi
          | some z => rw [e] at hvi; exact ⟨z, rfl, (Option.some.inj hvi).symm⟩
        have hil := (List.getElem?_eq_some_iff.mp hj).1
        obtain ⟨zs, hzs⟩ : ∃ zs, zss[i]? = some zs := ⟨_, List.getElem?_eq_getElem (by omega)⟩
        obtain ⟨uj, hJj⟩ := hJs i j zs hj hzs
        obtain ⟨dxj, tj, kj, ej⟩ := hJj.ins
        refine ⟨rfl, _, rfl, _, _, _, _, true, rfl, ClsV.own _, jk _ _ _ _ (s2 _ _ (s1 _ _ ej)), (by show PySem.W.kitOne K _ _ = _; unfold PySem.W.kitOne; rw [if_pos (by simp)]), _, hD2, (by rw [List.length_map, List.length_replicate]; exact small1000 (by omega)), ?_, sameAt s2 hD⟩
        rw [upd_same, List.replicate_succ', List.map_append]
        rfl
      rintro H2 ⟨hD2, s2⟩
      refine ⟨D, _, rfl, SqL.of hD2, ?_⟩
      rw [show (List.replicate (js.map V.ref).length true).all id = true by rw [List.all_eq_true]; intro x hx; exact (List.eq_of_mem_replicate hx)]
      refine ⟨_, rfl, iteF ?_⟩
      have s12 := s1.trans s2
      obtain ⟨j0, hj0⟩ : ∃ j0, js[0]? = some j0 := ⟨_, List.getElem?_eq_getElem (by omega)⟩
      obtain ⟨z0, hz0⟩ : ∃ z0, zss[0]? = some z0 := ⟨_, List.getElem?_eq_getElem (by omega)⟩
      obtain ⟨u0, hJ0⟩ := hJs 0 j0 z0 hj0 hz0
      refine ⟨_, rfl, _, _, _, .ref j0, rfl, rfl, SqT.of (s12 _ _ ha), (atI_nat (j := 0) (by rw [List.getElem?_map, hj0]; rfl)), ?_⟩
      refine ⟨_, rfl, _, rfl, a, _, rfl, SqT.of (s12 _ _ ha), ?_, fun qj hqj => ⟨qj, rfl, ⟨_, SqT.of upd_same⟩, ?_⟩⟩
      · rintro ⟨z1, _⟩
        rw [show (some (1 : Int)) = some ((1 : Nat) : Int) from rfl, HT.sIx_nat, l6] at z1
        omega
      rw [cut1]
      have s3 := sameAt (Same.refl H2) hqj (o := .tup ((js.map V.ref).drop 1))
      have hq3 : (upd H2 qj (.tup ((js.map V.ref).drop 1))) qj = some (.tup ((js.map V.ref).drop 1)) := upd_same
      generalize (upd H2 qj (.tup ((js.map V.ref).drop 1))) = H3 at s3 hq3 ⊢
      have s13 := s12.trans s3
      refine for_it (walk_tup (xs := (js.map V.ref).drop 1)) (fun i σ H' => (∃ x1 jn, σ = [some (.ref a), x1, some (.ref jn)] ∧ ∃ un, JAt K aT CJournal CB H' jn b L un (mrgs (zss.take (i + 1)))) ∧ Same H3 H') ?_ (fun i σ H' _ hv => SqT.of (hv.2 _ _ hq3)) ?_ ?_
      · refine ⟨⟨_, j0, rfl, u0, ?_⟩, Same.refl _⟩
        rw [tk1 hz0, mrgs_snoc]
        show JAt _ _ _ _ _ _ _ _ _ (mrg (mrgs (zss.take 0)) z0)
        rw [List.take_zero, show mrgs [] = [] from rfl, mrg_nil]
        exact hJ0.same s13
      · rintro i v σ H4 H4' hi' ⟨⟨x1, jn, rfl, un, Jn⟩, s4⟩ ⟨rfl, hvi⟩
        rw [List.getElem?_drop, List.getElem?_map] at hvi
        obtain ⟨j, hj, rfl⟩ : ∃ j, js[1 + i]? = some j ∧ v = .ref j := by
          cases e : js[1 + i]? with
          | none => rw [e] at hvi; cases hvi
          | some z => rw [e] at hvi; exact ⟨z, rfl, (Option.some.inj hvi).symm⟩
        have hil := (List.getElem?_eq_some_iff.mp hj).1
        obtain ⟨zs, hzs⟩ : ∃ zs, zss[1 + i]? = some zs := ⟨_, List.getElem?_eq_getElem (by omega)⟩
        obtain ⟨uj, hJj⟩ := hJs (1 + i) j zs hj hzs
        have Jp := hJj.same (s13.trans s4)
        obtain ⟨dxn, tn, kn, en⟩ := Jn.ins
        obtain ⟨dxp, tp, kp', ep⟩ := Jp.ins
        have lun := Jn.len
        have lup := Jp.len
        have w1 := (hW (i + 1) (by omega)).2
        have w2 := hz zs (List.mem_of_getElem? hzs)
        have et : zss.take (i + 1 + 1) = zss.take (i + 1) ++ [zs] := tk1 (by rw [← hzs, Nat.add_comm])
        have w3 := hW (i + 1 + 1) (by omega)
        rw [et, mrgs_snoc] at w3
        refine ⟨_, rfl, _, rfl, jn, j, dxn, dxp, _, _, rfl, rfl, en, ep, jn, j, b, L, un, uj, _, zs, rfl, Jn, Jp, by omega, by omega, fun j' us' H5 hl hw s5 J5 => ?_, fun i0 d H5 hw _ _ => ?_, fun d H5 hl _ _ _ => ?_⟩
        · refine ⟨⟨_, j', rfl, us', ?_⟩, s4.trans s5⟩
          rw [et, mrgs_snoc]
          exact J5
        · rw [List.take_of_length_le (by omega), w3.1] at hw
          cases hw
        · omega
      · rintro σ H4 ⟨⟨x1, jn, rfl, un, Jn⟩, s4⟩
        rw [List.length_drop, List.length_map, show js.length - 1 + 1 = zss.length by omega, List.take_length] at Jn
        exact ⟨_, rfl, q jn un H4 (s13.trans s4) Jn⟩
abbrev s_by_keys : Stmt := topS 35
theorem sc_by_keys : FnScope ["journal", "key"] ["journal"] (defScope s_by_keys) := ⟨rfl, rfl, rfl, by decide +kernel, rfl, by decide +kernel, by decide +kernel⟩
theorem ok_bykeys {f CJournal CB CM aT : Addr} {fd : FuncData} (F : Fun K "by_keys" "by_keys" s_by_keys f fd) (B : Blt mg) (T : Cj P K mg CJournal CB) (jk : ∀ H b dx fs, H b = some (.ins CJournal dx fs) → TyX K H (.ref b) (.ref CJournal)) (G : GP85 P w K mg base aT CJournal CB CM) : FnOk P w K mg base CX0 10 f fd ["journal"] (spByKeys85 K aT CJournal CB) := by
  have c_Journal := T.c
  refine F.ok sc_by_keys (fun vs H Q E h => ?_) (fun cdv A outer s H vs Q E hr h => ?_)
  · obtain ⟨j, b, L, us, xs, rfl, _⟩ := h
    rfl
  · obtain ⟨j, b, L, us, xs, rfl, hJ, l4, hnm, q⟩ := h
    have hu := hu_of hr
    refine ⟨_, (pss_cons (ps_if (pt_not (pt_val (pe_callB call_isi (by rfl) B.isinstance (by decide +kernel) (pa_cons (pv 0) (pa_cons (pe_glob (v := .ref CJournal) (by rfl) c_Journal rfl) pa_nil)))))
      (pss_one ps_never)
      pss_nil)
    (pss_one (ps_ret (pe_dc (own := [("key", 1)]) (g := gName 1) (tt := tYes) (by rfl) sc_by_keys.nd (pi_list (pe_met0 T.cl G.key_names (hr.mono (by decide)) pass0 (pv 0))) (blkOk_by (own := [("key", 1)]) (N := ["journal", "key"]) (sc := defScope s_by_keys) (by decide +kernel)) (fun _ _ _ _ _ => (pg_name (i := 1) sc_by_keys.nd rfl (Or.inl rfl))) (fun _ _ _ _ _ => pts_nil) (fun _ _ _ _ _ => (pv 1)) (fun _ _ _ _ _ => (pe_met T.cl G.only (hr.mono (by decide)) pass0 (pv 0) (pa_cons (pv 1) pa_nil))))))), ?_⟩
    obtain ⟨dx, tt, kd, h1, h2, h3, hl, h5, h6, h7⟩ := id hJ
    refine ⟨_, rfl, _, _, _, _, true, rfl, ClsV.own _, jk _ _ _ _ h1, (by show PySem.W.kitOne K _ _ = _; unfold PySem.W.kitOne; rw [if_pos (by simp)]), _, rfl, iteF ?_⟩
    refine ⟨_, rfl, j, dx, _, rfl, h1, jf_no _ _ _ (by decide +kernel) (by decide +kernel) (by decide +kernel), j, b, L, _, _, rfl, hJ, l4, fun p0 ys H1 s1 hp0 hp1 nd hs hm => ?_⟩
    refine ⟨p0, rfl, ⟨_, SqL.of hp1⟩, fun D hD => dc_it (walk_list (xs := ys.map V.str)) (fun i H3 => (∃ kvs : List (Key × V), H3 D = some (.dK kvs) ∧ kvs.map (·.1) = (ys.take i).map Sum.inr ∧ ∀ key ∈ ys.take i, ∃ jp up, valV kvs (Sum.inr key : Key) = some (.ref jp) ∧ JAt K aT CJournal CB H3 jp b L up (part key xs) ∧ ∃ dx t kd, H3 jp = some (.ins CJournal dx (jf b t kd)) ∧ kd ≠ D) ∧ Same H1 H3) ⟨⟨[], upd_same, rfl, fun key h => nomatch h⟩, sameAt (Same.refl H1) hD⟩ (fun i H3 _ hv => .inl (.inl (hv.2 _ _ hp1))) ?_ ?_⟩
    · rintro i x H3 H4 hi ⟨⟨kvs, hk1, hk2, hk3⟩, s3⟩ ⟨rfl, hx⟩
      rw [List.length_map] at hi
      obtain ⟨key, hkey, rfl⟩ : ∃ n, ys[i]? = some n ∧ x = V.str n := by
        rw [List.getElem?_map] at hx
        cases e : ys[i]? with
        | none => rw [e] at hx; cases hx
        | some z => rw [e] at hx; exact ⟨z, rfl, (Option.some.inj hx).symm⟩
      have hmk := List.mem_of_getElem? hkey
      have nmk := hnm _ ((hm key).mp hmk)
      have hnt : key ∉ ys.take i := by
        intro z
        obtain ⟨j, hj⟩ := List.getElem?_of_mem z
        rw [List.getElem?_take] at hj
        split at hj
        · next c =>
          have := (List.getElem?_inj (by omega) nd).mp (hj.trans hkey.symm)
          omega
        · cases hj
      have kl : kvs.length ≤ 400 := by
        have e := congrArg List.length hk2
        rw [List.length_map, List.length_map, List.length_take] at e
        have l5 : ys.length ≤ (keysOf xs).length := sub_len nd fun z hz => (hm z).mp hz
        have l6 : (keysOf xs).length ≤ xs.length := List.length_filterMap_le _ _
        omega
      have s13 := s1.trans s3
      refine ⟨rfl, _, rfl, _, rfl, j, dx, _, rfl, s13 _ _ h1, jf_no _ _ _ (by decide +kernel) (by decide +kernel) (by decide +kernel), _, rfl, j, b, L, _, _, key, rfl, hJ.same s13, l4, nmk, fun up jp H5 s5 hJp hfr => ⟨_, Sum.inr key, rfl, s5 _ _ hk1, small1000 (by omega), ⟨_, upd_same, ?_, fun k' hk' => ?_⟩, sameAt (s3.trans s5) hD⟩⟩
      · rw [tk1 hkey, List.map_append, ← hk2, putK_new _ (by
          cases e : valV kvs (Sum.inr key : Key) with
          | none => rfl
          | some v =>
            exact absurd (by have := (mem_key (kvs := kvs) (k := (Sum.inr key : Key))).mpr (by rw [e]; rfl); rw [hk2] at this; obtain ⟨z, hz, e2⟩ := List.mem_map.mp this; cases e2; exact hz) hnt), List.map_append]
        rfl
      · obtain ⟨bx, dd, L', b1, b2, b3, b4⟩ := h2
        have ddn : dd ≠ D := fun z => by rw [z] at b2; rw [s1 _ _ b2] at hD; cases hD
        have keep : ∀ {jq : Addr} {uq : List V} {ky : Str}, JAt K aT CJournal CB H5 jq b L uq (part ky xs) → (∃ dx t kd, H5 jq = some (.ins CJournal dx (jf b t kd)) ∧ kd ≠ D) → JAt K aT CJournal CB (upd H5 D (.dK (putK kvs (Sum.inr key) (.ref jp)))) jq b L uq (part ky xs) ∧ ∃ dx t kd, (upd H5 D (.dK (putK kvs (Sum.inr key) (.ref jp)))) jq = some (.ins CJournal dx (jf b t kd)) ∧ kd ≠ D := fun {jq uq ky} hq ⟨dx', t', kd', f1, f2⟩ => by
          have hD5 := s5 _ _ hk1
          have jD : jq ≠ D := fun z => by rw [z, hD5] at f1; cases f1
          refine ⟨hq.fr (fun c o h n1 n2 => ?_) (fun d L2 h ⟨dx2, hb2⟩ => ?_) (fun kd2 kv2 h ⟨dx2, t2, hj2⟩ => ?_), dx', t', kd', by rw [upd_ne jD]; exact f1, f2⟩
          · rw [upd_ne (fun z => by rw [z, hD5] at h; exact n2 _ (Option.some.inj h).symm)]
            exact h
          · rw [s5 _ _ (s13 _ _ b1)] at hb2
            cases hb2
            rw [upd_ne ddn]
            exact h
          · rw [f1] at hj2
            have e := congrArg (fun o => match o with | some (HO.ins _ _ fs) => fs.lookup ("_known" : Str) | _ => none) hj2
            have e1 : some (V.ref kd') = some (V.ref kd2) := by
              have q1 := jf_k b t' kd'
              have q2 := jf_k b t2 kd2
              exact q1.symm.trans (Eq.trans e q2)
            cases e1
            rw [upd_ne f2]
            exact h
        rw [tk1 hkey] at hk'
        rcases List.mem_append.mp hk' with h | h
        · obtain ⟨jq, uq, v1, v2, dx', t', kd', v3, v4⟩ := hk3 k' h
          have ne : k' ≠ key := fun z => hnt (z ▸ h)
          obtain ⟨r1, r2⟩ := keep (v2.same s5) ⟨dx', t', kd', s5 _ _ v3, v4⟩
          refine ⟨jq, uq, ?_, r1, r2⟩
          rw [valV_put, if_neg (fun z => ne (Sum.inr.inj z))]
          exact v1
        · have e := List.mem_singleton.mp h
          subst e
          obtain ⟨dx', t', kd', v3, v4⟩ := hfr
          obtain ⟨r1, r2⟩ := keep hJp ⟨dx', t', kd', v3, fun z => by rw [z, hk1] at v4; cases v4⟩
          refine ⟨jp, up, ?_, r1, r2⟩
          rw [valV_put, if_pos rfl]
    · rintro H3 ⟨⟨kvs, hk1, hk2, hk3⟩, s3⟩
      rw [List.length_map, List.take_length] at hk2 hk3
      exact q D ys kvs H3 (s1.trans s3) hk1 hk2 nd hs hm fun key hk => by
        obtain ⟨jp, up, v1, v2, _⟩ := hk3 key hk
        exact ⟨jp, up, v1, v2⟩
end
end Ash

set_option Elab.async false
set_option linter.all false
set_option maxRecDepth 100000
set_option maxHeartbeats 4000000
set_option pp.maxSteps 600
namespace Ash
open PySem PySem.Spec PyProof.Rows L2
open C8 (pss_cut)
theorem str_ext {a b : Str} (h : a.cps.toList = b.cps.toList) : a = b := by
  obtain ⟨x⟩ := a
  obtain ⟨y⟩ := b
  have h : x.toList = y.toList := h
  rw [Array.toList_inj.mp h]
/-- texts in order -/
def LeS (a b : Str) : Prop := decide (b.cps.toList < a.cps.toList) = false
theorem leS_anti {a b : Str} (h : LeS a b) (g : LeS b a) : a = b := str_ext (PyProof.Rows.strKind.total _ _ g h)
theorem leS_trans {a b c : Str} (h : LeS a b) (g : LeS b c) : LeS a c := by
  unfold LeS at *
  cases e : decide (c.cps.toList < a.cps.toList) with
  | false => rfl
  | true =>
    rcases PyProof.Rows.strKind.negTrans _ b.cps.toList _ e with q | q
    · exact absurd (show decide (c.cps.toList < b.cps.toList) = true from q) (by rw [g]; exact Bool.false_ne_true)
    · exact absurd (show decide (b.cps.toList < a.cps.toList) = true from q) (by rw [h]; exact Bool.false_ne_true)
theorem ris_pw : ∀ (l : List Str) (p : Str), risingS p l = true → (p :: l).Pairwise LeS
  | [], p, _ => List.pairwise_singleton _ _
  | x :: r, p, h => by
    have h : (!ltCps x.cps.toList p.cps.toList && risingS x r) = true := h
    rw [Bool.and_eq_true] at h
    have e1 : LeS p x := by
      unfold LeS
      rw [← ltCps_eq]
      simpa using h.1
    have ih := ris_pw r x h.2
    refine List.pairwise_cons.mpr ⟨fun y hy => ?_, ih⟩
    rcases List.mem_cons.mp hy with rfl | hy
    · exact e1
    · exact leS_trans e1 (List.rel_of_pairwise_cons ih hy)
theorem srtS_pw : ∀ {l : List Str}, sortedS l = true → l.Pairwise LeS
  | [], _ => .nil
  | p :: r, h => ris_pw r p h
theorem srt_uniq {α : Type} {le : α → α → Prop} (anti : ∀ a b, le a b → le b a → a = b) : ∀ {l m : List α}, l.Pairwise le → m.Pairwise le → l.Perm m → l = m
  | [], m, _, _, p => (List.nil_perm.mp p).symm
  | a :: l, [], _, _, p => absurd p.symm (by simp)
  | a :: l, b :: m, hl, hm, p => by
    have e : a = b := by
      rcases List.mem_cons.mp (p.mem_iff.mp (List.mem_cons_self (a := a) (l := l))) with h | h
      · exact h
      · rcases List.mem_cons.mp (p.mem_iff.mpr (List.mem_cons_self (a := b) (l := m))) with g | g
        · exact g.symm
        · exact anti _ _ (List.rel_of_pairwise_cons hl g) (List.rel_of_pairwise_cons hm h)
    subst e
    rw [srt_uniq anti (List.pairwise_cons.mp hl).2 (List.pairwise_cons.mp hm).2 ((List.perm_cons a).mp p)]
theorem strs_same {l m : List Str} (hl : sortedS l = true) (hm : sortedS m = true) (nl : l.Nodup) (nm : m.Nodup) (h : ∀ z, z ∈ l ↔ z ∈ m) : l = m :=
  srt_uniq (fun _ _ => leS_anti) (srtS_pw hl) (srtS_pw hm) ((List.perm_ext_iff_of_nodup nl nm).mpr h)
theorem dp_strs {K : PySem.W.Frag} {H : Hp} : ∀ is : List Str, DpAll K H (is.map V.str) (is.map PyData.str)
  | [] => .nil
  | i :: r => .cons (.str i) (dp_strs r)
theorem strs_shaped {is : List Str} (h : ∀ z ∈ is, PyData.strOk z = true) : SeqAt.shaped (.list (is.map PyData.str)) = true := by
  have q : (is.map PyData.str).all flatD = true := by
    rw [List.all_eq_true]
    intro d hd
    obtain ⟨z, hz, rfl⟩ := List.mem_map.mp hd
    exact h z hz
  obtain ⟨h1, h2⟩ := flat_lay q
  unfold SeqAt.shaped
  simp [PyData.canLay0, PyData.depth, h1]
  omega
theorem keysOf_nm {xs : List Ent} (h : ∀ x ∈ xs, x.ok) : ∀ z ∈ keysOf xs, IsNm z := fun z hz => by
  obtain ⟨x, hx, e⟩ := List.mem_filterMap.mp hz
  cases x with
  | row id s k m a r =>
    cases e
    exact ((h _ hx).2 _ _ _ _ _ _ rfl).2
  | fix _ _ _ _ => cases e
  | gone _ _ => cases e
theorem ents_ok {H : Hp} {us : List V} {xs : List Ent} (h : Ents H us xs) : ∀ x ∈ xs, x.ok := fun x hx => by
  obtain ⟨i, hi, e⟩ := List.getElem_of_mem hx
  have l := h.1
  obtain ⟨_, _, _, q⟩ := h.2 i us[i] x (List.getElem?_eq_getElem (by omega)) (by rw [List.getElem?_eq_getElem hi, e])
  exact q
def spGoodCut (K : PySem.W.Frag) (aT CJ CB : Addr) : Sp := fun vs H Q _ => ∃ (j a b : Addr) (L : List (Str × Int)) (us us' : List V) (xs : List Ent) (h : Int), vs = [.ref j, .ref a, .int h] ∧ JAt K aT CJ CB H j b L us xs ∧ us.length ≤ 100 ∧ H a = some (.lst us') ∧ Ents H us' xs ∧ ∀ H', Same H H' → Q (.bl true) H'
structure GC85 (P : Program) (w : World) (K : PySem.W.Frag) (mg : Str → Option Value) (base : Heap) (aT CJ CB CE CM : Addr) : Prop where
  cut : Cal P w K mg base CX0 "cut" 10 ["journal", "h"] (spCut85 K aT CJ CB)
  law_heard : Cal P w K mg base CX0 "_law_heard" 1 ["entries", "h"] spLHeard85
  heard : Met P w K mg base (L2.CX P w) CJ "heard" 9 ["self", "h"] (spHeard K aT CJ CB CM)
  then_ : Met P w K mg base (L2.CX P w) CJ "then" 9 ["self", "entry"] (spThen K aT CJ CB CE)
theorem take_of_filter {xs : List Ent} (h : Int) (ha : Asc xs) : xs.drop (xs.filter fun x => decide (x.arr ≤ h)).length = xs.filter fun x => decide (h < x.arr) := by
  induction xs with
  | nil => rfl
  | cons x r ih =>
    obtain ⟨h1, h2⟩ := List.pairwise_cons.mp ha
    by_cases c : x.arr ≤ h
    · rw [List.filter_cons, if_pos (decide_eq_true c), List.length_cons, List.drop_succ_cons, ih h2, List.filter_cons, if_neg (by simp; omega)]
    · have e1 : (r.filter fun x => decide (x.arr ≤ h)) = [] := List.filter_eq_nil_iff.mpr fun y hy => by have := h1 y hy; simp; omega
      have e2 : (r.filter fun x => decide (h < x.arr)) = r := List.filter_eq_self.mpr fun y hy => by have := h1 y hy; simp; omega
      rw [List.filter_cons, if_neg (by simpa using c), e1, List.filter_cons, if_pos (by simp; omega), e2]
      rfl
theorem noPart {σ : L2.St} {H : Hp} {Q : Option Int → Hp → Prop} (h : Q none H) : tNoPart σ H Q := h
theorem cutk {js : List V} {k : Nat} (h : k ≤ js.length) : cutV js (some (k : Int)) none = js.drop k := by
  unfold cutV
  rw [HT.sIx_nat, HT.sIx_none, Nat.min_eq_left h]
  exact List.take_of_length_le (by rw [List.length_drop]; omega)
theorem Ents.drop {H : Hp} {us : List V} {xs : List Ent} (h : Ents H us xs) (k : Nat) : Ents H (us.drop k) (xs.drop k) := ⟨by rw [List.length_drop, List.length_drop, h.1], fun i v x a b => by
  rw [List.getElem?_drop] at a b
  exact h.2 _ v x a b⟩
theorem filt_app {xs : List Ent} (h : Int) (ha : Asc xs) : (xs.filter fun x => decide (x.arr ≤ h)) ++ (xs.filter fun x => decide (h < x.arr)) = xs := by
  induction xs with
  | nil => rfl
  | cons x r ih =>
    obtain ⟨h1, h2⟩ := List.pairwise_cons.mp ha
    by_cases c : x.arr ≤ h
    · rw [List.filter_cons, if_pos (decide_eq_true c), List.filter_cons, if_neg (by simp; omega), List.cons_append, ih h2]
    · have e1 : (r.filter fun x => decide (x.arr ≤ h)) = [] := List.filter_eq_nil_iff.mpr fun y hy => by have := h1 y hy; simp; omega
      have e2 : (r.filter fun x => decide (h < x.arr)) = r := List.filter_eq_self.mpr fun y hy => by have := h1 y hy; simp; omega
      rw [List.filter_cons, if_neg (by simpa using c), e1, List.filter_cons, if_pos (by simp; omega), e2]
      rfl
section
variable {P : Program} {w : World} {K : PySem.W.Frag} {mg : Str → Option Value} {base : Heap}
abbrev s_l_good_cut : Stmt := topS 53
theorem sc_l_good_cut : FnScope ["journal", "entries", "h", "told", "back", "entry"] ["journal", "entries", "h"] (defScope s_l_good_cut) := ⟨rfl, rfl, rfl, by decide +kernel, rfl, by decide +kernel, by decide +kernel⟩
theorem ok_goodcut {f fl fq CJ CB CE CM aT : Addr} {fd fdl fdq : FuncData} (F : Fun K "_law_good_cut" "_law_good_cut" s_l_good_cut f fd) (B : Blt mg) (T : Cj P K mg CJ CB) (G : GC85 P w K mg base aT CJ CB CE CM)
    (hs : PySem.W.findIn K (.ref CJ) "__len__" = some (some (.ref fl))) (hf : PySem.W.isFn K (.ref fl) = true) (hb : Binds K fdl ["self"] []) (Fl : FnOk P w K mg base CX0 1 fl fdl ["self"] (spJLen K aT CJ CB))
    (Zq : NeC K CJ fq) (eqs : PySem.W.findIn K (.ref CJ) "__eq__" = some (some (.ref fq))) (eqf : PySem.W.isFn K (.ref fq) = true) (bq : Binds K fdq ["self", "other"] []) (Fq : FnOk P w K mg base CX0 3 fq fdq ["self", "other"] (spEq (EqJc K aT CJ CB))) : FnOk P w K mg base CX0 12 f fd ["journal", "entries", "h"] (spGoodCut K aT CJ CB) := by
  refine F.ok sc_l_good_cut (fun vs H Q E h => ?_) (fun cdv A outer s H vs Q E hr h => ?_)
  · obtain ⟨j, a, b, L, us, us', xs, h, rfl, _⟩ := h
    rfl
  · obtain ⟨j, a, b, L, us, us', xs, h, rfl, hJ, l1, ha, hE, q⟩ := h
    refine ⟨_, (pss_cons (ps_set (i := 3) sc_l_good_cut.nd rfl (Or.inl rfl) (pe_cal G.cut (hr.mono (by decide)) pass0 (pa_cons (pv 0) (pa_cons (pv 2) pa_nil))))
    (pss_cons (ps_if (PW.pt (pw_or (pt_not (pt_val (pe_callB call_isi (by rfl) B.isinstance (by decide +kernel) (pa_cons (pv 3) (pa_cons (pe_bltn (v := .ty "tuple") (by rfl) B.tuple (by decide +kernel) rfl) pa_nil))))) (pw_or (pt_cmpR op_ne (pe_callB call_len_seq (by rfl) B.len (by decide +kernel) (pa_cons (pv 3) pa_nil)) pe_int (nomark _)) (pw_or1 (pt_not (pt_val (pe_callB call_isi (by rfl) B.isinstance (by decide +kernel) (pa_cons (pe_ix ix_tup (pv 3) pe_int (fun _ _ => rfl)) (pa_cons (pe_bltn (v := .ty "list") (by rfl) B.list (by decide +kernel) rfl) pa_nil)))))))))
      (pss_one (ps_ret pe_bl))
      pss_nil)
    (pss_cons (ps_if (PW.pt (pw_or (pt_cmpR (op_neD hr.units) (pe_callTy call_list_of (by rfl) B.list (by decide +kernel) (pa_cons (pe_fld (pe_ix ix_tup (pv 3) pe_int (fun _ _ => rfl)) rfl) pa_nil)) (pe_cal G.law_heard (hr.mono (by decide)) pass0 (pa_cons (pv 1) (pa_cons (pv 2) pa_nil))) (nomark _)) (pw_or1 (pt_cmpR (op_neG Fq Zq bq pass0 (hr.mono (by decide))) (pe_ix ix_tup (pv 3) pe_int (fun _ _ => rfl)) (pe_met T.cl G.heard (hr.mono (by decide)) (passE takes0) (pv 0) (pa_cons (pv 2) pa_nil)) (nomark _)))))
      (pss_one (ps_ret pe_bl))
      pss_nil)
    (pss_cons (ps_if (pt_cmpR (op_neD hr.units) (pe_ix ix_tup (pv 3) pe_int (fun _ _ => rfl)) (pe_slice sl_list (pv 1) (po_some (pe_callB (call_lenI Fl hs hf hb pass0 (hr.mono (by decide))) (by rfl) B.len (by decide +kernel) (pa_cons (pe_ix ix_tup (pv 3) pe_int (fun _ _ => rfl)) pa_nil))) po_none) (nomark _))
      (pss_one (ps_ret pe_bl))
      pss_nil)
    (pss_cons (ps_set (i := 4) sc_l_good_cut.nd rfl (Or.inl rfl) (pe_ix ix_tup (pv 3) pe_int (fun _ _ => rfl)))
    (pss_cons (ps_for PassesOwn.never rfl (pi_list (pe_ix ix_tup (pv 3) pe_int (fun _ _ => rfl))) (pg_name (i := 5) sc_l_good_cut.nd rfl (Or.inl rfl))
      (pss_one (ps_set (i := 4) sc_l_good_cut.nd rfl (Or.inl rfl) (pe_met T.cl G.then_ (hr.mono (by decide)) (passE takes0) (pv 4) (pa_cons (pv 5) pa_nil)))))
    (pss_cons (ps_expr (pe_bm PySem.F.plainAttrs_list PySem.F.slot_list_append PySem.F.type_list_append mt_append (pe_ix ix_tup (pv 3) pe_int (fun _ _ => rfl)) (pa_cons pe_str pa_nil)))
    (pss_one (ps_ret (pe_and (pe_cmpR (op_eqO eqs eqf Fq bq pass0 (hr.mono (by decide))) (pv 4) (pv 0) (nomark _)) (pe_one (pe_cmpR (op_eqD hr.units) (pe_ix ix_tup (pe_cal G.cut (hr.mono (by decide)) pass0 (pa_cons (pv 0) (pa_cons (pv 2) pa_nil))) pe_int (fun _ _ => rfl)) (pe_slice sl_list (pv 1) (po_some (pe_callB (call_lenI Fl hs hf hb pass0 (hr.mono (by decide))) (by rfl) B.len (by decide +kernel) (pa_cons (pe_ix ix_tup (pv 3) pe_int (fun _ _ => rfl)) pa_nil))) po_none) (nomark _))))))))))))), ?_⟩
    obtain ⟨dj, tj, kj, ej⟩ := hJ.ins
    have luj := hJ.len
    refine ⟨_, rfl, _, rfl, j, b, L, us, xs, h, rfl, hJ, by omega, fun t j2 q2 us1 us2 H1 s1 ht hJ2 hq20 hq2 hE2 => ?_⟩
    obtain ⟨d2, t2, k2, e2⟩ := hJ2.ins
    have E2 := hJ2.es.1
    have lu2 := hJ2.len
    have lxs : (xs.filter fun x => decide (x.arr ≤ h)).length ≤ xs.length := List.length_filter_le _ _
    have asc := hJ.es.2
    have hdrop := take_of_filter h asc
    have hl2 := hE2.1
    have lxs2 : (xs.filter fun x => decide (h < x.arr)).length ≤ xs.length := List.length_filter_le _ _
    refine ⟨_, rfl, _, _, _, _, true, rfl, ClsV.ty _, .base (.tup ht), kit_ty (by decide +kernel), _, rfl, iteF ?_⟩
    refine ⟨_, rfl, t, _, rfl, .inr (SqT.of ht), rfl, _, rfl, iteF ?_⟩
    refine ⟨_, rfl, _, _, _, _, rfl, rfl, SqT.of ht, rfl, _, _, _, _, true, rfl, ClsV.ty _, .base (.lst hq2), kit_ty (by decide +kernel), _, rfl, iteF ?_⟩
    obtain ⟨_, _, _, p1, _, p3, _⟩ := id hJ2
    refine ⟨_, rfl, _, _, _, _, rfl, rfl, SqT.of ht, rfl, j2, CJ, _, _, _, rfl, p1, T.cl, T.nE, jf_e _ _ _, _, us1, rfl, .inr p3, fun l1' hl1 => ?_⟩
    have s2 := sameAt (Same.refl H1) hl1 (o := .lst us1)
    have hl12 : (upd H1 l1' (.lst us1)) l1' = some (.lst us1) := upd_same
    generalize (upd H1 l1' (.lst us1)) = H2 at s2 hl12 ⊢
    have s12 := s1.trans s2
    refine ⟨_, rfl, _, rfl, a, us', xs, h, rfl, s12 _ _ ha, hE.tk (tk_same s12), (by rw [hE.1]; omega), fun qh ush H3 s3 hqh0 hqh hEh => ?_⟩
    have s23 := s2.trans s3
    have E23 := E2.same s23
    refine ⟨_, _, .lst (SqL.of (s3 _ _ hl12)) E23.dp, .lst (SqL.of hqh) (ThEs.of (K := K) hEh).dp, pds_l E23.ok, pds_l E23.ok, _, rfl, ?_⟩
    rw [eqv_self (pds_l E23.ok)]
    refine iteF ?_
    have s13 := s1.trans s23
    have ht3 := s23 _ _ ht
    refine ⟨_, rfl, _, _, _, _, rfl, rfl, SqT.of ht3, rfl, _, rfl, j, dj, _, rfl, s13 _ _ ej, jf_no _ _ _ (by decide +kernel) (by decide +kernel) (by decide +kernel), _, rfl, j, b, L, _, _, .int h, rfl, hJ.same s13, by omega, .inl ⟨h, rfl, fun kk j3 H4 hf s4 hJ3 => ?_⟩⟩
    rw [← hf] at hJ3
    obtain ⟨d3, t3, k3, e3⟩ := hJ3.ins
    have s24 := s23.trans s4
    refine ⟨⟨j2, j3, _, _, _, _, rfl, rfl, s24 _ _ e2, e3, b, L, _, _, _, hJ2.same s24, hJ3⟩, fun H5 x5 => ⟨_, rfl, iteF ?_⟩⟩
    have s5 : Same H4 H5 := fun c o h => x5 c o h
    have s25 := s24.trans s5
    have s15 := s1.trans s25
    have ht5 := s25 _ _ ht
    have hq25 := s25 _ _ hq2
    have ha5 := s15 _ _ ha
    have e25 := s25 _ _ e2
    have J25 := hJ2.same s25
    have l62 : us1.length < 2 ^ 62 := Nat.lt_of_le_of_lt (show us1.length ≤ 400 by omega) (by decide)
    have eA : us1.length = (xs.filter fun x => decide (x.arr ≤ h)).length := lu2
    have lA : us1.length ≤ us'.length := by rw [hE.1]; omega
    have hdE : Ents H5 (us'.drop us1.length) (xs.filter fun x => decide (h < x.arr)) := by
      rw [← hdrop, eA]
      exact (hE.tk (tk_same s15)).drop _
    refine ⟨_, rfl, _, _, _, _, rfl, rfl, SqT.of ht5, rfl, _, rfl, _, rfl, _, _, _, _, rfl, rfl, SqT.of ht5, rfl, j2, d2, _, rfl, e25, j2, b, L, us1, _, rfl, J25, us1.length, rfl, l62, _, rfl, noPart ⟨a, us', rfl, SqL.of ha5, fun p6 hp6 => ?_⟩⟩
    rw [cutk lA]
    have s6 := sameAt (Same.refl H5) hp6 (o := .lst (us'.drop us1.length))
    have hp66 : (upd H5 p6 (.lst (us'.drop us1.length))) p6 = some (.lst (us'.drop us1.length)) := upd_same
    generalize (upd H5 p6 (.lst (us'.drop us1.length))) = H6 at s6 hp66 ⊢
    have hEE := hE2.same (s25.trans s6)
    refine ⟨_, _, .lst (SqL.of (s6 _ _ hq25)) hEE.dp, .lst (SqL.of hp66) (ThEs.of (K := K) (hdE.tk (tk_same s6))).dp, pds_l hEE.ok, pds_l hEE.ok, _, rfl, ?_⟩
    rw [eqv_self (pds_l hEE.ok)]
    refine iteF ?_
    have ht6 := s6 _ _ ht5
    have s16 := s15.trans s6
    have hq26 := s6 _ _ hq25
    generalize hAA : (xs.filter fun x => decide (x.arr ≤ h)) = xA at *
    generalize hDD : (xs.filter fun x => decide (h < x.arr)) = xD at *
    have exs : xA ++ xD = xs := by
      rw [← hAA, ← hDD]
      exact filt_app h asc
    have wJ : wk L (xs.map some) 0 (fun _ => none) none = (none, (wk L (xs.map some) 0 (fun _ => none) none).2) := by
      obtain ⟨_, _, _, _, _, _, _, _, h6, _⟩ := hJ
      rw [← h6]
    have J26 := hJ2.same (s25.trans s6)
    refine ⟨_, rfl, _, _, _, _, rfl, rfl, SqT.of ht6, rfl, _, rfl, _, _, _, _, rfl, rfl, SqT.of ht6, rfl, q2, rfl, ⟨_, SqL.of hq26⟩, for_list (K := K) (a := q2) (xs := us2) (fun i σ H' => (∃ jn x5, σ = [some (.ref j), some (.ref a), some (.int h), some (.ref t), some (.ref jn), x5] ∧ ∃ un, JAt K aT CJ CB H' jn b L un (xA ++ xD.take i)) ∧ Same H6 H') ?_ (fun i σ H' _ hv => SqL.of (hv.2 _ _ hq26)) ?_ ?_⟩
    · refine ⟨⟨j2, _, rfl, us1, ?_⟩, Same.refl _⟩
      rw [List.take_zero, List.append_nil]
      exact J26
    · rintro i v σ H7 hvi ⟨⟨jn, x5, rfl, un, Jn⟩, s7⟩
      have hil := (List.getElem?_eq_some_iff.mp hvi).1
      obtain ⟨x, hx⟩ : ∃ x, xD[i]? = some x := ⟨_, List.getElem?_eq_getElem (by omega)⟩
      obtain ⟨dxn, tn, kn, en⟩ := Jn.ins
      have lun := Jn.len
      have thx := (hEE.same s7).2 i v x hvi hx
      have et : xA ++ xD.take i ++ [x] = xA ++ xD.take (i + 1) := by rw [tk1 hx, List.append_assoc]
      have lx : (xA ++ xD.take i).length < 400 := by rw [List.length_append, List.length_take]; omega
      have ep : xs.take (xA.length + (i + 1)) = xA ++ xD.take (i + 1) := by rw [← exs, List.take_length_add_append]
      obtain ⟨Sk, hSk⟩ := wk_pre wJ (xA.length + (i + 1))
      rw [ep, ← et] at hSk
      refine ⟨_, rfl, jn, dxn, _, rfl, en, jf_no _ _ _ (by decide +kernel) (by decide +kernel) (by decide +kernel), _, rfl, jn, b, L, un, _, v, some x, rfl, Jn, by omega, thx, fun j' H8 x' hx' hw s8 J8 => ?_, fun i0 d H8 hw _ _ => ?_⟩
      · cases hx'
        rw [et] at J8
        exact ⟨⟨j', _, rfl, _, J8⟩, s7.trans s8⟩
      · rw [List.map_append] at hSk
        have hw : (wk L ((xA ++ xD.take i).map some ++ [some x]) 0 (fun _ => none) none).1 = some i0 := hw
        rw [show [some x] = [x].map some from rfl, hSk] at hw
        cases hw
    rintro σ H7 ⟨⟨jn, x5, rfl, un, Jn⟩, s7⟩
    rw [hl2, List.take_length, exs] at Jn
    have ht7 := s7 _ _ ht6
    have hq27 := s7 _ _ hq26
    refine ⟨_, rfl, _, _, _, _, rfl, rfl, SqT.of ht7, rfl, .inl ⟨rfl, _, SqL.of hq27⟩, q2, _, _, rfl, rfl, hq27, small1000 (by omega), ?_⟩
    have s17 : Same H (upd H7 q2 (.lst (us2 ++ [.str "x"]))) := fun c o hc => by
      have hc1 := s1 _ _ hc
      rw [upd_ne (fun z => by rw [z, hq20] at hc; cases hc)]
      exact s7 _ _ (s16 _ _ hc)
    have nl : NL H7 (upd H7 q2 (.lst (us2 ++ [.str "x"]))) := fun c u hc hn => by
      rw [upd_ne (fun z => by rw [z, hq27] at hc; exact hn _ (Option.some.inj hc).symm)]
      exact hc
    have ht8 := nl _ _ ht7 (fun _ z => nomatch z)
    have hJ8 := hJ.same s17
    have Jn8 := Jn.nl nl
    have J28 := (J26.same s7).nl nl
    generalize (upd H7 q2 (.lst (us2 ++ [.str "x"]))) = H8 at s17 nl ht8 hJ8 Jn8 J28 ⊢
    obtain ⟨dxn, tn, kn, en⟩ := Jn8.ins
    obtain ⟨d28, t28, k28, e28⟩ := J28.ins
    refine ⟨_, rfl, _, rfl, jn, j, dxn, dj, _, _, rfl, rfl, en, s17 _ _ ej, jn, j, rfl, ⟨b, L, _, _, _, Jn8, hJ8⟩, fun H9 s9 => ⟨_, rfl, iteT ?_⟩⟩
    have s9 : Same H8 H9 := fun c o h => s9 c o h
    have hJ9 := hJ8.same s9
    refine ⟨_, rfl, _, rfl, j, b, L, us, xs, h, rfl, hJ9, by omega, fun t9 j9 q9 us9 us9' HA sA ht9 hJ9' hq90 hq9 hE9 => ?_⟩
    have s1A := s17.trans (s9.trans sA)
    have s8A := s9.trans sA
    have htA := s8A _ _ ht8
    refine ⟨_, _, _, .ref q9, rfl, rfl, SqT.of ht9, rfl, _, rfl, _, rfl, _, _, _, _, rfl, rfl, SqT.of htA, rfl, j2, d28, _, rfl, s8A _ _ e28, j2, b, L, us1, _, rfl, J28.same s8A, us1.length, rfl, l62, _, rfl, noPart ⟨a, us', rfl, SqL.of (s1A _ _ ha), fun pB hpB => ?_⟩⟩
    rw [cutk lA]
    have sB := sameAt (Same.refl HA) hpB (o := .lst (us'.drop us1.length))
    rw [hDD] at hE9
    have hEB := hE9.same sB
    have hdB : Ents (upd HA pB (.lst (us'.drop us1.length))) (us'.drop us1.length) xD := by
      rw [← hdrop, ← eA]
      exact (hE.tk (tk_same (s1A.trans sB))).drop _
    refine ⟨_, _, .lst (SqL.of (sB _ _ hq9)) hEB.dp, .lst (SqL.of upd_same) (ThEs.of (K := K) hdB).dp, pds_l hEB.ok, pds_l hEB.ok, ?_⟩
    rw [eqv_self (pds_l hEB.ok)]
    exact q _ (s1A.trans sB)
end
end Ash

set_option Elab.async false
set_option linter.all false
set_option maxRecDepth 100000
set_option maxHeartbeats 4000000
set_option pp.maxSteps 600
namespace Ash
open PySem PySem.Spec PyProof.Rows L2
open C8 (pss_cut)
def spGoodKeys (K : PySem.W.Frag) (aT CJ CB : Addr) : Sp := fun vs H Q _ => ∃ (j a b : Addr) (L : List (Str × Int)) (us us' : List V) (xs : List Ent), vs = [.ref j, .ref a] ∧ JAt K aT CJ CB H j b L us xs ∧ us.length ≤ 100 ∧ H a = some (.lst us') ∧ Ents H us' xs ∧ ∀ H', Same H H' → Q (.bl true) H'
def spGoodWhole (K : PySem.W.Frag) (aT CJ CB : Addr) : Sp := fun vs H Q _ => ∃ (j a b dl dk p s : Addr) (L : List (Str × Int)) (kys : List Str) (us us' : List V) (xs zs : List Ent), vs = [.ref j, .ref a, .ref dl, .ref dk] ∧ JAt K aT CJ CB H j b L us zs ∧ us.length ≤ 100 ∧ H a = some (.lst us') ∧ Ents H us' xs ∧ xs.length ≤ 100 ∧ Good L xs ∧ (∀ id, (zs.filter fun e => decide (e.id = id)) = xs.filter fun e => decide (e.id = id)) ∧ Bs H p s dl dk L kys ∧ ∀ H', Same H H' → Q (.bl true) H'
structure GK85 (P : Program) (w : World) (K : PySem.W.Frag) (mg : Str → Option Value) (base : Heap) (aT CJ CB CM : Addr) : Prop where
  by_keys : Cal P w K mg base CX0 "by_keys" 10 ["journal"] (spByKeys85 K aT CJ CB)
  law_of_key : Cal P w K mg base CX0 "_law_of_key" 1 ["entries", "key"] spOwned
  law_heard : Cal P w K mg base CX0 "_law_heard" 1 ["entries", "h"] spLHeard85
  law_rows : Cal P w K mg base CX0 "_law_rows" 3 ["entries", "stream", "key"] spLRows
  only : Met P w K mg base CX0 CJ "only" 9 ["self", "key"] (spOnlyF K aT CJ CB)
  heard : Met P w K mg base (L2.CX P w) CJ "heard" 9 ["self", "h"] (spHeard K aT CJ CB CM)
  rows : Met P w K mg base CX0 CJ "rows" 3 ["self", "stream", "key"] (spRows K aT CJ CB)
section
variable {P : Program} {w : World} {K : PySem.W.Frag} {mg : Str → Option Value} {base : Heap}
abbrev s_l_good_keys : Stmt := topS 54
theorem sc_l_good_keys : FnScope ["journal", "entries", "told", "used", "key", "entry"] ["journal", "entries"] (defScope s_l_good_keys) := ⟨rfl, rfl, rfl, by decide +kernel, rfl, by decide +kernel, by decide +kernel⟩
theorem ok_goodkeys {f fq CJ CB CM aT : Addr} {fd fdq : FuncData} (F : Fun K "_law_good_keys" "_law_good_keys" s_l_good_keys f fd) (B : Blt mg) (T : Cj P K mg CJ CB) (G : GK85 P w K mg base aT CJ CB CM)
    (Zq : NeC K CJ fq) (bq : Binds K fdq ["self", "other"] []) (Fq : FnOk P w K mg base CX0 3 fq fdq ["self", "other"] (spEq (EqJc K aT CJ CB))) : FnOk P w K mg base CX0 12 f fd ["journal", "entries"] (spGoodKeys K aT CJ CB) := by
  refine F.ok sc_l_good_keys (fun vs H Q E h => ?_) (fun cdv A outer s H vs Q E hr h => ?_)
  · obtain ⟨j, a, b, L, us, us', xs, rfl, _⟩ := h
    rfl
  · obtain ⟨j, a, b, L, us, us', xs, rfl, hJ, l1, ha, hE, q⟩ := h
    have hu := hu_of hr
    refine ⟨_, (pss_cons (ps_set (i := 2) sc_l_good_keys.nd rfl (Or.inl rfl) (pe_cal G.by_keys (hr.mono (by decide)) pass0 (pa_cons (pv 0) pa_nil)))
    (pss_cons (ps_set (i := 3) sc_l_good_keys.nd rfl (Or.inl rfl) (pe_callB (cr_sortM rfl) (by rfl) B.sorted (by decide +kernel) (pa_cons (pe_callTy (cr_setL rfl) (by rfl) B.set (by decide +kernel) (pa_cons (pe_lc (own := [("entry", 5)]) (g := gName 5) (by rfl) sc_l_good_keys.nd (pi_list (pv 1)) (blkOk_by (own := [("entry", 5)]) (N := ["journal", "entries", "told", "used", "key", "entry"]) (sc := defScope s_l_good_keys) (by decide +kernel)) (fun _ _ _ _ _ => (pg_name (i := 5) sc_l_good_keys.nd rfl (Or.inl rfl))) (fun _ _ _ _ _ => pts_one (pt_cmpR op_eq (pe_ix (show IxR _ (rIxT K) from ix_tup) (pv 5) pe_int (fun _ _ => rfl)) pe_str (nomark _))) (fun _ _ _ _ _ => (pe_ix (show IxR _ (rIxT K) from ix_tup) (pv 5) pe_int (fun _ _ => rfl)))) pa_nil)) pa_nil)))
    (pss_cons (ps_if (PW.pt (pw_or (pt_not (pt_val (pe_callB call_isi (by rfl) B.isinstance (by decide +kernel) (pa_cons (pv 2) (pa_cons (pe_bltn (v := .ty "dict") (by rfl) B.dict (by decide +kernel) rfl) pa_nil))))) (pw_or1 (pt_cmpR (op_neD hr.units) (pe_callTy (call_listD (by rfl)) (by rfl) B.list (by decide +kernel) (pa_cons (pv 2) pa_nil)) (pv 3) (nomark _)))))
      (pss_one (ps_ret pe_bl))
      pss_nil)
    (pss_cons (ps_for PassesOwn.never rfl (pi_list (pv 3)) (pg_name (i := 4) sc_l_good_keys.nd rfl (Or.inl rfl))
      (pss_one (ps_if (PW.pt (pw_or (pt_cmpR (op_neG Fq Zq bq pass0 (hr.mono (by decide))) (pe_dget hu (pv 2) (pv 4) (fun _ _ => rfl)) (pe_met T.cl G.only (hr.mono (by decide)) pass0 (pv 0) (pa_cons (pv 4) pa_nil)) (nomark _)) (pw_or1 (pt_cmpR (op_neD hr.units) (pe_callTy call_list_of (by rfl) B.list (by decide +kernel) (pa_cons (pe_fld (pe_dget hu (pv 2) (pv 4) (fun _ _ => rfl)) rfl) pa_nil)) (pe_cal G.law_of_key (hr.mono (by decide)) pass0 (pa_cons (pv 1) (pa_cons (pv 4) pa_nil))) (nomark _)))))
        (pss_one (ps_ret pe_bl))
        pss_nil)))
    (pss_one (ps_ret pe_bl)))))), ?_⟩
    obtain ⟨dj, tj, kj, ej⟩ := hJ.ins
    have luj := hJ.len
    have lE := hE.1
    refine ⟨_, rfl, j, b, L, us, xs, rfl, hJ, by omega, keysOf_nm (ents_ok hE), fun d ys kvs H1 s1 hd hk1 nd hs hm hall => ?_⟩
    refine ⟨_, rfl, a, rfl, ⟨_, SqL.of (s1 _ _ ha)⟩, fun D hD => lc_list (a := a) (xs := us') (fun i H5 => H5 D = some (.lst ((keysOf (xs.take i)).map V.str)) ∧ Same H1 H5) ⟨upd_same, sameAt (Same.refl H1) hD⟩ (fun i H5 _ hv => SqL.of (hv.2 _ _ (s1 _ _ ha))) ?_ ?_⟩
    · rintro i v H5 hvi ⟨hD5, s5⟩
      have hix : i < xs.length := by rw [← lE]; exact (List.getElem?_eq_some_iff.mp hvi).1
      obtain ⟨x, hx⟩ : ∃ x, xs[i]? = some x := ⟨_, List.getElem?_eq_getElem hix⟩
      obtain ⟨e, rfl, he, hok⟩ := (hE.tk (tk_same (s1.trans s5))).2 i v x hvi hx
      have lf : (keysOf (xs.take i)).length ≤ 400 := Nat.le_trans (List.length_filterMap_le _ _) (by rw [List.length_take]; omega)
      have st : keysOf (xs.take (i + 1)) = keysOf (xs.take i) ++ keysOf [x] := by
        unfold keysOf
        rw [list_take' hx, List.filterMap_append]
      refine ⟨rfl, ?_⟩
      cases x with
      | row id s k m a r =>
        refine ⟨_, rfl, _, _, _, _, rfl, rfl, SqT.of he, rfl, rfl, _, rfl, iteT ⟨_, rfl, _, _, _, _, rfl, rfl, SqT.of he, rfl, _, hD5, (by rw [List.length_map]; exact small1000 (by omega)), ?_, sameAt s5 hD⟩⟩
        rw [upd_same, st, List.map_append]
        rfl
      | fix id m a r =>
        refine ⟨_, rfl, _, _, _, _, rfl, rfl, SqT.of he, rfl, rfl, _, rfl, iteF ⟨?_, s5⟩⟩
        rw [st]
        exact hD5.trans (by rw [show keysOf [Ent.fix id m a r] = [] from rfl, List.append_nil])
      | gone id r =>
        refine ⟨_, rfl, _, _, _, _, rfl, rfl, SqT.of he, rfl, rfl, _, rfl, iteF ⟨?_, s5⟩⟩
        rw [st]
        exact hD5.trans (by rw [show keysOf [Ent.gone id r] = [] from rfl, List.append_nil])
    rintro H5 ⟨hD5, s5⟩
    rw [show xs.take us'.length = xs by rw [lE, List.take_length]] at hD5
    have lf : (keysOf xs).length ≤ 400 := Nat.le_trans (List.length_filterMap_le _ _) (by omega)
    have ek : ((keysOf xs).map (Sum.inr : Str → Key)).map kV = (keysOf xs).map V.str := by rw [List.map_map]; rfl
    refine ⟨D, (keysOf xs).map Sum.inr, rfl, SqL.of (by rw [ek]; exact hD5), by rw [List.length_map]; omega, fun p n hp hn => ?_⟩
    refine ⟨p, _, n, rfl, upd_same, .inl ⟨keysOf xs, fun k => kIn_iff, fun ys2 q1 hq1 nd2 hm2 hs2 hln => ?_⟩⟩
    generalize hX6 : upd _ q1 (HO.lst (ys2.map V.str)) = H6
    have s6 : Same H5 H6 := by
      rw [← hX6]
      exact (sameAt (Same.refl _) hp).trans (sameAt (Same.refl _) hq1)
    have hq6 : H6 q1 = some (.lst (ys2.map V.str)) := by
      rw [← hX6]
      exact upd_same
    clear hX6 hp hq1
    have ey : ys = ys2 := strs_same hs hs2 nd nd2 fun z => (hm z).trans (hm2 z).symm
    subst ey
    have s16 := s1.trans (s5.trans s6)
    have s56 := s5.trans s6
    have hd6 := s56 _ _ hd
    have lys : ys.length ≤ 400 := Nat.le_trans (sub_len nd fun z hz => (hm z).mp hz) lf
    refine ⟨_, rfl, _, _, _, _, true, rfl, ClsV.ty _, .base (.dK hd6), kit_ty (by decide +kernel), _, rfl, iteF ?_⟩
    refine ⟨_, rfl, d, _, rfl, .of hd6, fun l hl => ?_⟩
    have e1 : kvs.map (fun kv => kV kv.1) = ys.map V.str := by
      have := congrArg (List.map kV) hk1
      rw [List.map_map, List.map_map] at this
      exact this
    rw [e1]
    have s7 := sameAt (Same.refl H6) hl (o := .lst (ys.map V.str))
    have hl7 : (upd H6 l (.lst (ys.map V.str))) l = some (.lst (ys.map V.str)) := upd_same
    generalize (upd H6 l (.lst (ys.map V.str))) = H7 at s7 hl7 ⊢
    have hso : ∀ z ∈ ys, PyData.strOk z = true := fun z hz => nm_ok (keysOf_nm (ents_ok hE) z ((hm z).mp hz))
    refine ⟨_, rfl, _, _, .lst (SqL.of hl7) (dp_strs ys), .lst (SqL.of (s7 _ _ hq6)) (dp_strs ys), strs_shaped hso, strs_shaped hso, _, rfl, ?_⟩
    rw [eqv_self (strs_shaped hso)]
    refine iteF ?_
    have hall7 : ∀ key ∈ ys, ∃ jp up, valV kvs (Sum.inr key : Key) = some (.ref jp) ∧ JAt K aT CJ CB H7 jp b L up (part key xs) := fun key hk => by
      obtain ⟨jp, up, v1, v2⟩ := hall key hk
      exact ⟨jp, up, v1, v2.same (s56.trans s7)⟩
    have hd7 := s7 _ _ hd6
    have hq7 := s7 _ _ hq6
    have s17 := s16.trans s7
    refine ⟨_, rfl, q1, rfl, ⟨_, SqL.of hq7⟩, for_list (K := K) (a := q1) (xs := ys.map V.str) (fun i σ H' => (∃ x4, σ = [some (.ref j), some (.ref a), some (.ref d), some (.ref q1), x4, none]) ∧ Same H7 H') ⟨⟨_, rfl⟩, Same.refl _⟩ (fun i σ H' _ hv => SqL.of (hv.2 _ _ hq7)) ?_ ?_⟩
    · rintro i v σ H8 hi ⟨⟨x4, rfl⟩, s8⟩
      obtain ⟨key, hkey, rfl⟩ : ∃ key, ys[i]? = some key ∧ v = .str key := by
        rw [List.getElem?_map] at hi
        cases e : ys[i]? with
        | none => rw [e] at hi; cases hi
        | some z => rw [e] at hi; exact ⟨z, rfl, (Option.some.inj hi).symm⟩
      have hmk := List.mem_of_getElem? hkey
      obtain ⟨jp, up, v1, J1⟩ := hall7 key hmk
      have J8 := J1.same s8
      have hg := DGet.k (k := Sum.inr key) (s8 _ _ hd7)
      rw [v1] at hg
      have s18 := s17.trans s8
      have nmk := keysOf_nm (ents_ok hE) _ ((hm key).mp hmk)
      refine ⟨_, rfl, _, rfl, d, _, rfl, hg, _, rfl, j, dj, _, rfl, s18 _ _ ej, jf_no _ _ _ (by decide +kernel) (by decide +kernel) (by decide +kernel), _, rfl, j, b, L, _, _, key, rfl, hJ.same s18, by omega, nmk, fun uo jo H9 s9 Jo _ => ?_⟩
      obtain ⟨dxp, tp, kp, ep⟩ := J8.ins
      obtain ⟨dxo, to, ko, eo⟩ := Jo.ins
      refine ⟨⟨jp, jo, _, _, _, _, rfl, rfl, s9 _ _ ep, eo, b, L, _, _, _, J8.same s9, Jo⟩, fun HA xA => ⟨_, rfl, iteF ?_⟩⟩
      have sA : Same H9 HA := fun c o h => xA c o h
      have s8A := s9.trans sA
      have JA := J8.same s8A
      obtain ⟨_, _, _, pA, _, p3, _⟩ := id JA
      have EA := JA.es.1
      have hgA := DGet.k (k := Sum.inr key) (s8A _ _ (s8 _ _ hd7))
      rw [v1] at hgA
      have lup := JA.len
      have lpx : (part key xs).length ≤ xs.length := List.length_filter_le _ _
      refine ⟨_, rfl, _, rfl, d, _, rfl, hgA, jp, CJ, _, _, _, rfl, pA, T.cl, T.nE, jf_e _ _ _, _, up, rfl, .inr p3, fun lq hlq => ?_⟩
      have sB := sameAt (Same.refl HA) hlq (o := .lst up)
      have hlqB : (upd HA lq (.lst up)) lq = some (.lst up) := upd_same
      generalize (upd HA lq (.lst up)) = HB at sB hlqB ⊢
      have s1B := s18.trans (s8A.trans sB)
      refine ⟨_, rfl, _, rfl, a, us', xs, key, rfl, s1B _ _ ha, hE.tk (tk_same s1B), by omega, fun qk uk HC hqk0 hqk hEk sC => ?_⟩
      have EC := EA.same (sB.trans sC)
      refine ⟨_, _, .lst (SqL.of (sC _ _ hlqB)) EC.dp, .lst (SqL.of hqk) (ThEs.of (K := K) hEk).dp, pds_l EC.ok, pds_l EC.ok, _, rfl, ?_⟩
      rw [eqv_self (pds_l EC.ok)]
      exact iteF ⟨⟨_, rfl⟩, s8.trans (s8A.trans (sB.trans sC))⟩
    · rintro σ H8 ⟨⟨x4, rfl⟩, s8⟩
      exact q _ (s17.trans s8)
end
end Ash

set_option Elab.async false
set_option linter.all false
set_option maxRecDepth 100000
set_option maxHeartbeats 4000000
set_option pp.maxSteps 600
namespace Ash
open PySem PySem.Spec PyProof.Rows L2
open C8 (pss_cut)
section
variable {P : Program} {w : World} {K : PySem.W.Frag} {mg : Str → Option Value} {base : Heap}
abbrev s_l_good_whole : Stmt := topS 55
theorem sc_l_good_whole : FnScope ["whole", "entries", "lates", "keys", "h", "heard", "stream", "key", "entry"] ["whole", "entries", "lates", "keys"] (defScope s_l_good_whole) := ⟨rfl, rfl, rfl, by decide +kernel, rfl, by decide +kernel, by decide +kernel⟩
theorem ok_goodwhole {f CJ CB CM aT : Addr} {fd : FuncData} (F : Fun K "_law_good_whole" "_law_good_whole" s_l_good_whole f fd) (B : Blt mg) (T : Cj P K mg CJ CB) (G : GK85 P w K mg base aT CJ CB CM) : FnOk P w K mg base CX0 12 f fd ["whole", "entries", "lates", "keys"] (spGoodWhole K aT CJ CB) := by
  refine F.ok sc_l_good_whole (fun vs H Q E h => ?_) (fun cdv A outer s H vs Q E hr h => ?_)
  · obtain ⟨j, a, b, dl, dk, p, s, L, kys, us, us', xs, zs, rfl, _⟩ := h
    rfl
  · obtain ⟨j, a, b, dl, dk, p, s0, L, kys, us, us', xs, zs, rfl, hJ, l1, ha, hE, lx, GX, hsame, D, q⟩ := h
    have hu := hu_of hr
    refine ⟨_, (pss_cons (ps_for PassesOwn.never rfl (pi_list (pe_callB (cr_sortM rfl) (by rfl) B.sorted (by decide +kernel) (pa_cons (pe_callTy (cr_setL rfl) (by rfl) B.set (by decide +kernel) (pa_cons (pe_lc (own := [("entry", 8)]) (g := gName 8) (tt := tYes) (by rfl) sc_l_good_whole.nd (pi_list (pv 1)) (blkOk_by (own := [("entry", 8)]) (N := ["whole", "entries", "lates", "keys", "h", "heard", "stream", "key", "entry"]) (sc := defScope s_l_good_whole) (by decide +kernel)) (fun _ _ _ _ _ => (pg_name (i := 8) sc_l_good_whole.nd rfl (Or.inl rfl))) (fun _ _ _ _ _ => pts_nil) (fun _ _ _ _ _ => (pe_ix (show IxR _ (rIxT K) from ix_tup) (pv 8) (pe_op op_sub (pe_callB (show CallR _ _ (rLenS K) from call_len_seq) (by rfl) B.len (by decide +kernel) (pa_cons (pv 8) pa_nil)) pe_int) (fun _ _ => rfl)))) pa_nil)) pa_nil))) (pg_name (i := 4) sc_l_good_whole.nd rfl (Or.inl rfl))
      (pss_cons (ps_set (i := 5) sc_l_good_whole.nd rfl (Or.inl rfl) (pe_met T.cl G.heard (hr.mono (by decide)) (passE takes0) (pv 0) (pa_cons (pv 4) pa_nil)))
      (pss_one (ps_for PassesOwn.never rfl (pi_list (pe_callTy (call_listD (by rfl)) (by rfl) B.list (by decide +kernel) (pa_cons (pv 2) pa_nil))) (pg_name (i := 6) sc_l_good_whole.nd rfl (Or.inl rfl))
        (pss_one (ps_for PassesOwn.never rfl (pi_list (pv 3)) (pg_name (i := 7) sc_l_good_whole.nd rfl (Or.inl rfl))
          (pss_one (ps_if (pt_cmpR (op_neD hr.units) (pe_met T.cl G.rows (hr.mono (by decide)) pass0 (pv 5) (pa_cons (pv 6) (pa_cons (pv 7) pa_nil))) (pe_cal G.law_rows (hr.mono (by decide)) pass0 (pa_cons (pe_cal G.law_heard (hr.mono (by decide)) pass0 (pa_cons (pv 1) (pa_cons (pv 4) pa_nil))) (pa_cons (pv 6) (pa_cons (pv 7) pa_nil)))) (nomark _))
            (pss_one (ps_ret pe_bl))
            pss_nil))))))))
    (pss_one (ps_ret pe_bl))), ?_⟩
    obtain ⟨dj, tj, kj, ej⟩ := hJ.ins
    have luj := hJ.len
    have lE := hE.1
    have GZ : Good L zs := by
      obtain ⟨_, _, _, _, _, _, _, _, h6, _⟩ := hJ
      exact h6
    refine ⟨_, rfl, a, rfl, ⟨_, SqL.of ha⟩, fun D0 hD0 => lc_list (a := a) (xs := us') (fun i H5 => H5 D0 = some (.lst ((xs.take i).map fun x => V.int x.arr)) ∧ Same H H5) ⟨upd_same, sameAt (Same.refl H) hD0⟩ (fun i H5 _ hv => SqL.of (hv.2 _ _ ha)) ?_ ?_⟩
    · rintro i v H5 hvi ⟨hD5, s5⟩
      have hix : i < xs.length := by rw [← lE]; exact (List.getElem?_eq_some_iff.mp hvi).1
      obtain ⟨x, hx⟩ : ∃ x, xs[i]? = some x := ⟨_, List.getElem?_eq_getElem hix⟩
      obtain ⟨e, rfl, he, hok⟩ := (hE.tk (tk_same s5)).2 i v x hvi hx
      refine ⟨rfl, _, rfl, _, rfl, e, _, rfl, .inr (SqT.of he), _, _, rfl, rfl, _, _, _, _, rfl, rfl, SqT.of he, at_last x, _, hD5, (by rw [List.length_map, List.length_take]; exact small1000 (by omega)), ?_, sameAt s5 hD0⟩
      rw [upd_same, tk1 hx, List.map_append]
      rfl
    rintro H5 ⟨hD5, s5⟩
    rw [show xs.take us'.length = xs by rw [lE, List.take_length]] at hD5
    have ek : ((xs.map Ent.arr).map (Sum.inl : Int → Key)).map kV = xs.map fun x => V.int x.arr := by rw [List.map_map, List.map_map]; rfl
    refine ⟨D0, (xs.map Ent.arr).map Sum.inl, rfl, SqL.of (by rw [ek]; exact hD5), by rw [List.length_map, List.length_map]; omega, fun p1 n1 hp1 hn1 => ?_⟩
    refine ⟨p1, _, n1, rfl, upd_same, .inr ⟨xs.map Ent.arr, fun k => kIn_iff, fun hs ph hph hasc hmem hln => ?_⟩⟩
    refine ⟨ph, rfl, ⟨_, SqL.of upd_same⟩, ?_⟩
    generalize hX6 : upd _ ph (HO.lst (hs.map V.int)) = H6
    have s6 : Same H H6 := by
      rw [← hX6]
      exact s5.trans ((sameAt (Same.refl _) hp1).trans (sameAt (Same.refl _) hph))
    have hp6 : H6 ph = some (.lst (hs.map V.int)) := by
      rw [← hX6]
      exact upd_same
    clear hX6 hp1 hph hD5 s5 hmem hasc hln hn1
    refine for_list (K := K) (a := ph) (xs := hs.map V.int) (fun i σ H' => (∃ x4 x5 x6 x7, σ = [some (.ref j), some (.ref a), some (.ref dl), some (.ref dk), x4, x5, x6, x7, none]) ∧ Same H6 H') ⟨⟨_, _, _, _, rfl⟩, Same.refl _⟩ (fun i σ H' _ hv => SqL.of (hv.2 _ _ hp6)) ?_ ?_
    · rintro i v σ H7 hi ⟨⟨x4, x5, x6, x7, rfl⟩, s7⟩
      obtain ⟨h, hh, rfl⟩ : ∃ h, hs[i]? = some h ∧ v = .int h := by
        rw [List.getElem?_map] at hi
        cases e : hs[i]? with
        | none => rw [e] at hi; cases hi
        | some z => rw [e] at hi; exact ⟨z, rfl, (Option.some.inj hi).symm⟩
      have s07 := s6.trans s7
      refine ⟨_, rfl, j, dj, _, rfl, s07 _ _ ej, jf_no _ _ _ (by decide +kernel) (by decide +kernel) (by decide +kernel), _, rfl, j, b, L, us, zs, .int h, rfl, hJ.same s07, by omega, .inl ⟨h, rfl, fun kk j2 H8 hf s8 J2 => ?_⟩⟩
      rw [← hf] at J2
      obtain ⟨d2, t2, k2, e2⟩ := J2.ins
      have l2 := J2.len
      have lz : (zs.filter fun x => decide (x.arr ≤ h)).length ≤ zs.length := List.length_filter_le _ _
      have lxf : (xs.filter fun x => decide (x.arr ≤ h)).length ≤ xs.length := List.length_filter_le _ _
      have s08 := s07.trans s8
      refine ⟨_, rfl, dl, _, rfl, .of (s08 _ _ D.dl), fun l hl => ⟨l, rfl, ⟨_, SqL.of upd_same⟩, ?_⟩⟩
      have e1 : (LK L).map (fun kv => kV kv.1) = (L.map (·.1)).map V.str := by
        unfold LK
        rw [List.map_map, List.map_map]
        rfl
      rw [e1]
      have s9 := sameAt (Same.refl H8) hl (o := .lst ((L.map (·.1)).map V.str))
      have hl9 : (upd H8 l (.lst ((L.map (·.1)).map V.str))) l = some (.lst ((L.map (·.1)).map V.str)) := upd_same
      generalize (upd H8 l (.lst ((L.map (·.1)).map V.str))) = H9 at s9 hl9 ⊢
      refine for_list (K := K) (a := l) (xs := (L.map (·.1)).map V.str) (fun i σ H' => (∃ x6 x7, σ = [some (.ref j), some (.ref a), some (.ref dl), some (.ref dk), some (.int h), some (.ref j2), x6, x7, none]) ∧ Same H9 H') ⟨⟨_, _, rfl⟩, Same.refl _⟩ (fun i σ H' _ hv => SqL.of (hv.2 _ _ hl9)) ?_ ?_
      · rintro i2 v2 σ HA hi2 ⟨⟨y6, y7, rfl⟩, sA⟩
        obtain ⟨z, hz, rfl⟩ := List.mem_map.mp (List.mem_of_getElem? hi2)
        obtain ⟨zl, hzl, rfl⟩ := List.mem_map.mp hz
        have s0A := s08.trans (s9.trans sA)
        refine ⟨_, rfl, dk, rfl, ⟨_, SqL.of (s0A _ _ D.dk)⟩, for_list (K := K) (a := dk) (xs := kys.map V.str) (fun i σ H' => (∃ x7, σ = [some (.ref j), some (.ref a), some (.ref dl), some (.ref dk), some (.int h), some (.ref j2), some (.str zl.1), x7, none]) ∧ Same HA H') ⟨⟨_, rfl⟩, Same.refl _⟩ (fun i σ H' _ hv => SqL.of (hv.2 _ _ (s0A _ _ D.dk))) ?_ ?_⟩
        · rintro i3 v3 σ HB hi3 ⟨⟨y7, rfl⟩, sB⟩
          obtain ⟨k, hk, rfl⟩ := List.mem_map.mp (List.mem_of_getElem? hi3)
          have s8B := s9.trans (sA.trans sB)
          have s0B := s08.trans s8B
          refine ⟨_, rfl, j2, d2, _, rfl, s8B _ _ e2, jf_no _ _ _ (by decide +kernel) (by decide +kernel) (by decide +kernel), _, rfl, _, rfl, j2, b, L, _, _, zl.1, k, rfl, J2.same s8B, by omega, D.LL.nm _ hzl, (by rw [lookup_mem D.LL.nd hzl]; rfl), D.kn k hk, fun pr ys ts HC sC hpr hDr hTr hlr hRr => ?_⟩
          refine ⟨_, rfl, _, rfl, a, us', xs, h, rfl, (s0B.trans sC) _ _ ha, hE.tk (tk_same (s0B.trans sC)), by omega, fun qh ush HD sD hqh0 hqh hEh => ?_⟩
          refine ⟨_, rfl, _, rfl, qh, L, ush, _, _, zl.1, k, rfl, hqh, hEh, by omega, (GX.heard h).w, fun p2 ys2 ts2 HE sE hp2 hD2 hT2 hl2 hR2 => ?_⟩
          have ets : ts = ts2 := RowsOf.eq_of hRr hR2 fun id => (GZ.heard h).same (GX.heard h) (heard_same h (hsame id)) zl.1 k
          subst ets
          have sCE := sD.trans sE
          refine ⟨_, _, (hTr.tk (tk_same sCE)).dp (SqL.of (sCE _ _ hDr)), hT2.dp (SqL.of hD2), ts_shaped _, ts_shaped _, _, rfl, ?_⟩
          rw [eqv_self (ts_shaped _)]
          exact iteF ⟨⟨_, rfl⟩, sB.trans (sC.trans sCE)⟩
        · rintro σ HB ⟨⟨y7, rfl⟩, sB⟩
          exact ⟨⟨_, _, rfl⟩, sA.trans sB⟩
      · rintro σ HA ⟨⟨y6, y7, rfl⟩, sA⟩
        exact ⟨⟨_, _, _, _, rfl⟩, s7.trans (s8.trans (s9.trans sA))⟩
    · rintro σ H7 ⟨⟨x4, x5, x6, x7, rfl⟩, s7⟩
      exact q _ (s6.trans s7)
end
end Ash

set_option Elab.async false
set_option linter.all false
set_option maxRecDepth 100000
set_option maxHeartbeats 4000000
namespace L2
open PySem PySem.Spec PyProof.Rows
/-! ### a, b, c = xs of a list -/
section
variable {prog : Program} {w : World} {A : Around} {E : Value → Shared → Prop}
theorem drawL {it l : Addr} {items : Array Value} (ne : l ≠ it) (n : Nat) : ∀ (i : Nat) (s : Shared) (Q : List Value → Shared → Prop), s.heap.IsListIter it l i → s.heap.IsList l items → i + n ≤ items.size →
    (∀ g, g.IsListIter it l (i + n) → Heap.SameBut it s.heap g → Q ((items.toList.drop i).take n) { s with heap := g }) → wpAny (model prog w) A (draw (.ref it) n) Q E s := by
  induction n with
  | zero =>
    intro i s Q hi _ _ q
    have q := q s.heap hi (Heap.SameBut.refl ..)
    rw [List.take_zero] at q
    exact (show wpAny _ _ (pure []) Q E s from wpAny_pure q)
  | succ n ih =>
    intro i s Q hi hl le q
    have lt : i < items.size := by omega
    refine (show wpAny _ _ (pyNext (.ref it) >>= _) Q E s from wpAny_bind (wpAny_pyNext_list_item hi hl (x := items[i]) (by simp [lt]) fun g1 i1 s1 => wpAny_bind (wpAny_holding (ih (i + 1) _ _ i1 (hl.extBut s1.extBut ne) (by omega) fun g2 i2 s2 => wpAny_pure ?_))))
    have q := q g2 (by rw [show i + (n + 1) = i + 1 + n by omega]; exact i2) (s1.trans s2)
    rw [List.drop_eq_getElem_cons (by simpa using lt), List.take_succ_cons] at q
    simpa using q
theorem unpL {l : Addr} {items : Array Value} {s : Shared} {Q : List Value → Shared → Prop} (hh : A.handled = none) (hl : s.heap.IsList l items)
    (q : ∀ g, Heap.ExtBut s.heap.objs.size s.heap g → Q items.toList { s with heap := g }) : wpAny (model prog w) A (unpackItems (.ref l) items.size none) Q E s := by
  have ne : l ≠ s.heap.objs.size := by
    obtain ⟨o, ho, _⟩ := hl
    exact Nat.ne_of_lt (Heap.lt_size ho)
  unfold unpackItems
  refine wpAny_bind ?_
  unfold notIterableAtAll
  refine wpAny_bind (wpAny_specialOf hl.typeIs slot_list_iter.lookup (wpAny_pure ?_))
  simp only [Bool.false_eq_true, if_false]
  refine wpAny_bind (wpAny_holding (wpAny_pyIter_list hl (wpAny_bind (wpAny_holding (drawL ne items.size 0 _ _ ⟨_, Heap.get?_push_size _ rfl, rfl, rfl⟩ (hl.push _) (by omega) fun g1 i1 s1 => ?_)))))
  rw [List.drop_zero, List.take_of_length_le (by simp), if_neg (by simp)]
  refine wpAny_bind (wpAny_holding (wpAny_pyNext_list_end hh i1 ((hl.push _).extBut s1.extBut ne) (by simp) fun g2 e2 => ?_))
  simp only [Option.isSome_none, Bool.false_eq_true, if_false]
  exact wpAny_pure (q g2 fun b o hb e => e2 b o hb (s1.extBut b o hb (Heap.get?_push_of_some _ e)))
end
section
variable {X : Cx} {pos : Pos}
/-- a, b, c = xs: a list of as many items -/
def gTupL (n : Nat) (t : TGs) : TG := fun v σ H Q => ∃ a xs, v = .ref a ∧ H a = some (.lst xs) ∧ xs.length = n ∧ t xs σ H Q
theorem pg_tupL {es : List Expr} {k : Nat} {t : TGs} {n : Nat} (hc : X.calm = true) (h : PGs X es t) (hn : (assignEach es X.env).length = n := by rfl) (hst : (assignEach es X.env).findIdx? (·.1) = none := by rfl) : PG X (.Tuple es k pos) (gTupL n t) := by
  refine ⟨fun pins s σ H v u Q I r hw => ?_⟩
  obtain ⟨a, xs, e1, ha, hl, hw⟩ := hw
  subst e1
  cases r
  obtain ⟨z, its, c, rv, e⟩ := I.hok a _ ha
  have isl : s.heap.IsList a its.toArray := ⟨_, e, rfl, c, rfl⟩
  rw [assign_Tuple]
  refine wpAny_bind (wpAny_standAt ?_)
  unfold unpack
  rw [hst, show (assignEach es X.env).length = its.toArray.size by rw [hn, ← hl, rv.length, List.size_toArray]]
  refine wpAny_bind (wpAny_holding (unpL (I.ok.hd hc) isl fun g hx => ?_))
  have I1 : Inv X pins σ H { s with heap := g } := I.kept (t' := s.toks) fun b o e => hx b o (Nat.ne_of_lt (Heap.lt_size e)) e
  exact h.run pins _ σ H xs _ Q I1 (by simpa using rv) hw
end
/-! ### dicts compared that may differ -/
/-- the entries of ks are in ls -/
def eqD {κ : Type} [DecidableEq κ] (ls ks : List (κ × V)) : Bool := ks.all fun p => match valV ls p.1 with
  | some v => eqV p.2 v
  | none => false
theorem hits_any {A : Around} {s : Shared} {ls : List (Key × V)} {vb : List (Key × Value)} (rb : KV ls vb) (fl : ∀ k v, valV ls k = some v → flatV v = true) {ks : List (Key × V)} {va : List (Key × Value)} (ra : KV ks va) (fk : ∀ p ∈ ks, flatV p.2 = true) :
    PySem.W.KeqHits A s vb va (eqD ls ks) := by
  unfold KV at ra
  induction ra with
  | nil => exact .nil
  | @cons p q ps qs h t ih =>
    obtain ⟨h1, h2⟩ := h
    obtain ⟨k, v⟩ := q
    have h1 : p.1 = k := h1
    have h2 : RelV p.2 v := h2
    have st : eqD ls (p :: ps) = ((match valV ls p.1 with
      | some v => eqV p.2 v
      | none => false) && eqD ls ps) := rfl
    have rr := rb.val p.1
    rw [st]
    cases e : valV ls p.1 with
    | none =>
      rw [e] at rr
      have rr := rr.none_of
      rw [h1] at rr
      exact .miss rr
    | some y =>
      rw [e] at rr
      obtain ⟨u, hu, ru⟩ := rr.some_of
      rw [h1] at hu
      exact .hit hu (eqAt_V h2 ru (fk p List.mem_cons_self) (fl _ _ e)) (ih fun z hz => fk z (List.mem_cons_of_mem _ hz))
section
variable {X : Cx}
def rEqDB : R2 := fun x y H Q => ∃ a b ks ls, x = .ref a ∧ y = .ref b ∧ H a = some (.dK ks) ∧ H b = some (.dK ls) ∧ (∀ p ∈ ks, flatV p.2 = true) ∧ (∀ k v, valV ls k = some v → flatV v = true) ∧ Q (.bl (decide (ks.length = ls.length) && eqD ls ks)) H
theorem op_eq_dictB (hu : X.A.units < cLine) : OpR X (compareOp .Eq) rEqDB := by
  intro pins s σ H x y v u Q I rx ry h
  obtain ⟨a, b, ks, ls, rfl, rfl, ea, eb, fk, fl, q⟩ := h
  obtain rfl : v = Value.ref a := rx
  obtain rfl : u = Value.ref b := ry
  obtain ⟨_, ya, va, ra, da⟩ := (show ObjOk X.prog X.w H s.heap a (.dK ks) from I.hok a _ ea)
  obtain ⟨_, yb, vb, rb, db⟩ := (show ObjOk X.prog X.w H s.heap b (.dK ls) from I.hok b _ eb)
  refine PySem.W.keq_eq (knd := mixKind X.prog X.w) (r := eqD ls ks) ya yb da db hu (fun _ => hits_any rb fl ra fk) (fin_bl I q ?_)
  rw [ra.length, rb.length]
  rfl
end
/-! ### != by an own __eq__, whatever it says -/
section
variable {X : Cx} {n : Nat} {CX : CXT} {C f : Addr} {fd : FuncData} {ps : List Str} {E : XK} {sp : Sp}
theorem op_neV (F : FnOk X.prog X.w X.K X.mg X.base CX n f fd ps sp) (Z : NeC X.K C f) (hb : Binds X.K fd ps []) (hx : Passes CX X E) (hr : Room (n + 2) X.A) :
    OpR X (compareOp .NotEq) (fun x y H Q => ∃ a b dx dy fs gs, x = .ref a ∧ y = .ref b ∧ H a = some (.ins C dx fs) ∧ H b = some (.ins C dy gs) ∧ sp [.ref a, .ref b] H (fun v H' => ∃ r, v = .bl r ∧ Q (.bl (!r)) H') E) := by
  intro pins s σ H x y v u Q I rx ry hq
  obtain ⟨a, b, dx, dy, fs, gs, rfl, rfl, ha, hb', hsp⟩ := hq
  cases rx
  cases ry
  obtain ⟨mA, J, _⟩ := ins_get I.hok ha
  obtain ⟨mB, J', _⟩ := ins_get I.hok hb'
  obtain ⟨od, J, _⟩ := J.look
  obtain ⟨od', J', _⟩ := J'.look
  obtain ⟨nm, qn, N, bs, hd, sn, sub, ab, col, dd, k0, k1, k2, k3, k5, nid, fo, z1, z2, z3, z4, z5, z6⟩ := Z.ex
  have XK := I.kIn
  have Gn := Heap.Ns.of_isNs (PySem.W.isNs_of_in XK z2)
  obtain ⟨y0, hy0⟩ := obj_eq
  have Y : s.heap.OwnEqNoNe a C f "object" [.type "object"] := ⟨_, fo, nm, qn, N, bs, hd, sn, sub, ab, col, dd, k0, k1, k2, k3, k5, nid, _, y0, J.at_, J.cls, XK _ _ z1, Gn, ns_at XK Gn z3, XK _ _ z5, z6, PySem.F.mro_object, hy0, PySem.W.ns_none_of XK Gn z4⟩
  obtain ⟨hp, gg, dw, tk, os⟩ := s
  refine compareOp_ne_ownEq PySem.F.cmp_object Y J'.at_ J'.cls hr.in1.units0 ?_
  have e0 : Env0 X.prog X.w X.K X.mg X.base X.A.in1 X.stack ⟨hp, gg, dw, tk, os⟩ H := by
    have e := I.env0
    exact ⟨e.frames, e.mod, e.bs, e.bsz, e.funs, e.frf, e.hok, e.bare⟩
  have hl := F.len _ _ _ _ hsp
  have r2 : Vals [V.ref a, V.ref b] [Value.ref a, Value.ref b] := .cons rfl (.cons rfl .nil)
  refine wpAny_call (codeAny_mono (F.run X.A.in1 X.stack _ H ⟨[.ref a, .ref b], []⟩ [.ref a, .ref b] [.ref a, .ref b] _ E (hr.in1.mono (by omega)) e0 (by
    have := hb ⟨hp, gg, dw, tk, os⟩ [.ref a, .ref b] I.kIn (by simpa using hl)
    simpa using this) r2 hsp) fun r s' hq => ?_)
  cases r with
  | error e => exact hx pins σ H _ e s' I hq
  | ok fl =>
    cases fl with
    | ret w =>
      obtain ⟨z, H', I', rz, r0, ez, q⟩ := I.after hq
      subst ez
      cases rz
      exact ⟨r0, rfl, .bl (!r0), H', I', rfl, q⟩
    | next => exact False.elim hq
    | brk => exact False.elim hq
    | cont => exact False.elim hq
end
end L2

set_option Elab.async false
set_option linter.all false
set_option maxRecDepth 100000
set_option maxHeartbeats 4000000
set_option pp.maxSteps 600
namespace Ash
open PySem PySem.Spec PyProof.Rows L2
open C8 (pss_cut)
def spBookEqV (CB : Addr) : Sp := fun vs H Q _ => ∃ (a b : Addr) (L M : List (Str × Int)), vs = [.ref a, .ref b] ∧ BookAt CB H a L ∧ BookAt CB H b M ∧
  (((∀ z, L.lookup z = M.lookup z) ∧ ∀ H', Ext H H' → Q (.bl true) H') ∨ ((∃ z n m, L.lookup z = some n ∧ M.lookup z = some m ∧ n ≠ m) ∧ ∀ H', Ext H H' → Q (.bl false) H'))
/-- the pairs of a book's dict -/
theorem lk_val : ∀ {L : List (Str × Int)} (z : Str), valV (LK L) (Sum.inr z : Key) = (L.lookup z).map V.int
  | [], z => rfl
  | (y, n) :: r, z => by
    show valV ((Sum.inr y, V.int n) :: LK r) (Sum.inr z) = _
    rw [List.lookup_cons]
    by_cases c : z = y
    · subst c
      rw [beq_self_eq_true]
      exact valV_pos (p := ((Sum.inr z : Key), V.int n)) rfl
    · rw [beq_false_of_ne c]
      rw [valV_neg (p := ((Sum.inr y : Key), V.int n)) (fun e => c (Sum.inr.inj e).symm)]
      exact lk_val z
theorem lk_mem : ∀ {L : List (Str × Int)} {z : Str} {n : Int}, (L.map (·.1)).Nodup → (z, n) ∈ L → L.lookup z = some n
  | [], _, _, _, h => nomatch h
  | (y, m) :: r, z, n, nd, h => by
    rw [List.lookup_cons]
    rw [List.map_cons, List.nodup_cons] at nd
    rcases List.mem_cons.mp h with e | h
    · cases e
      rw [beq_self_eq_true]
    · have c : z ≠ y := fun e => nd.1 (e ▸ List.mem_map.mpr ⟨(z, n), h, rfl⟩)
      rw [beq_false_of_ne c]
      exact lk_mem nd.2 h
theorem lk_has : ∀ {L : List (Str × Int)} {z : Str} {n : Int}, L.lookup z = some n → (z, n) ∈ L
  | [], _, _, h => by cases h
  | (y, m) :: r, z, n, h => by
    rw [List.lookup_cons] at h
    by_cases c : z = y
    · subst c
      rw [beq_self_eq_true] at h
      cases h
      exact List.mem_cons_self
    · rw [beq_false_of_ne c] at h
      exact List.mem_cons_of_mem _ (lk_has h)
theorem lk_sub {L M : List (Str × Int)} (h : ∀ z, L.lookup z = M.lookup z) (nl : (L.map (·.1)).Nodup) : ∀ z ∈ L.map (·.1), z ∈ M.map (·.1) := fun z hz => by
  obtain ⟨⟨y, n⟩, hy, rfl⟩ := List.mem_map.mp hz
  have := lk_mem nl hy
  rw [h] at this
  exact List.mem_map.mpr ⟨_, lk_has this, rfl⟩
theorem lk_len {L M : List (Str × Int)} (h : ∀ z, L.lookup z = M.lookup z) (nl : (L.map (·.1)).Nodup) (nm : (M.map (·.1)).Nodup) : L.length = M.length := by
  have p : (L.map (·.1)).Perm (M.map (·.1)) := (List.perm_ext_iff_of_nodup nl nm).mpr fun z => ⟨lk_sub h nl z, lk_sub (fun z => (h z).symm) nm z⟩
  have := p.length_eq
  rw [List.length_map, List.length_map] at this
  exact this
theorem lk_eqD {L M : List (Str × Int)} (nl : (L.map (·.1)).Nodup) (h : ∀ z, L.lookup z = M.lookup z) : eqD (LK M) (LK L) = true := by
  unfold eqD
  rw [List.all_eq_true]
  intro p hp
  obtain ⟨⟨z, n⟩, hz, rfl⟩ := List.mem_map.mp hp
  show (match valV (LK M) (Sum.inr z) with | some v => eqV (.int n) v | none => false) = true
  rw [lk_val, ← h, lk_mem nl hz]
  show eqV (.int n) (.int n) = true
  simp [eqV]
theorem lk_neD {L M : List (Str × Int)} {z : Str} {n m : Int} (h1 : L.lookup z = some n) (h2 : M.lookup z = some m) (ne : n ≠ m) : eqD (LK M) (LK L) = false := by
  unfold eqD
  rw [List.all_eq_false]
  refine ⟨_, List.mem_map.mpr ⟨(z, n), lk_has h1, rfl⟩, ?_⟩
  show ¬ (match valV (LK M) (Sum.inr z) with | some v => eqV (.int n) v | none => false) = true
  rw [lk_val, h2]
  show ¬ eqV (.int n) (.int m) = true
  intro e
  have e : (n == m) = true := e
  exact ne (by simpa using e)
theorem lk_flat {L : List (Str × Int)} : ∀ p ∈ LK L, flatV p.2 = true := fun p hp => by
  obtain ⟨x, _, rfl⟩ := List.mem_map.mp hp
  rfl
theorem lk_flat' {L : List (Str × Int)} : ∀ k v, valV (LK L) k = some v → flatV v = true := fun k v h => by
  unfold valV at h
  cases e : (LK L).find? (fun kv => decide (kv.1 = k)) with
  | none => rw [e] at h; cases h
  | some p =>
    rw [e] at h
    cases h
    exact lk_flat p (List.mem_of_find?_eq_some e)
section
variable {P : Program} {w : World} {K : PySem.W.Frag} {mg : Str → Option Value} {base : Heap}
theorem ok_book_eqV {f CBook : Addr} {fd : FuncData} (F : Fun K "__eq__" "Book.__eq__" s_Book_eq f fd) (B : Blt mg) (T : Cb K mg CBook) (bk : ∀ H b dx fs, H b = some (.ins CBook dx fs) → TyX K H (.ref b) (.ref CBook)) : FnOk P w K mg base CX0 1 f fd ["self", "other"] (spBookEqV CBook) := by
  have c_Book := T.c
  refine F.ok sc_Book_eq (fun vs H Q E h => ?_) (fun cdv A outer s H vs Q E hr h => ?_)
  · obtain ⟨a, b, L, M, rfl, _⟩ := h
    rfl
  · obtain ⟨a, b, L, M, rfl, hA, hB, q⟩ := h
    have hu := hu_of hr
    have hu0 : (A.deeper (envOfC "Book.__eq__" (defScope s_Book_eq) s.heap.objs.size f cdv)).units < cLine := by omega
    refine ⟨_, (pss_one (ps_ret (pe_and (pe_callB call_isi (by rfl) B.isinstance (by decide +kernel) (pa_cons (pv 1) (pa_cons (pe_glob (v := .ref CBook) (by rfl) c_Book rfl) pa_nil))) (pe_one (pe_cmpR (op_eq_dictB hu0) (pe_fld (pv 0) rfl) (pe_fld (pv 1) rfl) (nomark _)))))), ?_⟩
    obtain ⟨dx, d, L', h1, h2, h3, nd⟩ := id hA
    obtain ⟨dy, e, M', g1, g2, g3, ne⟩ := id hB
    refine ⟨_, rfl, _, _, _, _, true, rfl, ClsV.own _, bk _ _ _ _ g1, (by show PySem.W.kitOne K _ _ = _; unfold PySem.W.kitOne; rw [if_pos (by simp)]), _, rfl, iteT ?_⟩
    refine ⟨_, rfl, a, CBook, dx, _, _, rfl, h1, T.cl, T.nL, rfl, _, rfl, b, CBook, dy, _, _, rfl, g1, T.cl, T.nL, rfl, d, e, _, _, rfl, rfl, h2, g2, lk_flat, lk_flat', ?_⟩
    rcases q with ⟨q0, q⟩ | ⟨⟨z, n, m, q1, q2, q3⟩, q⟩
    · have hlk : ∀ z, L'.lookup z = M'.lookup z := fun z => by rw [h3, q0, g3]
      rw [lk_eqD nd hlk, decide_eq_true (show (LK L').length = (LK M').length by unfold LK; rw [List.length_map, List.length_map]; exact lk_len hlk nd ne)]
      exact q H Ext.rfl'
    · rw [lk_neD (by rw [h3]; exact q1) (by rw [g3]; exact q2) q3, Bool.and_false]
      exact q H Ext.rfl'

/-- books that tell the same -/
def EqBk (CB : Addr) : Addr → Addr → Hp → Prop := fun a b H => ∃ L M, BookAt CB H a L ∧ BookAt CB H b M ∧ ∀ z, L.lookup z = M.lookup z
theorem ok_book_eqE {f CBook : Addr} {fd : FuncData} (F : Fun K "__eq__" "Book.__eq__" s_Book_eq f fd) (B : Blt mg) (T : Cb K mg CBook) (bk : ∀ H b dx fs, H b = some (.ins CBook dx fs) → TyX K H (.ref b) (.ref CBook)) : FnOk P w K mg base CX0 1 f fd ["self", "other"] (spEq (EqBk CBook)) := by
  have o := ok_book_eqV (P := P) (w := w) (base := base) F B T bk
  exact o.imp fun vs H Q E ⟨a, b, e, ⟨L, M, h1, h2, h3⟩, q⟩ => ⟨a, b, L, M, e, h1, h2, .inl ⟨h3, q⟩⟩
end
end Ash

set_option Elab.async false
set_option linter.all false
set_option maxRecDepth 100000
set_option maxHeartbeats 4000000
set_option pp.maxSteps 600
namespace Ash
open PySem PySem.Spec PyProof.Rows L2
open C8 (pss_cut)
/-! ### parts of a journal by their ids -/
abbrev zOf (xs : List Ent) (p : Int → Bool) : List Ent := xs.filter fun e => p e.id
theorem Good.zOf {L : List (Str × Int)} {xs : List Ent} (h : Good L xs) (p : Int → Bool) : Good L (zOf xs p) := (h.keep p).1
theorem zOf_id {xs : List Ent} (p : Int → Bool) (id : Int) : ((zOf xs p).filter fun e => decide (e.id = id)) = if p id = true then xs.filter fun e => decide (e.id = id) else [] := by
  unfold Ash.zOf
  rw [List.filter_filter]
  by_cases c : p id = true
  · rw [if_pos c]
    refine List.filter_congr fun x _ => ?_
    by_cases d : x.id = id
    · rw [d, c, Bool.and_true]
    · rw [decide_eq_false d, Bool.false_and]
  · rw [if_neg c, List.filter_eq_nil_iff]
    intro x _
    by_cases d : x.id = id
    · rw [d]; simp [c]
    · rw [decide_eq_false d, Bool.false_and]; exact Bool.false_ne_true
/-- what parts of ids apart make -/
structure Mk85 (L : List (Str × Int)) (xs ys : List Ent) (q : Int → Bool) : Prop where
  good : Good L ys
  at_ : ∀ id, (ys.filter fun e => decide (e.id = id)) = if q id = true then xs.filter fun e => decide (e.id = id) else []
theorem Mk85.own {L : List (Str × Int)} {xs ys : List Ent} {q : Int → Bool} (m : Mk85 L xs ys q) {y : Ent} (hy : y ∈ ys) : q y.id = true := by
  by_cases c : q y.id = true
  · exact c
  · have a := m.at_ y.id
    rw [if_neg c] at a
    have h : y ∈ ys.filter fun e => decide (e.id = y.id) := List.mem_filter.mpr ⟨hy, decide_eq_true rfl⟩
    rw [a] at h
    cases h
theorem Mk85.nil {L : List (Str × Int)} {xs : List Ent} : Mk85 L xs [] (fun _ => false) := ⟨rfl, fun id => rfl⟩
theorem Mk85.step {L : List (Str × Int)} {xs ys : List Ent} {q : Int → Bool} (h : Good L xs) (m : Mk85 L xs ys q) (p : Int → Bool) (d : ∀ id, q id = true → p id = false) : Mk85 L xs (mrg ys (zOf xs p)) (fun id => q id || p id) := by
  have gp := h.zOf p
  refine ⟨mrg_ok m.good gp fun x hx y hy e => ?_, fun id => ?_⟩
  · have a := d _ (m.own hx)
    have b : p y.id = true := (List.mem_filter.mp hy).2
    rw [e, b] at a
    cases a
  · rw [mrg_filter _ m.good.asc gp.asc, m.at_, zOf_id]
    cases c1 : q id with
    | true =>
      rw [if_pos rfl, if_neg (by rw [d id c1]; exact Bool.false_ne_true), mrg_nil']
      rfl
    | false =>
      rw [if_neg Bool.false_ne_true, mrg_nil]
      rfl
def anyP (ps : List (Int → Bool)) (id : Int) : Bool := ps.any fun p => p id
def Apart (ps : List (Int → Bool)) : Prop := ps.Pairwise fun p q => ∀ id, p id = true → q id = false
theorem mk_all {L : List (Str × Int)} {xs : List Ent} (h : Good L xs) : ∀ (ps : List (Int → Bool)) (ys : List Ent) (q : Int → Bool), Mk85 L xs ys q → Apart ps → (∀ p ∈ ps, ∀ id, q id = true → p id = false) → Mk85 L xs ((ps.map (zOf xs)).foldl mrg ys) (fun id => q id || anyP ps id)
  | [], ys, q, m, _, _ => by
    have e : (fun id => q id || anyP [] id) = q := by funext id; simp [anyP]
    rw [e]
    exact m
  | p :: ps, ys, q, m, ap, d => by
    obtain ⟨a1, a2⟩ := List.pairwise_cons.mp ap
    have m2 := m.step h p (d p List.mem_cons_self)
    have := mk_all h ps _ _ m2 a2 fun p' hp' id hq => by
      have hq : (q id || p id) = true := hq
      rw [Bool.or_eq_true] at hq
      rcases hq with hq | hq
      · exact d p' (List.mem_cons_of_mem _ hp') id hq
      · exact a1 p' hp' id hq
    have e : (fun id => (q id || p id) || anyP ps id) = fun id => q id || anyP (p :: ps) id := by funext id; simp [anyP, Bool.or_assoc]
    rw [← e]
    exact this
theorem mk_mrgs {L : List (Str × Int)} {xs : List Ent} (h : Good L xs) (ps : List (Int → Bool)) (ap : Apart ps) : Mk85 L xs (mrgs (ps.map (zOf xs))) (anyP ps) := by
  have := mk_all h ps [] (fun _ => false) Mk85.nil ap fun _ _ _ z => nomatch z
  have e : (fun id => (fun _ : Int => false) id || anyP ps id) = anyP ps := by funext id; simp
  rw [e] at this
  exact this
theorem mrgs_len (xs : List Ent) (ps : List (Int → Bool)) : (mrgs (ps.map (zOf xs))).length ≤ ps.length * xs.length := by
  have q : ∀ (ps : List (Int → Bool)) (ys : List Ent), ((ps.map (zOf xs)).foldl mrg ys).length ≤ ys.length + ps.length * xs.length := fun ps => by
    induction ps with
    | nil => intro ys; simp
    | cons p r ih =>
      intro ys
      have e := ih (mrg ys (zOf xs p))
      rw [mrg_len] at e
      have l : (zOf xs p).length ≤ xs.length := List.length_filter_le _ _
      rw [List.length_cons, Nat.succ_mul]
      show ((r.map (zOf xs)).foldl mrg (mrg ys (zOf xs p))).length ≤ _
      omega
  have := q ps []
  rw [List.length_nil, Nat.zero_add] at this
  exact this
theorem flat_ints (l : List Int) : (l.map V.int).all flatV = true := by
  rw [List.all_eq_true]
  intro v hv
  obtain ⟨z, _, rfl⟩ := List.mem_map.mp hv
  rfl
theorem inV_int (x : Int) : ∀ is : List Int, inV (V.int x) (is.map V.int) = decide (x ∈ is)
  | [] => rfl
  | a :: r => by
    show (eqV (V.int a) (V.int x) || inV (V.int x) (r.map V.int)) = _
    rw [inV_int x r]
    by_cases e : a = x
    · subst e
      simp [eqV]
    · have e' : ¬ x = a := fun z => e z.symm
      simp [eqV, e, e']
/-! ### the two parts of a key -/
def isRow : Ent → Bool
  | .row .. => true
  | _ => false
abbrev numsOf (ys : List Ent) : List Int := (ys.filter isRow).map Ent.id
theorem nums_all {k : Str} {xs : List Ent} {id : Int} (h : ownP k xs id = true) : id ∈ numsOf (part k xs) := by
  obtain ⟨z, m, a, r, q⟩ := own_iff.mp h
  exact List.mem_map.mpr ⟨_, List.mem_filter.mpr ⟨List.mem_filter.mpr ⟨q, h⟩, rfl⟩, rfl⟩
def pA (k : Str) (xs : List Ent) (out : List Int) : Int → Bool := fun id => ownP k xs id && !decide (id ∈ out)
theorem pA_z (k : Str) (xs : List Ent) (out : List Int) : ((part k xs).filter fun e => !decide (e.id ∈ out)) = zOf xs (pA k xs out) := by
  unfold part Ash.zOf
  rw [List.filter_filter]
  exact List.filter_congr fun x _ => Bool.and_comm _ _
theorem pA_apart {k : Str} {xs : List Ent} {sm : List Int} {id : Int} (h : pA k xs sm id = true) : pA k xs ((numsOf (part k xs)).filter fun n => !decide (n ∈ sm)) id = false := by
  unfold pA at h ⊢
  rw [Bool.and_eq_true] at h
  obtain ⟨h1, h2⟩ := h
  have m : id ∈ (numsOf (part k xs)).filter fun n => !decide (n ∈ sm) := List.mem_filter.mpr ⟨nums_all h1, h2⟩
  rw [h1, decide_eq_true m]
  rfl
theorem pA_all {k : Str} {xs : List Ent} {sm : List Int} {id : Int} : (pA k xs sm id || pA k xs ((numsOf (part k xs)).filter fun n => !decide (n ∈ sm)) id) = ownP k xs id := by
  unfold pA
  by_cases c : ownP k xs id = true
  · rw [c]
    by_cases d : id ∈ sm
    · have n : id ∉ (numsOf (part k xs)).filter fun n => !decide (n ∈ sm) := fun m => by
        have := (List.mem_filter.mp m).2
        rw [decide_eq_true d] at this
        cases this
      rw [decide_eq_true d, decide_eq_false n]
      rfl
    · rw [decide_eq_false d]
      rfl
  · have c : ownP k xs id = false := Bool.eq_false_iff.mpr c
    rw [c]
    rfl
theorem anyP_app (ps qs : List (Int → Bool)) (id : Int) : anyP (ps ++ qs) id = (anyP ps id || anyP qs id) := by
  unfold anyP
  rw [List.any_append]
theorem any_own {ps : List (Int → Bool)} {p : Int → Bool} (hp : p ∈ ps) {id : Int} (h : p id = true) : anyP ps id = true := List.any_eq_true.mpr ⟨p, hp, h⟩
theorem apart_two {k : Str} {xs : List Ent} {sm : List Int} {ps : List (Int → Bool)} (ap : Apart ps) (d : ∀ id, ownP k xs id = true → anyP ps id = false) : Apart (ps ++ [pA k xs sm, pA k xs ((numsOf (part k xs)).filter fun n => !decide (n ∈ sm))]) := by
  refine List.pairwise_append.mpr ⟨ap, ?_, fun p hp q hq id h => ?_⟩
  · refine List.pairwise_cons.mpr ⟨fun q hq id h => ?_, List.pairwise_singleton _ _⟩
    rw [List.mem_singleton.mp hq]
    exact pA_apart h
  · have h1 := any_own hp h
    cases e : q id with
    | false => rfl
    | true =>
      have o : ownP k xs id = true := by
        rcases List.mem_cons.mp hq with hq | hq
        · rw [hq] at e
          exact (Bool.and_eq_true _ _ ▸ e).1
        · rw [List.mem_singleton.mp hq] at e
          exact (Bool.and_eq_true _ _ ▸ e).1
      rw [d id o] at h1
      cases h1
def spLaw (K : PySem.W.Frag) : Sp := fun vs H Q _ => ∃ (a : Addr) (ns : List Int), vs = [.ref a] ∧ SqL K H a (ns.map V.int) ∧ ns.length ≤ 63 ∧ ∀ H', Q (.bl true) H'
structure GL85 (P : Program) (w : World) (K : PySem.W.Frag) (mg : Str → Option Value) (base : Heap) (aT CJ CB CE : Addr) : Prop where
  law_pool : Cal P w K mg base CX0 "_law_pool" 1 ["script"] (spPool K)
  law_draw : CDraw P w K mg base
  law_names : Cal P w K mg base CX0 "_law_names" 2 ["pool", "many"] spNames
  law_lates : Cal P w K mg base CX0 "_law_lates" 2 ["pool", "names"] spLates85
  law_work : Cal P w K mg base CX0 "_law_work" 3 ["pool", "keys"] spWork85
  law_next_entry : Cal P w K mg base CX0 "_law_next_entry" 4 ["pool", "lates", "keys", "work", "floor"] spNext85
  law_good_cut : Cal P w K mg base CX0 "_law_good_cut" 12 ["journal", "entries", "h"] (spGoodCut K aT CJ CB)
  law_good_keys : Cal P w K mg base CX0 "_law_good_keys" 12 ["journal", "entries"] (spGoodKeys K aT CJ CB)
  law_good_whole : Cal P w K mg base CX0 "_law_good_whole" 12 ["whole", "entries", "lates", "keys"] (spGoodWhole K aT CJ CB)
  law_of_key : Cal P w K mg base CX0 "_law_of_key" 1 ["entries", "key"] spOwned
  law_shuffled : Cal P w K mg base CX0 "_law_shuffled" 2 ["pool", "items"] spShuf85
  law_merged : Cal P w K mg base CX0 "_law_merged" 1 ["one", "other"] spMerged
  joined : Cal P w K mg base CX0 "joined" 10 ["journals"] (spJoined85 K aT CJ CB)
  only : Met P w K mg base CX0 CJ "only" 9 ["self", "key"] (spOnlyF K aT CJ CB)
  without : Met P w K mg base CX0 CJ "without" 9 ["self", "ids"] (spWithout K aT CJ CB)
  Book : Mak P w K mg base CX0 "Book" CB 4 ["self", "lates"] (spBookInit CB)
  Journal : Mak P w K mg base (L2.CX P w) "Journal" CJ 7 ["self", "book", "entries"] (spJInit K aT CJ CB CE)
section
variable {P : Program} {w : World} {K : PySem.W.Frag} {mg : Str → Option Value} {base : Heap}
abbrev s_law : Stmt := topS 56
theorem sc_law : FnScope ["script", "pool", "lates", "keys", "work", "begin", "k", "entries", "journal", "due", "parts", "key", "own", "numbers", "some", "out", "whole", "part", "told", "entry", "number"] ["script"] (defScope s_law) := ⟨rfl, rfl, rfl, by decide +kernel, rfl, by decide +kernel, by decide +kernel⟩
theorem ok_law {f fo fq fbq CB CJ CE aT : Addr} {fd fdo fdq fdbq : FuncData} (F : Fun K "law" "law" s_law f fd) (B : Blt mg) (T : Cj P K mg CJ CB) (TB : Cb K mg CB) (G : GL85 P w K mg base aT CJ CB CE)
    (Zq : NeC K CJ fq) (bq : Binds K fdq ["self", "other"] []) (Fq : FnOk P w K mg base CX0 3 fq fdq ["self", "other"] (spEq (EqJc K aT CJ CB)))
    (Zb : NeC K CB fbq) (bb : Binds K fdbq ["self", "other"] []) (Fb : FnOk P w K mg base CX0 1 fbq fdbq ["self", "other"] (spEq (EqBk CB)))
    (oc : PySem.W.selfFirst K CJ = true) (os : PySem.W.findIn K (.ref CJ) (PySem.dunder Operator.BitOr.info.2) = some (some (.ref fo))) (of_ : PySem.W.isFn K (.ref fo) = true) (ob : Binds K fdo ["self", "other"] []) (Fo : FnOk P w K mg base (L2.CX P w) 9 fo fdo ["self", "other"] (spOr K aT CJ CB CE)) : FnOk P w K mg base CX0 20 f fd ["script"] (spLaw K) := by
  refine F.ok sc_law (fun vs H Q E h => ?_) (fun cdv A outer s H vs Q E hr h => ?_)
  · obtain ⟨a, ns, rfl, _⟩ := h
    rfl
  · obtain ⟨a, ns, rfl, hS, hns, q⟩ := h
    have hu := hu_of hr
    refine ⟨_, (pss_cons (ps_set (i := 1) sc_law.nd rfl (Or.inr rfl) (pe_cal G.law_pool (hr.mono (by decide)) pass0 (pa_cons (pv 0) pa_nil)))
    (pss_cons (ps_set (i := 2) sc_law.nd rfl (Or.inl rfl) (pe_cal G.law_lates (hr.mono (by decide)) pass0 (pa_cons (pv 1) (pa_cons (pe_cal G.law_names (hr.mono (by decide)) pass0 (pa_cons (pv 1) (pa_cons (pe_op op_add pe_int (pe_cal G.law_draw (hr.mono (by decide)) pass0 (pa_cons (pv 1) (pa_cons pe_int pa_nil)))) pa_nil))) pa_nil))))
    (pss_cons (ps_set (i := 3) sc_law.nd rfl (Or.inl rfl) (pe_cal G.law_names (hr.mono (by decide)) pass0 (pa_cons (pv 1) (pa_cons (pe_op op_add pe_int (pe_cal G.law_draw (hr.mono (by decide)) pass0 (pa_cons (pv 1) (pa_cons pe_int pa_nil)))) pa_nil))))
    (pss_cons (ps_set (i := 4) sc_law.nd rfl (Or.inl rfl) (pe_cal G.law_work (hr.mono (by decide)) pass0 (pa_cons (pv 1) (pa_cons (pv 3) pa_nil))))
    (pss_cons (ps_set (i := 5) sc_law.nd rfl (Or.inl rfl) (pe_ix ix_list (pv 4) pe_int (fun _ _ => rfl)))
    (pss_cons (ps_for PassesOwn.never rfl (pi_range1 (by rfl) B.range (pa_cons (pe_cal G.law_draw (hr.mono (by decide)) pass0 (pa_cons (pv 1) (pa_cons pe_int pa_nil))) pa_nil)) (pg_name (i := 6) sc_law.nd rfl (Or.inl rfl))
      (pss_one (ps_expr (pe_cal G.law_next_entry (hr.mono (by decide)) pass0 (pa_cons (pv 1) (pa_cons (pv 2) (pa_cons (pv 3) (pa_cons (pv 4) (pa_cons (pv 5) pa_nil)))))))))
    (pss_cons (ps_set (i := 7) sc_law.nd rfl (Or.inl rfl) (pe_ix ix_list (pv 4) pe_int (fun _ _ => rfl)))
    (pss_cons (ps_set (i := 8) sc_law.nd rfl (Or.inl rfl) (pe_mak G.Journal (hr.mono (by decide)) (passE takes0) (pa_cons (pe_mak G.Book (hr.mono (by decide)) pass0 (pa_cons (pv 2) pa_nil)) (pa_cons (pe_callTy call_list_of (by rfl) B.list (by decide +kernel) (pa_cons (pv 7) pa_nil)) pa_nil))))
    (pss_cons (ps_if (pt_not (pt_val (pe_cal G.law_good_cut (hr.mono (by decide)) pass0 (pa_cons (pv 8) (pa_cons (pv 7) (pa_cons (pe_op op_add (pe_op op_sub (pv 5) pe_int) (pe_cal G.law_draw (hr.mono (by decide)) pass0 (pa_cons (pv 1) (pa_cons (pe_op op_add (pe_op op_sub (pe_ix ix_list (pv 4) pe_int (fun _ _ => rfl)) (pv 5)) pe_int) pa_nil)))) pa_nil))))))
      (pss_one (ps_ret pe_bl))
      pss_nil)
    (pss_cons (ps_if (PW.pt (pw_or (pt_not (pt_val (pe_cal G.law_good_keys (hr.mono (by decide)) pass0 (pa_cons (pv 8) (pa_cons (pv 7) pa_nil))))) (pw_or1 (pt_cmpR (op_neG Fq Zq bq pass0 (hr.mono (by decide))) (pe_cal G.joined (hr.mono (by decide)) pass0 (pa_cons (pe_lst (pa_cons (pv 8) pa_nil)) pa_nil)) (pv 8) (nomark _)))))
      (pss_one (ps_ret pe_bl))
      pss_nil)
    (pss_cons (ps_set (i := 9) sc_law.nd rfl (Or.inl rfl) (pe_lst pa_nil))
    (pss_cons (ps_set (i := 10) sc_law.nd rfl (Or.inl rfl) (pe_lst pa_nil))
    (pss_cons (ps_for PassesOwn.never rfl (pi_list (pe_cal G.law_shuffled (hr.mono (by decide)) pass0 (pa_cons (pv 1) (pa_cons (pv 3) pa_nil)))) (pg_name (i := 11) sc_law.nd rfl (Or.inl rfl))
      (pss_cons (ps_set (i := 12) sc_law.nd rfl (Or.inl rfl) (pe_cal G.law_of_key (hr.mono (by decide)) pass0 (pa_cons (pv 7) (pa_cons (pv 11) pa_nil))))
      (pss_cons (ps_setLc (i := 13) (own := [("entry", 19)]) (g := gName 19) (by rfl) sc_law.nd rfl rfl (sw_true rfl rfl rfl (by decide +kernel)) (pi_list (pv 12)) (blkOk_by (own := [("entry", 19)]) (N := ["script", "pool", "lates", "keys", "work", "begin", "k", "entries", "journal", "due", "parts", "key", "own", "numbers", "some", "out", "whole", "part", "told", "entry", "number"]) (sc := defScope s_law) (by decide +kernel)) (fun _ _ _ _ _ => (pg_name (i := 19) sc_law.nd rfl (Or.inl rfl))) (fun _ _ _ _ _ => pts_one (pt_cmpR op_eq (pe_ix (show IxR _ (rIxT K) from ix_tup) (pv 19) pe_int (fun _ _ => rfl)) pe_str (nomark _))) (fun _ _ _ _ _ => (pe_ix (show IxR _ (rIxT K) from ix_tup) (pv 19) pe_int (fun _ _ => rfl))))
      (pss_cons (ps_set (i := 14) sc_law.nd rfl (Or.inr rfl) (pe_lc (own := [("number", 20)]) (g := gName 20) (by rfl) sc_law.nd (pi_list (pv 13)) (blkOk_by (own := [("number", 20)]) (N := ["script", "pool", "lates", "keys", "work", "begin", "k", "entries", "journal", "due", "parts", "key", "own", "numbers", "some", "out", "whole", "part", "told", "entry", "number"]) (sc := defScope s_law) (by decide +kernel)) (fun _ _ _ _ _ => (pg_name (i := 20) sc_law.nd rfl (Or.inl rfl))) (fun _ _ _ _ _ => pts_one (pt_cmpR op_eq (pe_cal G.law_draw (hr.mono (by decide)) pass0 (pa_cons (pv 1) (pa_cons pe_int pa_nil))) pe_int (nomark _))) (fun _ _ _ _ _ => (pv 20))))
      (pss_one (ps_for PassesOwn.never rfl (pi_list (pe_lst (pa_cons (pv 14) (pa_cons (pe_lc (own := [("number", 20)]) (g := gName 20) (by rfl) sc_law.nd (pi_list (pv 13)) (blkOk_by (own := [("number", 20)]) (N := ["script", "pool", "lates", "keys", "work", "begin", "k", "entries", "journal", "due", "parts", "key", "own", "numbers", "some", "out", "whole", "part", "told", "entry", "number"]) (sc := defScope s_law) (by decide +kernel)) (fun _ _ _ _ _ => (pg_name (i := 20) sc_law.nd rfl (Or.inl rfl))) (fun _ _ _ _ _ => pts_one (pt_cmpR (show OpR _ _ (rIn K true) from op_notIn_seq) (pv 20) (pv 14) rfl)) (fun _ _ _ _ _ => (pv 20))) pa_nil)))) (pg_name (i := 15) sc_law.nd rfl (Or.inr rfl))
        (pss_cons (ps_expr (pe_bm PySem.F.plainAttrs_list PySem.F.slot_list_append PySem.F.type_list_append mt_append (pv 10) (pa_cons (pe_met T.cl G.without (hr.mono (by decide)) pass0 (pe_met T.cl G.only (hr.mono (by decide)) pass0 (pv 8) (pa_cons (pv 11) pa_nil)) (pa_cons (pv 15) pa_nil)) pa_nil)))
        (pss_one (ps_set (i := 9) sc_law.nd rfl (Or.inl rfl) (pe_cal G.law_merged (hr.mono (by decide)) pass0 (pa_cons (pv 9) (pa_cons (pe_lc (own := [("entry", 19)]) (g := gName 19) (by rfl) sc_law.nd (pi_list (pv 12)) (blkOk_by (own := [("entry", 19)]) (N := ["script", "pool", "lates", "keys", "work", "begin", "k", "entries", "journal", "due", "parts", "key", "own", "numbers", "some", "out", "whole", "part", "told", "entry", "number"]) (sc := defScope s_law) (by decide +kernel)) (fun _ _ _ _ _ => (pg_name (i := 19) sc_law.nd rfl (Or.inl rfl))) (fun _ _ _ _ _ => pts_one (pt_cmpR (show OpR _ _ (rIn K true) from op_notIn_seq) (pe_ix (show IxR _ (rIxT K) from ix_tup) (pv 19) pe_int (fun _ _ => rfl)) (pv 15) rfl)) (fun _ _ _ _ _ => (pv 19))) pa_nil))))))))))))
    (pss_cons (ps_set (i := 16) sc_law.nd rfl (Or.inl rfl) (pe_ix ix_list (pv 10) pe_int (fun _ _ => rfl)))
    (pss_cons (ps_for PassesOwn.never rfl (pi_list (pe_slice sl_list (pv 10) (po_some pe_int) po_none)) (pg_name (i := 17) sc_law.nd rfl (Or.inl rfl))
      (pss_one (ps_set (i := 16) sc_law.nd rfl (Or.inl rfl) (pe_op (op_own oc os of_ Fo ob (passE takes0) (hr.mono (by decide))) (pv 16) (pv 17)))))
    (pss_cons (ps_set (i := 18) sc_law.nd rfl (Or.inl rfl) (pe_cal G.joined (hr.mono (by decide)) pass0 (pa_cons (pe_ix ix_list (pe_lst (pa_cons (pv 10) (pa_cons (pe_callTy call_tuple_of (by rfl) B.tuple (by decide +kernel) (pa_cons (pv 10) pa_nil)) pa_nil))) (pe_cal G.law_draw (hr.mono (by decide)) pass0 (pa_cons (pv 1) (pa_cons pe_int pa_nil))) (fun _ _ => rfl)) pa_nil)))
    (pss_cons (ps_if (PW.pt (pw_or (pt_cmpR (op_neD hr.units) (pe_callTy call_list_of (by rfl) B.list (by decide +kernel) (pa_cons (pe_fld (pv 18) rfl) pa_nil)) (pv 9) (nomark _)) (pw_or (pt_cmpR (op_neG Fq Zq bq pass0 (hr.mono (by decide))) (pv 18) (pv 16) (nomark _)) (pw_or1 (pt_cmpR (op_neG Fb Zb bb pass0 (hr.mono (by decide))) (pe_fld (pv 18) rfl) (pe_mak G.Book (hr.mono (by decide)) pass0 (pa_cons (pv 2) pa_nil)) (nomark _))))))
      (pss_one (ps_ret pe_bl))
      pss_nil)
    (pss_one (ps_ret (pe_and (pe_cal G.law_good_whole (hr.mono (by decide)) pass0 (pa_cons (pv 18) (pa_cons (pv 7) (pa_cons (pv 2) (pa_cons (pv 3) pa_nil))))) (pe_one (pe_cmpR (op_eqD hr.units) (pe_callTy call_list_of (by rfl) B.list (by decide +kernel) (pa_cons (pe_fld (pv 8) rfl) pa_nil)) (pv 7) (nomark _))))))))))))))))))))))), ?_⟩
    refine ⟨_, rfl, a, ns, rfl, hS, fun p s0 H1 hp hP1 s1 => ?_⟩
    refine ⟨_, rfl, _, rfl, _, rfl, p, s0, 3, rfl, hP1, (by decide), (by decide), fun y H2 y0 y3 P2 => ⟨_, _, rfl, rfl, p, s0, 1 + y, rfl, P2.now, (by omega), (by omega), fun l names H3 hl0 hl hlenN hnd hnm P3 => ?_⟩⟩
    have lp : l ≠ p := fun z => P2.now.ne.1 (z ▸ hl0)
    refine ⟨p, s0, l, names, rfl, P3.now, hl, lp, (by omega), (by omega), hnd, hnm, fun dl L H4 hdl0 hdl LL eL P4 => ?_⟩
    have dlp : dl ≠ p := fun z => P3.now.ne.1 (z ▸ hdl0)
    refine ⟨_, rfl, _, rfl, p, s0, 3, rfl, P4.now, (by decide), (by decide), fun y2 H5 y20 y23 P5 => ⟨_, _, rfl, rfl, p, s0, 1 + y2, rfl, P5.now, (by omega), (by omega), fun dk kys H6 hk0 hk hkl hkd hkm P6 => ?_⟩⟩
    have kp : dk ≠ p := fun z => P5.now.ne.1 (z ▸ hk0)
    have hdl6 := (P5.trans P6).dk P4.now hdl
    have hP6 := P6.now
    refine ⟨_, rfl, _, rfl, p, s0, dk, kys, rfl, hP6, hk, kp, (by omega), fun w0 we ds mk a0 n0 H7 hw0 hwe0 hds0 hmk0 DIS W0 n00 P7 => ?_⟩
    have nd4 : ∀ {c o}, H6 c = some o → c ≠ w0 ∧ c ≠ we ∧ c ≠ ds ∧ c ≠ mk := fun {c o} h => ⟨(fun z => by rw [z, hw0] at h; cases h), (fun z => by rw [z, hwe0] at h; cases h), (fun z => by rw [z, hds0] at h; cases h), (fun z => by rw [z, hmk0] at h; cases h)⟩
    have dn := nd4 hdl6
    have kn := nd4 hk
    have hdl7 := P7.dk hP6 hdl6
    have hk7 := P7.keep hk kp
    have hw7 := W0.w_
    have hP7 := P7.now
    clear nd4 hw0 hwe0 hds0 hmk0 hdl6 hk P7 P6 P5 P4 P3 P2 hP6 hdl hl hl0
    refine ⟨_, rfl, _, _, _, _, rfl, rfl, SqL.of hw7, rfl, ?_⟩
    refine ⟨_, rfl, p, s0, 17, rfl, hP7, (by decide), (by decide), fun nL H8 nL0 nL17 P8 => ?_⟩
    have hdl8 := P8.dk hP7 hdl7
    have hk8 := P8.keep hk7 kp
    have W8 := W0.pl hP7 P8 DIS.wp.1 DIS.ep.1
    have hP8 := P8.now
    clear P8 hdl7 hk7 hw7 W0 hP7
    refine ⟨_, rfl, (by omega), (by omega), for_range (n := nL.toNat) (fun i σ H' => ∃ x6 us xs S ks a' n', σ = [some (.ref a), some (.ref p), some (.ref dl), some (.ref dk), some (.ref w0), some (.int a0), x6] ++ List.replicate 14 none ∧ Wk H' w0 we ds mk kys us xs S ks a' n' ∧ En L xs S a' n' ∧ (∀ x ∈ xs, KIn kys x) ∧ 0 ≤ n' ∧ a0 ≤ a' ∧ a' ≤ a0 + 4 * (i : Int) ∧ xs.length ≤ i ∧ ks.length ≤ i ∧ Fr6 H8 H' p s0 w0 we ds mk) ?_ ?_ ?_⟩
    · exact ⟨_, [], [], K0, [], a0, n0, rfl, W8, En.nil, (fun x h => nomatch h), n00, Int.le_refl _, by omega, Nat.le_refl _, Nat.le_refl _, hP8, fun c o h _ _ _ _ _ => h⟩
    · rintro k σ H9 hk9 ⟨x6, us, xs, S, ks, a', n', rfl, W, EN, hki, hn', a1, a2, lx, lk, F9⟩
      have lu := W.es.1
      have hk17 : k < 17 := by omega
      have D9 : Bs H9 p s0 dl dk L kys := ⟨F9.now, F9.keep _ _ hdl8 dlp dn.1 dn.2.1 dn.2.2.1 dn.2.2.2, LL, F9.keep _ _ hk8 kp kn.1 kn.2.1 kn.2.2.1 kn.2.2.2, by omega, by omega, hkm⟩
      refine ⟨_, rfl, _, rfl, _, rfl, _, rfl, _, rfl, p, s0, dl, dk, w0, we, ds, mk, L, kys, us, xs, S, ks, a', n', a0, rfl, D9, W, EN, hki, hn', by omega, by omega, kp, DIS, fun v us' xs' S' ks' a'' n'' HA WA ENA hkA hnA b1 b2 lxA lkA FA => ?_⟩
      exact ⟨_, us', xs', S', ks', a'', n'', rfl, WA, ENA, hkA, hnA, by omega, by omega, by omega, by omega, FA.now, fun c o h n1 n2 n3 n4 n5 => FA.keep _ _ (F9.keep _ _ h n1 n2 n3 n4 n5) n1 n2 n3 n4 n5⟩
    rintro σ H9 ⟨x6, us, xs, S, ks, a', n', rfl, W, EN, hki, hn', a1, a2, lx, lk, F9⟩
    have hx16 : xs.length ≤ 16 := by omega
    have ha' : a' ≤ a0 + 64 := by omega
    have hdl9 := F9.keep _ _ hdl8 dlp dn.1 dn.2.1 dn.2.2.1 dn.2.2.2
    have hk9 := F9.keep _ _ hk8 kp kn.1 kn.2.1 kn.2.2.1 kn.2.2.2
    have hw9 := W.w_
    have he9 := W.e_
    have hE9 := W.es
    have hP9 := F9.now
    have lu := hE9.1
    have wep := DIS.ep.1
    have w0p := DIS.wp.1
    clear F9 W hdl8 hk8 W8 hP8 DIS dn kn lk lx
    refine ⟨_, rfl, _, _, _, _, rfl, rfl, SqL.of hw9, rfl, ?_⟩
    refine ⟨_, rfl, fun b dxb nb ndb neb => ⟨b, dxb, dl, L, rfl, upd_same, ?_, LL, fun H10 hB kB => ⟨rfl, ?_⟩⟩⟩
    · exact (mk_same nb ndb (fun c o h n => h)) _ _ hdl9
    have s10 : Same H9 H10 := mk_same nb ndb kB
    refine ⟨_, rfl, we, us, rfl, .inl (SqL.of (s10 _ _ he9)), fun le hle => ?_⟩
    have s11 := s10.trans (sameAt (Same.refl H10) hle (o := .lst us))
    have hle11 : (upd H10 le (.lst us)) le = some (.lst us) := upd_same
    have hB11 := hB.same (sameAt (Same.refl H10) hle (o := .lst us))
    generalize (upd H10 le (.lst us)) = H11 at s11 hle11 hB11 ⊢
    refine fun j dxj nj ndj nej => mkJ hB11 hle11 (hE9.tk (tk_same s11)) (by omega) EN.w nj ndj nej fun H12 s12 hJ => ?_
    have s9_12 := s11.trans s12
    have hw12 := s9_12 _ _ hw9
    have hP12 := hP9.same s9_12
    have he12 := s9_12 _ _ he9
    have hE12 := hE9.tk (tk_same s9_12)
    have hdl12 := s9_12 _ _ hdl9
    have hk12 := s9_12 _ _ hk9
    have GX : Good L xs := EN.good.1
    clear s11 s12 s10 s9_12 hle11 hB11 hle hB kB nb ndb neb hw9 he9 hE9 hdl9 hk9 hP9
    refine ⟨_, rfl, _, rfl, _, rfl, _, _, rfl, rfl, _, rfl, _, rfl, _, _, _, _, rfl, rfl, SqL.of hw12, rfl, _, rfl, _, _, rfl, rfl, _, _, rfl, rfl, p, s0, _, rfl, hP12, (by omega), Int.lt_of_le_of_lt (show a' - a0 + 3 ≤ 67 by omega) (by decide), fun u H13 u0 u1 P13 => ?_⟩
    have nl13 := P13.nl hP12
    have hJ13 := hJ.nl nl13
    have hE13 := hE12.tk (P13.tk hP12)
    have luj := hJ.len
    refine ⟨_, _, rfl, rfl, j, we, b, L, us, us, xs, _, rfl, hJ13, by omega, P13.keep he12 wep, hE13, fun H14 s14 => ⟨_, rfl, iteF ?_⟩⟩
    have hJ14 := hJ13.same s14
    have he14 := s14 _ _ (P13.keep he12 wep)
    have hE14 := hE13.tk (tk_same s14)
    have hP14 := P13.now.same s14
    have hk14 := s14 _ _ (P13.keep hk12 kp)
    have hdl14 := s14 _ _ (P13.dk hP12 hdl12)
    clear nl13 hJ13 hE13 P13 hJ he12 hE12 hP12 hk12 hdl12 hw12
    refine ⟨_, rfl, _, rfl, j, we, b, L, us, us, xs, rfl, hJ14, by omega, he14, hE14, fun H15 s15 => ⟨_, rfl, iteF ?_⟩⟩
    refine ⟨_, rfl, (by show 1 ≤ sizeLine; decide), fun lj hlj => ?_⟩
    have s16 := s15.trans (sameAt (Same.refl H15) hlj (o := .lst [.ref j]))
    have hlj16 : (upd H15 lj (.lst [.ref j])) lj = some (.lst ([j].map V.ref)) := upd_same
    have hJ16 := hJ14.same s16
    generalize (upd H15 lj (.lst [.ref j])) = H16 at s16 hlj16 hJ16 ⊢
    refine ⟨lj, b, L, [j], [xs], rfl, .inl hlj16, Nat.le_refl _, (by show 1 ≤ 6; omega), rfl, fun i j' zs a1 a2 => ?_, fun k hk => ?_, fun zs hz => (by rw [List.mem_singleton.mp hz]; omega), fun j2 u2 H17 s17 J2 => ?_⟩
    · match i, a1, a2 with
      | 0, a1, a2 => cases a1; cases a2; exact ⟨us, hJ16⟩
      | n + 1, a1, _ => exact absurd a1 (by simp)
    · match k, hk with
      | 0, _ => exact ⟨rfl, Nat.zero_le _⟩
      | 1, _ =>
        rw [show mrgs ([xs].take 1) = xs from mrg_nil xs]
        exact ⟨GX, by omega⟩
    rw [show mrgs [xs] = xs from mrg_nil xs] at J2
    obtain ⟨dj, tj, kj, ej⟩ := hJ14.ins
    obtain ⟨d2, t2, k2, e2⟩ := J2.ins
    have s1417 := s16.trans s17
    refine ⟨_, rfl, ⟨j2, j, _, _, _, _, rfl, rfl, e2, s1417 _ _ ej, b, L, _, _, _, J2, hJ14.same s1417⟩, fun H18 x18 => ⟨_, rfl, iteF ?_⟩⟩
    have s18 : Same H17 H18 := fun c o h => x18 c o h
    have s1418 := s1417.trans s18
    have hJ18 := hJ14.same s1418
    have he18 := s1418 _ _ he14
    have hE18 := hE14.tk (tk_same s1418)
    have hP18 := hP14.same s1418
    have hk18 := s1418 _ _ hk14
    have hdl18 := s1418 _ _ hdl14
    clear s18 x18 J2 e2 s17 hJ16 hlj16 s16 s15 hlj s14 hJ14 he14 hE14 hP14 hk14 hdl14 ej s1417 s1418
    refine ⟨(by show 0 ≤ sizeLine; decide), fun du0 hdu0 => ⟨(by show 0 ≤ sizeLine; decide), fun pl hpl => ?_⟩⟩
    have s19 := (sameAt (Same.refl H18) hdu0 (o := .lst [])).trans (sameAt (Same.refl _) hpl (o := .lst []))
    have hdp : du0 ≠ pl := fun z => by rw [← z, upd_same] at hpl; cases hpl
    have hdu19 : (upd (upd H18 du0 (.lst [])) pl (.lst [])) du0 = some (.lst []) := by rw [upd_ne hdp, upd_same]
    have hpl19 : (upd (upd H18 du0 (.lst [])) pl (.lst [])) pl = some (.lst []) := upd_same
    have hpl0 : H18 pl = none := none_of (sameAt (Same.refl H18) hdu0 (o := .lst [])) hpl
    have pne : ∀ {c o}, H18 c = some o → c ≠ pl := fun {c o} h z => by rw [z, hpl0] at h; cases h
    have dup : du0 ≠ p := fun z => hP18.ne.1 (z ▸ hdu0)
    have plp : pl ≠ p ∧ pl ≠ s0 := ⟨fun z => hP18.ne.1 (z ▸ hpl0), fun z => hP18.ne.2 (z ▸ hpl0)⟩
    have wpl := pne he18
    have kpl := pne hk18
    have dpl := pne hdl18
    generalize (upd (upd H18 du0 (.lst [])) pl (.lst [])) = H19 at s19 hdu19 hpl19 ⊢
    have hJ19 := hJ18.same s19
    have he19 := s19 _ _ he18
    have hE19 := hE18.tk (tk_same s19)
    have hP19 := hP18.same s19
    have hk19 := s19 _ _ hk18
    have hdl19 := s19 _ _ hdl18
    clear pne hpl0 hdu0 hpl s19 hJ18 he18 hE18 hP18 hk18 hdl18
    refine ⟨_, rfl, _, rfl, p, s0, dk, kys, rfl, hP19, hk19, kp, by omega, fun rq rs H20 hrq0 hrq hperm P20 => ?_⟩
    have nl20 := P20.nl hP19
    have hJ20 := hJ19.nl nl20
    have he20 := P20.keep he19 wep
    have hE20 := hE19.tk (P20.tk hP19)
    have hP20 := P20.now
    have hk20 := P20.keep hk19 kp
    have hdl20 := P20.dk hP19 hdl19
    have hdu20 := P20.keep hdu19 dup
    have hpl20 := P20.keep hpl19 plp.1
    have rqp : rq ≠ p := fun z => hP19.ne.1 (z ▸ hrq0)
    have rpl : rq ≠ pl := fun z => by rw [z, hpl19] at hrq0; cases hrq0
    have rsn : rs.Nodup := hperm.nodup_iff.mpr hkd
    have rsl : rs.length = kys.length := hperm.length_eq
    clear nl20 P20 hJ19 he19 hE19 hP19 hk19 hdl19 hdu19 hpl19 hrq0
    refine ⟨rq, rfl, ⟨_, SqL.of hrq⟩, for_list (K := K) (a := rq) (xs := rs.map V.str) (fun i σ H' => (∃ (x11 x12 x13 x14 x15 : Option V) (du : Addr) (ud : List V) (js : List Addr) (ps : List (Int → Bool)), σ = [some (.ref a), some (.ref p), some (.ref dl), some (.ref dk), some (.ref w0), some (.int a0), x6, some (.ref we), some (.ref j), some (.ref du), some (.ref pl), x11, x12, x13, x14, x15, none, none, none, none, none] ∧ H' pl = some (.lst (js.map V.ref)) ∧ js.length = ps.length ∧ ps.length = 2 * i ∧ Apart ps ∧ (∀ id, anyP ps id = (rs.take i).any fun k => ownP k xs id) ∧ (∀ (x : Nat) j' p', js[x]? = some j' → ps[x]? = some p' → ∃ u, JAt K aT CJ CB H' j' b L u (zOf xs p')) ∧ du ≠ pl ∧ du ≠ p ∧ H' du = some (.lst ud) ∧ Ents H' ud (mrgs (ps.map (zOf xs)))) ∧ PoolAt H' p s0 ∧ ∀ c o, H20 c = some o → c ≠ p → c ≠ pl → H' c = some o) ?_ (fun i σ H' _ hv => SqL.of (hv.2.2 _ _ hrq rqp rpl)) ?_ ?_⟩
    · refine ⟨⟨_, _, _, _, _, du0, [], [], [], rfl, hpl20, rfl, rfl, List.Pairwise.nil, fun id => rfl, fun x j' p' h _ => absurd h (by simp), hdp, dup, hdu20, ⟨rfl, fun i v x h => by simp at h⟩⟩, hP20, fun c o h _ _ => h⟩
    · rintro i v σ H21 hi ⟨⟨x11, x12, x13, x14, x15, du, ud, js, ps, rfl, hpl21, ljs, lps, ap, cov, hJs, dpl1, dpp, hdu21, Edu⟩, hP21, fr⟩
      obtain ⟨key, hkey, rfl⟩ : ∃ key, rs[i]? = some key ∧ v = .str key := by
        rw [List.getElem?_map] at hi
        cases e : rs[i]? with
        | none => rw [e] at hi; cases hi
        | some z => rw [e] at hi; exact ⟨z, rfl, (Option.some.inj hi).symm⟩
      have hil := (List.getElem?_eq_some_iff.mp hkey).1
      have nmk := hkm _ (hperm.mem_iff.mp (List.mem_of_getElem? hkey))
      have he21 := fr _ _ he20 wep wpl
      have hE21 : Ents H21 us xs := hE20.tk fun tt zs h => fr _ _ h (fun c => by
        obtain ⟨xs0, e0⟩ := hP20.lst'
        rw [c, e0] at h; cases h) (fun c => by rw [c, hpl20] at h; cases h)
      have nlF : NL H20 H21 := fun c o h n => fr _ _ h (fun z => by
        obtain ⟨xs0, e0⟩ := hP20.lst'
        rw [z, e0] at h
        exact n _ (Option.some.inj h).symm) (fun z => by rw [z, hpl20] at h; exact n _ (Option.some.inj h).symm)
      have hJ21 := hJ20.nl nlF
      have lparts : (part key xs).length ≤ xs.length := List.length_filter_le _ _
      refine ⟨_, rfl, _, rfl, we, us, xs, key, rfl, he21, hE21, by omega, fun qo uo HA hqo0 hqo hEo sA => ?_⟩
      have luo := hEo.1
      have luo' : uo.length = (part key xs).length := luo
      refine ⟨_, rfl, qo, rfl, ⟨_, SqL.of hqo⟩, fun qn hqn0 => lc_list (a := qo) (xs := uo) (fun i H5 => H5 qn = some (.lst ((numsOf ((part key xs).take i)).map V.int)) ∧ Same HA H5) ⟨upd_same, sameAt (Same.refl HA) hqn0⟩ (fun i H5 _ hv => SqL.of (hv.2 _ _ hqo)) ?_ ?_⟩
      · rintro i5 v5 H5 hvi ⟨hD5, s5⟩
        have hix : i5 < (part key xs).length := by rw [← luo']; exact (List.getElem?_eq_some_iff.mp hvi).1
        obtain ⟨x, hx⟩ : ∃ x, (part key xs)[i5]? = some x := ⟨_, List.getElem?_eq_getElem hix⟩
        obtain ⟨e, rfl, he, hok⟩ := (hEo.tk (tk_same s5)).2 i5 v5 x hvi hx
        have lf : (numsOf ((part key xs).take i5)).length ≤ 400 := by
          unfold numsOf
          rw [List.length_map]
          exact Nat.le_trans (List.length_filter_le _ _) (by rw [List.length_take]; omega)
        have st : numsOf ((part key xs).take (i5 + 1)) = numsOf ((part key xs).take i5) ++ numsOf [x] := by
          unfold numsOf
          rw [tk1 hx, List.filter_append, List.map_append]
        refine ⟨rfl, ?_⟩
        cases x with
        | row id s k m a r =>
          refine ⟨_, rfl, _, _, _, _, rfl, rfl, SqT.of he, rfl, rfl, _, rfl, iteT ⟨_, rfl, _, _, _, _, rfl, rfl, SqT.of he, rfl, _, hD5, (by rw [List.length_map]; exact small1000 (by omega)), ?_, sameAt s5 hqn0⟩⟩
          rw [upd_same, st, List.map_append]
          rfl
        | fix id m a r =>
          refine ⟨_, rfl, _, _, _, _, rfl, rfl, SqT.of he, rfl, rfl, _, rfl, iteF ⟨?_, s5⟩⟩
          rw [st, show numsOf [Ent.fix id m a r] = [] from rfl, List.append_nil]
          exact hD5
        | gone id r =>
          refine ⟨_, rfl, _, _, _, _, rfl, rfl, SqT.of he, rfl, rfl, _, rfl, iteF ⟨?_, s5⟩⟩
          rw [st, show numsOf [Ent.gone id r] = [] from rfl, List.append_nil]
          exact hD5
      rintro HB ⟨hqnB, sB⟩
      rw [show (part key xs).take uo.length = part key xs by rw [luo', List.take_length]] at hqnB
      have lnum : (numsOf (part key xs)).length ≤ 100 := by
        unfold numsOf
        rw [List.length_map]
        exact Nat.le_trans (List.length_filter_le _ _) (by omega)
      have hPB := hP21.same (sA.trans sB)
      have qnp : qn ≠ p := fun z => (hP21.same sA).ne.1 (z ▸ hqn0)
      have qop : qo ≠ p := fun z => hP21.ne.1 (z ▸ hqo0)
      refine ⟨_, rfl, qn, rfl, ⟨_, SqL.of hqnB⟩, fun ls hls0 => lc_list (a := qn) (xs := (numsOf (part key xs)).map V.int) (fun i H5 => (∃ sm : List Int, H5 ls = some (.lst (sm.map V.int)) ∧ sm.length ≤ i) ∧ PoolAt H5 p s0 ∧ ∀ c o, HB c = some o → c ≠ p → H5 c = some o) ⟨⟨[], upd_same, Nat.le_refl _⟩, hPB.same (sameAt (Same.refl HB) hls0), fun c o h _ => sameAt (Same.refl HB) hls0 _ _ h⟩ (fun i H5 _ hv => SqL.of (hv.2.2 _ _ hqnB qnp)) ?_ ?_⟩
      · rintro i5 v5 H5 hvi ⟨⟨sm, hs5, lsm⟩, hP5, f5⟩
        obtain ⟨id, hid, rfl⟩ : ∃ id, (numsOf (part key xs))[i5]? = some id ∧ v5 = V.int id := by
          rw [List.getElem?_map] at hvi
          cases e : (numsOf (part key xs))[i5]? with
          | none => rw [e] at hvi; cases hvi
          | some z => rw [e] at hvi; exact ⟨z, rfl, (Option.some.inj hvi).symm⟩
        have hil5 := (List.getElem?_eq_some_iff.mp hid).1
        have lsp : ls ≠ p ∧ ls ≠ s0 := ⟨fun z => hPB.ne.1 (z ▸ hls0), fun z => hPB.ne.2 (z ▸ hls0)⟩
        refine ⟨rfl, _, rfl, p, s0, 2, rfl, hP5, (by decide), (by decide), fun u H6 u0 u2 P6 => ⟨rfl, _, rfl, ?_⟩⟩
        have hs6 := P6.keep hs5 lsp.1
        refine ite2 (fun c => ?_) (fun c => ?_)
        · refine ⟨_, rfl, _, hs6, (by rw [List.length_map]; exact small1000 (by omega)), ⟨sm ++ [id], ?_, by rw [List.length_append]; exact Nat.succ_le_succ lsm⟩, P6.now.off lsp.1 lsp.2, fun c o h n => ?_⟩
          · rw [upd_same, List.map_append]
            rfl
          · rw [upd_ne (fun z => by rw [z, hls0] at h; cases h)]
            exact P6.keep (f5 _ _ h n) n
        · exact ⟨⟨sm, hs6, by omega⟩, P6.now, fun c o h n => P6.keep (f5 _ _ h n) n⟩
      rintro HC ⟨⟨sm, hsC, lsm⟩, hPC, fC⟩
      rw [List.length_map] at lsm
      have hqnC := fC _ _ hqnB qnp
      have hqoC := fC _ _ (sB _ _ hqo) qop
      refine ⟨_, rfl, _, rfl, qn, rfl, ⟨_, SqL.of hqnC⟩, fun lt hlt0 => lc_list (a := qn) (xs := (numsOf (part key xs)).map V.int) (fun i H5 => H5 lt = some (.lst ((((numsOf (part key xs)).take i).filter fun n => !decide (n ∈ sm)).map V.int)) ∧ Same HC H5) ⟨upd_same, sameAt (Same.refl HC) hlt0⟩ (fun i H5 _ hv => SqL.of (hv.2 _ _ hqnC)) ?_ ?_⟩
      · rintro i5 v5 H5 hvi ⟨hD5, s5⟩
        obtain ⟨id, hid, rfl⟩ : ∃ id, (numsOf (part key xs))[i5]? = some id ∧ v5 = V.int id := by
          rw [List.getElem?_map] at hvi
          cases e : (numsOf (part key xs))[i5]? with
          | none => rw [e] at hvi; cases hvi
          | some z => rw [e] at hvi; exact ⟨z, rfl, (Option.some.inj hvi).symm⟩
        have lf : (((numsOf (part key xs)).take i5).filter fun n => !decide (n ∈ sm)).length ≤ 100 := Nat.le_trans (List.length_filter_le _ _) (by rw [List.length_take]; omega)
        refine ⟨rfl, _, rfl, _, rfl, ls, _, rfl, .inl (SqL.of (s5 _ _ hsC)), rfl, flat_ints sm, _, rfl, ?_⟩
        rw [inV_int, tk1 hid, List.filter_append, List.map_append]
        refine ite2 (fun c => ?_) (fun c => ?_)
        · refine ⟨_, rfl, _, hD5, (by rw [List.length_map]; exact small1000 (by omega)), ?_, sameAt s5 hlt0⟩
          have c : (!decide (id ∈ sm)) = true := c
          rw [upd_same, show [id].filter (fun n => !decide (n ∈ sm)) = [id] by rw [List.filter_cons, if_pos c]; rfl]
          rfl
        · refine ⟨?_, s5⟩
          have c : ¬ (!decide (id ∈ sm)) = true := c
          rw [show [id].filter (fun n => !decide (n ∈ sm)) = [] by rw [List.filter_cons, if_neg c]; rfl, List.map_nil, List.append_nil]
          exact hD5
      rintro HD ⟨hltD, sD⟩
      rw [List.length_map, List.take_length] at hltD
      refine ⟨(by show 2 ≤ sizeLine; decide), fun lo hlo0 => ⟨lo, rfl, ⟨_, SqL.of upd_same⟩, ?_⟩⟩
      have sE := sD.trans (sameAt (Same.refl HD) hlo0 (o := .lst [.ref ls, .ref lt]))
      have hltE : (upd HD lo (.lst [.ref ls, .ref lt])) lt = _ := sameAt (Same.refl HD) hlo0 _ _ hltD
      have hloE : (upd HD lo (.lst [.ref ls, .ref lt])) lo = some (.lst [.ref ls, .ref lt]) := upd_same
      generalize (upd HD lo (.lst [.ref ls, .ref lt])) = HE at sE hltE hloE ⊢
      have fE : ∀ c o, H21 c = some o → c ≠ p → HE c = some o := fun c o h n => sE _ _ (fC _ _ (sB _ _ (sA _ _ h)) n)
      have nlE : NL H21 HE := fun c o h n => fE _ _ h (fun z => by
        obtain ⟨xs0, e0⟩ := hP21.lst'
        rw [z, e0] at h
        exact n _ (Option.some.inj h).symm)
      have hplE := fE _ _ hpl21 plp.1
      have hduE := fE _ _ hdu21 dpp
      have EduE := Edu.tk nlE.tk
      have hqoE := sE _ _ hqoC
      have hEoE : Ents HE uo (part key xs) := hEo.tk fun tt zs h => sE _ _ (fC _ _ (sB _ _ h) (fun c => by
        obtain ⟨xs0, e0⟩ := (hP21.same sA).lst'
        rw [c, e0] at h; cases h))
      have hJE := hJ21.nl nlE
      have hlsE := sE _ _ hsC
      have hPE := hPC.same sE
      have hJsE : ∀ (x : Nat) j' p', js[x]? = some j' → ps[x]? = some p' → ∃ u, JAt K aT CJ CB HE j' b L u (zOf xs p') := fun x j' p' h1 h2 => by
        obtain ⟨u, h⟩ := hJs x j' p' h1 h2
        exact ⟨u, h.nl nlE⟩
      have hki3 : i < 3 := by omega
      have qopl : qo ≠ pl := fun z => by rw [z, hpl21] at hqo0; cases hqo0
      have qnpl : ls ≠ pl := fun z => by rw [z] at hls0; rw [sB _ _ (sA _ _ hpl21)] at hls0; cases hls0
      have ltpl : lt ≠ pl := fun z => by rw [z] at hlt0; rw [fC _ _ (sB _ _ (sA _ _ hpl21)) plp.1] at hlt0; cases hlt0
      have lopl : lo ≠ pl := fun z => by rw [z] at hlo0; rw [sD _ _ (fC _ _ (sB _ _ (sA _ _ hpl21)) plp.1)] at hlo0; cases hlo0
      clear hqnC hqnB hqn0 hls0 hlt0 hlo0 hqo0 hltD hqoC hsC hPC hPB hEo hqo hJ21 hE21 he21 hpl21 hdu21 Edu
      have lth : ((numsOf (part key xs)).filter fun n => !decide (n ∈ sm)).length ≤ 100 := Nat.le_trans (List.length_filter_le _ _) lnum
      generalize hoth : ((numsOf (part key xs)).filter fun n => !decide (n ∈ sm)) = oth at hltE lth
      have outs : ∀ (i2 : Nat) v, [V.ref ls, V.ref lt][i2]? = some v → ∃ lq ids, v = .ref lq ∧ HE lq = some (.lst (ids.map V.int)) ∧ ids.length ≤ 100 ∧ lq ≠ pl ∧ [pA key xs sm, pA key xs oth][i2]? = some (pA key xs ids) := fun i2 v h => by
        match i2, h with
        | 0, h => cases h; exact ⟨ls, sm, rfl, hlsE, by omega, qnpl, rfl⟩
        | 1, h => cases h; exact ⟨lt, oth, rfl, hltE, lth, ltpl, rfl⟩
        | n + 2, h => exact absurd h (by simp)
      have dkey : ∀ id, ownP key xs id = true → anyP ps id = false := fun id h => by
        rw [cov]
        cases e : (rs.take i).any fun k => ownP k xs id with
        | false => rfl
        | true =>
          obtain ⟨k, hk, hk2⟩ := List.any_eq_true.mp e
          have ek := GX.one h hk2
          subst ek
          obtain ⟨jx, hjx⟩ := List.getElem?_of_mem hk
          rw [List.getElem?_take] at hjx
          split at hjx
          · next c =>
            have := (List.getElem?_inj (by omega) rsn).mp (hjx.trans hkey.symm)
            omega
          · cases hjx
      have ap2 : Apart (ps ++ [pA key xs sm, pA key xs oth]) := by
        rw [← hoth]
        exact apart_two ap dkey
      refine for_list (K := K) (a := lo) (xs := [.ref ls, .ref lt]) (fun i2 σ H' => (∃ (x15 : Option V) (du : Addr) (ud : List V) (js2 : List Addr), σ = [some (.ref a), some (.ref p), some (.ref dl), some (.ref dk), some (.ref w0), some (.int a0), x6, some (.ref we), some (.ref j), some (.ref du), some (.ref pl), some (.str key), some (.ref qo), some (.ref qn), some (.ref ls), x15, none, none, none, none, none] ∧ H' pl = some (.lst (js2.map V.ref)) ∧ js2.length = ps.length + i2 ∧ (∀ (x : Nat) j' p', js2[x]? = some j' → (ps ++ [pA key xs sm, pA key xs oth].take i2)[x]? = some p' → ∃ u, JAt K aT CJ CB H' j' b L u (zOf xs p')) ∧ du ≠ pl ∧ du ≠ p ∧ H' du = some (.lst ud) ∧ Ents H' ud (mrgs ((ps ++ [pA key xs sm, pA key xs oth].take i2).map (zOf xs)))) ∧ But pl HE H') ?_ (fun i σ H' _ hv => SqL.of (hv.2 _ _ hloE lopl)) ?_ ?_
      · refine ⟨⟨_, du, ud, js, rfl, hplE, by omega, ?_, dpl1, dpp, hduE, ?_⟩, But.refl _ _⟩
        · rw [List.take_zero, List.append_nil]
          exact hJsE
        · rw [List.take_zero, List.append_nil]
          exact EduE
      · rintro i2 v σ HF hi2 ⟨⟨y15, du2, ud2, js2, rfl, hplF, ljs2, hJsF, dpl2, dpp2, hduF, EduF⟩, bF⟩
        obtain ⟨lq, ids, rfl, hlqE, lids, lqpl, hpi⟩ := outs i2 v hi2
        have hi22 : i2 < 2 := (List.getElem?_eq_some_iff.mp hi2).1
        have nlF2 : NL HE HF := fun c o h n => bF _ _ h (fun z => by rw [z, hplE] at h; exact n _ (Option.some.inj h).symm)
        have hJF := hJE.nl nlF2
        obtain ⟨djF, tjF, kjF, ejF⟩ := hJF.ins
        refine ⟨_, rfl, .inl ⟨rfl, _, SqL.of hplF⟩, _, rfl, j, djF, _, rfl, ejF, jf_no _ _ _ (by decide +kernel) (by decide +kernel) (by decide +kernel), _, rfl, j, b, L, _, _, key, rfl, hJF, by omega, nmk, fun u1 j1 HG sG J1 _ => ?_⟩
        obtain ⟨d1, t1, k1, e1⟩ := J1.ins
        have lj1 := J1.len
        refine ⟨j1, d1, _, rfl, e1, jf_no _ _ _ (by decide +kernel) (by decide +kernel) (by decide +kernel), _, rfl, j1, b, lq, L, u1, _, ids, rfl, J1, by omega, SqL.of (sG _ _ (bF _ _ hlqE lqpl)), by omega, fun u2 j2 HH sH J2 => ?_⟩
        rw [show ((xs.filter fun e => ownP key xs e.id).filter fun e => !decide (e.id ∈ ids)) = zOf xs (pA key xs ids) from pA_z key xs ids] at J2
        have sGH := sG.trans sH
        have hplH := sGH _ _ hplF
        refine ⟨pl, _, _, rfl, rfl, hplH, (by rw [List.length_map]; exact small1000 (by omega)), ?_⟩
        have nlH : NL HH (upd HH pl (.lst (js2.map V.ref ++ [.ref j2]))) := fun c u hc hn => by
          rw [upd_ne (fun z => by rw [z, hplH] at hc; exact hn _ (Option.some.inj hc).symm)]
          exact hc
        have kH : ∀ c o, HF c = some o → c ≠ pl → (upd HH pl (.lst (js2.map V.ref ++ [.ref j2]))) c = some o := fun c o h n => by rw [upd_ne n]; exact sGH _ _ h
        have hplI : (upd HH pl (.lst (js2.map V.ref ++ [.ref j2]))) pl = some (.lst ((js2 ++ [j2]).map V.ref)) := by rw [upd_same, List.map_append]; rfl
        have J2I := J2.nl nlH
        have tkI : TK HF (upd HH pl (.lst (js2.map V.ref ++ [.ref j2]))) := fun tt zs h => nlH.tk _ _ (sGH _ _ h)
        have nlFI : NL HF (upd HH pl (.lst (js2.map V.ref ++ [.ref j2]))) := fun c o h n => nlH _ _ (sGH _ _ h) n
        generalize (upd HH pl (.lst (js2.map V.ref ++ [.ref j2]))) = HI at nlH kH hplI J2I tkI nlFI ⊢
        have hqoI := kH _ _ (bF _ _ hqoE qopl) qopl
        have hEoI : Ents HI uo (part key xs) := (hEoE.tk nlF2.tk).tk tkI
        have hduI := kH _ _ hduF dpl2
        have EduI := EduF.tk tkI
        have hlqI := kH _ _ (bF _ _ hlqE lqpl) lqpl
        refine ⟨_, rfl, _, rfl, qo, rfl, ⟨_, SqL.of hqoI⟩, fun lz hlz0 => lc_list (a := qo) (xs := uo) (fun i H5 => H5 lz = some (.lst (fl2 (fun e => !decide (e.id ∈ ids)) (uo.take i) ((part key xs).take i))) ∧ Same HI H5) ⟨upd_same, sameAt (Same.refl HI) hlz0⟩ (fun i H5 _ hv => SqL.of (hv.2 _ _ hqoI)) ?_ ?_⟩
        · rintro i5 v5 H5 hvi ⟨hD5, s5⟩
          have hix : i5 < (part key xs).length := by rw [← luo']; exact (List.getElem?_eq_some_iff.mp hvi).1
          obtain ⟨x, hx⟩ : ∃ x, (part key xs)[i5]? = some x := ⟨_, List.getElem?_eq_getElem hix⟩
          obtain ⟨e, rfl, he, hok⟩ := (hEoI.tk (tk_same s5)).2 i5 v5 x hvi hx
          have q4 := fl2_step (P := fun e => !decide (e.id ∈ ids)) hvi hx
          have lf := (fl2_le (P := fun e => !decide (e.id ∈ ids)) (us := uo.take i5) (xs := (part key xs).take i5))
          rw [List.length_take] at lf
          refine ⟨rfl, _, rfl, _, _, _, _, rfl, rfl, SqT.of he, ent_at1 x, _, rfl, lq, _, rfl, .inl (SqL.of (s5 _ _ hlqI)), rfl, flat_ints ids, _, rfl, ?_⟩
          rw [inV_int]
          refine ite2 (fun c => ?_) (fun c => ?_)
          · have c : (!decide (x.id ∈ ids)) = true := c
            refine ⟨_, rfl, _, hD5, small1000 (by omega), ?_, sameAt s5 hlz0⟩
            rw [upd_same, q4, if_pos c]
          · have c : ¬ (!decide (x.id ∈ ids)) = true := c
            refine ⟨?_, s5⟩
            rw [q4, if_neg c, List.append_nil]
            exact hD5
        rintro HJ ⟨hlzJ, sJ⟩
        rw [List.take_length, show (part key xs).take uo.length = part key xs by rw [luo', List.take_length]] at hlzJ
        have hEz := (fl2_es (K := K) (P := fun e => !decide (e.id ∈ ids)) (ThEs.of (K := K) (hEoI.tk (tk_same sJ)))).to
        rw [pA_z key xs ids] at hEz
        have lz1 : (zOf xs (pA key xs ids)).length ≤ xs.length := List.length_filter_le _ _
        have lm1 := mrgs_len xs (ps ++ [pA key xs sm, pA key xs oth].take i2)
        have lm2 : (ps ++ [pA key xs sm, pA key xs oth].take i2).length ≤ 6 := by
          rw [List.length_append, List.length_take]
          show ps.length + min i2 2 ≤ 6
          omega
        have lm3 : (ps ++ [pA key xs sm, pA key xs oth].take i2).length * xs.length ≤ 6 * 16 := Nat.mul_le_mul lm2 hx16
        refine ⟨du2, lz, ud2, _, _, _, rfl, sJ _ _ hduI, EduI.tk (tk_same sJ), hlzJ, hEz, by omega, by omega, fun pd yd HK hpd0 hpd Ed sK => ?_⟩
        have hti : [pA key xs sm, pA key xs oth].take (i2 + 1) = [pA key xs sm, pA key xs oth].take i2 ++ [pA key xs ids] := tk1 hpi
        have sJK := sJ.trans sK
        have lt2 : ([pA key xs sm, pA key xs oth].take i2).length = i2 := by
          rw [List.length_take]
          show min i2 2 = i2
          omega
        refine ⟨⟨_, pd, yd, js2 ++ [j2], rfl, sJK _ _ hplI, ?_, fun x j' p' h1 h2 => ?_, fun z => ?_, fun z => ?_, hpd, ?_⟩, fun c o h n => sJK _ _ (kH _ _ (bF _ _ h n) n)⟩
        · rw [List.length_append]
          show js2.length + 1 = _
          omega
        · rw [hti, ← List.append_assoc] at h2
          by_cases c : x < js2.length
          · rw [List.getElem?_append_left c] at h1
            rw [List.getElem?_append_left (by rw [List.length_append, lt2]; omega)] at h2
            obtain ⟨u, h⟩ := hJsF x j' p' h1 h2
            exact ⟨u, (h.nl nlFI).same sJK⟩
          · have hx := (List.getElem?_eq_some_iff.mp h1).1
            rw [List.length_append] at hx
            have hx : x < js2.length + 1 := hx
            have ex : x = js2.length := by omega
            subst ex
            rw [List.getElem?_append_right (Nat.le_refl _), Nat.sub_self] at h1
            rw [List.getElem?_append_right (by rw [List.length_append, lt2]; omega), show js2.length - (ps ++ [pA key xs sm, pA key xs oth].take i2).length = 0 by rw [List.length_append, lt2]; omega] at h2
            cases h1
            cases h2
            exact ⟨_, J2I.same sJK⟩
        · rw [z, sJ _ _ hplI] at hpd0
          cases hpd0
        · obtain ⟨xs0, e0⟩ := hP20.lst'
          have := (hPE.but bF plp.1 plp.2).lst'
          obtain ⟨xs1, e1'⟩ := this
          have e2 := sJ _ _ (kH _ _ e1' (Ne.symm plp.1))
          rw [z, e2] at hpd0
          cases hpd0
        · rw [hti, ← List.append_assoc, List.map_append, List.map_singleton, mrgs_snoc]
          exact Ed
      · rintro σ HF ⟨⟨y15, du2, ud2, js2, rfl, hplF, ljs2, hJsF, dpl2, dpp2, hduF, EduF⟩, bF⟩
        have e2 : [pA key xs sm, pA key xs oth].take [V.ref ls, V.ref lt].length = [pA key xs sm, pA key xs oth] := rfl
        rw [e2] at hJsF EduF
        refine ⟨⟨_, _, _, _, _, du2, ud2, js2, ps ++ [pA key xs sm, pA key xs oth], rfl, hplF, ?_, ?_, ap2, fun id => ?_, hJsF, dpl2, dpp2, hduF, EduF⟩, hPE.but bF plp.1 plp.2, fun c o h n1 n2 => bF _ _ (fE _ _ (fr _ _ h n1 n2) n1) n2⟩
        · rw [List.length_append]
          exact ljs2
        · rw [List.length_append]
          show ps.length + 2 = 2 * (i + 1)
          omega
        · rw [anyP_app, cov, tk1 hkey, List.any_append]
          have : anyP [pA key xs sm, pA key xs oth] id = ownP key xs id := by
            rw [← hoth]
            show (pA key xs sm id || (pA key xs _ id || false)) = _
            rw [Bool.or_false]
            exact pA_all
          rw [this]
          show _ = (_ || (ownP key xs id || false))
          rw [Bool.or_false]
    rintro σ H21 ⟨⟨x11, x12, x13, x14, x15, du, ud, js, ps, rfl, hpl21, ljs, lps, ap, cov, hJs, dpl1, dpp, hdu21, Edu⟩, hP21, fr⟩
    rw [List.length_map] at lps
    rw [List.length_map, List.take_length] at cov
    have nlF : NL H20 H21 := fun c o h n => fr _ _ h (fun z => by
      obtain ⟨xs0, e0⟩ := hP20.lst'
      rw [z, e0] at h
      exact n _ (Option.some.inj h).symm) (fun z => by rw [z, hpl20] at h; exact n _ (Option.some.inj h).symm)
    have hJ21 := hJ20.nl nlF
    have he21 := fr _ _ he20 wep wpl
    have hE21 : Ents H21 us xs := hE20.tk nlF.tk
    have hk21 := fr _ _ hk20 kp kpl
    have hdl21 := fr _ _ hdl20 dlp dpl
    have hp1 : 1 ≤ ps.length := by omega
    have hp6 : ps.length ≤ 6 := by omega
    have MK := mk_mrgs GX ps ap
    have hsame : ∀ id, ((mrgs (ps.map (zOf xs))).filter fun e => decide (e.id = id)) = xs.filter fun e => decide (e.id = id) := fun id => by
      rw [MK.at_]
      by_cases c : anyP ps id = true
      · rw [if_pos c]
      · rw [if_neg c]
        refine (nil_of fun x hx => c ?_).symm
        obtain ⟨hx1, hx2⟩ := List.mem_filter.mp hx
        obtain ⟨z, k, m, am, r, hrow⟩ := GX.has hx1
        have e := of_decide_eq_true hx2
        rw [cov, List.any_eq_true]
        exact ⟨k, hperm.mem_iff.mpr (hki _ hrow _ _ _ _ _ _ rfl), own_iff.mpr ⟨z, m, am, r, by rw [← e]; exact hrow⟩⟩
    have lz : ∀ zs ∈ ps.map (zOf xs), zs.length ≤ 16 := fun zs h => by
      obtain ⟨q, _, rfl⟩ := List.mem_map.mp h
      exact Nat.le_trans (List.length_filter_le _ _) hx16
    have hWk : ∀ k, k ≤ (ps.map (zOf xs)).length → (wk L ((mrgs ((ps.map (zOf xs)).take k)).map some) 0 (fun _ => none) none).1 = none ∧ (mrgs ((ps.map (zOf xs)).take k)).length ≤ 100 := fun k hk => by
      rw [← List.map_take]
      refine ⟨(mk_mrgs GX (ps.take k) (List.Pairwise.sublist (List.take_sublist _ _) ap)).good, ?_⟩
      have h1 := mrgs_len xs (ps.take k)
      have h2 : (ps.take k).length * xs.length ≤ 6 * 16 := Nat.mul_le_mul (by rw [List.length_take]; omega) hx16
      omega
    have lzm : (ps.map (zOf xs)).length = ps.length := List.length_map _
    have hJz : ∀ (i : Nat) j' zs, js[i]? = some j' → (ps.map (zOf xs))[i]? = some zs → ∃ u, JAt K aT CJ CB H21 j' b L u zs := fun i j' zs h1 h2 => by
      rw [List.getElem?_map] at h2
      cases e : ps[i]? with
      | none => rw [e] at h2; cases h2
      | some q =>
        rw [e] at h2
        cases h2
        exact hJs i j' q h1 e
    clear nlF hJ20 he20 hE20 hk20 hdl20 hdu20 hpl20 hJs cov rsn rsl hperm hrq fr
    generalize hzss : ps.map (zOf xs) = zss at hWk lzm hJz lz Edu MK hsame
    obtain ⟨j0, hj0⟩ : ∃ j0, js[0]? = some j0 := ⟨_, List.getElem?_eq_getElem (by omega)⟩
    obtain ⟨z0, hz0⟩ : ∃ z0, zss[0]? = some z0 := ⟨_, List.getElem?_eq_getElem (by omega)⟩
    obtain ⟨u0', hJ0⟩ := hJz 0 j0 z0 hj0 hz0
    refine ⟨_, rfl, _, _, _, .ref j0, rfl, rfl, SqL.of hpl21, (atI_nat (j := 0) (by rw [List.getElem?_map, hj0]; rfl)), ?_⟩
    refine ⟨_, rfl, _, rfl, pl, _, rfl, SqL.of hpl21, fun qj hqj => ⟨qj, rfl, ⟨_, SqL.of upd_same⟩, ?_⟩⟩
    rw [cut1]
    have s3 := sameAt (Same.refl H21) hqj (o := .lst ((js.map V.ref).drop 1))
    have hq3 : (upd H21 qj (.lst ((js.map V.ref).drop 1))) qj = some (.lst ((js.map V.ref).drop 1)) := upd_same
    generalize (upd H21 qj (.lst ((js.map V.ref).drop 1))) = H3 at s3 hq3 ⊢
    refine for_list (K := K) (a := qj) (xs := (js.map V.ref).drop 1) (fun i σ H' => (∃ (x17 : Option V) (jn : Addr), σ = [some (.ref a), some (.ref p), some (.ref dl), some (.ref dk), some (.ref w0), some (.int a0), x6, some (.ref we), some (.ref j), some (.ref du), some (.ref pl), x11, x12, x13, x14, x15, some (.ref jn), x17, none, none, none] ∧ ∃ un, JAt K aT CJ CB H' jn b L un (mrgs (zss.take (i + 1)))) ∧ Same H3 H') ?_ (fun i σ H' _ hv => SqL.of (hv.2 _ _ hq3)) ?_ ?_
    · refine ⟨⟨_, j0, rfl, u0', ?_⟩, Same.refl _⟩
      rw [tk1 hz0, mrgs_snoc]
      show JAt _ _ _ _ _ _ _ _ _ (mrg (mrgs (zss.take 0)) z0)
      rw [List.take_zero, show mrgs [] = [] from rfl, mrg_nil]
      exact hJ0.same s3
    · rintro i v σ H4 hvi ⟨⟨x17, jn, rfl, un, Jn⟩, s4⟩
      rw [List.getElem?_drop, List.getElem?_map] at hvi
      obtain ⟨jq, hj, rfl⟩ : ∃ jq, js[1 + i]? = some jq ∧ v = .ref jq := by
        cases e : js[1 + i]? with
        | none => rw [e] at hvi; cases hvi
        | some z => rw [e] at hvi; exact ⟨z, rfl, (Option.some.inj hvi).symm⟩
      have hil := (List.getElem?_eq_some_iff.mp hj).1
      obtain ⟨zs, hzs⟩ : ∃ zs, zss[1 + i]? = some zs := ⟨_, List.getElem?_eq_getElem (by omega)⟩
      obtain ⟨uj, hJj⟩ := hJz (1 + i) jq zs hj hzs
      have Jp := hJj.same (s3.trans s4)
      obtain ⟨dxn, tn, kn, en⟩ := Jn.ins
      obtain ⟨dxp, tp, kp', ep⟩ := Jp.ins
      have lun := Jn.len
      have lup := Jp.len
      have w1 := (hWk (i + 1) (by omega)).2
      have w2 := lz zs (List.mem_of_getElem? hzs)
      have et : zss.take (i + 1 + 1) = zss.take (i + 1) ++ [zs] := tk1 (by rw [← hzs, Nat.add_comm])
      have w3 := hWk (i + 1 + 1) (by omega)
      rw [et, mrgs_snoc] at w3
      refine ⟨_, rfl, _, rfl, jn, jq, dxn, dxp, _, _, rfl, rfl, en, ep, jn, jq, b, L, un, uj, _, zs, rfl, Jn, Jp, by omega, by omega, fun j' us' H5 hl hw s5 J5 => ?_, fun i0 d H5 hw _ _ => ?_, fun d H5 hl _ _ _ => ?_⟩
      · refine ⟨⟨_, j', rfl, us', ?_⟩, s4.trans s5⟩
        rw [et, mrgs_snoc]
        exact J5
      · rw [List.take_of_length_le (by omega), w3.1] at hw
        cases hw
      · omega
    rintro σ H4 ⟨⟨x17, jn, rfl, un, Jn⟩, s4⟩
    rw [List.length_drop, List.length_map, show js.length - 1 + 1 = zss.length by omega, List.take_length] at Jn
    have s34 := s3.trans s4
    have hpl4 := s34 _ _ hpl21
    refine ⟨_, rfl, _, rfl, pl, _, rfl, .inl ⟨SqL.of hpl4, fun tp htp => ⟨(by show 2 ≤ sizeLine; decide), fun ld hld => ?_⟩⟩⟩
    have s5 := (sameAt (Same.refl H4) htp (o := .tup (js.map V.ref))).trans (sameAt (Same.refl _) hld (o := .lst [.ref pl, .ref tp]))
    have hld5 : (upd (upd H4 tp (.tup (js.map V.ref))) ld (.lst [.ref pl, .ref tp])) ld = some (.lst [.ref pl, .ref tp]) := upd_same
    have htp5 : (upd (upd H4 tp (.tup (js.map V.ref))) ld (.lst [.ref pl, .ref tp])) tp = some (.tup (js.map V.ref)) := by
      rw [upd_ne (fun z => by rw [← z, upd_same] at hld; cases hld), upd_same]
    generalize (upd (upd H4 tp (.tup (js.map V.ref))) ld (.lst [.ref pl, .ref tp])) = H5 at s5 hld5 htp5 ⊢
    have s25 := s34.trans s5
    have hP5 := hP21.same s25
    refine ⟨_, rfl, p, s0, 2, rfl, hP5, (by decide), (by decide), fun g H6 g0 g2 P6 => ?_⟩
    have ldp : ld ≠ p := fun z => by
      obtain ⟨xs0, e0⟩ := hP21.lst'
      have e1 := s34 _ _ e0
      have e2 := sameAt (Same.refl H4) htp (o := .tup (js.map V.ref)) _ _ e1
      rw [z, e2] at hld
      cases hld
    have nl6 := P6.nl hP5
    have hpl6 := P6.keep (s25 _ _ hpl21) plp.1
    have htp6 := nl6 _ _ htp5 (fun _ z => nomatch z)
    obtain ⟨v6, hv6, hx6⟩ : ∃ v6 : Addr, atI [V.ref pl, V.ref tp] g = some (.ref v6) ∧ (H6 v6 = some (.lst (js.map V.ref)) ∨ H6 v6 = some (.tup (js.map V.ref))) := by
      have : g = 0 ∨ g = 1 := by omega
      rcases this with rfl | rfl
      · exact ⟨pl, rfl, .inl hpl6⟩
      · exact ⟨tp, rfl, .inr htp6⟩
    refine ⟨_, _, _, .ref v6, rfl, rfl, SqL.of (P6.keep hld5 ldp), hv6, ?_⟩
    have nl26 : NL H21 H6 := fun c o h n => nl6 _ _ (s25 _ _ h) n
    refine ⟨v6, b, L, js, zss, rfl, hx6, by omega, by omega, by omega, fun i j' zs h1 h2 => ?_, hWk, fun zs hz => by have := lz zs hz; omega, fun jt ut H7 s7 Jt => ?_⟩
    · obtain ⟨u, h⟩ := hJz i j' zs h1 h2
      exact ⟨u, h.nl nl26⟩
    have Jn7 := (((Jn.same s5).nl nl6).same s7)
    have hJ7 := (hJ21.nl nl26).same s7
    have hE7 := (hE21.tk nl26.tk).tk (tk_same s7)
    have he7 := s7 _ _ (P6.keep (s25 _ _ he21) wep)
    have hk7 := s7 _ _ (P6.keep (s25 _ _ hk21) kp)
    have hdl7 := s7 _ _ (P6.dk hP5 (s25 _ _ hdl21))
    have hdu7 := s7 _ _ (P6.keep (s25 _ _ hdu21) dpp)
    have Edu7 := (Edu.tk nl26.tk).tk (tk_same s7)
    have hP7 := P6.now.same s7
    clear nl26 nl6 P6 s25 hP5 hpl6 htp6 hx6 hv6 hld5 htp5 s5 hld htp hpl4 s34 s4 hq3 s3 Jn hJ21 hE21 he21 hk21 hdl21 hdu21 Edu hP21 hpl21
    obtain ⟨dxt, tt, kt, et⟩ := Jt.ins
    obtain ⟨_, _, _, pt, _, p3, _⟩ := id Jt
    have lut := Jt.len
    have lmz := (hWk zss.length (by omega)).2
    rw [List.take_length] at lmz
    have Et := Jt.es.1
    refine ⟨_, rfl, jt, CJ, _, _, _, rfl, pt, T.cl, T.nE, jf_e _ _ _, _, ut, rfl, .inr p3, fun lq hlq => ?_⟩
    have s8 := sameAt (Same.refl H7) hlq (o := .lst ut)
    have hlq8 : (upd H7 lq (.lst ut)) lq = some (.lst ut) := upd_same
    generalize (upd H7 lq (.lst ut)) = H8 at s8 hlq8 ⊢
    have Et8 := Et.same s8
    refine ⟨_, rfl, _, _, .lst (SqL.of hlq8) Et8.dp, .lst (SqL.of (s8 _ _ hdu7)) (ThEs.of (K := K) (Edu7.tk (tk_same s8))).dp, pds_l Et8.ok, pds_l Et8.ok, _, rfl, ?_⟩
    rw [eqv_self (pds_l Et8.ok)]
    refine iteF ?_
    obtain ⟨dxn, tn, kn, en⟩ := Jn7.ins
    refine ⟨_, rfl, _, rfl, ⟨jt, jn, _, _, _, _, rfl, rfl, s8 _ _ et, s8 _ _ en, b, L, _, _, _, Jt.same s8, Jn7.same s8⟩, fun H9 x9 => ⟨_, rfl, iteF ?_⟩⟩
    have s9 : Same H8 H9 := fun c o h => x9 c o h
    have s79 := s8.trans s9
    obtain ⟨_, _, _, pt9, _, p39, _⟩ := id (Jt.same s79)
    refine ⟨_, rfl, jt, CJ, _, _, _, rfl, pt9, T.cl, T.nB, jf_b _ _ _, _, rfl, fun b2 dxb nb ndb neb => ⟨b2, dxb, dl, L, rfl, upd_same, ?_, LL, fun HA hB kB => ⟨rfl, ?_⟩⟩⟩
    · exact (mk_same nb ndb (fun c o h n => h)) _ _ (s79 _ _ hdl7)
    have sA : Same H9 HA := mk_same nb ndb kB
    have s7A := s79.trans sA
    have hbA := (hJ7.same s7A).bk
    obtain ⟨bx1, bd1, bL1, bb1, bb2, _⟩ := id hbA
    obtain ⟨bx2, bd2, bL2, bb3, bb4, _⟩ := id hB
    refine ⟨⟨b, b2, _, _, _, _, rfl, rfl, bb1, bb3, L, L, hbA, hB, fun _ => rfl⟩, fun HB xB => ⟨_, rfl, iteF ?_⟩⟩
    have sB : Same HA HB := fun c o h => xB c o h
    have s7B := s7A.trans sB
    have D8 : Bs HB p s0 dl dk L kys := ⟨hP7.same s7B, s7B _ _ hdl7, LL, s7B _ _ hk7, by omega, by omega, hkm⟩
    refine ⟨_, rfl, _, rfl, _, rfl, _, rfl, jt, we, b, dl, dk, p, s0, L, kys, ut, us, xs, mrgs zss, rfl, Jt.same s7B, by omega, s7B _ _ he7, hE7.tk (tk_same s7B), by omega, GX, hsame, D8, fun HC sC => ⟨_, rfl, iteT ?_⟩⟩
    have s7C := s7B.trans sC
    obtain ⟨_, _, _, pj, _, p3j, _⟩ := id (hJ7.same s7C)
    have Ej := (hJ7.same s7C).es.1
    refine ⟨_, rfl, j, CJ, _, _, _, rfl, pj, T.cl, T.nE, jf_e _ _ _, _, us, rfl, .inr p3j, fun lw hlw => ?_⟩
    have sD := sameAt (Same.refl HC) hlw (o := .lst us)
    have EjD := Ej.same sD
    refine ⟨_, rfl, _, _, .lst (SqL.of upd_same) EjD.dp, .lst (SqL.of (sD _ _ (s7C _ _ he7))) (ThEs.of (K := K) (hE7.tk (tk_same (s7C.trans sD)))).dp, pds_l EjD.ok, pds_l EjD.ok, ?_⟩
    rw [eqv_self (pds_l EjD.ok)]
    exact q _
end
end Ash

set_option Elab.async false
set_option linter.all false
set_option maxRecDepth 100000
set_option maxHeartbeats 4000000
namespace Ash
open PySem PySem.Spec PyProof.Rows L2
/-! ### what the top has written -/
/-- a def of the top -/
structure D1 (K : PySem.W.Frag) (mg : Str → Option Value) (x : Str) (st : Stmt) : Prop where
  ex : ∃ (f : Addr) (fd : FuncData), mg x = some (.ref f) ∧ Fun K x x st f fd
/-- a method -/
structure DM (K : PySem.W.Frag) (C : Addr) (m qual : Str) (st : Stmt) : Prop where
  ex : ∃ (f : Addr) (fd : FuncData), Meth K C m f ∧ Fun K m qual st f fd
/-- a method at a known place -/
structure DQ (K : PySem.W.Frag) (C f : Addr) (m qual : Str) (st : Stmt) : Prop where
  ex : ∃ fd : FuncData, Meth K C m f ∧ Fun K m qual st f fd
/-- an __init__ with one default -/
structure DD (K : PySem.W.Frag) (C a : Addr) (qual : Str) (st : Stmt) : Prop where
  ex : ∃ (f : Addr) (fd : FuncData), Mk K C f ∧ FunD K "__init__" qual (defArgs st) (defBody st) (defScope st) [.ref a] [] f fd
section
variable {K : PySem.W.Frag} {h : Heap} {mg : Str → Option Value} {x qual : Str} {st : Stmt} {f C : Addr} {oc kV dc pm cdv ct : Value} {od an : Option Addr} {sl : Array (Option Value)}
theorem d1 (X : K.In h) (G : h.Ns mainGlobals mg) (a : PySem.W.nsIn K mainGlobals x = some (some (.ref f))) (l : K.lookup f = some ⟨oc, od, .func (PySem.W.fnOf x x (defArgs st) (defBody st) (defScope st) .none kV dc pm an cdv ct), sl⟩) (c : PySem.W.codeIn K cdv x = true) (k : PySem.W.keepIn K (.ref f) = true) : D1 K mg x st :=
  ⟨f, _, PySem.W.mg_of X G a, fun_mk l c k⟩
theorem dm (a : PySem.W.findIn K (.ref C) x = some (some (.ref f))) (i : PySem.W.isFn K (.ref f) = true) (l : K.lookup f = some ⟨oc, od, .func (PySem.W.fnOf x qual (defArgs st) (defBody st) (defScope st) .none kV dc pm an cdv ct), sl⟩) (c : PySem.W.codeIn K cdv qual = true) (k : PySem.W.keepIn K (.ref f) = true) : DM K C x qual st :=
  ⟨f, _, ⟨a, i, k⟩, fun_mk l c k⟩
theorem dq (a : PySem.W.findIn K (.ref C) x = some (some (.ref f))) (i : PySem.W.isFn K (.ref f) = true) (l : K.lookup f = some ⟨oc, od, .func (PySem.W.fnOf x qual (defArgs st) (defBody st) (defScope st) .none kV dc pm an cdv ct), sl⟩) (c : PySem.W.codeIn K cdv qual = true) (k : PySem.W.keepIn K (.ref f) = true) : DQ K C f x qual st :=
  ⟨_, ⟨a, i, k⟩, fun_mk l c k⟩
theorem dd {a T : Addr} {oT : Value} {dT : Option Addr} {slT : Array (Option Value)} {n : Nat} (m1 : PySem.W.makesIn K C = true) (m2 : PySem.W.findIn K (.ref C) "__init__" = some (some (.ref f))) (m3 : PySem.W.isFn K (.ref f) = true) (m4 : PySem.W.keepIn K (.ref C) = true)
    (l : K.lookup f = some ⟨oc, od, .func (PySem.W.fnOf "__init__" qual (defArgs st) (defBody st) (defScope st) (.ref T) kV dc pm an cdv ct), sl⟩) (lT : K.lookup T = some ⟨oT, dT, .seq #[.ref a] n, slT⟩) (c : PySem.W.codeIn K cdv qual = true) (k : PySem.W.keepIn K (.ref f) = true) : DD K C a qual st :=
  ⟨f, _, ⟨m1, m2, m3, m4⟩, ⟨⟨oc, od, .ref T, kV, dc, pm, an, cdv, ct, sl, rfl, l, c, .inr ⟨by simp, T, _, [.ref a], n, rfl, lT, rfl, .cons rfl .nil⟩, .inl rfl⟩, k⟩⟩
theorem sq_of {a : Addr} {d : Option Addr} {n : Nat} (l : K.lookup a = some ⟨.type "tuple", d, .seq #[] n, sl⟩) (H : Hp) : SqT K H a [] := .inr ⟨_, #[], n, l, rfl, rfl, Nat.zero_le _, .nil⟩
theorem tt_mk {a : Addr} {d : Option Addr} {n : Nat} (l : K.lookup a = some ⟨.type "tuple", d, .seq #[] n, sl⟩) : ∃ (o : Obj) (n : Nat), K.lookup a = some o ∧ o.cls = .type "tuple" ∧ o.data = .seq #[] n := ⟨_, n, l, rfl, rfl⟩
end
section
variable {P : Program} {w : World} {K : PySem.W.Frag} {mg : Str → Option Value} {base : Heap} {CX : CXT} {x : Str} {st : Stmt} {ps : List Str} {k : Nat} {sp : Sp}
theorem cal_of (D : D1 K mg x st) (hb : ∀ (kV doc pm : Value) (an : Option Addr) (cdv ct : Value) (us : List Value), us.length = ps.length → bindArgs (PySem.W.fnOf x x (defArgs st) (defBody st) (defScope st) .none kV doc pm an cdv ct) ⟨us, []⟩ = pure (ps.zip us))
    (ok : ∀ f fd, Fun K x x st f fd → FnOk P w K mg base CX k f fd ps sp) : Cal P w K mg base CX x k ps sp := by
  obtain ⟨f, fd, hm, F⟩ := D.ex
  exact ⟨f, fd, hm, F.kp, F.binds hb, ok f fd F⟩
end
/-- a class is what its instances are -/
structure BkI (K : PySem.W.Frag) (CB : Addr) : Prop where
  ha : PySem.W.findIn K (.ref CB) "__class__" = some (some (.builtin "object.__class__"))
  hn : PySem.W.specialIn K (.builtin "object.__class__") "__get__" = some (some (.builtin "getset_descriptor.__get__"))
  ht : PySem.W.takesIn K (.builtin "object.__class__") = some true
  hm : PySem.W.mroIn K CB (.type "object") = some true
theorem ne_mk {K : PySem.W.Frag} {C f N : Addr} {nm q : Str} {bs : List Value} {hd ab : Bool} {sn : List Str} {sub : List Value} {col : Option Bool} {dd : Option Addr} {k0 k1 k2 k3 k5 : Option Value} {nid : String} {fo : Obj} (h1 : K.lookup C = some (excClassObj nm q C N bs [.type "object"] hd sn sub ab col dd k0 k1 k2 k3 k5 nid)) {oN : Value} {dN : Option Addr} {es : Array DictEntry} {nn : Nat} {slN : Array (Option Value)} (h2 : K.lookup N = some ⟨oN, dN, .dict es nn, slN⟩) (h7 : (es.toList.all fun e => match e.key with | .str _ _ => true | _ => false) = true) (h3 : PySem.W.nsIn K N "__eq__" = some (some (.ref f))) (h4 : PySem.W.nsIn K N "__ne__" = some none) (h5 : K.lookup f = some fo) (h6 : fo.cls = .type "function") : NeC K C f :=
  ⟨⟨nm, q, N, bs, hd, sn, sub, ab, col, dd, k0, k1, k2, k3, k5, nid, fo, h1, by unfold PySem.W.nsOkIn; rw [h2]; exact (Array.all_toList ..).symm.trans h7, h3, h4, h5, h6⟩⟩
theorem kit_ref {K : PySem.W.Frag} {C : Addr} {T : String} {b : Bool} (hm : PySem.W.kitMeta T = true) (h : PySem.W.subIn K (.ref C) (.type T) = some b) : PySem.W.kitOne K (.ref C) (.type T) = some b := by
  have e : (Value.ref C == Value.type T) = false := rfl
  unfold PySem.W.kitOne PySem.W.kitCls
  rw [e, if_neg Bool.false_ne_true]
  show (if PySem.W.kitMeta T = true then _ else _) = _
  rw [if_pos hm]
  exact h
theorem exm_me {K : PySem.W.Frag} {C : Addr} (h1 : PySem.W.subIn K (.ref C) (.type "BaseException") = some true) (h2 : PySem.W.isClsIn K C = true) (h3 : PySem.W.typeIn K (.ref C) = some (.type "type")) (h4 : PySem.W.subIn K (.ref C) (.ref C) = some true) : PySem.W.exmOne K (.ref C) (.ref C) = some true := by
  have h2' : (PySem.W.clsIn K C).isSome = true := h2
  simp [PySem.W.exmOne, PySem.W.kitCls, h1, h2', h3, h4]
theorem exm_no {K : PySem.W.Frag} {C D : Addr} (h1 : PySem.W.subIn K (.ref D) (.type "BaseException") = some true) (h2 : PySem.W.isClsIn K D = true) (h3 : PySem.W.typeIn K (.ref D) = some (.type "type")) (h4 : PySem.W.subIn K (.ref C) (.ref D) = some false) : PySem.W.exmOne K (.ref C) (.ref D) = some false := by
  have h2' : (PySem.W.clsIn K D).isSome = true := h2
  simp [PySem.W.exmOne, PySem.W.kitCls, h1, h2', h3, h4]
open PySem.W PySem.Calls PySem.HandSPX in
/-- the facts of an own error's class -/
theorem txt_mk {P : Program} {K : PySem.W.Frag} {h : Heap} {mg : Str → Option Value} {par fl : Str} {C fI N cda cc : Addr} {nm q qual tx file : Str} {bs bm sub : List Value} {sn : List Str} {ab : Bool} {col : Option Bool} {dd : Option Addr} {m0 m1 m2 m3 m5 : Option Value}
    {oc doc pm ct ccl cl : Value} {od an cdd cld : Option Addr} {osl ccs csl : Array (Option Value)} {vs : Array Value} {pa : Arguments} {p0 p1 p2 p3 p4 p5 p6 p7 p8 p9 : Pos} {j : Nat} {a0 : Arg} {tf : Nat} (X : K.In h) (G : h.Ns mainGlobals mg)
    (cls : K.lookup C = some (excClassObj nm q C N bs bm true sn sub ab col dd m0 m1 m2 m3 m5 "ValueError.__new__")) (ref : PySem.HandSPX.refsVE bm = true)
    (sa : PySem.W.findIn K (.ref C) "__setattr__" = some (some (.builtin "object.__setattr__"))) (ga : PySem.W.findIn K (.ref C) "__getattribute__" = some (some (.builtin "BaseException.__getattribute__"))) (gg : PySem.W.findIn K (.ref C) "__getattr__" = some none) (noN : PySem.W.findIn K (.ref C) fl = some none)
    (iC : PySem.W.findIn K (.ref C) "__init__" = some (some (.ref fI))) (tC : PySem.W.typeIn K (.ref fI) = some (.type "function")) (kC : PySem.W.keepIn K (.ref C) = true) (exC : PySem.W.subIn K (.ref C) (.type "BaseException") = some true) (veC : PySem.W.subIn K (.ref C) (.type "ValueError") = some true)
    (slf : PySem.W.mroIn K C (.ref C) = some true) (tyC : PySem.W.typeIn K (.ref C) = some (.type "type")) (hdC : PySem.W.hasDictIn K C = true) (isC : PySem.W.isClsIn K C = true) (sC : PySem.W.subIn K (.ref C) (.ref C) = some true)
    (along : PySem.W.ks_superIn K C C "__init__" = some (some (.builtin "ValueError.__init__"))) (opq : PySem.W.nsIn K cStatics "thirdparty.any" = some none) (sup : PySem.W.nsIn K mainGlobals "super" = some none) (top : (P.main.scope.names.lookup ("super" : Str)).isSome = false)
    (lf : K.lookup fI = some ⟨oc, od, .func (PySem.W.ksFn "__init__" qual pa (PySem.BadX.shape tx par fl p0 p1 p2 p3 p4 p5 p6 p7 p8 p9 j) (PySem.BadX.sco par) .none .none doc pm an (.ref cda) ct cc), osl⟩) (cd : PySem.W.codeIn K (.ref cda) qual = true) (ha0 : (pa.posonlyargs ++ pa.args).head? = some a0) (ha1 : a0.arg = "self")
    (bd : ∀ (s : Shared) (u v : Value), BindsTo s (PySem.W.ksFn "__init__" qual pa (PySem.BadX.shape tx par fl p0 p1 p2 p3 p4 p5 p6 p7 p8 p9 j) (PySem.BadX.sco par) .none .none doc pm an (.ref cda) ct cc) ⟨[u, v], []⟩ [("self", u), (par, v)])
    (lc : K.lookup cda = some ⟨ccl, cdd, .fields vs, ccs⟩) (hvs : vs[2]? = some (.str file tf)) (hfile : ((P.main.file : Str) == file) = true) (hpe : (p2.endLine == p4.line) = true) (lcc : K.lookup cc = some ⟨cl, cld, .cell (some (.ref C)), csl⟩) : PySem.BadX.Txt P K mg par fl C fI :=
  { cls := ⟨nm, q, N, bs, bm, sn, sub, ab, col, dd, m0, m1, m2, m3, m5, cls, ref⟩, sa := sa, ga := ga, gg := gg, noN := noN, iC := iC, tC := tC, kC := kC, exC := exC, veC := veC, slf := slf, tyC := tyC, hdC := hdC, te := exm_me exC isC tyC sC, along := along, opq := opq, sup := PySem.W.mg_none_of X G sup, top := top,
    fn := ⟨oc, od, qual, tx, doc, pm, an, cda, cc, ct, osl, pa, p0, p1, p2, p3, p4, p5, p6, p7, p8, p9, j, a0, lf, cd, ha0, ha1, bd, ⟨ccl, cdd, vs, ccs, file, tf, lc, hvs, hfile⟩, hpe, ⟨cl, cld, csl, lcc⟩⟩ }
theorem ex_int {K : PySem.W.Frag} {h : Heap} {mg : Str → Option Value} {x : Str} {n : Int} {t : Tok} (X : K.In h) (G : h.Ns mainGlobals mg) (a : PySem.W.nsIn K mainGlobals x = some (some (.int n t))) : ∃ t, mg x = some (.int n t) := ⟨_, PySem.W.mg_of X G a⟩
theorem ex_str {K : PySem.W.Frag} {h : Heap} {mg : Str → Option Value} {x z : Str} {t : Tok} (X : K.In h) (G : h.Ns mainGlobals mg) (a : PySem.W.nsIn K mainGlobals x = some (some (.str z t))) : ∃ t, mg x = some (.str z t) := ⟨_, PySem.W.mg_of X G a⟩
end Ash

set_option Elab.async false
set_option linter.all false
set_option maxRecDepth 100000
set_option maxHeartbeats 4000000
namespace Ash
open PySem PySem.Spec PyProof.Rows L2
section
variable {P : Program} {w : World} {K : PySem.W.Frag} {mg : Str → Option Value} {base : Heap}
theorem all_ok {CB CJ CE CM fE fM aT aE fBeq fJeq : Addr}
    (B : Blt mg)
    (Cs : Cst mg)
    (TB : Cb K mg CB)
    (T : Cj P K mg CJ CB)
    (Tt : Tb K mg aT)
    (cE : mg "BadEntry" = some (.ref CE))
    (TE : PySem.BadX.Txt P K mg "at" "at" CE fE)
    (bi : BkI K CB)
    (ji : BkI K CJ)
    (mkB : PySem.W.makesIn K CB = true)
    (kB : PySem.W.keepIn K (.ref CB) = true)
    (kM : ∃ t, mg "MOST_JOURNALS" = some (.int 6 t))
    (cM : mg "BadMoment" = some (.ref CM))
    (TM : PySem.BadX.Txt P K mg "value" "value" CM fM)
    (sfJ : PySem.W.selfFirst K CJ = true)
    (d_is_integer : D1 K mg "is_integer" s_is_integer)
    (d_is_natural : D1 K mg "is_natural" s_is_natural)
    (d_is_name : D1 K mg "is_name" s_is_name)
    (d_are_integers : D1 K mg "are_integers" s_are_integers)
    (d_is_late : D1 K mg "is_late" s_is_late)
    (d_is_lates : D1 K mg "is_lates" s_is_lates)
    (d_is_entry : D1 K mg "is_entry" s_is_entry)
    (d_arrival_of : D1 K mg "arrival_of" s_arrival_of)
    (d_placed : D1 K mg "placed" s_placed)
    (d_row_behind : D1 K mg "row_behind" s_row_behind)
    (d_walked : D1 K mg "walked" s_walked)
    (d_is_row : D1 K mg "is_row" s_is_row)
    (d__law_pool : D1 K mg "_law_pool" s_l_pool)
    (d__law_draw : D1 K mg "_law_draw" s_l_draw)
    (d__law_names : D1 K mg "_law_names" s_l_names)
    (d__law_lates : D1 K mg "_law_lates" s_l_lates)
    (d__law_amount : D1 K mg "_law_amount" s_l_amount)
    (d__law_begin : D1 K mg "_law_begin" s_l_begin)
    (d__law_entry : D1 K mg "_law_entry" s_l_entry)
    (d__law_put : D1 K mg "_law_put" s_l_put)
    (d__law_next_entry : D1 K mg "_law_next_entry" s_l_next_entry)
    (d__law_work : D1 K mg "_law_work" s_l_work)
    (d__law_heard : D1 K mg "_law_heard" s_l_heard)
    (d__law_of_key : D1 K mg "_law_of_key" s_l_of_key)
    (d__law_shuffled : D1 K mg "_law_shuffled" s_l_shuffled)
    (d__law_merged : D1 K mg "_law_merged" s_l_merged)
    (d__law_states : D1 K mg "_law_states" s_l_states)
    (d__law_rows : D1 K mg "_law_rows" s_l_rows)
    (d_cut : D1 K mg "cut" s_cut)
    (d_joined : D1 K mg "joined" s_joined)
    (d_by_keys : D1 K mg "by_keys" s_by_keys)
    (d__law_good_cut : D1 K mg "_law_good_cut" s_l_good_cut)
    (d__law_good_keys : D1 K mg "_law_good_keys" s_l_good_keys)
    (d__law_good_whole : D1 K mg "_law_good_whole" s_l_good_whole)
    (m_Init : DM K CB "__init__" "Book.__init__" s_Book_init)
    (m_Has : DM K CB "has" "Book.has" s_Book_has)
    (m_Late : DM K CB "late" "Book.late" s_Book_late)
    (m_J : DD K CJ aE "Journal.__init__" s_Journal_init)
    (m_Then : DM K CJ "then" "Journal.then" s_Journal_then)
    (m_Heard : DM K CJ "heard" "Journal.heard" s_Journal_heard)
    (m_Rows : DM K CJ "rows" "Journal.rows" s_Journal_rows)
    (m_Only : DM K CJ "only" "Journal.only" s_Journal_only)
    (m_Without : DM K CJ "without" "Journal.without" s_Journal_without)
    (m_Or : DM K CJ "__or__" "Journal.__or__" s_Journal_or)
    (m_Names : DM K CJ "key_names" "Journal.key_names" s_Journal_key_names)
    (m_Len : DM K CJ "__len__" "Journal.__len__" s_Journal_len)
    (m_Beq : DQ K CB fBeq "__eq__" "Book.__eq__" s_Book_eq)
    (bne : NeC K CB fBeq)
    (m_Jeq : DQ K CJ fJeq "__eq__" "Journal.__eq__" s_Journal_eq)
    (jne : NeC K CJ fJeq)
    {f : Addr} {fd : FuncData} (F_law : Fun K "law" "law" s_law f fd) : FnOk P w K mg base CX0 20 f fd ["script"] (spLaw K) := by
  have bk : ∀ H b dx fs, H b = some (.ins CB dx fs) → TyX K H (.ref b) (.ref CB) := fun H b dx fs h => .base (.ins h TB.cl bi.ha bi.hn bi.ht bi.hm)
  have jk : ∀ H b dx fs, H b = some (.ins CJ dx fs) → TyX K H (.ref b) (.ref CJ) := fun H b dx fs h => .base (.ins h T.cl ji.ha ji.hn ji.ht ji.hm)
  have c_is_integer := cal_of (P := P) (w := w) (base := base) (ps := ["thing"]) d_is_integer (fun _ _ _ _ _ _ us hl => match us, hl with | [_], _ => rfl) fun f fd F => ok_is_integer F B
  have k1 : K1 P w K mg base := ⟨c_is_integer⟩
  have c_is_natural := cal_of (P := P) (w := w) (base := base) (ps := ["thing"]) d_is_natural (fun _ _ _ _ _ _ us hl => match us, hl with | [_], _ => rfl) fun f fd F => ok_is_natural F B k1
  have c_is_name := cal_of (P := P) (w := w) (base := base) (ps := ["thing"]) d_is_name (fun _ _ _ _ _ _ us hl => match us, hl with | [_], _ => rfl) fun f fd F => ok_is_name F B Cs
  have k2 : K2 P w K mg base := ⟨k1, c_is_natural, c_is_name⟩
  have c_are_integers := cal_of (P := P) (w := w) (base := base) (ps := ["things"]) d_are_integers (fun _ _ _ _ _ _ us hl => match us, hl with | [_], _ => rfl) fun f fd F => ok_are_integers F B k2
  have c_is_late := cal_of (P := P) (w := w) (base := base) (ps := ["thing"]) d_is_late (fun _ _ _ _ _ _ us hl => match us, hl with | [_], _ => rfl) fun f fd F => ok_is_late F B Cs k2
  have k3 : K3 P w K mg base := ⟨k2, c_are_integers, c_is_late⟩
  have c_is_lates := cal_of (P := P) (w := w) (base := base) (ps := ["thing"]) d_is_lates (fun _ _ _ _ _ _ us hl => match us, hl with | [_], _ => rfl) fun f fd F => ok_is_lates F B Cs k3
  have k4 : K4 P w K mg base := ⟨k3, c_is_lates⟩
  obtain ⟨fInit, fdInit, mInit, FInit⟩ := m_Init.ex
  have bInit : Binds K fdInit ["self", "lates"] [] := FInit.binds (ps := ["self", "lates"]) fun _ _ _ _ _ _ us hl => match us, hl with | [_, _], _ => rfl
  have oInit := ok_book_init (P := P) (w := w) (base := base) FInit B TB k4
  obtain ⟨fHas, fdHas, mHas, FHas⟩ := m_Has.ex
  have bHas : Binds K fdHas ["self", "stream"] [] := FHas.binds (ps := ["self", "stream"]) fun _ _ _ _ _ _ us hl => match us, hl with | [_, _], _ => rfl
  have oHas := ok_book_has (P := P) (w := w) (base := base) FHas B TB k4
  obtain ⟨fLate, fdLate, mLate, FLate⟩ := m_Late.ex
  have bLate : Binds K fdLate ["self", "stream"] [] := FLate.binds (ps := ["self", "stream"]) fun _ _ _ _ _ _ us hl => match us, hl with | [_, _], _ => rfl
  have oLate := ok_book_late (P := P) (w := w) (base := base) FLate B TB mHas bHas oHas
  have c_is_entry := cal_of (P := P) (w := w) (base := base) (ps := ["thing"]) d_is_entry (fun _ _ _ _ _ _ us hl => match us, hl with | [_], _ => rfl) fun f fd F => ok_is_entry F B k4.toK3
  have c_arrival_of := cal_of (P := P) (w := w) (base := base) (ps := ["entry"]) d_arrival_of (fun _ _ _ _ _ _ us hl => match us, hl with | [_], _ => rfl) fun f fd F => ok_arrival_of F B
  have c_placed := cal_of (P := P) (w := w) (base := base) (ps := ["book", "row", "arrival"]) d_placed (fun _ _ _ _ _ _ us hl => match us, hl with | [_, _, _], _ => rfl) fun f fd F => ok_placed F B TB mLate bLate oLate
  have k5 : K5 P w K mg base CB := ⟨k4, c_is_entry, c_arrival_of, c_placed⟩
  have c_row_behind := cal_of (P := P) (w := w) (base := base) (ps := ["book", "entry", "old"]) d_row_behind (fun _ _ _ _ _ _ us hl => match us, hl with | [_, _, _], _ => rfl) fun f fd F => ok_row_behind F B TB Tt k5 mHas bHas oHas mLate bLate oLate
  have k6 : K6 P w K mg base CB aT := ⟨k5, c_row_behind⟩
  have c_walked := cal_of (P := P) (w := w) (base := base) (ps := ["book", "things"]) d_walked (fun _ _ _ _ _ _ us hl => match us, hl with | [_, _], _ => rfl) fun f fd F => ok_walked F B k6
  have c_is_row := cal_of (P := P) (w := w) (base := base) (ps := ["thing"]) d_is_row (fun _ _ _ _ _ _ us hl => match us, hl with | [_], _ => rfl) fun f fd F => ok_is_row F B
  have k7 : K7 P w K mg base CB aT := ⟨k6, c_walked, c_is_row⟩
  obtain ⟨fJ, fdJ, mJ, FJ⟩ := m_J.ex
  have oJ := ok_j_init (P := P) (w := w) (base := base) FJ B Cs T TB TE cE bk k7
  obtain ⟨ds3, v3, bJ3⟩ := FJ.binds1 (ps := ["self", "book", "entries"]) 3 1 (by simp) rfl fun T kV doc pm an cdv ct us its h1 h2 => match us, its, h1, h2 with | [_, _, _], [_], _, _ => ⟨_, rfl, rfl⟩
  cases v3
  have k8 : K8 P w K mg base CB aT CJ CE := ⟨k7, ⟨fJ, fdJ, mJ, T.c, bJ3, oJ⟩⟩
  obtain ⟨fHeard, fdHeard, mHeard, FHeard⟩ := m_Heard.ex
  have bHeard : Binds K fdHeard ["self", "h"] [] := FHeard.binds (ps := ["self", "h"]) fun _ _ _ _ _ _ us hl => match us, hl with | [_, _], _ => rfl
  have oHeard := ok_heard (P := P) (w := w) (base := base) FHeard B T TM cM k8
  obtain ⟨fThen, fdThen, mThen, FThen⟩ := m_Then.ex
  have bThen : Binds K fdThen ["self", "entry"] [] := FThen.binds (ps := ["self", "entry"]) fun _ _ _ _ _ _ us hl => match us, hl with | [_, _], _ => rfl
  have oThen := ok_then (P := P) (w := w) (base := base) FThen B Cs T k8
  obtain ⟨fRows, fdRows, mRows, FRows⟩ := m_Rows.ex
  have bRows : Binds K fdRows ["self", "stream", "key"] [] := FRows.binds (ps := ["self", "stream", "key"]) fun _ _ _ _ _ _ us hl => match us, hl with | [_, _, _], _ => rfl
  have oRows := ok_rows (P := P) (w := w) (base := base) FRows B T TB Tt k2 mHas bHas oHas
  obtain ⟨fOnly, fdOnly, mOnly, FOnly⟩ := m_Only.ex
  have bOnly : Binds K fdOnly ["self", "key"] [] := FOnly.binds (ps := ["self", "key"]) fun _ _ _ _ _ _ us hl => match us, hl with | [_, _], _ => rfl
  have oOnly := ok_onlyF (P := P) (w := w) (base := base) FOnly B T k8
  obtain ⟨fWithout, fdWithout, mWithout, FWithout⟩ := m_Without.ex
  have bWithout : Binds K fdWithout ["self", "ids"] [] := FWithout.binds (ps := ["self", "ids"]) fun _ _ _ _ _ _ us hl => match us, hl with | [_, _], _ => rfl
  have oWithout := ok_without (P := P) (w := w) (base := base) FWithout B T k8
  obtain ⟨fNames, fdNames, mNames, FNames⟩ := m_Names.ex
  have bNames : Binds K fdNames ["self"] [] := FNames.binds (ps := ["self"]) fun _ _ _ _ _ _ us hl => match us, hl with | [_], _ => rfl
  have oNames := ok_keynames (P := P) (w := w) (base := base) (aT := aT) FNames B T
  obtain ⟨fLen, fdLen, mLen, FLen⟩ := m_Len.ex
  have bLen : Binds K fdLen ["self"] [] := FLen.binds (ps := ["self"]) fun _ _ _ _ _ _ us hl => match us, hl with | [_], _ => rfl
  have oLen := ok_jlen (P := P) (w := w) (base := base) (aT := aT) FLen B T
  obtain ⟨fdBeq, mBeq, FBeq⟩ := m_Beq.ex
  have bBeq : Binds K fdBeq ["self", "other"] [] := FBeq.binds (ps := ["self", "other"]) fun _ _ _ _ _ _ us hl => match us, hl with | [_, _], _ => rfl
  have oBeq := ok_book_eq (P := P) (w := w) (base := base) FBeq B TB bk
  have oBeqE := ok_book_eqE (P := P) (w := w) (base := base) FBeq B TB bk
  obtain ⟨fdJeq, mJeq, FJeq⟩ := m_Jeq.ex
  have bJeq : Binds K fdJeq ["self", "other"] [] := FJeq.binds (ps := ["self", "other"]) fun _ _ _ _ _ _ us hl => match us, hl with | [_, _], _ => rfl
  have oJeq := ok_j_eqc (P := P) (w := w) (base := base) (aT := aT) FJeq B T jk mBeq.at_ mBeq.fn bBeq oBeq
  obtain ⟨fOr, fdOr, mOr, FOr⟩ := m_Or.ex
  have bOr : Binds K fdOr ["self", "other"] [] := FOr.binds (ps := ["self", "other"]) fun _ _ _ _ _ _ us hl => match us, hl with | [_, _], _ => rfl
  have oOr := ok_or (P := P) (w := w) (base := base) FOr B Cs T TE cE k8 bne bBeq oBeq
  have c__law_pool := cal_of (P := P) (w := w) (base := base) (ps := ["script"]) d__law_pool (fun _ _ _ _ _ _ us hl => match us, hl with | [_], _ => rfl) fun f fd F => ok_pool F B
  have c__law_draw := cal_of (P := P) (w := w) (base := base) (ps := ["pool", "many"]) d__law_draw (fun _ _ _ _ _ _ us hl => match us, hl with | [_, _], _ => rfl) fun f fd F => ok_draw F B
  have g1 : G1 P w K mg base := ⟨c__law_draw⟩
  have c__law_names := cal_of (P := P) (w := w) (base := base) (ps := ["pool", "many"]) d__law_names (fun _ _ _ _ _ _ us hl => match us, hl with | [_, _], _ => rfl) fun f fd F => ok_names F B g1
  have g2 : G2 P w K mg base := ⟨g1, c__law_names⟩
  have c__law_lates := cal_of (P := P) (w := w) (base := base) (ps := ["pool", "names"]) d__law_lates (fun _ _ _ _ _ _ us hl => match us, hl with | [_, _], _ => rfl) fun f fd F => ok_lates F B g2
  have c__law_amount := cal_of (P := P) (w := w) (base := base) (ps := ["pool"]) d__law_amount (fun _ _ _ _ _ _ us hl => match us, hl with | [_], _ => rfl) fun f fd F => ok_amount F B g2
  have c__law_begin := cal_of (P := P) (w := w) (base := base) (ps := ["pool"]) d__law_begin (fun _ _ _ _ _ _ us hl => match us, hl with | [_], _ => rfl) fun f fd F => ok_begin F B g2
  have g3 : G3d P w K mg base := ⟨g2, c__law_lates, c__law_amount, c__law_begin⟩
  have c__law_entry := cal_of (P := P) (w := w) (base := base) (ps := ["pool", "lates", "keys", "work", "arrival"]) d__law_entry (fun _ _ _ _ _ _ us hl => match us, hl with | [_, _, _, _, _], _ => rfl) fun f fd F => ok_entry F B g3
  have c__law_put := cal_of (P := P) (w := w) (base := base) (ps := ["states", "entry"]) d__law_put (fun _ _ _ _ _ _ us hl => match us, hl with | [_, _], _ => rfl) fun f fd F => ok_putD F B
  have g4 : G4d P w K mg base := ⟨g3, c__law_entry, c__law_put⟩
  have c__law_next_entry := cal_of (P := P) (w := w) (base := base) (ps := ["pool", "lates", "keys", "work", "floor"]) d__law_next_entry (fun _ _ _ _ _ _ us hl => match us, hl with | [_, _, _, _, _], _ => rfl) fun f fd F => ok_next F B g4
  have c__law_work := cal_of (P := P) (w := w) (base := base) (ps := ["pool", "keys"]) d__law_work (fun _ _ _ _ _ _ us hl => match us, hl with | [_, _], _ => rfl) fun f fd F => ok_work F B g3
  have c__law_heard := cal_of (P := P) (w := w) (base := base) (ps := ["entries", "h"]) d__law_heard (fun _ _ _ _ _ _ us hl => match us, hl with | [_, _], _ => rfl) fun f fd F => ok_lheard F B
  have c__law_of_key := cal_of (P := P) (w := w) (base := base) (ps := ["entries", "key"]) d__law_of_key (fun _ _ _ _ _ _ us hl => match us, hl with | [_, _], _ => rfl) fun f fd F => ok_ofkey F B
  have c__law_shuffled := cal_of (P := P) (w := w) (base := base) (ps := ["pool", "items"]) d__law_shuffled (fun _ _ _ _ _ _ us hl => match us, hl with | [_, _], _ => rfl) fun f fd F => ok_shuf F B g1
  have c__law_merged := cal_of (P := P) (w := w) (base := base) (ps := ["one", "other"]) d__law_merged (fun _ _ _ _ _ _ us hl => match us, hl with | [_, _], _ => rfl) fun f fd F => ok_merged F B
  have c_putk := cal_of (P := P) (w := w) (base := base) (ps := ["states", "entry"]) d__law_put (fun _ _ _ _ _ _ us hl => match us, hl with | [_, _], _ => rfl) fun f fd F => ok_putk F B
  have g4k : G4k P w K mg base := ⟨c_putk⟩
  have c__law_states := cal_of (P := P) (w := w) (base := base) (ps := ["entries"]) d__law_states (fun _ _ _ _ _ _ us hl => match us, hl with | [_], _ => rfl) fun f fd F => ok_states F B g4k
  have g5k : G5k P w K mg base := ⟨g4k, c__law_states⟩
  have c__law_rows := cal_of (P := P) (w := w) (base := base) (ps := ["entries", "stream", "key"]) d__law_rows (fun _ _ _ _ _ _ us hl => match us, hl with | [_, _, _], _ => rfl) fun f fd F => ok_lrows F B g5k
  have gp : GP85 P w K mg base aT CJ CB CM := ⟨c_arrival_of, c_is_row, ⟨fHeard, fdHeard, mHeard, bHeard, oHeard⟩, ⟨fOnly, fdOnly, mOnly, bOnly, oOnly⟩, ⟨fNames, fdNames, mNames, bNames, oNames⟩⟩
  have c_cut := cal_of (P := P) (w := w) (base := base) (ps := ["journal", "h"]) d_cut (fun _ _ _ _ _ _ us hl => match us, hl with | [_, _], _ => rfl) fun f fd F => ok_cut F B T jk gp
  have c_joined := cal_of (P := P) (w := w) (base := base) (ps := ["journals"]) d_joined (fun _ _ _ _ _ _ us hl => match us, hl with | [_], _ => rfl) fun f fd F => ok_joined F B T kM jk gp sfJ mOr.at_ mOr.fn bOr oOr
  have c_by_keys := cal_of (P := P) (w := w) (base := base) (ps := ["journal"]) d_by_keys (fun _ _ _ _ _ _ us hl => match us, hl with | [_], _ => rfl) fun f fd F => ok_bykeys F B T jk gp
  have gc : GC85 P w K mg base aT CJ CB CE CM := ⟨c_cut, c__law_heard, ⟨fHeard, fdHeard, mHeard, bHeard, oHeard⟩, ⟨fThen, fdThen, mThen, bThen, oThen⟩⟩
  have c__law_good_cut := cal_of (P := P) (w := w) (base := base) (ps := ["journal", "entries", "h"]) d__law_good_cut (fun _ _ _ _ _ _ us hl => match us, hl with | [_, _, _], _ => rfl) fun f fd F => ok_goodcut F B T gc mLen.at_ mLen.fn bLen oLen jne mJeq.at_ mJeq.fn bJeq oJeq
  have gk : GK85 P w K mg base aT CJ CB CM := ⟨c_by_keys, c__law_of_key, c__law_heard, c__law_rows, ⟨fOnly, fdOnly, mOnly, bOnly, oOnly⟩, ⟨fHeard, fdHeard, mHeard, bHeard, oHeard⟩, ⟨fRows, fdRows, mRows, bRows, oRows⟩⟩
  have c__law_good_keys := cal_of (P := P) (w := w) (base := base) (ps := ["journal", "entries"]) d__law_good_keys (fun _ _ _ _ _ _ us hl => match us, hl with | [_, _], _ => rfl) fun f fd F => ok_goodkeys F B T gk jne bJeq oJeq
  have c__law_good_whole := cal_of (P := P) (w := w) (base := base) (ps := ["whole", "entries", "lates", "keys"]) d__law_good_whole (fun _ _ _ _ _ _ us hl => match us, hl with | [_, _, _, _], _ => rfl) fun f fd F => ok_goodwhole F B T gk
  have gl : GL85 P w K mg base aT CJ CB CE := ⟨c__law_pool, c__law_draw, c__law_names, c__law_lates, c__law_work, c__law_next_entry, c__law_good_cut, c__law_good_keys, c__law_good_whole, c__law_of_key, c__law_shuffled, c__law_merged, c_joined, ⟨fOnly, fdOnly, mOnly, bOnly, oOnly⟩, ⟨fWithout, fdWithout, mWithout, bWithout, oWithout⟩, ⟨fInit, fdInit, ⟨mkB, mInit.at_, mInit.fn, kB⟩, TB.c, bInit, oInit⟩, ⟨fJ, fdJ, mJ, T.c, bJ3, oJ⟩⟩
  exact ok_law F_law B T TB gl jne bJeq oJeq bne bBeq oBeqE sfJ mOr.at_ mOr.fn bOr oOr
end
theorem all_mk {P : Program} {w : World} {K : PySem.W.Frag} {h : Heap} {mg : Str → Option Value} {fa CB CJ CE CM fE fM aT aE fBeq fJeq f4 : Addr} {oc4 kV4 dc4 pm4 cd4 ct4 : Value} {od4 an4 : Option Addr} {sl4 : Array (Option Value)} (X : K.In h) (G : h.Ns mainGlobals mg) (hfa : mg "law" = some (.ref fa))
    (a4 : PySem.W.nsIn K mainGlobals "law" = some (some (.ref f4))) (l4 : K.lookup f4 = some ⟨oc4, od4, .func (PySem.W.fnOf "law" "law" (defArgs s_law) (defBody s_law) (defScope s_law) .none kV4 dc4 pm4 an4 cd4 ct4), sl4⟩) (c4 : PySem.W.codeIn K cd4 "law" = true) (k4 : PySem.W.keepIn K (.ref f4) = true)
    (B : Blt mg)
    (Cs : Cst mg)
    (TB : Cb K mg CB)
    (T : Cj P K mg CJ CB)
    (Tt : Tb K mg aT)
    (cE : mg "BadEntry" = some (.ref CE))
    (TE : PySem.BadX.Txt P K mg "at" "at" CE fE)
    (bi : BkI K CB)
    (ji : BkI K CJ)
    (mkB : PySem.W.makesIn K CB = true)
    (kB : PySem.W.keepIn K (.ref CB) = true)
    (kM : ∃ t, mg "MOST_JOURNALS" = some (.int 6 t))
    (cM : mg "BadMoment" = some (.ref CM))
    (TM : PySem.BadX.Txt P K mg "value" "value" CM fM)
    (sfJ : PySem.W.selfFirst K CJ = true)
    (d_is_integer : D1 K mg "is_integer" s_is_integer)
    (d_is_natural : D1 K mg "is_natural" s_is_natural)
    (d_is_name : D1 K mg "is_name" s_is_name)
    (d_are_integers : D1 K mg "are_integers" s_are_integers)
    (d_is_late : D1 K mg "is_late" s_is_late)
    (d_is_lates : D1 K mg "is_lates" s_is_lates)
    (d_is_entry : D1 K mg "is_entry" s_is_entry)
    (d_arrival_of : D1 K mg "arrival_of" s_arrival_of)
    (d_placed : D1 K mg "placed" s_placed)
    (d_row_behind : D1 K mg "row_behind" s_row_behind)
    (d_walked : D1 K mg "walked" s_walked)
    (d_is_row : D1 K mg "is_row" s_is_row)
    (d__law_pool : D1 K mg "_law_pool" s_l_pool)
    (d__law_draw : D1 K mg "_law_draw" s_l_draw)
    (d__law_names : D1 K mg "_law_names" s_l_names)
    (d__law_lates : D1 K mg "_law_lates" s_l_lates)
    (d__law_amount : D1 K mg "_law_amount" s_l_amount)
    (d__law_begin : D1 K mg "_law_begin" s_l_begin)
    (d__law_entry : D1 K mg "_law_entry" s_l_entry)
    (d__law_put : D1 K mg "_law_put" s_l_put)
    (d__law_next_entry : D1 K mg "_law_next_entry" s_l_next_entry)
    (d__law_work : D1 K mg "_law_work" s_l_work)
    (d__law_heard : D1 K mg "_law_heard" s_l_heard)
    (d__law_of_key : D1 K mg "_law_of_key" s_l_of_key)
    (d__law_shuffled : D1 K mg "_law_shuffled" s_l_shuffled)
    (d__law_merged : D1 K mg "_law_merged" s_l_merged)
    (d__law_states : D1 K mg "_law_states" s_l_states)
    (d__law_rows : D1 K mg "_law_rows" s_l_rows)
    (d_cut : D1 K mg "cut" s_cut)
    (d_joined : D1 K mg "joined" s_joined)
    (d_by_keys : D1 K mg "by_keys" s_by_keys)
    (d__law_good_cut : D1 K mg "_law_good_cut" s_l_good_cut)
    (d__law_good_keys : D1 K mg "_law_good_keys" s_l_good_keys)
    (d__law_good_whole : D1 K mg "_law_good_whole" s_l_good_whole)
    (m_Init : DM K CB "__init__" "Book.__init__" s_Book_init)
    (m_Has : DM K CB "has" "Book.has" s_Book_has)
    (m_Late : DM K CB "late" "Book.late" s_Book_late)
    (m_J : DD K CJ aE "Journal.__init__" s_Journal_init)
    (m_Then : DM K CJ "then" "Journal.then" s_Journal_then)
    (m_Heard : DM K CJ "heard" "Journal.heard" s_Journal_heard)
    (m_Rows : DM K CJ "rows" "Journal.rows" s_Journal_rows)
    (m_Only : DM K CJ "only" "Journal.only" s_Journal_only)
    (m_Without : DM K CJ "without" "Journal.without" s_Journal_without)
    (m_Or : DM K CJ "__or__" "Journal.__or__" s_Journal_or)
    (m_Names : DM K CJ "key_names" "Journal.key_names" s_Journal_key_names)
    (m_Len : DM K CJ "__len__" "Journal.__len__" s_Journal_len)
    (m_Beq : DQ K CB fBeq "__eq__" "Book.__eq__" s_Book_eq)
    (bne : NeC K CB fBeq)
    (m_Jeq : DQ K CJ fJeq "__eq__" "Journal.__eq__" s_Journal_eq)
    (jne : NeC K CJ fJeq)
    : ∃ fd : FuncData, (∀ (s : Shared) (v : Value), BindsTo s fd ⟨[v], []⟩ [("script", v)]) ∧ ∀ base : Heap, K.In base → base.Ns mainGlobals mg → FnOk P w K mg base CX0 20 fa fd ["script"] (spLaw K) := by
  have e := hfa.symm.trans (PySem.W.mg_of X G a4)
  cases e
  exact ⟨PySem.W.fnOf "law" "law" (defArgs s_law) (defBody s_law) (defScope s_law) .none kV4 dc4 pm4 an4 cd4 ct4, fun s v => .of_eq rfl, fun base _ _ => all_ok B Cs TB T Tt cE TE bi ji mkB kB kM cM TM sfJ d_is_integer d_is_natural d_is_name d_are_integers d_is_late d_is_lates d_is_entry d_arrival_of d_placed d_row_behind d_walked d_is_row d__law_pool d__law_draw d__law_names d__law_lates d__law_amount d__law_begin d__law_entry d__law_put d__law_next_entry d__law_work d__law_heard d__law_of_key d__law_shuffled d__law_merged d__law_states d__law_rows d_cut d_joined d_by_keys d__law_good_cut d__law_good_keys d__law_good_whole m_Init m_Has m_Late m_J m_Then m_Heard m_Rows m_Only m_Without m_Or m_Names m_Len m_Beq bne m_Jeq jne (fun_mk l4 c4 k4)⟩
theorem walk {l : PySem.W.OpenLaw} {q : Program} {loose : List Str} {XP : (Str → Option Value) → Heap → Prop} {YP : World → Heap → Prop} {d : DefRec} {K : Params → PySem.W.Frag} (hn : l.most = some 63) (hdf : d.params.defaults = [])
    (hY : ∀ (w : World) (h : Heap), YP w h → (K w.params).In h)
    (F : ∀ (w : World) (mg : Str → Option Value) (fa : Addr) (h : Heap), (K w.params).In h → h.Ns mainGlobals mg → mg d.name = some (.ref fa) →
      ∃ fd : FuncData, (∀ (s : Shared) (u : Value), BindsTo s fd ⟨[u], []⟩ [("script", u)]) ∧ ∀ base : Heap, (K w.params).In base → base.Ns mainGlobals mg → FnOk l.prog w (K w.params) mg base CX0 20 fa fd ["script"] (spLaw (K w.params))) :
    PySem.W.WalkO q loose XP YP l.row.toRowW d [] (fun f vs => PySem.call f vs) :=
  L2.walk_of (n := 63) (k := 20) (x := "script") (CX := fun _ => CX0) (sp := fun w => spLaw (K w.params)) hn (by decide) hdf ⟨rfl, by decide, by decide⟩ hY F (fun _ _ a ns hl _ hS => ⟨a, ns, rfl, hS, hl, fun _ => rfl⟩) fun _ _ _ _ _ z => z
end Ash

set_option Elab.async false
open PySem PySem.W PyProof.Rows
/-! names that are taken: the head makes no twins of these parts of the heap -/
theorem PySem.W.Fast.tw7763183669028807248 : True := trivial
theorem PySem.W.Fast.tw2336412170299767405 : True := trivial
theorem PySem.W.Fast.tw13295814364773571095 : True := trivial
theorem PySem.W.Fast.tw13151444864183694627 : True := trivial
theorem PySem.W.Fast.tw17008892833356746022 : True := trivial
theorem PySem.W.Fast.tw8827549394859309538 : True := trivial
theorem PySem.W.Fast.tw8321788524692274895 : True := trivial
theorem PySem.W.Fast.tw5880768690831221778 : True := trivial
theorem PySem.W.Fast.tw6870387805777705630 : True := trivial
theorem PySem.W.Fast.tw17794644018212480563 : True := trivial
theorem PySem.W.Fast.tw11282466927153513119 : True := trivial
theorem PySem.W.Fast.tw7055050990776351602 : True := trivial
theorem PySem.W.Fast.tw7188461400045369710 : True := trivial
theorem PySem.W.Fast.tw6905216101223884395 : True := trivial
theorem PySem.W.Fast.tw4218026646736218808 : True := trivial
theorem PySem.W.Fast.tw6434255686596992218 : True := trivial
theorem PySem.W.Fast.tw6619275679317598559 : True := trivial
theorem PySem.W.Fast.tw13270892108451554065 : True := trivial
theorem PySem.W.Fast.tw6078876501754044887 : True := trivial
theorem PySem.W.Fast.tw17092865914795064458 : True := trivial
theorem PySem.W.Fast.tw1762815988608798122 : True := trivial
theorem PySem.W.Fast.tw11242851253779497100 : True := trivial
theorem PySem.W.Fast.tw12915770014319599549 : True := trivial
theorem PySem.W.Fast.tw5733792175775459884 : True := trivial
theorem PySem.W.Fast.tw4009303040165381347 : True := trivial
theorem PySem.W.Fast.tw18426017877716168521 : True := trivial
theorem PySem.W.Fast.tw13934998205267524609 : True := trivial
theorem PySem.W.Fast.tw15704330597324063703 : True := trivial
theorem PySem.W.Fast.tw1117338925146983763 : True := trivial
theorem PySem.W.Fast.tw13638783443413577801 : True := trivial
theorem PySem.W.Fast.tw8404492172860943975 : True := trivial
theorem PySem.W.Fast.tw3381428016827419510 : True := trivial
theorem PySem.W.Fast.tw4271230156457251438 : True := trivial
theorem PySem.W.Fast.tw3681100771999836337 : True := trivial
theorem PySem.W.Fast.tw1367665720182591233 : True := trivial
theorem PySem.W.Fast.tw13198345302109749800 : True := trivial
theorem PySem.W.Fast.tw1285658157794288591 : True := trivial
theorem PySem.W.Fast.tw9637663805141326152 : True := trivial
theorem PySem.W.Fast.tw1590131740797522519 : True := trivial
theorem PySem.W.Fast.tw2033458461200173659 : True := trivial
theorem PySem.W.Fast.tw2330938424731612490 : True := trivial
theorem PySem.W.Fast.tw1797116654109325101 : True := trivial
theorem PySem.W.Fast.tw11236358730629560178 : True := trivial
theorem PySem.W.Fast.tw14323693519870234273 : True := trivial
theorem PySem.W.Fast.tw311492131286876447 : True := trivial
theorem PySem.W.Fast.tw131036704750661562 : True := trivial
theorem PySem.W.Fast.tw15877898696992071091 : True := trivial
theorem PySem.W.Fast.tw3419531550344307726 : True := trivial
theorem PySem.W.Fast.tw13953509615256279962 : True := trivial
theorem PySem.W.Fast.tw6428569085921379538 : True := trivial
theorem PySem.W.Fast.tw12719148486116275732 : True := trivial
theorem PySem.W.Fast.tw1598955047299369609 : True := trivial
theorem PySem.W.Fast.tw2570500616727142878 : True := trivial
theorem PySem.W.Fast.tw1506890128728205131 : True := trivial
theorem PySem.W.Fast.tw1564609328929573398 : True := trivial
theorem PySem.W.Fast.tw17267157515193982828 : True := trivial
theorem PySem.W.Fast.tw13377839131657684463 : True := trivial
theorem PySem.W.Fast.tw3920225549911559954 : True := trivial
theorem PySem.W.Fast.tw17434382787997406216 : True := trivial
theorem PySem.W.Fast.tw7090712801367360137 : True := trivial
theorem PySem.W.Fast.tw9391534551010728540 : True := trivial
theorem PySem.W.Fast.tw8538438599902549067 : True := trivial
theorem PySem.W.Fast.tw17375833852238638381 : True := trivial
theorem PySem.W.Fast.tw5126767610336775968 : True := trivial
theorem PySem.W.Fast.tw9499386799920265561 : True := trivial
theorem PySem.W.Fast.tw17645132846640562264 : True := trivial
theorem PySem.W.Fast.tw12404884719487724496 : True := trivial
theorem PySem.W.Fast.tw15423057135355587130 : True := trivial
theorem PySem.W.Fast.tw8888173699088948786 : True := trivial
theorem PySem.W.Fast.tw2265877061455084518 : True := trivial
theorem PySem.W.Fast.tw15134887262813168431 : True := trivial
theorem PySem.W.Fast.tw13931130827890287985 : True := trivial
theorem PySem.W.Fast.tw16417651414845602433 : True := trivial
theorem PySem.W.Fast.tw6056316683545784311 : True := trivial
theorem PySem.W.Fast.tw13944729932404729942 : True := trivial
theorem PySem.W.Fast.tw8105373069467741234 : True := trivial
theorem PySem.W.Fast.tw15895855800916494428 : True := trivial
theorem PySem.W.Fast.tw14784560842917539271 : True := trivial
theorem PySem.W.Fast.tw614292771140940034 : True := trivial
theorem PySem.W.Fast.tw13567372000519579739 : True := trivial
theorem PySem.W.Fast.tw11521871260334672496 : True := trivial
theorem PySem.W.Fast.tw1063462735349185357 : True := trivial
theorem PySem.W.Fast.tw7901745886118075480 : True := trivial
theorem PySem.W.Fast.tw14787166426372962651 : True := trivial
theorem PySem.W.Fast.tw5403147159140930079 : True := trivial
theorem PySem.W.Fast.tw1590917494203660469 : True := trivial
theorem PySem.W.Fast.tw15547925108055986497 : True := trivial
theorem PySem.W.Fast.tw3540355811482681467 : True := trivial
theorem PySem.W.Fast.tw17685719103328820558 : True := trivial
theorem PySem.W.Fast.tw5066633528053771773 : True := trivial
theorem PySem.W.Fast.tw16067588759128675931 : True := trivial
theorem PySem.W.Fast.tw13473195158196527270 : True := trivial
theorem PySem.W.Fast.tw5479686402039655992 : True := trivial
theorem PySem.W.Fast.tw1029908512976200046 : True := trivial
theorem PySem.W.Fast.tw9757780340409622366 : True := trivial
theorem PySem.W.Fast.tw15468171276294380194 : True := trivial
theorem PySem.W.Fast.tw14021050133870742851 : True := trivial
theorem PySem.W.Fast.tw12520171916837084351 : True := trivial
theorem PySem.W.Fast.tw9863064372064121403 : True := trivial
theorem PySem.W.Fast.tw11866217367174949959 : True := trivial
theorem PySem.W.Fast.tw1346875090153547954 : True := trivial
theorem PySem.W.Fast.tw1114400426496386050 : True := trivial
theorem PySem.W.Fast.tw15059826355906314341 : True := trivial
theorem PySem.W.Fast.tw1592622627717226663 : True := trivial
theorem PySem.W.Fast.tw7754263633953490771 : True := trivial
theorem PySem.W.Fast.tw15718992155531110358 : True := trivial
theorem PySem.W.Fast.tw957867557755806625 : True := trivial
theorem PySem.W.Fast.tw786983913744222459 : True := trivial
theorem PySem.W.Fast.tw4408116457302310433 : True := trivial
theorem PySem.W.Fast.tw2006073603109035414 : True := trivial
theorem PySem.W.Fast.tw14398629975227786409 : True := trivial
theorem PySem.W.Fast.tw1576349980941369101 : True := trivial
theorem PySem.W.Fast.tw17356886120473201995 : True := trivial
theorem PySem.W.Fast.tw16875844529164209195 : True := trivial
theorem PySem.W.Fast.tw17126599252310341550 : True := trivial
theorem PySem.W.Fast.tw6395305771204847039 : True := trivial
theorem PySem.W.Fast.tw14913567251626692104 : True := trivial
theorem PySem.W.Fast.tw18278204334558449130 : True := trivial
theorem PySem.W.Fast.tw11231089048860332246 : True := trivial
theorem PySem.W.Fast.tw3549505526037343699 : True := trivial
theorem PySem.W.Fast.tw16121285828440028482 : True := trivial
theorem PySem.W.Fast.tw9899444125940805203 : True := trivial
theorem PySem.W.Fast.tw3686945611513473673 : True := trivial
theorem PySem.W.Fast.tw2221965260771926406 : True := trivial
theorem PySem.W.Fast.tw2715828604805260594 : True := trivial
theorem PySem.W.Fast.tw2596027825903914114 : True := trivial
theorem PySem.W.Fast.tw5551093676140620911 : True := trivial
theorem PySem.W.Fast.tw2450246000488732399 : True := trivial
theorem PySem.W.Fast.tw18374631989223828440 : True := trivial
theorem PySem.W.Fast.tw4880140649758592600 : True := trivial
theorem PySem.W.Fast.tw13596085658265860493 : True := trivial
theorem PySem.W.Fast.tw16156895228391507462 : True := trivial
theorem PySem.W.Fast.tw3752701318797908519 : True := trivial
theorem PySem.W.Fast.tw16009320781784332984 : True := trivial
theorem PySem.W.Fast.tw16528820697783126164 : True := trivial
theorem PySem.W.Fast.tw1815144209319215916 : True := trivial
theorem PySem.W.Fast.tw14662244458687882753 : True := trivial
theorem PySem.W.Fast.tw15792339764592550763 : True := trivial
theorem PySem.W.Fast.tw7005472626404927443 : True := trivial
theorem PySem.W.Fast.tw4752011300101896089 : True := trivial
theorem PySem.W.Fast.tw5190040079356233867 : True := trivial
theorem PySem.W.Fast.tw8771795510325224810 : True := trivial
theorem PySem.W.Fast.tw7869091439660743049 : True := trivial
theorem PySem.W.Fast.tw9434366461131157016 : True := trivial
theorem PySem.W.Fast.tw16554814103797607137 : True := trivial
theorem PySem.W.Fast.tw2998920655644841763 : True := trivial
theorem PySem.W.Fast.tw14076757889350721547 : True := trivial
theorem PySem.W.Fast.tw9751509076787019087 : True := trivial
theorem PySem.W.Fast.tw8220854840967548183 : True := trivial
theorem PySem.W.Fast.tw970164006924087941 : True := trivial
theorem PySem.W.Fast.tw14524060995975309285 : True := trivial
theorem PySem.W.Fast.tw5292688478715120418 : True := trivial
theorem PySem.W.Fast.tw10030615889103460894 : True := trivial
theorem PySem.W.Fast.tw18344997467265864475 : True := trivial
theorem PySem.W.Fast.tw13961515417788470247 : True := trivial
theorem PySem.W.Fast.tw11451443000784733076 : True := trivial
theorem PySem.W.Fast.tw3233174909506122510 : True := trivial
theorem PySem.W.Fast.tw18310687712714360249 : True := trivial
theorem PySem.W.Fast.tw10334108788200066998 : True := trivial
theorem PySem.W.Fast.tw15697072080016716287 : True := trivial
theorem PySem.W.Fast.tw3423836899885588072 : True := trivial
theorem PySem.W.Fast.tw9546830358121942560 : True := trivial
theorem PySem.W.Fast.tw12728976574378303824 : True := trivial
theorem PySem.W.Fast.tw16923169541945197846 : True := trivial
theorem PySem.W.Fast.tw15291137826952463988 : True := trivial
theorem PySem.W.Fast.tw4936237845310339131 : True := trivial
theorem PySem.W.Fast.tw10233749872335869456 : True := trivial
theorem PySem.W.Fast.tw9716983446731176932 : True := trivial
theorem PySem.W.Fast.tw4031892441703300908 : True := trivial
theorem PySem.W.Fast.tw9380521302990566 : True := trivial
theorem PySem.W.Fast.tw4707896802343983201 : True := trivial
theorem PySem.W.Fast.tw6237285200286130806 : True := trivial
theorem PySem.W.Fast.tw2767153121156542241 : True := trivial
theorem PySem.W.Fast.tw7927096834402237021 : True := trivial
theorem PySem.W.Fast.tw18241389126193162835 : True := trivial
theorem PySem.W.Fast.tw420795763993250497 : True := trivial
theorem PySem.W.Fast.tw10584628873002687082 : True := trivial
theorem PySem.W.Fast.tw8474967766458746406 : True := trivial
theorem PySem.W.Fast.tw5737935602763223338 : True := trivial
theorem PySem.W.Fast.tw5632384876107724768 : True := trivial
theorem PySem.W.Fast.tw3286280215072379520 : True := trivial
theorem PySem.W.Fast.tw4139887884977684399 : True := trivial
theorem PySem.W.Fast.tw782281143901952340 : True := trivial
theorem PySem.W.Fast.tw11252118703026988307 : True := trivial
theorem PySem.W.Fast.tw2902142900756550953 : True := trivial
theorem PySem.W.Fast.tw11982122670709317492 : True := trivial
theorem PySem.W.Fast.tw13422530442188289201 : True := trivial
theorem PySem.W.Fast.tw6417165137349874823 : True := trivial
theorem PySem.W.Fast.tw6204102010958249299 : True := trivial
theorem PySem.W.Fast.tw3294309256413582905 : True := trivial
theorem PySem.W.Fast.tw8816780296939979092 : True := trivial
theorem PySem.W.Fast.tw1450963760587107824 : True := trivial
theorem PySem.W.Fast.tw9842355498693838672 : True := trivial
theorem PySem.W.Fast.tw2257131032452214953 : True := trivial
theorem PySem.W.Fast.tw13492806650767262230 : True := trivial
theorem PySem.W.Fast.tw7609928168271243298 : True := trivial
theorem PySem.W.Fast.tw16815558981690023040 : True := trivial
theorem PySem.W.Fast.tw15130716096145669552 : True := trivial
theorem PySem.W.Fast.tw4832656237667380622 : True := trivial
theorem PySem.W.Fast.tw12088301541517888036 : True := trivial
theorem PySem.W.Fast.tw15979009581236932130 : True := trivial
theorem PySem.W.Fast.tw3035228502117885279 : True := trivial
theorem PySem.W.Fast.tw847088746681024203 : True := trivial
theorem PySem.W.Fast.tw3259946371146863577 : True := trivial
theorem PySem.W.Fast.tw15396377788755036797 : True := trivial
theorem PySem.W.Fast.tw15192090060201451109 : True := trivial
theorem PySem.W.Fast.tw11299846571475019987 : True := trivial
theorem PySem.W.Fast.tw10588202504704408589 : True := trivial
theorem PySem.W.Fast.tw14923805349180777411 : True := trivial
theorem PySem.W.Fast.tw9277703710557226970 : True := trivial
theorem PySem.W.Fast.tw3810318647382339063 : True := trivial
theorem PySem.W.Fast.tw1935208846942189855 : True := trivial
theorem PySem.W.Fast.tw771491982993949154 : True := trivial
theorem PySem.W.Fast.tw15614321329335327550 : True := trivial
theorem PySem.W.Fast.tw192176592567322329 : True := trivial
theorem PySem.W.Fast.tw1490554587201170752 : True := trivial
theorem PySem.W.Fast.tw12207880068283445916 : True := trivial
theorem PySem.W.Fast.tw14490479779564447124 : True := trivial
theorem PySem.W.Fast.tw6734851432849416448 : True := trivial
theorem PySem.W.Fast.tw1361043860457547025 : True := trivial
theorem PySem.W.Fast.tw6617297825180387668 : True := trivial
theorem PySem.W.Fast.tw1424828646424929530 : True := trivial
theorem PySem.W.Fast.tw14477735504466172566 : True := trivial
theorem PySem.W.Fast.tw10982290265054922533 : True := trivial
theorem PySem.W.Fast.tw5976170793079803887 : True := trivial
theorem PySem.W.Fast.tw9832643677737592272 : True := trivial
theorem PySem.W.Fast.tw691500081242348508 : True := trivial
theorem PySem.W.Fast.tw11639297257459911547 : True := trivial
theorem PySem.W.Fast.tw5378595478492156986 : True := trivial
theorem PySem.W.Fast.tw13506628448213514877 : True := trivial
theorem PySem.W.Fast.tw9551990812972270671 : True := trivial
theorem PySem.W.Fast.tw6809858054619412101 : True := trivial
theorem PySem.W.Fast.tw2943081650064639813 : True := trivial
theorem PySem.W.Fast.tw16868568020189429794 : True := trivial
theorem PySem.W.Fast.tw2553417495157360979 : True := trivial
theorem PySem.W.Fast.tw14181798391504265898 : True := trivial
theorem PySem.W.Fast.tw3053550798613771016 : True := trivial
theorem PySem.W.Fast.tw5572276956762713296 : True := trivial
theorem PySem.W.Fast.tw8543956774012925727 : True := trivial
theorem PySem.W.Fast.tw13148961231796183508 : True := trivial
theorem PySem.W.Fast.tw13733032880673285479 : True := trivial
theorem PySem.W.Fast.tw18391109533622141466 : True := trivial
theorem PySem.W.Fast.tw9516102158693781418 : True := trivial
theorem PySem.W.Fast.tw12990787916670754722 : True := trivial
theorem PySem.W.Fast.tw8767769375015865614 : True := trivial
theorem PySem.W.Fast.tw7920029009184127308 : True := trivial
theorem PySem.W.Fast.tw16082898090566600288 : True := trivial
theorem PySem.W.Fast.tw9376980082246360996 : True := trivial
theorem PySem.W.Fast.tw5679478283990342259 : True := trivial
theorem PySem.W.Fast.tw14484726900942922117 : True := trivial
theorem PySem.W.Fast.tw6026011361407328651 : True := trivial
theorem PySem.W.Fast.tw18396918095743534485 : True := trivial
theorem PySem.W.Fast.tw3773989505590422971 : True := trivial
theorem PySem.W.Fast.tw10961431235387732257 : True := trivial
theorem PySem.W.Fast.tw16421473683283786686 : True := trivial
theorem PySem.W.Fast.tw3224161933547917626 : True := trivial
theorem PySem.W.Fast.tw5597486244615409066 : True := trivial
theorem PySem.W.Fast.tw6241323648610129021 : True := trivial
theorem PySem.W.Fast.tw11525752613644054975 : True := trivial
theorem PySem.W.Fast.tw11398252017218504459 : True := trivial
theorem PySem.W.Fast.tw2033500517971559835 : True := trivial
theorem PySem.W.Fast.tw6899899256212228950 : True := trivial
theorem PySem.W.Fast.tw186321098110463458 : True := trivial
theorem PySem.W.Fast.tw16125535846608127328 : True := trivial
theorem PySem.W.Fast.tw2687866112286683134 : True := trivial
theorem PySem.W.Fast.tw17690292020147864439 : True := trivial
theorem PySem.W.Fast.tw4707630652365283018 : True := trivial
theorem PySem.W.Fast.tw394588742474978704 : True := trivial
theorem PySem.W.Fast.tw6842861918978008720 : True := trivial
theorem PySem.W.Fast.tw15316795337580367210 : True := trivial
theorem PySem.W.Fast.tw2654767937240279975 : True := trivial
theorem PySem.W.Fast.tw17349894520381960647 : True := trivial
theorem PySem.W.Fast.tw16641408932796661487 : True := trivial
theorem PySem.W.Fast.tw2812078902215971431 : True := trivial
theorem PySem.W.Fast.tw16908036560520729147 : True := trivial
theorem PySem.W.Fast.tw821995197140154258 : True := trivial
theorem PySem.W.Fast.tw16731758578178480181 : True := trivial
theorem PySem.W.Fast.tw6551000556473576881 : True := trivial
theorem PySem.W.Fast.tw13670338815962993445 : True := trivial
theorem PySem.W.Fast.tw1450462520848286431 : True := trivial
theorem PySem.W.Fast.tw6230253278670516272 : True := trivial
theorem PySem.W.Fast.tw11793102467144582406 : True := trivial
theorem PySem.W.Fast.tw17001284771731862886 : True := trivial
theorem PySem.W.Fast.tw16412245559891191490 : True := trivial
theorem PySem.W.Fast.tw17324762428958779155 : True := trivial
theorem PySem.W.Fast.tw833441167591322640 : True := trivial
theorem PySem.W.Fast.tw3822381836608808915 : True := trivial
theorem PySem.W.Fast.tw6939193770362411553 : True := trivial
theorem PySem.W.Fast.tw12683950732898108434 : True := trivial
theorem PySem.W.Fast.tw11328126384615555943 : True := trivial
theorem PySem.W.Fast.tw17350710172242637809 : True := trivial
theorem PySem.W.Fast.tw4755179413059488502 : True := trivial
theorem PySem.W.Fast.tw10023161131321736740 : True := trivial
theorem PySem.W.Fast.tw4688060223969640922 : True := trivial
theorem PySem.W.Fast.tw3168928805001892319 : True := trivial
theorem PySem.W.Fast.tw16178472548241723217 : True := trivial
theorem PySem.W.Fast.tw11602956436363991184 : True := trivial
theorem PySem.W.Fast.tw12850810324382791555 : True := trivial
theorem PySem.W.Fast.tw16091994921601371831 : True := trivial
theorem PySem.W.Fast.tw14060217036652614862 : True := trivial
theorem PySem.W.Fast.tw10988502787440500170 : True := trivial
theorem PySem.W.Fast.tw6443056951522226361 : True := trivial
theorem PySem.W.Fast.tw13123075890898227888 : True := trivial
theorem PySem.W.Fast.tw751854694912704957 : True := trivial
theorem PySem.W.Fast.tw10951605479460867998 : True := trivial
theorem PySem.W.Fast.tw16395553713679018300 : True := trivial
theorem PySem.W.Fast.tw15846165032458796103 : True := trivial
theorem PySem.W.Fast.tw2513885662015479916 : True := trivial
theorem PySem.W.Fast.tw11472033074982552082 : True := trivial
theorem PySem.W.Fast.tw4388558460238485176 : True := trivial
theorem PySem.W.Fast.tw14506025818754899679 : True := trivial
theorem PySem.W.Fast.tw16723140353994561480 : True := trivial
theorem PySem.W.Fast.tw13427401681360543809 : True := trivial
theorem PySem.W.Fast.tw8634002043476061857 : True := trivial
theorem PySem.W.Fast.tw4679730535158982052 : True := trivial
theorem PySem.W.Fast.tw18038342502301544080 : True := trivial
theorem PySem.W.Fast.tw12770216392105388559 : True := trivial
theorem PySem.W.Fast.tw9891272978662712752 : True := trivial
theorem PySem.W.Fast.tw14863690611231077283 : True := trivial
theorem PySem.W.Fast.tw628843257609114561 : True := trivial
theorem PySem.W.Fast.tw1127312036135340305 : True := trivial
theorem PySem.W.Fast.tw10079939774880906135 : True := trivial
theorem PySem.W.Fast.tw16728830263538730028 : True := trivial
theorem PySem.W.Fast.tw13712792142786355581 : True := trivial
theorem PySem.W.Fast.tw1341231512375157342 : True := trivial
theorem PySem.W.Fast.tw11636522814329417547 : True := trivial
theorem PySem.W.Fast.tw9854039949128730217 : True := trivial
theorem PySem.W.Fast.tw2050073416493966348 : True := trivial
theorem PySem.W.Fast.tw4538925669679504922 : True := trivial
theorem PySem.W.Fast.tw330874752682629785 : True := trivial
theorem PySem.W.Fast.tw8908656469622170935 : True := trivial
theorem PySem.W.Fast.tw15229797905366564093 : True := trivial
theorem PySem.W.Fast.tw4701621275703583520 : True := trivial
theorem PySem.W.Fast.tw15969591950503164533 : True := trivial
theorem PySem.W.Fast.tw14721018252553739949 : True := trivial
theorem PySem.W.Fast.tw10833472686570946229 : True := trivial
theorem PySem.W.Fast.tw10980853514697580712 : True := trivial
theorem PySem.W.Fast.tw15653869050121676165 : True := trivial
theorem PySem.W.Fast.tw6359128108473716745 : True := trivial
theorem PySem.W.Fast.tw17890750591833284991 : True := trivial
theorem PySem.W.Fast.tw3752426837358398932 : True := trivial
theorem PySem.W.Fast.tw14145763603311199753 : True := trivial
theorem PySem.W.Fast.tw9550594675337428335 : True := trivial
theorem PySem.W.Fast.tw6485513194097066026 : True := trivial
theorem PySem.W.Fast.tw882791331356880022 : True := trivial
theorem PySem.W.Fast.tw4951587287638653763 : True := trivial
theorem PySem.W.Fast.tw777557279272073762 : True := trivial
theorem PySem.W.Fast.tw1985075129817277432 : True := trivial
theorem PySem.W.Fast.tw17884777854329700076 : True := trivial
theorem PySem.W.Fast.tw8853592116706599161 : True := trivial
theorem PySem.W.Fast.tw4228396436448374049 : True := trivial
theorem PySem.W.Fast.tw9925973406408820445 : True := trivial
theorem PySem.W.Fast.tw4890875727529554077 : True := trivial
theorem PySem.W.Fast.tw5930504069960509041 : True := trivial
theorem PySem.W.Fast.tw17437437613310002747 : True := trivial
theorem PySem.W.Fast.tw1317831194104009703 : True := trivial
theorem PySem.W.Fast.tw5478345060246884515 : True := trivial
theorem PySem.W.Fast.tw16968772199641535110 : True := trivial
theorem PySem.W.Fast.tw10072234874356876149 : True := trivial
theorem PySem.W.Fast.tw9391623114070039421 : True := trivial
theorem PySem.W.Fast.tw2988442592531116135 : True := trivial
theorem PySem.W.Fast.tw10296672218840059555 : True := trivial
theorem PySem.W.Fast.tw7083026741953459202 : True := trivial
theorem PySem.W.Fast.tw1515332094496066782 : True := trivial
theorem PySem.W.Fast.tw2964318609620875042 : True := trivial
theorem PySem.W.Fast.tw15864288387434638010 : True := trivial
theorem PySem.W.Fast.tw10433017514622749718 : True := trivial
theorem PySem.W.Fast.tw5996327103774731462 : True := trivial
theorem PySem.W.Fast.tw9870216061090687673 : True := trivial
theorem PySem.W.Fast.tw3111954031247027488 : True := trivial
theorem PySem.W.Fast.tw1128862987738357399 : True := trivial
theorem PySem.W.Fast.tw12114601495765083806 : True := trivial
theorem PySem.W.Fast.tw8594322781269229366 : True := trivial
theorem PySem.W.Fast.tw17049048965591335060 : True := trivial
theorem PySem.W.Fast.tw2169386389530624512 : True := trivial
theorem PySem.W.Fast.tw8790764760308393707 : True := trivial
theorem PySem.W.Fast.tw3937316579529793389 : True := trivial
theorem PySem.W.Fast.tw7812770650524984116 : True := trivial
theorem PySem.W.Fast.tw15245846922752086736 : True := trivial
theorem PySem.W.Fast.tw9011171132480701713 : True := trivial
theorem PySem.W.Fast.tw2062076234785886060 : True := trivial
theorem PySem.W.Fast.tw2441904708624812710 : True := trivial
theorem PySem.W.Fast.tw18145687743233320212 : True := trivial
theorem PySem.W.Fast.tw4544797180037252498 : True := trivial
theorem PySem.W.Fast.tw10978493854323469233 : True := trivial
theorem PySem.W.Fast.tw15262129777156242969 : True := trivial
theorem PySem.W.Fast.tw5039856014559020434 : True := trivial
theorem PySem.W.Fast.tw14798983730552712341 : True := trivial
theorem PySem.W.Fast.tw2821477236328270624 : True := trivial
theorem PySem.W.Fast.tw15686232713672736797 : True := trivial
theorem PySem.W.Fast.tw3704037494431099678 : True := trivial
theorem PySem.W.Fast.tw5917987846669419235 : True := trivial
theorem PySem.W.Fast.tw17919014246439828487 : True := trivial
theorem PySem.W.Fast.tw13683450489191830556 : True := trivial
theorem PySem.W.Fast.tw17353958881067434538 : True := trivial
theorem PySem.W.Fast.tw17187719183128327115 : True := trivial
theorem PySem.W.Fast.tw4005670490079260707 : True := trivial
theorem PySem.W.Fast.tw15625233939258344491 : True := trivial
theorem PySem.W.Fast.tw4178861523805325838 : True := trivial
theorem PySem.W.Fast.tw16089533250004293117 : True := trivial
theorem PySem.W.Fast.tw8867498599637742802 : True := trivial
theorem PySem.W.Fast.tw17206335538747931031 : True := trivial
theorem PySem.W.Fast.tw17830607575760109926 : True := trivial
theorem PySem.W.Fast.tw1198820201505006286 : True := trivial
theorem PySem.W.Fast.tw15089512783790170778 : True := trivial
theorem PySem.W.Fast.tw2718066343028053187 : True := trivial
theorem PySem.W.Fast.tw11977525970216958402 : True := trivial
theorem PySem.W.Fast.tw6905725336494967421 : True := trivial
theorem PySem.W.Fast.tw1125965181752687262 : True := trivial
theorem PySem.W.Fast.tw14304804949777914098 : True := trivial
theorem PySem.W.Fast.tw8628232074489492490 : True := trivial
theorem PySem.W.Fast.tw5412203917809845013 : True := trivial
theorem PySem.W.Fast.tw17875277324241299187 : True := trivial
theorem PySem.W.Fast.tw9040790929755627862 : True := trivial
theorem PySem.W.Fast.tw7196139882222203329 : True := trivial
theorem PySem.W.Fast.tw14892146789543397381 : True := trivial
theorem PySem.W.Fast.tw18294713924661073369 : True := trivial
theorem PySem.W.Fast.tw2331796974667969713 : True := trivial
theorem PySem.W.Fast.tw13213436291485023952 : True := trivial
theorem PySem.W.Fast.tw2062242398355454535 : True := trivial
theorem PySem.W.Fast.tw6633242466598158790 : True := trivial
theorem PySem.W.Fast.tw1369031023098425415 : True := trivial
theorem PySem.W.Fast.tw14319853661885379336 : True := trivial
theorem PySem.W.Fast.tw14048768040845559652 : True := trivial
theorem PySem.W.Fast.tw5986833537929325351 : True := trivial
theorem PySem.W.Fast.tw15318480049122541836 : True := trivial
theorem PySem.W.Fast.tw3071889591425334139 : True := trivial
theorem PySem.W.Fast.tw11176060187017817521 : True := trivial
theorem PySem.W.Fast.tw11575797173705274520 : True := trivial
theorem PySem.W.Fast.tw6555039984916170052 : True := trivial
theorem PySem.W.Fast.tw17962577890227377241 : True := trivial
theorem PySem.W.Fast.tw6892803423154653962 : True := trivial
theorem PySem.W.Fast.tw4119465690593059436 : True := trivial
theorem PySem.W.Fast.tw13972506464126968856 : True := trivial
theorem PySem.W.Fast.tw13556906070743162330 : True := trivial
theorem PySem.W.Fast.tw8095623269278878531 : True := trivial
theorem PySem.W.Fast.tw16302500285907680510 : True := trivial
theorem PySem.W.Fast.tw1646359080818318354 : True := trivial
theorem PySem.W.Fast.tw689776530191339803 : True := trivial
theorem PySem.W.Fast.tw14297061213480470463 : True := trivial
theorem PySem.W.Fast.tw5203564918670204066 : True := trivial
theorem PySem.W.Fast.tw4837797600861749739 : True := trivial
theorem PySem.W.Fast.tw18320553961363011376 : True := trivial
theorem PySem.W.Fast.tw10025668113104192823 : True := trivial
theorem PySem.W.Fast.tw16383542694120858487 : True := trivial
theorem PySem.W.Fast.tw14121287221894948628 : True := trivial
theorem PySem.W.Fast.tw14209122969805240010 : True := trivial
theorem PySem.W.Fast.tw1937861508297531147 : True := trivial
theorem PySem.W.Fast.tw15741460187188961237 : True := trivial
theorem PySem.W.Fast.tw15439789287806493741 : True := trivial
theorem PySem.W.Fast.tw17528206187794269086 : True := trivial
theorem PySem.W.Fast.tw7137755596769804755 : True := trivial
theorem PySem.W.Fast.tw16857459649332907384 : True := trivial
theorem PySem.W.Fast.tw7751876181425013038 : True := trivial
theorem PySem.W.Fast.tw2375582397945007532 : True := trivial
theorem PySem.W.Fast.tw2084006698421111489 : True := trivial
theorem PySem.W.Fast.tw13106338380362076427 : True := trivial
theorem PySem.W.Fast.tw13277028039046979846 : True := trivial
theorem PySem.W.Fast.tw7752917922407671991 : True := trivial
theorem PySem.W.Fast.tw9381854836124153382 : True := trivial
theorem PySem.W.Fast.tw14232570428604447669 : True := trivial
theorem PySem.W.Fast.tw14428103731043326268 : True := trivial
theorem PySem.W.Fast.tw14121790873048866577 : True := trivial
theorem PySem.W.Fast.tw14896381074991033352 : True := trivial
theorem PySem.W.Fast.tw3576782714025347695 : True := trivial
theorem PySem.W.Fast.tw1326508209971338453 : True := trivial
theorem PySem.W.Fast.tw18113839848000105283 : True := trivial
theorem PySem.W.Fast.tw16084089324033908214 : True := trivial
theorem PySem.W.Fast.tw6576261200383841494 : True := trivial
theorem PySem.W.Fast.tw7936081272317664630 : True := trivial
theorem PySem.W.Fast.tw4127930618189883336 : True := trivial
theorem PySem.W.Fast.tw7154900917661695378 : True := trivial
theorem PySem.W.Fast.tw16893572093292773021 : True := trivial
theorem PySem.W.Fast.tw10140089483576403867 : True := trivial
theorem PySem.W.Fast.tw6315402022881903653 : True := trivial
theorem PySem.W.Fast.tw3856141133563790215 : True := trivial
theorem PySem.W.Fast.tw4790490791208094041 : True := trivial
theorem PySem.W.Fast.tw7887551903089937430 : True := trivial
theorem PySem.W.Fast.tw14854870789626627963 : True := trivial
theorem PySem.W.Fast.tw541259797840332381 : True := trivial
theorem PySem.W.Fast.tw17854174472160031899 : True := trivial
theorem PySem.W.Fast.tw8263531065738211130 : True := trivial
theorem PySem.W.Fast.tw14842386663208662718 : True := trivial
theorem PySem.W.Fast.tw10887059775049692007 : True := trivial
theorem PySem.W.Fast.tw15240736584406185634 : True := trivial
theorem PySem.W.Fast.tw6840350873248081369 : True := trivial
theorem PySem.W.Fast.tw17484768430315831904 : True := trivial
theorem PySem.W.Fast.tw9892524678671480426 : True := trivial
theorem PySem.W.Fast.tw16028055361206169676 : True := trivial
theorem PySem.W.Fast.tw7609983448971343589 : True := trivial
theorem PySem.W.Fast.tw13131913874290981756 : True := trivial
theorem PySem.W.Fast.tw5823067011512503457 : True := trivial
theorem PySem.W.Fast.tw12623944257566323922 : True := trivial
theorem PySem.W.Fast.tw10333854050951454872 : True := trivial
theorem PySem.W.Fast.tw169129696975687630 : True := trivial
theorem PySem.W.Fast.tw17328067590798921881 : True := trivial
theorem PySem.W.Fast.tw14220080844880924749 : True := trivial
theorem PySem.W.Fast.tw15607508473370435207 : True := trivial
theorem PySem.W.Fast.tw13886882703281399918 : True := trivial
theorem PySem.W.Fast.tw9076361015916763035 : True := trivial
theorem PySem.W.Fast.tw282868263915575739 : True := trivial
theorem PySem.W.Fast.tw6611012904448521000 : True := trivial
theorem PySem.W.Fast.tw12944489790708634353 : True := trivial
theorem PySem.W.Fast.tw13019736112626568627 : True := trivial
theorem PySem.W.Fast.tw1523094677919938530 : True := trivial
theorem PySem.W.Fast.tw15914389046219503913 : True := trivial
theorem PySem.W.Fast.tw11243462997599599172 : True := trivial
theorem PySem.W.Fast.tw5246445384743644812 : True := trivial
theorem PySem.W.Fast.tw515806362561558364 : True := trivial
theorem PySem.W.Fast.tw16167617906696142669 : True := trivial
theorem PySem.W.Fast.tw15312045007882087745 : True := trivial
theorem PySem.W.Fast.tw7257460881489315771 : True := trivial
theorem PySem.W.Fast.tw16789795303988289047 : True := trivial
theorem PySem.W.Fast.tw10200162785172522048 : True := trivial
theorem PySem.W.Fast.tw10288982945753058980 : True := trivial
theorem PySem.W.Fast.tw3783115612037321988 : True := trivial
theorem PySem.W.Fast.tw15422436329144209405 : True := trivial
theorem PySem.W.Fast.tw11224318382608935028 : True := trivial
theorem PySem.W.Fast.tw12499673209134177140 : True := trivial
theorem PySem.W.Fast.tw11316192352880456888 : True := trivial
theorem PySem.W.Fast.tw3971463949161934506 : True := trivial
theorem PySem.W.Fast.tw705019908784725136 : True := trivial
theorem PySem.W.Fast.tw2970818693840275876 : True := trivial
theorem PySem.W.Fast.tw11707924792332094245 : True := trivial
theorem PySem.W.Fast.tw7037313974042660076 : True := trivial
theorem PySem.W.Fast.tw7409656423172562928 : True := trivial
theorem PySem.W.Fast.tw8646188178677964253 : True := trivial
theorem PySem.W.Fast.tw1020156228955634726 : True := trivial
theorem PySem.W.Fast.tw8880223766457502458 : True := trivial
theorem PySem.W.Fast.tw1095949979147893292 : True := trivial
theorem PySem.W.Fast.tw6654004174852894993 : True := trivial
theorem PySem.W.Fast.tw13861009547510127939 : True := trivial
theorem PySem.W.Fast.tw3001386602097227319 : True := trivial
theorem PySem.W.Fast.tw547009074728065477 : True := trivial
theorem PySem.W.Fast.tw10378011724890821336 : True := trivial
theorem PySem.W.Fast.tw13028858875549230352 : True := trivial
theorem PySem.W.Fast.tw3611540445310635972 : True := trivial
theorem PySem.W.Fast.tw15160768564896722826 : True := trivial
theorem PySem.W.Fast.tw4369894885698726790 : True := trivial
theorem PySem.W.Fast.tw13305350675621675649 : True := trivial
theorem PySem.W.Fast.tw9990127475468103041 : True := trivial
theorem PySem.W.Fast.tw14548394495883277501 : True := trivial
theorem PySem.W.Fast.tw15677859480562728064 : True := trivial
theorem PySem.W.Fast.tw5193384348370464445 : True := trivial
theorem PySem.W.Fast.tw11903964473601094505 : True := trivial
theorem PySem.W.Fast.tw16987799087009107399 : True := trivial
theorem PySem.W.Fast.tw14555893811621846369 : True := trivial
theorem PySem.W.Fast.tw9887822008463989310 : True := trivial
theorem PySem.W.Fast.tw3205805618096885280 : True := trivial
theorem PySem.W.Fast.tw7818200237461906394 : True := trivial
theorem PySem.W.Fast.tw17226743991355923080 : True := trivial
theorem PySem.W.Fast.tw15728382645105323008 : True := trivial
theorem PySem.W.Fast.tw15951563442484072810 : True := trivial
theorem PySem.W.Fast.tw11960350217571512644 : True := trivial
theorem PySem.W.Fast.tw16187406217804339078 : True := trivial
theorem PySem.W.Fast.tw12352474900467592727 : True := trivial
theorem PySem.W.Fast.tw15941075670053696247 : True := trivial
theorem PySem.W.Fast.tw14521093428821261013 : True := trivial
theorem PySem.W.Fast.tw11038271681371092457 : True := trivial
theorem PySem.W.Fast.tw5719695926146065260 : True := trivial
theorem PySem.W.Fast.tw9298367582718110509 : True := trivial
theorem PySem.W.Fast.tw481628887361737130 : True := trivial
theorem PySem.W.Fast.tw3840342573525577063 : True := trivial
theorem PySem.W.Fast.tw17436154781819510064 : True := trivial
theorem PySem.W.Fast.tw14275633898813374663 : True := trivial
theorem PySem.W.Fast.tw14421774562854765305 : True := trivial
theorem PySem.W.Fast.tw17259926503547111486 : True := trivial
theorem PySem.W.Fast.tw7426096255321401056 : True := trivial
theorem PySem.W.Fast.tw13495206909776301672 : True := trivial
theorem PySem.W.Fast.tw11329971893905964291 : True := trivial
theorem PySem.W.Fast.tw12251059878130333972 : True := trivial
theorem PySem.W.Fast.tw7603318239538608759 : True := trivial
theorem PySem.W.Fast.tw12144967909274864053 : True := trivial
theorem PySem.W.Fast.tw6383129524985720341 : True := trivial
theorem PySem.W.Fast.tw13032955642279973486 : True := trivial
theorem PySem.W.Fast.tw17530968939298147575 : True := trivial
theorem PySem.W.Fast.tw17073983668428222101 : True := trivial
theorem PySem.W.Fast.tw17943404872452312093 : True := trivial
theorem PySem.W.Fast.tw10848218982148782712 : True := trivial
theorem PySem.W.Fast.tw4602760667361629224 : True := trivial
theorem PySem.W.Fast.tw633490043141181061 : True := trivial
theorem PySem.W.Fast.tw13706539018722437265 : True := trivial
theorem PySem.W.Fast.tw15913474312298903923 : True := trivial
theorem PySem.W.Fast.tw12448317808969791569 : True := trivial
theorem PySem.W.Fast.tw12765495143158268157 : True := trivial
theorem PySem.W.Fast.tw18027477840888266116 : True := trivial
theorem PySem.W.Fast.tw5857342154322549100 : True := trivial
theorem PySem.W.Fast.tw9143897299545754926 : True := trivial
theorem PySem.W.Fast.tw10461506224410101600 : True := trivial
theorem PySem.W.Fast.tw7699500113638848675 : True := trivial
theorem PySem.W.Fast.tw8276374838436294023 : True := trivial
theorem PySem.W.Fast.tw4374233843395077195 : True := trivial
theorem PySem.W.Fast.tw596566571325338879 : True := trivial
theorem PySem.W.Fast.tw13744554897565483110 : True := trivial
theorem PySem.W.Fast.tw11071164136206410936 : True := trivial
theorem PySem.W.Fast.tw16284726459021287673 : True := trivial
theorem PySem.W.Fast.tw13993764704520999742 : True := trivial
theorem PySem.W.Fast.tw14541194471813246171 : True := trivial
theorem PySem.W.Fast.tw9566428841347265717 : True := trivial
theorem PySem.W.Fast.tw9005017642141384510 : True := trivial
theorem PySem.W.Fast.tw6616554819600569290 : True := trivial
theorem PySem.W.Fast.tw7189853466191339361 : True := trivial
theorem PySem.W.Fast.tw3877185817234876803 : True := trivial
theorem PySem.W.Fast.tw14867659043778641462 : True := trivial
theorem PySem.W.Fast.tw11835716462637783889 : True := trivial
theorem PySem.W.Fast.tw3015528495095822795 : True := trivial
theorem PySem.W.Fast.tw15412234177510478538 : True := trivial
theorem PySem.W.Fast.tw17021558775781604589 : True := trivial
theorem PySem.W.Fast.tw14037729733230471711 : True := trivial
theorem PySem.W.Fast.tw11620592940334480756 : True := trivial
theorem PySem.W.Fast.tw3227231381419519066 : True := trivial
theorem PySem.W.Fast.tw8109984561848074464 : True := trivial
theorem PySem.W.Fast.tw9265678127511946684 : True := trivial
theorem PySem.W.Fast.tw10867381569044561750 : True := trivial
theorem PySem.W.Fast.tw10185532643751951663 : True := trivial
theorem PySem.W.Fast.tw11098434701342826165 : True := trivial
theorem PySem.W.Fast.tw14908055773444616591 : True := trivial
theorem PySem.W.Fast.tw2638479690382008755 : True := trivial
theorem PySem.W.Fast.tw6421957199745900093 : True := trivial
theorem PySem.W.Fast.tw16722914010454981540 : True := trivial
theorem PySem.W.Fast.tw15085602200769094325 : True := trivial
theorem PySem.W.Fast.tw1655993870351992693 : True := trivial
theorem PySem.W.Fast.tw9911874520460422989 : True := trivial
theorem PySem.W.Fast.tw7206505031648931828 : True := trivial
theorem PySem.W.Fast.tw17241034141774404424 : True := trivial
theorem PySem.W.Fast.tw7533382687520254185 : True := trivial
theorem PySem.W.Fast.tw3471271899143205490 : True := trivial
theorem PySem.W.Fast.tw17595952947688455247 : True := trivial
theorem PySem.W.Fast.tw9639071661702896168 : True := trivial
theorem PySem.W.Fast.tw8937136849551982987 : True := trivial
theorem PySem.W.Fast.tw5612909491099845190 : True := trivial
theorem PySem.W.Fast.tw17807309125231640975 : True := trivial
theorem PySem.W.Fast.tw6064890121481574620 : True := trivial
theorem PySem.W.Fast.tw5961964585859964019 : True := trivial
theorem PySem.W.Fast.tw10567901321345030668 : True := trivial
theorem PySem.W.Fast.tw16529612594577605758 : True := trivial
theorem PySem.W.Fast.tw1876800878080425314 : True := trivial
theorem PySem.W.Fast.tw11266621903280425397 : True := trivial
theorem PySem.W.Fast.tw15242717441228271626 : True := trivial
theorem PySem.W.Fast.tw929548137169634652 : True := trivial
theorem PySem.W.Fast.tw15739687249992099939 : True := trivial
theorem PySem.W.Fast.tw9562570365113830432 : True := trivial
theorem PySem.W.Fast.tw910047529498159648 : True := trivial
theorem PySem.W.Fast.tw2069712691957215248 : True := trivial
theorem PySem.W.Fast.tw271006482935145873 : True := trivial
theorem PySem.W.Fast.tw225584639981555489 : True := trivial
theorem PySem.W.Fast.tw5021851042685947833 : True := trivial
theorem PySem.W.Fast.tw16644425556090537289 : True := trivial
theorem PySem.W.Fast.tw18022881281301021929 : True := trivial
theorem PySem.W.Fast.tw13108889744892496781 : True := trivial
theorem PySem.W.Fast.tw15382825123737002785 : True := trivial
theorem PySem.W.Fast.tw169341487706551656 : True := trivial
theorem PySem.W.Fast.tw5472967068632933252 : True := trivial
theorem PySem.W.Fast.tw8703111924702993671 : True := trivial
theorem PySem.W.Fast.tw4886721735171686254 : True := trivial
theorem PySem.W.Fast.tw3339793455097911038 : True := trivial
theorem PySem.W.Fast.tw12255705061705284059 : True := trivial
theorem PySem.W.Fast.tw13571968014679144768 : True := trivial
theorem PySem.W.Fast.tw1752182103275829681 : True := trivial
theorem PySem.W.Fast.tw17669545736266715403 : True := trivial
theorem PySem.W.Fast.tw8404583378973771980 : True := trivial
theorem PySem.W.Fast.tw17818214673817144339 : True := trivial
theorem PySem.W.Fast.tw13778873277757138122 : True := trivial
theorem PySem.W.Fast.tw13548883327391500569 : True := trivial
theorem PySem.W.Fast.tw12614141921610424171 : True := trivial
theorem PySem.W.Fast.tw8829612804537550054 : True := trivial
theorem PySem.W.Fast.tw2601590901058245830 : True := trivial
theorem PySem.W.Fast.tw5339831135876379827 : True := trivial
theorem PySem.W.Fast.tw11642833001478890008 : True := trivial
theorem PySem.W.Fast.tw11001723231791064569 : True := trivial
theorem PySem.W.Fast.tw7201922246503079955 : True := trivial
theorem PySem.W.Fast.tw15580040812497123276 : True := trivial
theorem PySem.W.Fast.tw3279360952017356895 : True := trivial
theorem PySem.W.Fast.tw642770935749339384 : True := trivial
theorem PySem.W.Fast.tw7698043838626856669 : True := trivial
theorem PySem.W.Fast.tw16280609413834049225 : True := trivial
theorem PySem.W.Fast.tw13555895153214884778 : True := trivial
theorem PySem.W.Fast.tw16703487433091878656 : True := trivial
theorem PySem.W.Fast.tw3402967827988913578 : True := trivial
theorem PySem.W.Fast.tw13523737052305204092 : True := trivial
theorem PySem.W.Fast.tw13703742816996567334 : True := trivial
theorem PySem.W.Fast.tw16291001356521218980 : True := trivial
theorem PySem.W.Fast.tw6924405874382439547 : True := trivial
theorem PySem.W.Fast.tw2390931687130510734 : True := trivial
theorem PySem.W.Fast.tw15998938494280104140 : True := trivial
theorem PySem.W.Fast.tw15509316711245371025 : True := trivial
theorem PySem.W.Fast.tw2359789368012531548 : True := trivial
theorem PySem.W.Fast.tw953968237717101539 : True := trivial
theorem PySem.W.Fast.tw12115483245791822018 : True := trivial
theorem PySem.W.Fast.tw10337755315756212760 : True := trivial
theorem PySem.W.Fast.tw10562576161062532931 : True := trivial
theorem PySem.W.Fast.tw7495094578329653328 : True := trivial
theorem PySem.W.Fast.tw15994806671362682280 : True := trivial
theorem PySem.W.Fast.tw13130389102403325109 : True := trivial
theorem PySem.W.Fast.tw5177719290715846600 : True := trivial
theorem PySem.W.Fast.tw11998498604612090661 : True := trivial
theorem PySem.W.Fast.tw1523695272096993103 : True := trivial
theorem PySem.W.Fast.tw16671341160626096977 : True := trivial
theorem PySem.W.Fast.tw13270167977076538060 : True := trivial
theorem PySem.W.Fast.tw9821644904900860324 : True := trivial
theorem PySem.W.Fast.tw90301751947886162 : True := trivial
theorem PySem.W.Fast.tw17804878452942730291 : True := trivial
theorem PySem.W.Fast.tw9512569190420503389 : True := trivial
theorem PySem.W.Fast.tw5215762367973860298 : True := trivial
theorem PySem.W.Fast.tw3089145687912806321 : True := trivial
theorem PySem.W.Fast.tw6086322237282496068 : True := trivial
theorem PySem.W.Fast.tw12360939114058189082 : True := trivial
theorem PySem.W.Fast.tw6808618023200766412 : True := trivial
theorem PySem.W.Fast.tw4905750687569330773 : True := trivial
theorem PySem.W.Fast.tw7206067574327276317 : True := trivial
theorem PySem.W.Fast.tw6877068654247516910 : True := trivial
theorem PySem.W.Fast.tw14343257031107717434 : True := trivial
theorem PySem.W.Fast.tw11222999947393901392 : True := trivial
theorem PySem.W.Fast.tw10300805791066617191 : True := trivial
theorem PySem.W.Fast.tw10371023633968983486 : True := trivial
theorem PySem.W.Fast.tw12068787274675545032 : True := trivial
theorem PySem.W.Fast.tw13361914051297100597 : True := trivial
theorem PySem.W.Fast.tw16853738799059245470 : True := trivial
theorem PySem.W.Fast.tw8657335450102283050 : True := trivial
theorem PySem.W.Fast.tw1362289160032006030 : True := trivial
theorem PySem.W.Fast.tw13371714000827598401 : True := trivial
theorem PySem.W.Fast.tw13724368868900151486 : True := trivial
theorem PySem.W.Fast.tw7010500969628662244 : True := trivial
theorem PySem.W.Fast.tw3911740228783754647 : True := trivial
theorem PySem.W.Fast.tw12028112455818248676 : True := trivial
theorem PySem.W.Fast.tw13155581560472446823 : True := trivial
theorem PySem.W.Fast.tw12337451646199489356 : True := trivial
theorem PySem.W.Fast.tw825241530002660691 : True := trivial
theorem PySem.W.Fast.tw3295546439164215991 : True := trivial
theorem PySem.W.Fast.tw7082149911087119932 : True := trivial
theorem PySem.W.Fast.tw9151238257672858612 : True := trivial
theorem PySem.W.Fast.tw10841763088291235473 : True := trivial
theorem PySem.W.Fast.tw1179332266240206751 : True := trivial
theorem PySem.W.Fast.tw16365389897963837447 : True := trivial
theorem PySem.W.Fast.tw11304275264502940813 : True := trivial
theorem PySem.W.Fast.tw12825654880716321079 : True := trivial
theorem PySem.W.Fast.tw11196616709514019719 : True := trivial
theorem PySem.W.Fast.tw11529414036252105315 : True := trivial
theorem PySem.W.Fast.tw8024635500994942471 : True := trivial
theorem PySem.W.Fast.tw6684357911671940403 : True := trivial
theorem PySem.W.Fast.tw16136058234035738053 : True := trivial
theorem PySem.W.Fast.tw12938942544139103105 : True := trivial
theorem PySem.W.Fast.tw3808297267356382964 : True := trivial
theorem PySem.W.Fast.tw10643787941654774485 : True := trivial
theorem PySem.W.Fast.tw10793351726218486590 : True := trivial
theorem PySem.W.Fast.tw5254086445096274610 : True := trivial
theorem PySem.W.Fast.tw16310505812857297765 : True := trivial
theorem PySem.W.Fast.tw13866434193868277465 : True := trivial
theorem PySem.W.Fast.tw2884347991357727982 : True := trivial
theorem PySem.W.Fast.tw10483434964328700953 : True := trivial
theorem PySem.W.Fast.tw3177740567228559341 : True := trivial
theorem PySem.W.Fast.tw16152451531635135576 : True := trivial
theorem PySem.W.Fast.tw1029230520903435405 : True := trivial
theorem PySem.W.Fast.tw8106521686186682775 : True := trivial
theorem PySem.W.Fast.tw10742157314961477420 : True := trivial
theorem PySem.W.Fast.tw14735870185238394123 : True := trivial
theorem PySem.W.Fast.tw11593496592722027085 : True := trivial
theorem PySem.W.Fast.tw15904380276710862315 : True := trivial
theorem PySem.W.Fast.tw4325437599742610890 : True := trivial
theorem PySem.W.Fast.tw4730988204657522325 : True := trivial
theorem PySem.W.Fast.tw34765101023416353 : True := trivial
theorem PySem.W.Fast.tw7903067235797610445 : True := trivial
theorem PySem.W.Fast.tw11950937690296890139 : True := trivial
theorem PySem.W.Fast.tw14852370383348774721 : True := trivial
theorem PySem.W.Fast.tw18335452089952729979 : True := trivial
theorem PySem.W.Fast.tw12098143811858230494 : True := trivial
theorem PySem.W.Fast.tw17153765704526457887 : True := trivial
theorem PySem.W.Fast.tw15225601390334816668 : True := trivial
theorem PySem.W.Fast.tw17032258865286938864 : True := trivial
theorem PySem.W.Fast.tw2337270458614890793 : True := trivial
theorem PySem.W.Fast.tw889465658811170791 : True := trivial
theorem PySem.W.Fast.tw10516719211697734026 : True := trivial
theorem PySem.W.Fast.tw11209381541516613253 : True := trivial
theorem PySem.W.Fast.tw18428850463065772927 : True := trivial
theorem PySem.W.Fast.tw10966154669399667262 : True := trivial
theorem PySem.W.Fast.tw3587328006211107142 : True := trivial
theorem PySem.W.Fast.tw7383928645325801391 : True := trivial
theorem PySem.W.Fast.tw5854017890998432049 : True := trivial
theorem PySem.W.Fast.tw4401848831567846537 : True := trivial
theorem PySem.W.Fast.tw9564241566811270699 : True := trivial
theorem PySem.W.Fast.tw17396514747884770581 : True := trivial
theorem PySem.W.Fast.tw14751459372487286264 : True := trivial
theorem PySem.W.Fast.tw11081833146544637772 : True := trivial
theorem PySem.W.Fast.tw744681684582851678 : True := trivial
theorem PySem.W.Fast.tw8311221561192132400 : True := trivial
theorem PySem.W.Fast.tw10273081175062260014 : True := trivial
theorem PySem.W.Fast.tw2701095777602960557 : True := trivial
theorem PySem.W.Fast.tw14886750462302337772 : True := trivial
theorem PySem.W.Fast.tw11629686425364266316 : True := trivial
theorem PySem.W.Fast.tw18114144658100798921 : True := trivial
theorem PySem.W.Fast.tw16542681820622551561 : True := trivial
theorem PySem.W.Fast.tw14791098241617525336 : True := trivial
theorem PySem.W.Fast.tw718133530034483385 : True := trivial
theorem PySem.W.Fast.tw9773855362487511320 : True := trivial
theorem PySem.W.Fast.tw6685752766118130326 : True := trivial
theorem PySem.W.Fast.tw13519845627479949758 : True := trivial
theorem PySem.W.Fast.tw8068729300223687000 : True := trivial
theorem PySem.W.Fast.tw1070600262661286623 : True := trivial
theorem PySem.W.Fast.tw15616829234932653757 : True := trivial
theorem PySem.W.Fast.tw4615631349462731004 : True := trivial
theorem PySem.W.Fast.tw6639663148034416721 : True := trivial
theorem PySem.W.Fast.tw14859929816505615468 : True := trivial
theorem PySem.W.Fast.tw5930927866122316416 : True := trivial
theorem PySem.W.Fast.tw12795620158427640789 : True := trivial
theorem PySem.W.Fast.tw15532939727573663609 : True := trivial
theorem PySem.W.Fast.tw2353777363096565918 : True := trivial
theorem PySem.W.Fast.tw5916250194308676870 : True := trivial
theorem PySem.W.Fast.tw11702266037760354487 : True := trivial
theorem PySem.W.Fast.tw4469911812792836584 : True := trivial
theorem PySem.W.Fast.tw3012926006702037033 : True := trivial
theorem PySem.W.Fast.tw12930587088150347167 : True := trivial
theorem PySem.W.Fast.tw3624336809654168346 : True := trivial
theorem PySem.W.Fast.tw6816157760751116903 : True := trivial
theorem PySem.W.Fast.tw9474248601739267571 : True := trivial
theorem PySem.W.Fast.tw5371023766870568053 : True := trivial
theorem PySem.W.Fast.tw1887525099509220360 : True := trivial
theorem PySem.W.Fast.tw11756236558657661033 : True := trivial
theorem PySem.W.Fast.tw17650715795494702887 : True := trivial
theorem PySem.W.Fast.tw12393611995301235440 : True := trivial
theorem PySem.W.Fast.tw3746947111589984007 : True := trivial
theorem PySem.W.Fast.tw18404976795340266811 : True := trivial
theorem PySem.W.Fast.tw17417838970253461832 : True := trivial
theorem PySem.W.Fast.tw523420169200344140 : True := trivial
theorem PySem.W.Fast.tw14135445972117110456 : True := trivial
theorem PySem.W.Fast.tw6814807712658340663 : True := trivial
theorem PySem.W.Fast.tw14741876854502208327 : True := trivial
theorem PySem.W.Fast.tw18053228480288855284 : True := trivial
theorem PySem.W.Fast.tw17920361378951646001 : True := trivial
theorem PySem.W.Fast.tw331277902398202396 : True := trivial
theorem PySem.W.Fast.tw8812792966100892044 : True := trivial
theorem PySem.W.Fast.tw7611045594418209070 : True := trivial
theorem PySem.W.Fast.tw4700114014059515870 : True := trivial
theorem PySem.W.Fast.tw3740242922531796325 : True := trivial
theorem PySem.W.Fast.tw15383240775906333209 : True := trivial
theorem PySem.W.Fast.tw10789407041031555444 : True := trivial
theorem PySem.W.Fast.tw7265489840693216926 : True := trivial
theorem PySem.W.Fast.tw10660049186213551535 : True := trivial
theorem PySem.W.Fast.tw16437460843652331120 : True := trivial
theorem PySem.W.Fast.tw13126502206202560376 : True := trivial
theorem PySem.W.Fast.tw15287130241212705726 : True := trivial
theorem PySem.W.Fast.tw5074373170546947751 : True := trivial
theorem PySem.W.Fast.tw3456209512102494864 : True := trivial
theorem PySem.W.Fast.tw12604483009033282145 : True := trivial
theorem PySem.W.Fast.tw7289002680298391715 : True := trivial
theorem PySem.W.Fast.tw4830981096473476865 : True := trivial
theorem PySem.W.Fast.tw13882311842075804503 : True := trivial
theorem PySem.W.Fast.tw10839868585482203946 : True := trivial
theorem PySem.W.Fast.tw6975568256507495074 : True := trivial
theorem PySem.W.Fast.tw7160049900135295124 : True := trivial
theorem PySem.W.Fast.tw10073449675288794384 : True := trivial
theorem PySem.W.Fast.tw4829943158146792370 : True := trivial
theorem PySem.W.Fast.tw2313067756620575556 : True := trivial
theorem PySem.W.Fast.tw13640044305304681103 : True := trivial
theorem PySem.W.Fast.tw5129332138039278449 : True := trivial
theorem PySem.W.Fast.tw13486173321137149850 : True := trivial
theorem PySem.W.Fast.tw6117638663382341488 : True := trivial
theorem PySem.W.Fast.tw10345356557595020896 : True := trivial
theorem PySem.W.Fast.tw1565772475129789533 : True := trivial
theorem PySem.W.Fast.tw12482435916487040188 : True := trivial
theorem PySem.W.Fast.tw6147433951671139442 : True := trivial
theorem PySem.W.Fast.tw17364822767205002863 : True := trivial
theorem PySem.W.Fast.tw811268048371848426 : True := trivial
theorem PySem.W.Fast.tw6104490236191725489 : True := trivial
theorem PySem.W.Fast.tw306407220466815636 : True := trivial
theorem PySem.W.Fast.tw16911804339338445695 : True := trivial
theorem PySem.W.Fast.tw16048865972673165478 : True := trivial
theorem PySem.W.Fast.tw4429312550114553007 : True := trivial
theorem PySem.W.Fast.tw2604480882530632883 : True := trivial
theorem PySem.W.Fast.tw3267996378921363738 : True := trivial
theorem PySem.W.Fast.tw15819908768323462098 : True := trivial
theorem PySem.W.Fast.tw12334343653625518789 : True := trivial
theorem PySem.W.Fast.tw211726385320066797 : True := trivial
theorem PySem.W.Fast.tw17081761267216301552 : True := trivial
theorem PySem.W.Fast.tw2598593489281028130 : True := trivial
theorem PySem.W.Fast.tw16753376812520272155 : True := trivial
theorem PySem.W.Fast.tw1054843342001615164 : True := trivial
theorem PySem.W.Fast.tw15044835190736705080 : True := trivial
theorem PySem.W.Fast.tw17717978043060717081 : True := trivial
theorem PySem.W.Fast.tw11656726274612181476 : True := trivial
theorem PySem.W.Fast.tw2134620888862838311 : True := trivial
theorem PySem.W.Fast.tw6762623256055968705 : True := trivial
theorem PySem.W.Fast.tw9509862213432305102 : True := trivial
theorem PySem.W.Fast.tw9845266659611306910 : True := trivial
theorem PySem.W.Fast.tw14124094765173529732 : True := trivial
theorem PySem.W.Fast.tw17311398739708105795 : True := trivial
theorem PySem.W.Fast.tw15681716580328053140 : True := trivial
theorem PySem.W.Fast.tw16385371067127436950 : True := trivial
theorem PySem.W.Fast.tw15546021322485522389 : True := trivial
theorem PySem.W.Fast.tw4402264294132720600 : True := trivial
theorem PySem.W.Fast.tw430164356120361588 : True := trivial
theorem PySem.W.Fast.tw12511105092471331549 : True := trivial
theorem PySem.W.Fast.tw14751013740608147841 : True := trivial
theorem PySem.W.Fast.tw17304219610894479271 : True := trivial
theorem PySem.W.Fast.tw15929299118857270309 : True := trivial
theorem PySem.W.Fast.tw7969749980089024361 : True := trivial
theorem PySem.W.Fast.tw9210485197922567927 : True := trivial
theorem PySem.W.Fast.tw6118631880267314642 : True := trivial
theorem PySem.W.Fast.tw1790532305780621039 : True := trivial
theorem PySem.W.Fast.tw5065832959604428409 : True := trivial
theorem PySem.W.Fast.tw9113474419488500791 : True := trivial
theorem PySem.W.Fast.tw1910830495693917657 : True := trivial
theorem PySem.W.Fast.tw14781489050799154487 : True := trivial
theorem PySem.W.Fast.tw3184608617241017790 : True := trivial
theorem PySem.W.Fast.tw14241091254852271044 : True := trivial
theorem PySem.W.Fast.tw12519571782435750006 : True := trivial
theorem PySem.W.Fast.tw13987548758158659559 : True := trivial
theorem PySem.W.Fast.tw16458910957286273283 : True := trivial
theorem PySem.W.Fast.tw15406333310234382226 : True := trivial
theorem PySem.W.Fast.tw13851568373485638452 : True := trivial
theorem PySem.W.Fast.tw12352520872856606890 : True := trivial
theorem PySem.W.Fast.tw1968953837275723852 : True := trivial
theorem PySem.W.Fast.tw4606816060475497261 : True := trivial
theorem PySem.W.Fast.tw11253302133729512733 : True := trivial
theorem PySem.W.Fast.tw3196148017805203359 : True := trivial
theorem PySem.W.Fast.tw16508982107039955540 : True := trivial
theorem PySem.W.Fast.tw8696458108813140197 : True := trivial
theorem PySem.W.Fast.tw8839132844396443607 : True := trivial
theorem PySem.W.Fast.tw9049081687895113438 : True := trivial
theorem PySem.W.Fast.tw5217321429628844363 : True := trivial
theorem PySem.W.Fast.tw16019919834312863470 : True := trivial
theorem PySem.W.Fast.tw1565631336990024638 : True := trivial
theorem PySem.W.Fast.tw1095937370994209687 : True := trivial
theorem PySem.W.Fast.tw9021508716103214129 : True := trivial
theorem PySem.W.Fast.tw11610236529025195763 : True := trivial
theorem PySem.W.Fast.tw8711215435549471910 : True := trivial
theorem PySem.W.Fast.tw12832453473219299253 : True := trivial
theorem PySem.W.Fast.tw7503348204328575045 : True := trivial
theorem PySem.W.Fast.tw12470356722839892286 : True := trivial
theorem PySem.W.Fast.tw13698456545532087803 : True := trivial
theorem PySem.W.Fast.tw15289346991457109873 : True := trivial
theorem PySem.W.Fast.tw10936287495216709182 : True := trivial
theorem PySem.W.Fast.tw17731478643308945895 : True := trivial
theorem PySem.W.Fast.tw13165344794535255703 : True := trivial
theorem PySem.W.Fast.tw1417169657697991204 : True := trivial
theorem PySem.W.Fast.tw16285705436570245384 : True := trivial
theorem PySem.W.Fast.tw8237469127465442770 : True := trivial
theorem PySem.W.Fast.tw992525867635356024 : True := trivial
theorem PySem.W.Fast.tw17204128598769154880 : True := trivial
theorem PySem.W.Fast.tw18179615759360289183 : True := trivial
theorem PySem.W.Fast.tw5849745748139701304 : True := trivial
theorem PySem.W.Fast.tw3491843618827332373 : True := trivial
theorem PySem.W.Fast.tw17985481165480737341 : True := trivial
theorem PySem.W.Fast.tw14551044136338456478 : True := trivial
theorem PySem.W.Fast.tw12710267727206417456 : True := trivial
theorem PySem.W.Fast.tw17081253675027016854 : True := trivial
theorem PySem.W.Fast.tw1909623090440464354 : True := trivial
theorem PySem.W.Fast.tw8109873360774023618 : True := trivial
theorem PySem.W.Fast.tw4618907669648220912 : True := trivial
theorem PySem.W.Fast.tw7734726732100957128 : True := trivial
theorem PySem.W.Fast.tw500178937314239511 : True := trivial
theorem PySem.W.Fast.tw12596857316792384257 : True := trivial
theorem PySem.W.Fast.tw3081022372481678867 : True := trivial
theorem PySem.W.Fast.tw17027085336985426387 : True := trivial
theorem PySem.W.Fast.tw860756204667778627 : True := trivial
theorem PySem.W.Fast.tw2266501734246455285 : True := trivial
theorem PySem.W.Fast.tw11103685803273477514 : True := trivial
theorem PySem.W.Fast.tw10639789458452882371 : True := trivial
theorem PySem.W.Fast.tw12562798808145846039 : True := trivial
theorem PySem.W.Fast.tw17297214699810510786 : True := trivial
theorem PySem.W.Fast.tw7412561475520864246 : True := trivial
theorem PySem.W.Fast.tw18138597381489261727 : True := trivial
theorem PySem.W.Fast.tw7334049323533794079 : True := trivial
theorem PySem.W.Fast.tw720810114520721741 : True := trivial
theorem PySem.W.Fast.tw4932984329235850495 : True := trivial
theorem PySem.W.Fast.tw12989709455318119622 : True := trivial
theorem PySem.W.Fast.tw5043996736625208683 : True := trivial
theorem PySem.W.Fast.tw1899161210493541584 : True := trivial
theorem PySem.W.Fast.tw7775452714461554817 : True := trivial
theorem PySem.W.Fast.tw1749059481636281555 : True := trivial
theorem PySem.W.Fast.tw8782497235734509807 : True := trivial
theorem PySem.W.Fast.tw4636818743175570123 : True := trivial
theorem PySem.W.Fast.tw3335145394613957853 : True := trivial
theorem PySem.W.Fast.tw13185919742316629904 : True := trivial
theorem PySem.W.Fast.tw10026934642277427338 : True := trivial
theorem PySem.W.Fast.tw16932014354378388822 : True := trivial
theorem PySem.W.Fast.tw15360321018688093748 : True := trivial
theorem PySem.W.Fast.tw10218390681333831300 : True := trivial
theorem PySem.W.Fast.tw2228577973216668181 : True := trivial
theorem PySem.W.Fast.tw7785701186392228655 : True := trivial
theorem PySem.W.Fast.tw3748971999557158471 : True := trivial
theorem PySem.W.Fast.tw15502491952054999463 : True := trivial
theorem PySem.W.Fast.tw13432358197699435585 : True := trivial
theorem PySem.W.Fast.tw5050892394586810683 : True := trivial
theorem PySem.W.Fast.tw6769081898490254053 : True := trivial
theorem PySem.W.Fast.tw10362423784476290774 : True := trivial
theorem PySem.W.Fast.tw16208452734045063068 : True := trivial
theorem PySem.W.Fast.tw1710803932953246184 : True := trivial
theorem PySem.W.Fast.tw8221150549286695629 : True := trivial
theorem PySem.W.Fast.tw18105309057539073442 : True := trivial
theorem PySem.W.Fast.tw5935242047789097551 : True := trivial
theorem PySem.W.Fast.tw1588353583975017699 : True := trivial
theorem PySem.W.Fast.tw4717928459823984345 : True := trivial
theorem PySem.W.Fast.tw14991155170269429225 : True := trivial
theorem PySem.W.Fast.tw48842412479526314 : True := trivial
theorem PySem.W.Fast.tw3543127671435787193 : True := trivial
theorem PySem.W.Fast.tw1843988800531904829 : True := trivial
theorem PySem.W.Fast.tw3990505599306170556 : True := trivial
theorem PySem.W.Fast.tw16420719874019463895 : True := trivial
theorem PySem.W.Fast.tw4944892145993449285 : True := trivial
theorem PySem.W.Fast.tw15041638573042186079 : True := trivial
theorem PySem.W.Fast.tw5696350920891874036 : True := trivial
theorem PySem.W.Fast.tw191753983493115273 : True := trivial
theorem PySem.W.Fast.tw14230136866986483797 : True := trivial
theorem PySem.W.Fast.tw12671146673738151345 : True := trivial
theorem PySem.W.Fast.tw13532769078325562116 : True := trivial
theorem PySem.W.Fast.tw107805747681219498 : True := trivial
theorem PySem.W.Fast.tw10486625158332576045 : True := trivial
theorem PySem.W.Fast.tw4813625320399760376 : True := trivial
theorem PySem.W.Fast.tw4866426312864358044 : True := trivial
theorem PySem.W.Fast.tw4108892511774408807 : True := trivial
theorem PySem.W.Fast.tw2136747651172663834 : True := trivial
theorem PySem.W.Fast.tw12516590990872392066 : True := trivial
theorem PySem.W.Fast.tw12624374484096370801 : True := trivial
theorem PySem.W.Fast.tw16359493127257498340 : True := trivial
theorem PySem.W.Fast.tw15438512950865912211 : True := trivial
theorem PySem.W.Fast.tw5313313368881975666 : True := trivial
theorem PySem.W.Fast.tw659352405484334842 : True := trivial
theorem PySem.W.Fast.tw17395663525462380371 : True := trivial
theorem PySem.W.Fast.tw12790577548259304992 : True := trivial
theorem PySem.W.Fast.tw13376917824027053138 : True := trivial
theorem PySem.W.Fast.tw6673231932403849870 : True := trivial
theorem PySem.W.Fast.tw15834203508338111232 : True := trivial
theorem PySem.W.Fast.tw11341182894551406728 : True := trivial
theorem PySem.W.Fast.tw15521361552160886039 : True := trivial
theorem PySem.W.Fast.tw15205379051674133775 : True := trivial
theorem PySem.W.Fast.tw14273731398189085292 : True := trivial
theorem PySem.W.Fast.tw13609739878893154540 : True := trivial
theorem PySem.W.Fast.tw9212874986114165970 : True := trivial
theorem PySem.W.Fast.tw2786265050749927387 : True := trivial
theorem PySem.W.Fast.tw654935573145305445 : True := trivial
theorem PySem.W.Fast.tw17860790585617314878 : True := trivial
theorem PySem.W.Fast.tw6712134118715130450 : True := trivial
theorem PySem.W.Fast.tw6797363474413430544 : True := trivial
theorem PySem.W.Fast.tw1172692106937269927 : True := trivial
theorem PySem.W.Fast.tw912148200243617448 : True := trivial
theorem PySem.W.Fast.tw9409953206681269543 : True := trivial
theorem PySem.W.Fast.tw5818894841492098793 : True := trivial
theorem PySem.W.Fast.tw11939727061467660557 : True := trivial
theorem PySem.W.Fast.tw546007941861285775 : True := trivial
theorem PySem.W.Fast.tw8750212292803237129 : True := trivial
theorem PySem.W.Fast.tw6043200720142426601 : True := trivial
theorem PySem.W.Fast.tw18032849879191412522 : True := trivial
theorem PySem.W.Fast.tw753879347774426603 : True := trivial
theorem PySem.W.Fast.tw7025238606554686135 : True := trivial
theorem PySem.W.Fast.tw17545098017626750924 : True := trivial
theorem PySem.W.Fast.tw15463200883895107097 : True := trivial
theorem PySem.W.Fast.tw15775023750295020613 : True := trivial
theorem PySem.W.Fast.tw18014939838495766799 : True := trivial
theorem PySem.W.Fast.tw11430504443442481228 : True := trivial
theorem PySem.W.Fast.tw4537029815278239164 : True := trivial
theorem PySem.W.Fast.tw6709997081449285711 : True := trivial
theorem PySem.W.Fast.tw18336406675961479995 : True := trivial
theorem PySem.W.Fast.tw11358728340230734737 : True := trivial
theorem PySem.W.Fast.tw1378821546667185744 : True := trivial
theorem PySem.W.Fast.tw2973045899086861702 : True := trivial
theorem PySem.W.Fast.tw16284595254984787268 : True := trivial
theorem PySem.W.Fast.tw1446714035907754269 : True := trivial
theorem PySem.W.Fast.tw15927420827920822514 : True := trivial
theorem PySem.W.Fast.tw13397992430045600796 : True := trivial
theorem PySem.W.Fast.tw11608380117057120900 : True := trivial
theorem PySem.W.Fast.tw6369793664491653230 : True := trivial
theorem PySem.W.Fast.tw7149958438262356001 : True := trivial
theorem PySem.W.Fast.tw7298076918625471676 : True := trivial
theorem PySem.W.Fast.tw11040828985071463604 : True := trivial
theorem PySem.W.Fast.tw16311451095492789723 : True := trivial
theorem PySem.W.Fast.tw15763404559893050342 : True := trivial
theorem PySem.W.Fast.tw8037988825438665415 : True := trivial
theorem PySem.W.Fast.tw1342480495382591386 : True := trivial
theorem PySem.W.Fast.tw399855933194293038 : True := trivial
theorem PySem.W.Fast.tw13730895841956581368 : True := trivial
theorem PySem.W.Fast.tw14062549024656087901 : True := trivial
theorem PySem.W.Fast.tw7813634921438170599 : True := trivial
theorem PySem.W.Fast.tw11064486783370990560 : True := trivial
theorem PySem.W.Fast.tw9442473270701480176 : True := trivial
theorem PySem.W.Fast.tw10602588107640706654 : True := trivial
theorem PySem.W.Fast.tw3560412792188007245 : True := trivial
theorem PySem.W.Fast.tw8206912451003689684 : True := trivial
theorem PySem.W.Fast.tw5885814004487439885 : True := trivial
theorem PySem.W.Fast.tw7012113811258467099 : True := trivial
theorem PySem.W.Fast.tw14756021396504030410 : True := trivial
theorem PySem.W.Fast.tw8691845341957348815 : True := trivial
theorem PySem.W.Fast.tw15445302730305158307 : True := trivial
theorem PySem.W.Fast.tw950025360363617299 : True := trivial
theorem PySem.W.Fast.tw4110351738619240634 : True := trivial
theorem PySem.W.Fast.tw14842647851643439460 : True := trivial
theorem PySem.W.Fast.tw15090510250576666562 : True := trivial
theorem PySem.W.Fast.tw4589714613164659576 : True := trivial
theorem PySem.W.Fast.tw13054148148940594550 : True := trivial
theorem PySem.W.Fast.tw931122218546325672 : True := trivial
theorem PySem.W.Fast.tw12058053021409785183 : True := trivial
theorem PySem.W.Fast.tw15241487243194679791 : True := trivial
theorem PySem.W.Fast.tw11488914811023028490 : True := trivial
theorem PySem.W.Fast.tw7530365602379120731 : True := trivial
theorem PySem.W.Fast.tw14866549368916783164 : True := trivial
theorem PySem.W.Fast.tw12527829411675109327 : True := trivial
theorem PySem.W.Fast.tw15247886260765248045 : True := trivial
theorem PySem.W.Fast.tw8019397173445867708 : True := trivial
theorem PySem.W.Fast.tw12735540049880774782 : True := trivial
theorem PySem.W.Fast.tw1231527691665573568 : True := trivial
theorem PySem.W.Fast.tw17158824065253227147 : True := trivial
theorem PySem.W.Fast.tw13269552078694433825 : True := trivial
theorem PySem.W.Fast.tw15609774764412933070 : True := trivial
theorem PySem.W.Fast.tw3954815408386417260 : True := trivial
theorem PySem.W.Fast.tw2939546150960334685 : True := trivial
theorem PySem.W.Fast.tw4997640411772459573 : True := trivial
theorem PySem.W.Fast.tw18365322348510395046 : True := trivial
theorem PySem.W.Fast.tw15651515015358574905 : True := trivial
theorem PySem.W.Fast.tw16920324251270021654 : True := trivial
theorem PySem.W.Fast.tw12905689692449695543 : True := trivial
theorem PySem.W.Fast.tw9171749525237770005 : True := trivial
theorem PySem.W.Fast.tw15008343591404176600 : True := trivial
theorem PySem.W.Fast.tw10700427362782698856 : True := trivial
theorem PySem.W.Fast.tw16752877174342437402 : True := trivial
theorem PySem.W.Fast.tw10168240068517869911 : True := trivial
theorem PySem.W.Fast.tw4478742920117913083 : True := trivial
theorem PySem.W.Fast.tw9183568876771097587 : True := trivial
theorem PySem.W.Fast.tw10735902740128852631 : True := trivial
theorem PySem.W.Fast.tw8564191184266657795 : True := trivial
theorem PySem.W.Fast.tw13668523120451661039 : True := trivial
theorem PySem.W.Fast.tw14757065993555119430 : True := trivial
theorem PySem.W.Fast.tw7320586665653948835 : True := trivial
theorem PySem.W.Fast.tw10301204352572724413 : True := trivial
theorem PySem.W.Fast.tw973785039411419391 : True := trivial
theorem PySem.W.Fast.tw15596145934215689327 : True := trivial
theorem PySem.W.Fast.tw15454196245824741335 : True := trivial
theorem PySem.W.Fast.tw17257903221533607929 : True := trivial
theorem PySem.W.Fast.tw14913771401381584192 : True := trivial
theorem PySem.W.Fast.tw18202637559419979492 : True := trivial
theorem PySem.W.Fast.tw15477555759643174282 : True := trivial
theorem PySem.W.Fast.tw4641046163979166430 : True := trivial
theorem PySem.W.Fast.tw17236537952521538679 : True := trivial
theorem PySem.W.Fast.tw1365680745114807532 : True := trivial
theorem PySem.W.Fast.tw13577562996989535594 : True := trivial
theorem PySem.W.Fast.tw9821105370089531105 : True := trivial
theorem PySem.W.Fast.tw8880034600723642649 : True := trivial
theorem PySem.W.Fast.tw8885663454422805815 : True := trivial
theorem PySem.W.Fast.tw12484829667033037464 : True := trivial
theorem PySem.W.Fast.tw16379830515161179383 : True := trivial
theorem PySem.W.Fast.tw3340596475517825155 : True := trivial
theorem PySem.W.Fast.tw8409785562475602546 : True := trivial
theorem PySem.W.Fast.tw1567384624785282818 : True := trivial
theorem PySem.W.Fast.tw6701193332758837967 : True := trivial
theorem PySem.W.Fast.tw17792726864877815810 : True := trivial
theorem PySem.W.Fast.tw388449214450634708 : True := trivial
theorem PySem.W.Fast.tw17979241827728420655 : True := trivial
theorem PySem.W.Fast.tw4226670962332563258 : True := trivial
theorem PySem.W.Fast.tw14659315537589876600 : True := trivial
theorem PySem.W.Fast.tw2945169714745703438 : True := trivial
theorem PySem.W.Fast.tw6290026132672295981 : True := trivial
theorem PySem.W.Fast.tw3115247623900545467 : True := trivial
theorem PySem.W.Fast.tw10653758676099315850 : True := trivial
theorem PySem.W.Fast.tw5285137404405803554 : True := trivial
theorem PySem.W.Fast.tw5870421249205392683 : True := trivial
theorem PySem.W.Fast.tw12286041153206358142 : True := trivial
theorem PySem.W.Fast.tw2608051445410432891 : True := trivial
theorem PySem.W.Fast.tw5424719619564231214 : True := trivial
theorem PySem.W.Fast.tw16478574986170098812 : True := trivial
theorem PySem.W.Fast.tw12064694411671076869 : True := trivial
theorem PySem.W.Fast.tw4301070884322784794 : True := trivial
theorem PySem.W.Fast.tw11833910338461983538 : True := trivial
theorem PySem.W.Fast.tw9871303614383147647 : True := trivial
theorem PySem.W.Fast.tw8540959583939271938 : True := trivial
theorem PySem.W.Fast.tw15154793138166279135 : True := trivial
theorem PySem.W.Fast.tw555079407587089755 : True := trivial
theorem PySem.W.Fast.tw743464822104268224 : True := trivial
theorem PySem.W.Fast.tw10618293763872636680 : True := trivial
theorem PySem.W.Fast.tw14917569186347790499 : True := trivial
theorem PySem.W.Fast.tw16022124341945612501 : True := trivial
theorem PySem.W.Fast.tw8106617101519498301 : True := trivial
theorem PySem.W.Fast.tw13863316620920409227 : True := trivial
theorem PySem.W.Fast.tw2495666728274018384 : True := trivial
theorem PySem.W.Fast.tw5565262053223669640 : True := trivial
theorem PySem.W.Fast.tw11556615503328317218 : True := trivial
theorem PySem.W.Fast.tw16741708442643193579 : True := trivial
theorem PySem.W.Fast.tw13237721462660493721 : True := trivial
theorem PySem.W.Fast.tw15745599569899509901 : True := trivial
theorem PySem.W.Fast.tw13672697966428277938 : True := trivial
theorem PySem.W.Fast.tw13766373803022192542 : True := trivial
theorem PySem.W.Fast.tw13245696414542081468 : True := trivial
theorem PySem.W.Fast.tw14122987398969859801 : True := trivial
theorem PySem.W.Fast.tw8606306018963369442 : True := trivial
theorem PySem.W.Fast.tw7633929329035620215 : True := trivial
theorem PySem.W.Fast.tw11004846218342795871 : True := trivial
theorem PySem.W.Fast.tw4308719354628753188 : True := trivial
theorem PySem.W.Fast.tw3678951499072782388 : True := trivial
theorem PySem.W.Fast.tw16101676586414354218 : True := trivial
theorem PySem.W.Fast.tw10052005491454249543 : True := trivial
theorem PySem.W.Fast.tw1156449726431100203 : True := trivial
theorem PySem.W.Fast.tw5648834206626459784 : True := trivial
theorem PySem.W.Fast.tw18319056765130761362 : True := trivial
theorem PySem.W.Fast.tw11631428149119640232 : True := trivial
theorem PySem.W.Fast.tw3547725201615450896 : True := trivial
theorem PySem.W.Fast.tw9983017066392779071 : True := trivial
theorem PySem.W.Fast.tw7414296640239782184 : True := trivial
theorem PySem.W.Fast.tw6586021838526444434 : True := trivial
theorem PySem.W.Fast.tw13333190591229765820 : True := trivial
theorem PySem.W.Fast.tw16776680782303694286 : True := trivial
theorem PySem.W.Fast.tw15523762340900540847 : True := trivial
theorem PySem.W.Fast.tw18233019047193304783 : True := trivial
theorem PySem.W.Fast.tw10240998668397230180 : True := trivial
theorem PySem.W.Fast.tw11859678736004624019 : True := trivial
theorem PySem.W.Fast.tw14507946078207484070 : True := trivial
theorem PySem.W.Fast.tw7910564244407251301 : True := trivial
theorem PySem.W.Fast.tw8839055241375210465 : True := trivial
theorem PySem.W.Fast.tw9549292078773331631 : True := trivial
theorem PySem.W.Fast.tw4086695344820223941 : True := trivial
theorem PySem.W.Fast.tw11425343886291763569 : True := trivial
theorem PySem.W.Fast.tw3871890307512680524 : True := trivial
theorem PySem.W.Fast.tw12878247691529212911 : True := trivial
theorem PySem.W.Fast.tw18252191539153698220 : True := trivial
theorem PySem.W.Fast.tw316426789130723173 : True := trivial
theorem PySem.W.Fast.tw8958938319040337693 : True := trivial
theorem PySem.W.Fast.tw2123418096884699062 : True := trivial
theorem PySem.W.Fast.tw11093279855198566730 : True := trivial
theorem PySem.W.Fast.tw15741321382483393003 : True := trivial
theorem PySem.W.Fast.tw15572334647187244160 : True := trivial
theorem PySem.W.Fast.tw8925207654889152599 : True := trivial
theorem PySem.W.Fast.tw14035879548260031711 : True := trivial
theorem PySem.W.Fast.tw7347207651743762250 : True := trivial
theorem PySem.W.Fast.tw8262912912859422352 : True := trivial
theorem PySem.W.Fast.tw15480956259201967359 : True := trivial
theorem PySem.W.Fast.tw17458292411496265523 : True := trivial
theorem PySem.W.Fast.tw11387304757399937166 : True := trivial
theorem PySem.W.Fast.tw2339941074590622735 : True := trivial
theorem PySem.W.Fast.tw3773071524327006966 : True := trivial
theorem PySem.W.Fast.tw9134848261653191114 : True := trivial
theorem PySem.W.Fast.tw4914498157913854797 : True := trivial
theorem PySem.W.Fast.tw8851691552445225854 : True := trivial
theorem PySem.W.Fast.tw12727559508792353022 : True := trivial
theorem PySem.W.Fast.tw3802387575594424196 : True := trivial
theorem PySem.W.Fast.tw6246242801295706233 : True := trivial
theorem PySem.W.Fast.tw12712169666527297310 : True := trivial
theorem PySem.W.Fast.tw15444567809265795069 : True := trivial
theorem PySem.W.Fast.tw10011508040519552469 : True := trivial
theorem PySem.W.Fast.tw14834244885384250687 : True := trivial
theorem PySem.W.Fast.tw3080567534707531547 : True := trivial
theorem PySem.W.Fast.tw10711385752255781636 : True := trivial
theorem PySem.W.Fast.tw17695016845278040877 : True := trivial
theorem PySem.W.Fast.tw6484672601705639466 : True := trivial
theorem PySem.W.Fast.tw8160712930613110449 : True := trivial
theorem PySem.W.Fast.tw5283945261063394832 : True := trivial
theorem PySem.W.Fast.tw2007050640601138306 : True := trivial
theorem PySem.W.Fast.tw1798598952623474486 : True := trivial
theorem PySem.W.Fast.tw11379104953869115615 : True := trivial
theorem PySem.W.Fast.tw7386305863207643659 : True := trivial
theorem PySem.W.Fast.tw15993267484752734232 : True := trivial
theorem PySem.W.Fast.tw4674618177736787660 : True := trivial
theorem PySem.W.Fast.tw4791047857953036211 : True := trivial
theorem PySem.W.Fast.tw8905187116646338430 : True := trivial
theorem PySem.W.Fast.tw15125392607962327349 : True := trivial
theorem PySem.W.Fast.tw17458947860799704680 : True := trivial
theorem PySem.W.Fast.tw5698058384704407734 : True := trivial
theorem PySem.W.Fast.tw1908056976299257256 : True := trivial
theorem PySem.W.Fast.tw2142330583890410479 : True := trivial
theorem PySem.W.Fast.tw6319562907757941555 : True := trivial
theorem PySem.W.Fast.tw9015430456889142990 : True := trivial
theorem PySem.W.Fast.tw12744339866853300744 : True := trivial
theorem PySem.W.Fast.tw11282996092971869511 : True := trivial
theorem PySem.W.Fast.tw3994282283170925894 : True := trivial
theorem PySem.W.Fast.tw15040796530602284797 : True := trivial
theorem PySem.W.Fast.tw7738516095449268411 : True := trivial
theorem PySem.W.Fast.tw17240739740996285480 : True := trivial
theorem PySem.W.Fast.tw4118957594369293879 : True := trivial
theorem PySem.W.Fast.tw14235245001525278654 : True := trivial
theorem PySem.W.Fast.tw16425044984559315358 : True := trivial
theorem PySem.W.Fast.tw6975501987132528203 : True := trivial
theorem PySem.W.Fast.tw5658193613081950262 : True := trivial
theorem PySem.W.Fast.tw16595684596729248455 : True := trivial
theorem PySem.W.Fast.tw12160475314985756043 : True := trivial
theorem PySem.W.Fast.tw3128505262035228550 : True := trivial
theorem PySem.W.Fast.tw17247810177691968599 : True := trivial
theorem PySem.W.Fast.tw14932820837925235588 : True := trivial
theorem PySem.W.Fast.tw1589465589064911310 : True := trivial
theorem PySem.W.Fast.tw14438696847272220730 : True := trivial
theorem PySem.W.Fast.tw4139638646178191861 : True := trivial
theorem PySem.W.Fast.tw9632631328215209921 : True := trivial
theorem PySem.W.Fast.tw9558661491849855925 : True := trivial
theorem PySem.W.Fast.tw8846094074461841096 : True := trivial
theorem PySem.W.Fast.tw7922614743748168493 : True := trivial
theorem PySem.W.Fast.tw8527503116067383508 : True := trivial
theorem PySem.W.Fast.tw1623226890187246739 : True := trivial
theorem PySem.W.Fast.tw10742370945145433982 : True := trivial
theorem PySem.W.Fast.tw6597661105363259695 : True := trivial
theorem PySem.W.Fast.tw5669848670904116154 : True := trivial
theorem PySem.W.Fast.tw8084567125926938523 : True := trivial
theorem PySem.W.Fast.tw13887645098799298066 : True := trivial
theorem PySem.W.Fast.tw10271486009711142373 : True := trivial
theorem PySem.W.Fast.tw13619517739884684924 : True := trivial
theorem PySem.W.Fast.tw16284472593114626800 : True := trivial
theorem PySem.W.Fast.tw13898801622700565464 : True := trivial
theorem PySem.W.Fast.tw8354745999587382355 : True := trivial
theorem PySem.W.Fast.tw4843557315879499623 : True := trivial
theorem PySem.W.Fast.tw16811043701120886716 : True := trivial
theorem PySem.W.Fast.tw3326109602652393483 : True := trivial
theorem PySem.W.Fast.tw17818749113635221173 : True := trivial
theorem PySem.W.Fast.tw8348522067584510741 : True := trivial
theorem PySem.W.Fast.tw2832954674564916529 : True := trivial
theorem PySem.W.Fast.tw7022802330850197945 : True := trivial
theorem PySem.W.Fast.tw12355763258898406528 : True := trivial
theorem PySem.W.Fast.tw2785053768625662225 : True := trivial
theorem PySem.W.Fast.tw3353919030516628769 : True := trivial
theorem PySem.W.Fast.tw10955464967042120033 : True := trivial
theorem PySem.W.Fast.tw9703306410677450769 : True := trivial
theorem PySem.W.Fast.tw6241204968603360116 : True := trivial
theorem PySem.W.Fast.tw13302974247613845876 : True := trivial
theorem PySem.W.Fast.tw4115039790156460048 : True := trivial
theorem PySem.W.Fast.tw8356283005228257316 : True := trivial
theorem PySem.W.Fast.tw15829450158052521571 : True := trivial
theorem PySem.W.Fast.tw3185237963042735678 : True := trivial
theorem PySem.W.Fast.tw14640665303187667371 : True := trivial
theorem PySem.W.Fast.tw10432779725065396992 : True := trivial
theorem PySem.W.Fast.tw10371854354191959866 : True := trivial
theorem PySem.W.Fast.tw13730054842232394517 : True := trivial
theorem PySem.W.Fast.tw12528541433833502079 : True := trivial
theorem PySem.W.Fast.tw6259352941613680210 : True := trivial
theorem PySem.W.Fast.tw17780423835999020023 : True := trivial
theorem PySem.W.Fast.tw8290689942321519426 : True := trivial
theorem PySem.W.Fast.tw11904019701067219390 : True := trivial
theorem PySem.W.Fast.tw13046457165038693053 : True := trivial
theorem PySem.W.Fast.tw14043084081455666180 : True := trivial
theorem PySem.W.Fast.tw14676982399213311218 : True := trivial
theorem PySem.W.Fast.tw128713779899968493 : True := trivial
theorem PySem.W.Fast.tw5050562839810699093 : True := trivial
theorem PySem.W.Fast.tw8801481306459657900 : True := trivial
theorem PySem.W.Fast.tw11991787026644990940 : True := trivial
theorem PySem.W.Fast.tw14882329075238788765 : True := trivial
theorem PySem.W.Fast.tw4645079291564293555 : True := trivial
theorem PySem.W.Fast.tw11552105568092652361 : True := trivial
theorem PySem.W.Fast.tw9215782848810164219 : True := trivial
theorem PySem.W.Fast.tw14116175250643601133 : True := trivial
theorem PySem.W.Fast.tw4964191784775946246 : True := trivial
theorem PySem.W.Fast.tw14043322750786333566 : True := trivial
theorem PySem.W.Fast.tw11266677373820684653 : True := trivial
theorem PySem.W.Fast.tw10618241657895010928 : True := trivial
theorem PySem.W.Fast.tw18148261736364254015 : True := trivial
theorem PySem.W.Fast.tw14077852102795437665 : True := trivial
theorem PySem.W.Fast.tw9923332228277520161 : True := trivial
theorem PySem.W.Fast.tw17254432110198281481 : True := trivial
theorem PySem.W.Fast.tw3514391768920660399 : True := trivial
theorem PySem.W.Fast.tw18054541230597461011 : True := trivial
theorem PySem.W.Fast.tw15178545536793909584 : True := trivial
theorem PySem.W.Fast.tw9985922304081596111 : True := trivial
theorem PySem.W.Fast.tw640530231143869674 : True := trivial
theorem PySem.W.Fast.tw12247328545244699108 : True := trivial
theorem PySem.W.Fast.tw1542391472169422769 : True := trivial
theorem PySem.W.Fast.tw7479529688435253568 : True := trivial
theorem PySem.W.Fast.tw15927778421528112702 : True := trivial
theorem PySem.W.Fast.tw18293701166623728896 : True := trivial
theorem PySem.W.Fast.tw4726968570152706775 : True := trivial
theorem PySem.W.Fast.tw9665296960114074859 : True := trivial
theorem PySem.W.Fast.tw7736604664858087118 : True := trivial
theorem PySem.W.Fast.tw17484413138835324313 : True := trivial
theorem PySem.W.Fast.tw15116973015745034515 : True := trivial
theorem PySem.W.Fast.tw13087857737265383601 : True := trivial
theorem PySem.W.Fast.tw6278552893494770922 : True := trivial
theorem PySem.W.Fast.tw3662471207004919536 : True := trivial
theorem PySem.W.Fast.tw11219849609546749317 : True := trivial
theorem PySem.W.Fast.tw11865511287761194093 : True := trivial
theorem PySem.W.Fast.tw9992688740070520087 : True := trivial
theorem PySem.W.Fast.tw12943362319714802201 : True := trivial
theorem PySem.W.Fast.tw2029349374224942654 : True := trivial
theorem PySem.W.Fast.tw10018814716832666924 : True := trivial
theorem PySem.W.Fast.tw14741775231912502069 : True := trivial
theorem PySem.W.Fast.tw11879340686482130722 : True := trivial
theorem PySem.W.Fast.tw9447588492216601171 : True := trivial
theorem PySem.W.Fast.tw11526737981497504682 : True := trivial
theorem PySem.W.Fast.tw3191318249547063124 : True := trivial
theorem PySem.W.Fast.tw11473032272621696380 : True := trivial
theorem PySem.W.Fast.tw15007367184666701427 : True := trivial
theorem PySem.W.Fast.tw799398974298346265 : True := trivial
theorem PySem.W.Fast.tw11518745683080345714 : True := trivial
theorem PySem.W.Fast.tw4025817309934531377 : True := trivial
theorem PySem.W.Fast.tw9626431113445531982 : True := trivial
theorem PySem.W.Fast.tw5219979391356391085 : True := trivial
theorem PySem.W.Fast.tw16686883835835789518 : True := trivial
theorem PySem.W.Fast.tw3842517397490402143 : True := trivial
theorem PySem.W.Fast.tw1086675115406949921 : True := trivial
theorem PySem.W.Fast.tw12356040311910312903 : True := trivial
theorem PySem.W.Fast.tw12639230443151823247 : True := trivial
theorem PySem.W.Fast.tw898205192924297684 : True := trivial
theorem PySem.W.Fast.tw1467593631180776114 : True := trivial
theorem PySem.W.Fast.tw15029518084575767317 : True := trivial
theorem PySem.W.Fast.tw15515526499668062157 : True := trivial
theorem PySem.W.Fast.tw7386919289744501240 : True := trivial
theorem PySem.W.Fast.tw6166672721911056191 : True := trivial
theorem PySem.W.Fast.tw9078211887973230142 : True := trivial
theorem PySem.W.Fast.tw5112140712953953099 : True := trivial
theorem PySem.W.Fast.tw15881578309904693381 : True := trivial
theorem PySem.W.Fast.tw6314571513544649260 : True := trivial
theorem PySem.W.Fast.tw16350782354279782862 : True := trivial
theorem PySem.W.Fast.tw4297567560280096021 : True := trivial
theorem PySem.W.Fast.tw2075945297310170718 : True := trivial
theorem PySem.W.Fast.tw6761269529250126645 : True := trivial
theorem PySem.W.Fast.tw8935393202314545322 : True := trivial
theorem PySem.W.Fast.tw8388758783842790586 : True := trivial
theorem PySem.W.Fast.tw2299489474140214688 : True := trivial
theorem PySem.W.Fast.tw5132163655084635639 : True := trivial
theorem PySem.W.Fast.tw976554429895455028 : True := trivial
theorem PySem.W.Fast.tw10175926844455733405 : True := trivial
theorem PySem.W.Fast.tw11216415245929553135 : True := trivial
theorem PySem.W.Fast.tw2507737157820942430 : True := trivial
theorem PySem.W.Fast.tw5351235973053713800 : True := trivial
theorem PySem.W.Fast.tw8119341065427181425 : True := trivial
theorem PySem.W.Fast.tw8412542744147340948 : True := trivial
theorem PySem.W.Fast.tw9128663214801264468 : True := trivial
theorem PySem.W.Fast.tw8393659629026433680 : True := trivial
theorem PySem.W.Fast.tw6308468165095978614 : True := trivial
theorem PySem.W.Fast.tw7176229690537506723 : True := trivial
theorem PySem.W.Fast.tw2683117598675118052 : True := trivial
theorem PySem.W.Fast.tw7527956218612984367 : True := trivial
theorem PySem.W.Fast.tw16050133483364401443 : True := trivial
theorem PySem.W.Fast.tw16162608053590080413 : True := trivial
theorem PySem.W.Fast.tw17957775774431555300 : True := trivial
theorem PySem.W.Fast.tw6172204719658766915 : True := trivial
theorem PySem.W.Fast.tw7450851829961193540 : True := trivial
theorem PySem.W.Fast.tw10897254565793467727 : True := trivial
theorem PySem.W.Fast.tw8475107697175974411 : True := trivial
theorem PySem.W.Fast.tw13341472904537418084 : True := trivial
theorem PySem.W.Fast.tw14398451101819579979 : True := trivial
theorem PySem.W.Fast.tw13835298162071044139 : True := trivial
theorem PySem.W.Fast.tw16397777793482116798 : True := trivial
theorem PySem.W.Fast.tw15190381333346773306 : True := trivial
theorem PySem.W.Fast.tw4426290987842153006 : True := trivial
theorem PySem.W.Fast.tw18029655280486140708 : True := trivial
theorem PySem.W.Fast.tw13193130347412913916 : True := trivial
theorem PySem.W.Fast.tw16953378980651107607 : True := trivial
theorem PySem.W.Fast.tw17675665916833372418 : True := trivial
theorem PySem.W.Fast.tw16686077179859900130 : True := trivial
theorem PySem.W.Fast.tw4007905372308578324 : True := trivial
theorem PySem.W.Fast.tw176644961420862226 : True := trivial
theorem PySem.W.Fast.tw2915481424113327089 : True := trivial
theorem PySem.W.Fast.tw898756888965362366 : True := trivial
theorem PySem.W.Fast.tw1072553402972404747 : True := trivial
theorem PySem.W.Fast.tw15006874430489588745 : True := trivial
theorem PySem.W.Fast.tw2427611624773993990 : True := trivial
theorem PySem.W.Fast.tw17968847137082987577 : True := trivial
theorem PySem.W.Fast.tw6596127172318900551 : True := trivial
theorem PySem.W.Fast.tw16749851781515640005 : True := trivial
theorem PySem.W.Fast.tw3900857449891845734 : True := trivial
theorem PySem.W.Fast.tw8188460184796849832 : True := trivial
theorem PySem.W.Fast.tw15213010972080752242 : True := trivial
theorem PySem.W.Fast.tw157813230735142656 : True := trivial
theorem PySem.W.Fast.tw18005085455242878582 : True := trivial
theorem PySem.W.Fast.tw11120995358918171272 : True := trivial
theorem PySem.W.Fast.tw5230924049101138661 : True := trivial
theorem PySem.W.Fast.tw6379275398942668247 : True := trivial
theorem PySem.W.Fast.tw17214902239851010553 : True := trivial
theorem PySem.W.Fast.tw980606536367618047 : True := trivial
theorem PySem.W.Fast.tw13282719854873794134 : True := trivial
theorem PySem.W.Fast.tw3014957984422311875 : True := trivial
theorem PySem.W.Fast.tw14416107696909208241 : True := trivial
theorem PySem.W.Fast.tw10888043873362984976 : True := trivial
theorem PySem.W.Fast.tw1361737553541917273 : True := trivial
theorem PySem.W.Fast.tw14479616751025129494 : True := trivial
theorem PySem.W.Fast.tw17457874778790848138 : True := trivial
theorem PySem.W.Fast.tw17102352365878568926 : True := trivial
theorem PySem.W.Fast.tw2825525017357278557 : True := trivial
theorem PySem.W.Fast.tw576155644451949356 : True := trivial
theorem PySem.W.Fast.tw14900571162124758088 : True := trivial
theorem PySem.W.Fast.tw17610908985294230323 : True := trivial
theorem PySem.W.Fast.tw14165826660016416708 : True := trivial
theorem PySem.W.Fast.tw3170699784769229413 : True := trivial
theorem PySem.W.Fast.tw13423513072913136810 : True := trivial
theorem PySem.W.Fast.tw7086908138227914753 : True := trivial
theorem PySem.W.Fast.tw14381046044299067319 : True := trivial
theorem PySem.W.Fast.tw15582967847453572538 : True := trivial
theorem PySem.W.Fast.tw9145461690290909077 : True := trivial
theorem PySem.W.Fast.tw16246424577985465958 : True := trivial
theorem PySem.W.Fast.tw902655249857683294 : True := trivial
theorem PySem.W.Fast.tw2032890401314219466 : True := trivial
theorem PySem.W.Fast.tw907118272085052220 : True := trivial
theorem PySem.W.Fast.tw3414514523976966359 : True := trivial
theorem PySem.W.Fast.tw5858449203041521197 : True := trivial
theorem PySem.W.Fast.tw16204500464855820211 : True := trivial
theorem PySem.W.Fast.tw10651288400243186966 : True := trivial
theorem PySem.W.Fast.tw8905988635740586955 : True := trivial
theorem PySem.W.Fast.tw11339567274479086511 : True := trivial
theorem PySem.W.Fast.tw10699786666741655947 : True := trivial
theorem PySem.W.Fast.tw11115435433544647793 : True := trivial
theorem PySem.W.Fast.tw3908035798944005427 : True := trivial
theorem PySem.W.Fast.tw8312382692892826443 : True := trivial
theorem PySem.W.Fast.tw14930090556488064935 : True := trivial
theorem PySem.W.Fast.tw14111647386404422563 : True := trivial
theorem PySem.W.Fast.tw15517751963253703465 : True := trivial
theorem PySem.W.Fast.tw16929469591664087693 : True := trivial
theorem PySem.W.Fast.tw16536261476430342337 : True := trivial
theorem PySem.W.Fast.tw17007101345151778914 : True := trivial
theorem PySem.W.Fast.tw14642588482666017447 : True := trivial
theorem PySem.W.Fast.tw1044815264642867949 : True := trivial
theorem PySem.W.Fast.tw10247327277978546676 : True := trivial
theorem PySem.W.Fast.tw10628612518680369224 : True := trivial
theorem PySem.W.Fast.tw12885682982885127911 : True := trivial
theorem PySem.W.Fast.tw4050790528335340932 : True := trivial
theorem PySem.W.Fast.tw17118508429410386924 : True := trivial
theorem PySem.W.Fast.tw12878662243583434049 : True := trivial
theorem PySem.W.Fast.tw14543217022147932819 : True := trivial
theorem PySem.W.Fast.tw11801309588927449826 : True := trivial
theorem PySem.W.Fast.tw10612064084154277859 : True := trivial
theorem PySem.W.Fast.tw4315769420669145509 : True := trivial
theorem PySem.W.Fast.tw8154814558048496007 : True := trivial
theorem PySem.W.Fast.tw1147443440228114374 : True := trivial
theorem PySem.W.Fast.tw10486965514395980539 : True := trivial
theorem PySem.W.Fast.tw4917123088628395944 : True := trivial
theorem PySem.W.Fast.tw8327650086976654643 : True := trivial
theorem PySem.W.Fast.tw3864155613604894804 : True := trivial
theorem PySem.W.Fast.tw54946516136408586 : True := trivial
theorem PySem.W.Fast.tw13939479662877384839 : True := trivial
theorem PySem.W.Fast.tw14641914256612142281 : True := trivial
theorem PySem.W.Fast.tw15441711526074075892 : True := trivial
theorem PySem.W.Fast.tw2920790981322534516 : True := trivial
theorem PySem.W.Fast.tw11776092323962736992 : True := trivial
theorem PySem.W.Fast.tw5452783260552967088 : True := trivial
theorem PySem.W.Fast.tw7022801438018886341 : True := trivial
theorem PySem.W.Fast.tw3720698222320891803 : True := trivial
theorem PySem.W.Fast.tw12531586784828435091 : True := trivial
theorem PySem.W.Fast.tw7338988626077925678 : True := trivial
theorem PySem.W.Fast.tw18037005084721736551 : True := trivial
theorem PySem.W.Fast.tw8124857834831013733 : True := trivial
theorem PySem.W.Fast.tw10741365139801455571 : True := trivial
theorem PySem.W.Fast.tw16069126558855991941 : True := trivial
theorem PySem.W.Fast.tw11053731784931958245 : True := trivial
theorem PySem.W.Fast.tw17701324645273178038 : True := trivial
theorem PySem.W.Fast.tw11595964797596545594 : True := trivial
theorem PySem.W.Fast.tw2040750398061000161 : True := trivial
theorem PySem.W.Fast.tw1770053702198146607 : True := trivial
theorem PySem.W.Fast.tw5477919409355548163 : True := trivial
theorem PySem.W.Fast.tw7250300722124675619 : True := trivial
theorem PySem.W.Fast.tw13990754434151688799 : True := trivial
theorem PySem.W.Fast.tw18127675485176631925 : True := trivial
theorem PySem.W.Fast.tw15141012269276023269 : True := trivial
theorem PySem.W.Fast.tw2094790017735926797 : True := trivial
theorem PySem.W.Fast.tw5771446974636041310 : True := trivial
theorem PySem.W.Fast.tw14248338962482962530 : True := trivial
theorem PySem.W.Fast.tw10935295136604777317 : True := trivial
theorem PySem.W.Fast.tw6031227315664472015 : True := trivial
theorem PySem.W.Fast.tw4272060350337708836 : True := trivial
theorem PySem.W.Fast.tw16987614602073890146 : True := trivial
theorem PySem.W.Fast.tw12846461311899210299 : True := trivial
theorem PySem.W.Fast.tw5069731617170156831 : True := trivial
theorem PySem.W.Fast.tw5783579840278186835 : True := trivial
theorem PySem.W.Fast.tw10285787234575263239 : True := trivial
theorem PySem.W.Fast.tw9901402149003096548 : True := trivial
theorem PySem.W.Fast.tw12457507406638014559 : True := trivial
theorem PySem.W.Fast.tw18258187245630262006 : True := trivial
theorem PySem.W.Fast.tw10915724917506365634 : True := trivial
theorem PySem.W.Fast.tw3764727937359898664 : True := trivial
theorem PySem.W.Fast.tw13419320460027602974 : True := trivial
theorem PySem.W.Fast.tw4938621077344098763 : True := trivial
theorem PySem.W.Fast.tw12901359348989359424 : True := trivial
theorem PySem.W.Fast.tw18239226512572734565 : True := trivial
theorem PySem.W.Fast.tw14475661537979992143 : True := trivial
theorem PySem.W.Fast.tw6161589707614981450 : True := trivial
theorem PySem.W.Fast.tw176708680794789760 : True := trivial
theorem PySem.W.Fast.tw7702921843611019417 : True := trivial
theorem PySem.W.Fast.tw2725518619930694646 : True := trivial
theorem PySem.W.Fast.tw4932634852353823974 : True := trivial
theorem PySem.W.Fast.tw722085369727882944 : True := trivial
theorem PySem.W.Fast.tw5639362458622273819 : True := trivial
theorem PySem.W.Fast.tw13173229855921813711 : True := trivial
theorem PySem.W.Fast.tw10605345015096220225 : True := trivial
theorem PySem.W.Fast.tw1807868656697425958 : True := trivial
theorem PySem.W.Fast.tw5357545021297729513 : True := trivial
theorem PySem.W.Fast.tw14938617538301148248 : True := trivial
theorem PySem.W.Fast.tw5857211380786942309 : True := trivial
theorem PySem.W.Fast.tw7486456904626117879 : True := trivial
theorem PySem.W.Fast.tw2469961506868121975 : True := trivial
theorem PySem.W.Fast.tw15835312485383936201 : True := trivial
theorem PySem.W.Fast.tw7410872067624530387 : True := trivial
theorem PySem.W.Fast.tw5901700702358566651 : True := trivial
theorem PySem.W.Fast.tw17001592258497140353 : True := trivial
theorem PySem.W.Fast.tw5595214912356084138 : True := trivial
theorem PySem.W.Fast.tw3278595582057323313 : True := trivial
theorem PySem.W.Fast.tw5067763795937840536 : True := trivial
theorem PySem.W.Fast.tw10141427547134279243 : True := trivial
theorem PySem.W.Fast.tw16598403910756998212 : True := trivial
theorem PySem.W.Fast.tw4038940857437049103 : True := trivial
theorem PySem.W.Fast.tw3444519032050788834 : True := trivial
theorem PySem.W.Fast.tw10058895768330800206 : True := trivial
theorem PySem.W.Fast.tw619513298517155001 : True := trivial
theorem PySem.W.Fast.tw18185181660518196 : True := trivial
theorem PySem.W.Fast.tw12040818173934153923 : True := trivial
theorem PySem.W.Fast.tw6686325273557606722 : True := trivial
theorem PySem.W.Fast.tw6422866783338088333 : True := trivial
theorem PySem.W.Fast.tw6312618299852232753 : True := trivial
theorem PySem.W.Fast.tw5489663161036987624 : True := trivial
theorem PySem.W.Fast.tw828840794816986222 : True := trivial
theorem PySem.W.Fast.tw11098211162376753938 : True := trivial
theorem PySem.W.Fast.tw2402504251317695041 : True := trivial
theorem PySem.W.Fast.tw12647596783946482207 : True := trivial
theorem PySem.W.Fast.tw3269991193044923882 : True := trivial
theorem PySem.W.Fast.tw2006508112061873984 : True := trivial
theorem PySem.W.Fast.tw6923896765829121316 : True := trivial
theorem PySem.W.Fast.tw9915939446707053074 : True := trivial
theorem PySem.W.Fast.tw766613096108869778 : True := trivial
theorem PySem.W.Fast.tw13077326085622149989 : True := trivial
theorem PySem.W.Fast.tw6016652762587122047 : True := trivial
theorem PySem.W.Fast.tw16840381221767691504 : True := trivial
theorem PySem.W.Fast.tw10345872962020684722 : True := trivial
theorem PySem.W.Fast.tw4400973286382942006 : True := trivial
theorem PySem.W.Fast.tw2809415271349139782 : True := trivial
theorem PySem.W.Fast.tw12911280049300304149 : True := trivial
theorem PySem.W.Fast.tw8385762205339798662 : True := trivial
theorem PySem.W.Fast.tw7677836548273923435 : True := trivial
theorem PySem.W.Fast.tw1211738658897114634 : True := trivial
theorem PySem.W.Fast.tw12235281204456202542 : True := trivial
theorem PySem.W.Fast.tw3279029486086466410 : True := trivial
theorem PySem.W.Fast.tw7998642699229290690 : True := trivial
theorem PySem.W.Fast.tw17850283089925962288 : True := trivial
theorem PySem.W.Fast.tw13565408499034895382 : True := trivial
theorem PySem.W.Fast.tw11067710474849200770 : True := trivial
theorem PySem.W.Fast.tw5097268505018652424 : True := trivial
theorem PySem.W.Fast.tw9709220930021515596 : True := trivial
theorem PySem.W.Fast.tw2506317184470945184 : True := trivial
theorem PySem.W.Fast.tw335609545879506017 : True := trivial
theorem PySem.W.Fast.tw11466094636947739647 : True := trivial
theorem PySem.W.Fast.tw2760666083059963174 : True := trivial
theorem PySem.W.Fast.tw18437137123356824748 : True := trivial
theorem PySem.W.Fast.tw7389561516160426912 : True := trivial
theorem PySem.W.Fast.tw17422575054736014965 : True := trivial
theorem PySem.W.Fast.tw11072417529595358161 : True := trivial
theorem PySem.W.Fast.tw8217353237174479601 : True := trivial
theorem PySem.W.Fast.tw3288584278194802014 : True := trivial
theorem PySem.W.Fast.tw10708065778945939886 : True := trivial
theorem PySem.W.Fast.tw17408433417766077504 : True := trivial
theorem PySem.W.Fast.tw12985161980034303413 : True := trivial
theorem PySem.W.Fast.tw4178632649989784831 : True := trivial
theorem PySem.W.Fast.tw7742006867946184500 : True := trivial
theorem PySem.W.Fast.tw10439510876228828118 : True := trivial
theorem PySem.W.Fast.tw9884277421361776169 : True := trivial
theorem PySem.W.Fast.tw10929513672928286698 : True := trivial
theorem PySem.W.Fast.tw14500928057383696056 : True := trivial
theorem PySem.W.Fast.tw4750475775921259007 : True := trivial
theorem PySem.W.Fast.tw7466752032031484941 : True := trivial
theorem PySem.W.Fast.tw8701727287013872997 : True := trivial
theorem PySem.W.Fast.tw9329760627194270128 : True := trivial
theorem PySem.W.Fast.tw116048601388455865 : True := trivial
theorem PySem.W.Fast.tw12027607470560256151 : True := trivial
theorem PySem.W.Fast.tw9933341721702617728 : True := trivial
theorem PySem.W.Fast.tw4505531662103801900 : True := trivial
theorem PySem.W.Fast.tw13781656364820708141 : True := trivial
theorem PySem.W.Fast.tw8379671621774258579 : True := trivial
theorem PySem.W.Fast.tw6320099635420199738 : True := trivial
theorem PySem.W.Fast.tw12465491750987482719 : True := trivial
theorem PySem.W.Fast.tw4211106302702146406 : True := trivial
theorem PySem.W.Fast.tw13373812147013110598 : True := trivial
theorem PySem.W.Fast.tw1654605080344127044 : True := trivial
theorem PySem.W.Fast.tw11388677559543208203 : True := trivial
theorem PySem.W.Fast.tw358826784300455942 : True := trivial
theorem PySem.W.Fast.tw1783248064893303591 : True := trivial
theorem PySem.W.Fast.tw17755004029776917961 : True := trivial
theorem PySem.W.Fast.tw1426721604813080453 : True := trivial
theorem PySem.W.Fast.tw133322037807270201 : True := trivial
theorem PySem.W.Fast.tw295218269423200276 : True := trivial
theorem PySem.W.Fast.tw10945011772113056671 : True := trivial
theorem PySem.W.Fast.tw11797688685369037198 : True := trivial
theorem PySem.W.Fast.tw843566278818478020 : True := trivial
theorem PySem.W.Fast.tw7844721574285565659 : True := trivial
theorem PySem.W.Fast.tw17396977742907877176 : True := trivial
theorem PySem.W.Fast.tw7888108970793468036 : True := trivial
theorem PySem.W.Fast.tw13983756256796935757 : True := trivial
theorem PySem.W.Fast.tw5403143990060389271 : True := trivial
theorem PySem.W.Fast.tw6775079813306435232 : True := trivial
theorem PySem.W.Fast.tw6927302679688760787 : True := trivial
theorem PySem.W.Fast.tw64896655473967608 : True := trivial
theorem PySem.W.Fast.tw2901730743922867010 : True := trivial
theorem PySem.W.Fast.tw2858774006324100301 : True := trivial
theorem PySem.W.Fast.tw886783121248115661 : True := trivial
theorem PySem.W.Fast.tw10252163927109168528 : True := trivial
theorem PySem.W.Fast.tw3795146737985331913 : True := trivial
theorem PySem.W.Fast.tw5917684698243358022 : True := trivial
theorem PySem.W.Fast.tw13136283327391535407 : True := trivial
theorem PySem.W.Fast.tw10763369059095935126 : True := trivial
theorem PySem.W.Fast.tw18366985521267486620 : True := trivial
theorem PySem.W.Fast.tw16729410655671526785 : True := trivial
theorem PySem.W.Fast.tw763798368849337847 : True := trivial
theorem PySem.W.Fast.tw2938264659293377493 : True := trivial
theorem PySem.W.Fast.tw7319425177291997241 : True := trivial
theorem PySem.W.Fast.tw10437187270326345594 : True := trivial
theorem PySem.W.Fast.tw17586554216815911058 : True := trivial
theorem PySem.W.Fast.tw9724982409545343137 : True := trivial
theorem PySem.W.Fast.tw12276457051928561359 : True := trivial
theorem PySem.W.Fast.tw1512351103531617564 : True := trivial
theorem PySem.W.Fast.tw1635553901470871440 : True := trivial
theorem PySem.W.Fast.tw17495646401458693241 : True := trivial
theorem PySem.W.Fast.tw6395820281940053975 : True := trivial
theorem PySem.W.Fast.tw3145878991337905379 : True := trivial
theorem PySem.W.Fast.tw6809574570358893036 : True := trivial
theorem PySem.W.Fast.tw1120805522774176343 : True := trivial
theorem PySem.W.Fast.tw4038432700980573146 : True := trivial
theorem PySem.W.Fast.tw16889589011363362664 : True := trivial
theorem PySem.W.Fast.tw10578299152872710817 : True := trivial
theorem PySem.W.Fast.tw17205752596198293580 : True := trivial
theorem PySem.W.Fast.tw6198479491058004261 : True := trivial
theorem PySem.W.Fast.tw12819611204817298930 : True := trivial
theorem PySem.W.Fast.tw15513940303102632007 : True := trivial
theorem PySem.W.Fast.tw18363562189583443351 : True := trivial
theorem PySem.W.Fast.tw10919074251612480854 : True := trivial
theorem PySem.W.Fast.tw15911637633725859606 : True := trivial
theorem PySem.W.Fast.tw4269706075110738098 : True := trivial
theorem PySem.W.Fast.tw969459055409081270 : True := trivial
theorem PySem.W.Fast.tw14685324267934793428 : True := trivial
theorem PySem.W.Fast.tw4563484574230616244 : True := trivial
theorem PySem.W.Fast.tw17157880072448137407 : True := trivial
theorem PySem.W.Fast.tw14289011343438582689 : True := trivial
theorem PySem.W.Fast.tw13486216482863049142 : True := trivial
theorem PySem.W.Fast.tw18341891968504219262 : True := trivial
theorem PySem.W.Fast.tw13676113989253549918 : True := trivial
theorem PySem.W.Fast.tw8376476171711834274 : True := trivial
theorem PySem.W.Fast.tw8774216948879336774 : True := trivial
theorem PySem.W.Fast.tw7437546765956987465 : True := trivial
theorem PySem.W.Fast.tw11013362003921315089 : True := trivial
theorem PySem.W.Fast.tw10706521069879094191 : True := trivial
theorem PySem.W.Fast.tw2245215908110792714 : True := trivial
theorem PySem.W.Fast.tw9876934755990262171 : True := trivial
theorem PySem.W.Fast.tw8706354730342658755 : True := trivial
theorem PySem.W.Fast.tw16685688121961183992 : True := trivial
theorem PySem.W.Fast.tw4588494498019724397 : True := trivial
theorem PySem.W.Fast.tw17733666717847681512 : True := trivial
theorem PySem.W.Fast.tw4585950921119056423 : True := trivial
theorem PySem.W.Fast.tw11430674196734444177 : True := trivial
theorem PySem.W.Fast.tw14928300602596111028 : True := trivial
theorem PySem.W.Fast.tw7200947798009717317 : True := trivial
theorem PySem.W.Fast.tw15636113255673433962 : True := trivial
theorem PySem.W.Fast.tw2200861145024654397 : True := trivial
theorem PySem.W.Fast.tw13706009820054893921 : True := trivial
theorem PySem.W.Fast.tw3761393847330546248 : True := trivial
theorem PySem.W.Fast.tw18101158883949619847 : True := trivial
theorem PySem.W.Fast.tw9318962086260043816 : True := trivial
theorem PySem.W.Fast.tw9110450558960659597 : True := trivial
theorem PySem.W.Fast.tw322957678319489972 : True := trivial
theorem PySem.W.Fast.tw4415438649935790350 : True := trivial
theorem PySem.W.Fast.tw14132345329184163028 : True := trivial
theorem PySem.W.Fast.tw10690620970979611571 : True := trivial
theorem PySem.W.Fast.tw6944661707420392863 : True := trivial
theorem PySem.W.Fast.tw4226081393458554883 : True := trivial
theorem PySem.W.Fast.tw17938091922395492424 : True := trivial
theorem PySem.W.Fast.tw16441150191862074323 : True := trivial
theorem PySem.W.Fast.tw11988974194259473772 : True := trivial
theorem PySem.W.Fast.tw3925741523192887776 : True := trivial
theorem PySem.W.Fast.tw8780579843364148511 : True := trivial
theorem PySem.W.Fast.tw1134395555305251072 : True := trivial
theorem PySem.W.Fast.tw1879336006139021230 : True := trivial
theorem PySem.W.Fast.tw13260172247378052980 : True := trivial
theorem PySem.W.Fast.tw13533225053617644797 : True := trivial
theorem PySem.W.Fast.tw9066996867986890353 : True := trivial
theorem PySem.W.Fast.tw14920205254001812438 : True := trivial
theorem PySem.W.Fast.tw6367007126625892225 : True := trivial
theorem PySem.W.Fast.tw17769974661971726623 : True := trivial
theorem PySem.W.Fast.tw10216764983478145537 : True := trivial
theorem PySem.W.Fast.tw8994559038928751817 : True := trivial
theorem PySem.W.Fast.tw6020429233441020816 : True := trivial
theorem PySem.W.Fast.tw13527108432668268095 : True := trivial
theorem PySem.W.Fast.tw2585738825923586587 : True := trivial
theorem PySem.W.Fast.tw6618920494187173204 : True := trivial
theorem PySem.W.Fast.tw10797354572956901503 : True := trivial
theorem PySem.W.Fast.tw6835654016497405746 : True := trivial
theorem PySem.W.Fast.tw1004966366967726213 : True := trivial
theorem PySem.W.Fast.tw6375406895222680537 : True := trivial
theorem PySem.W.Fast.tw4826002587394637724 : True := trivial
theorem PySem.W.Fast.tw3470129726338755771 : True := trivial
theorem PySem.W.Fast.tw702762194141436596 : True := trivial
theorem PySem.W.Fast.tw11465330774042846606 : True := trivial
theorem PySem.W.Fast.tw2355057591938102606 : True := trivial
theorem PySem.W.Fast.tw10143623211459508165 : True := trivial
theorem PySem.W.Fast.tw4294616849397507852 : True := trivial
theorem PySem.W.Fast.tw14508044564278100720 : True := trivial
theorem PySem.W.Fast.tw9637491284967241122 : True := trivial
theorem PySem.W.Fast.tw478448908735803781 : True := trivial
theorem PySem.W.Fast.tw5577829312917279948 : True := trivial
theorem PySem.W.Fast.tw17923691183146198371 : True := trivial
theorem PySem.W.Fast.tw16123525005611386523 : True := trivial
theorem PySem.W.Fast.tw15559627318517388661 : True := trivial
theorem PySem.W.Fast.tw530392169461155858 : True := trivial
theorem PySem.W.Fast.tw10589366307892526579 : True := trivial
theorem PySem.W.Fast.tw13465027592884466221 : True := trivial
theorem PySem.W.Fast.tw7387693116352382118 : True := trivial
theorem PySem.W.Fast.tw8282325467063251775 : True := trivial
theorem PySem.W.Fast.tw8426143750982655356 : True := trivial
theorem PySem.W.Fast.tw5328073101379969381 : True := trivial
theorem PySem.W.Fast.tw3521928776905017145 : True := trivial
theorem PySem.W.Fast.tw17875214188362099994 : True := trivial
theorem PySem.W.Fast.tw5358376723560783444 : True := trivial
theorem PySem.W.Fast.tw1519120095452976977 : True := trivial
theorem PySem.W.Fast.tw11000877618272008653 : True := trivial
theorem PySem.W.Fast.tw1778993280207781364 : True := trivial
theorem PySem.W.Fast.tw16372647484287584649 : True := trivial
theorem PySem.W.Fast.tw8828989077590779339 : True := trivial
theorem PySem.W.Fast.tw6663421565979340897 : True := trivial
theorem PySem.W.Fast.tw8642643647168574376 : True := trivial
theorem PySem.W.Fast.tw1998351326697936424 : True := trivial
theorem PySem.W.Fast.tw8254447573396062464 : True := trivial
theorem PySem.W.Fast.tw12711893978645450164 : True := trivial
theorem PySem.W.Fast.tw16080586042109827233 : True := trivial
theorem PySem.W.Fast.tw6080123034746121116 : True := trivial
theorem PySem.W.Fast.tw16291909067916762793 : True := trivial
theorem PySem.W.Fast.tw2353519420401860680 : True := trivial
theorem PySem.W.Fast.tw981180365861866336 : True := trivial
theorem PySem.W.Fast.tw3515696194547307032 : True := trivial
theorem PySem.W.Fast.tw14155069379435416197 : True := trivial
theorem PySem.W.Fast.tw7100928339632232424 : True := trivial
theorem PySem.W.Fast.tw466486087188903166 : True := trivial
theorem PySem.W.Fast.tw8945508672660027036 : True := trivial
theorem PySem.W.Fast.tw3296648360240377189 : True := trivial
theorem PySem.W.Fast.tw15897840266207874104 : True := trivial
theorem PySem.W.Fast.tw601721416405946420 : True := trivial
theorem PySem.W.Fast.tw7097020862793557464 : True := trivial
theorem PySem.W.Fast.tw1168772412638822618 : True := trivial
theorem PySem.W.Fast.tw3873674139791715313 : True := trivial
theorem PySem.W.Fast.tw9815165243695615984 : True := trivial
theorem PySem.W.Fast.tw16542288927575792722 : True := trivial
theorem PySem.W.Fast.tw2231098950912863264 : True := trivial
theorem PySem.W.Fast.tw5719094176227594734 : True := trivial
theorem PySem.W.Fast.tw1810694562629766022 : True := trivial
theorem PySem.W.Fast.tw16185367053940766151 : True := trivial
theorem PySem.W.Fast.tw977730865866691546 : True := trivial
theorem PySem.W.Fast.tw7585755873217571365 : True := trivial
theorem PySem.W.Fast.tw7881304104201575084 : True := trivial
theorem PySem.W.Fast.tw10695118201551139694 : True := trivial
theorem PySem.W.Fast.tw12800170793276095045 : True := trivial
theorem PySem.W.Fast.tw14534037591742580848 : True := trivial
theorem PySem.W.Fast.tw15989972011490638151 : True := trivial
theorem PySem.W.Fast.tw13808933627892887714 : True := trivial
theorem PySem.W.Fast.tw17878827560913907729 : True := trivial
theorem PySem.W.Fast.tw11488515187243468307 : True := trivial
theorem PySem.W.Fast.tw613831829551357714 : True := trivial
theorem PySem.W.Fast.tw6046824704050439871 : True := trivial
theorem PySem.W.Fast.tw10159148432065587826 : True := trivial
theorem PySem.W.Fast.tw8911415438616692028 : True := trivial
theorem PySem.W.Fast.tw2090536401445386255 : True := trivial
theorem PySem.W.Fast.tw17578923272693007797 : True := trivial
theorem PySem.W.Fast.tw11158697727384938756 : True := trivial
theorem PySem.W.Fast.tw5291073690457387129 : True := trivial
theorem PySem.W.Fast.tw3040523780320208925 : True := trivial
theorem PySem.W.Fast.tw3133362504532038937 : True := trivial
theorem PySem.W.Fast.tw6643068202504005564 : True := trivial
theorem PySem.W.Fast.tw14861034740038159012 : True := trivial
theorem PySem.W.Fast.tw144186697764308927 : True := trivial
theorem PySem.W.Fast.tw12108990705746572416 : True := trivial
theorem PySem.W.Fast.tw17775895374537820786 : True := trivial
theorem PySem.W.Fast.tw18071315123323030864 : True := trivial
theorem PySem.W.Fast.tw10499745245711836995 : True := trivial
theorem PySem.W.Fast.tw16091648008471537084 : True := trivial
theorem PySem.W.Fast.tw7121439694076500111 : True := trivial
theorem PySem.W.Fast.tw6934665576479757103 : True := trivial
theorem PySem.W.Fast.tw11545437037689839618 : True := trivial
theorem PySem.W.Fast.tw7059624815194064308 : True := trivial
theorem PySem.W.Fast.tw14062162196050743117 : True := trivial
theorem PySem.W.Fast.tw16156831228354084267 : True := trivial
theorem PySem.W.Fast.tw12862890738789895648 : True := trivial
theorem PySem.W.Fast.tw7797699974042598222 : True := trivial
theorem PySem.W.Fast.tw1095337026960245166 : True := trivial
theorem PySem.W.Fast.tw5649810831432034229 : True := trivial
theorem PySem.W.Fast.tw13262372607879017002 : True := trivial
theorem PySem.W.Fast.tw8081663542629169446 : True := trivial
theorem PySem.W.Fast.tw13680628545194560817 : True := trivial
theorem PySem.W.Fast.tw10720233847099370578 : True := trivial
theorem PySem.W.Fast.tw7479847995514238869 : True := trivial
theorem PySem.W.Fast.tw17214676290651618861 : True := trivial
theorem PySem.W.Fast.tw7626871300831248296 : True := trivial
theorem PySem.W.Fast.tw16387904827166473400 : True := trivial
theorem PySem.W.Fast.tw3107879916427701075 : True := trivial
theorem PySem.W.Fast.tw1586686060726459569 : True := trivial
theorem PySem.W.Fast.tw9186222829678785033 : True := trivial
theorem PySem.W.Fast.tw7590097623763867356 : True := trivial
theorem PySem.W.Fast.tw1566499493730016873 : True := trivial
theorem PySem.W.Fast.tw2497043721814721825 : True := trivial
theorem PySem.W.Fast.tw16763966842252670851 : True := trivial
theorem PySem.W.Fast.tw6396156417043877087 : True := trivial
theorem PySem.W.Fast.tw6202850845973522778 : True := trivial
theorem PySem.W.Fast.tw16748591442359408326 : True := trivial
theorem PySem.W.Fast.tw8252186191313354153 : True := trivial
theorem PySem.W.Fast.tw1360990111408134603 : True := trivial
theorem PySem.W.Fast.tw16597230520247538778 : True := trivial
theorem PySem.W.Fast.tw10642694499556099301 : True := trivial
theorem PySem.W.Fast.tw16377323901603991527 : True := trivial
theorem PySem.W.Fast.tw8519176983936225889 : True := trivial
theorem PySem.W.Fast.tw6828093431428581523 : True := trivial
theorem PySem.W.Fast.tw6388995381398404398 : True := trivial
theorem PySem.W.Fast.tw11639957919470861433 : True := trivial
theorem PySem.W.Fast.tw3814833738022312442 : True := trivial
theorem PySem.W.Fast.tw10620245014754628050 : True := trivial
theorem PySem.W.Fast.tw209329040309038579 : True := trivial
theorem PySem.W.Fast.tw12061225215449016893 : True := trivial
theorem PySem.W.Fast.tw14893548028188383717 : True := trivial
theorem PySem.W.Fast.tw13771606523711059531 : True := trivial
theorem PySem.W.Fast.tw6311993149261005767 : True := trivial
theorem PySem.W.Fast.tw1254470747397308848 : True := trivial
theorem PySem.W.Fast.tw14151756089648840022 : True := trivial
theorem PySem.W.Fast.tw3158427870500015492 : True := trivial
theorem PySem.W.Fast.tw18133907550844546134 : True := trivial
theorem PySem.W.Fast.tw12148130636454821675 : True := trivial
theorem PySem.W.Fast.tw271584042377630479 : True := trivial
theorem PySem.W.Fast.tw6575152215375926774 : True := trivial
theorem PySem.W.Fast.tw8516186957210337187 : True := trivial
theorem PySem.W.Fast.tw17291861163461789338 : True := trivial
theorem PySem.W.Fast.tw17000543319346737392 : True := trivial
theorem PySem.W.Fast.tw2403938361001576594 : True := trivial
theorem PySem.W.Fast.tw126908149642227624 : True := trivial
theorem PySem.W.Fast.tw4158983710907665049 : True := trivial
theorem PySem.W.Fast.tw17086477951921307749 : True := trivial
theorem PySem.W.Fast.tw11153908567119793174 : True := trivial
theorem PySem.W.Fast.tw7853080901773646781 : True := trivial
theorem PySem.W.Fast.tw14542805907482057521 : True := trivial
theorem PySem.W.Fast.tw12935647180954988210 : True := trivial
theorem PySem.W.Fast.tw14513520718928724583 : True := trivial
theorem PySem.W.Fast.tw9913261955787623007 : True := trivial
theorem PySem.W.Fast.tw1265941209297904411 : True := trivial
theorem PySem.W.Fast.tw17825709486267355551 : True := trivial
theorem PySem.W.Fast.tw12679510939222196147 : True := trivial
theorem PySem.W.Fast.tw17547982263334495690 : True := trivial
theorem PySem.W.Fast.tw3380773511353539754 : True := trivial
theorem PySem.W.Fast.tw2540253191591904064 : True := trivial
theorem PySem.W.Fast.tw6697220169653701484 : True := trivial
theorem PySem.W.Fast.tw16621858728899302415 : True := trivial
theorem PySem.W.Fast.tw48683551694038058 : True := trivial
theorem PySem.W.Fast.tw13293611599445048449 : True := trivial
theorem PySem.W.Fast.tw1064942689341829606 : True := trivial
theorem PySem.W.Fast.tw9298576978006832293 : True := trivial
theorem PySem.W.Fast.tw15635081620302300920 : True := trivial
theorem PySem.W.Fast.tw3263131210595469260 : True := trivial
theorem PySem.W.Fast.tw10607901241005441950 : True := trivial
theorem PySem.W.Fast.tw17985134410370610572 : True := trivial
theorem PySem.W.Fast.tw6761209830068623207 : True := trivial
theorem PySem.W.Fast.tw11057531215486281115 : True := trivial
theorem PySem.W.Fast.tw1175546282327040307 : True := trivial
theorem PySem.W.Fast.tw13542026285680394439 : True := trivial
theorem PySem.W.Fast.tw14436509326330430988 : True := trivial
theorem PySem.W.Fast.tw18434691784257554453 : True := trivial
theorem PySem.W.Fast.tw5297824570810005421 : True := trivial
theorem PySem.W.Fast.tw4928912120258618704 : True := trivial
theorem PySem.W.Fast.tw3307496156002366558 : True := trivial
theorem PySem.W.Fast.tw14155020028774788789 : True := trivial
theorem PySem.W.Fast.tw2939771308390752717 : True := trivial
theorem PySem.W.Fast.tw4311051265517710174 : True := trivial
theorem PySem.W.Fast.tw12127737626415015598 : True := trivial
theorem PySem.W.Fast.tw18416393366260112952 : True := trivial
theorem PySem.W.Fast.tw12374057348421558440 : True := trivial
theorem PySem.W.Fast.tw5477568537170153218 : True := trivial
theorem PySem.W.Fast.tw4685248391000372256 : True := trivial
theorem PySem.W.Fast.tw4733142304944910057 : True := trivial
theorem PySem.W.Fast.tw11907038500098460715 : True := trivial
theorem PySem.W.Fast.tw2188299213903490626 : True := trivial
theorem PySem.W.Fast.tw11896803111389290008 : True := trivial
theorem PySem.W.Fast.tw11146656863560644571 : True := trivial
theorem PySem.W.Fast.tw4689055970423691891 : True := trivial
theorem PySem.W.Fast.tw8284396446422697004 : True := trivial
theorem PySem.W.Fast.tw11811563635510736560 : True := trivial
theorem PySem.W.Fast.tw8227691800917720801 : True := trivial
theorem PySem.W.Fast.tw16421754479227362653 : True := trivial
theorem PySem.W.Fast.tw7043486087931055471 : True := trivial
theorem PySem.W.Fast.tw2688092302034663272 : True := trivial
theorem PySem.W.Fast.tw4945116300103706919 : True := trivial
theorem PySem.W.Fast.tw7996415947029720761 : True := trivial
theorem PySem.W.Fast.tw9763805513509493988 : True := trivial
theorem PySem.W.Fast.tw16743443557067404896 : True := trivial
theorem PySem.W.Fast.tw18257013494787675199 : True := trivial
theorem PySem.W.Fast.tw11847112559118208226 : True := trivial
theorem PySem.W.Fast.tw14284590541463588760 : True := trivial
theorem PySem.W.Fast.tw10353165202692232997 : True := trivial
theorem PySem.W.Fast.tw12308453421164202919 : True := trivial
theorem PySem.W.Fast.tw1240339102880303194 : True := trivial
theorem PySem.W.Fast.tw10319262298790924298 : True := trivial
theorem PySem.W.Fast.tw4202612444450122910 : True := trivial
theorem PySem.W.Fast.tw13421636731901985370 : True := trivial
theorem PySem.W.Fast.tw3377187905789509440 : True := trivial
theorem PySem.W.Fast.tw11889039204727449155 : True := trivial
theorem PySem.W.Fast.tw16299170307331244072 : True := trivial
theorem PySem.W.Fast.tw10341957265210858136 : True := trivial
theorem PySem.W.Fast.tw11906715003784638275 : True := trivial
theorem PySem.W.Fast.tw18230274525195135978 : True := trivial
theorem PySem.W.Fast.tw15723494343285308108 : True := trivial
theorem PySem.W.Fast.tw4058270649548948154 : True := trivial
theorem PySem.W.Fast.tw14023091160578967811 : True := trivial
theorem PySem.W.Fast.tw14978130163008429545 : True := trivial
theorem PySem.W.Fast.tw10598159608957917977 : True := trivial
theorem PySem.W.Fast.tw13851897893651642420 : True := trivial
theorem PySem.W.Fast.tw493833120304287564 : True := trivial
theorem PySem.W.Fast.tw13069774254769119997 : True := trivial
theorem PySem.W.Fast.tw6594683800975282783 : True := trivial
theorem PySem.W.Fast.tw1865619745931600895 : True := trivial
theorem PySem.W.Fast.tw1854936734749842681 : True := trivial
theorem PySem.W.Fast.tw12946845825433643019 : True := trivial
theorem PySem.W.Fast.tw9718313117213935689 : True := trivial
theorem PySem.W.Fast.tw369462276680995069 : True := trivial
theorem PySem.W.Fast.tw222899930704696895 : True := trivial
theorem PySem.W.Fast.tw3681531962256843767 : True := trivial
theorem PySem.W.Fast.tw15581935892434879249 : True := trivial
theorem PySem.W.Fast.tw12503811778690261540 : True := trivial
theorem PySem.W.Fast.tw7658097551676342100 : True := trivial
theorem PySem.W.Fast.tw2405176588002466737 : True := trivial
theorem PySem.W.Fast.tw14684618889317100475 : True := trivial
theorem PySem.W.Fast.tw8703694053463792470 : True := trivial
theorem PySem.W.Fast.tw5973639700503584684 : True := trivial
theorem PySem.W.Fast.tw7382954144484216896 : True := trivial
theorem PySem.W.Fast.tw5526781352411665473 : True := trivial
theorem PySem.W.Fast.tw15675346543062375780 : True := trivial
theorem PySem.W.Fast.tw17211935411339365907 : True := trivial
theorem PySem.W.Fast.tw17240821446298237006 : True := trivial
theorem PySem.W.Fast.tw11862560691666585654 : True := trivial
theorem PySem.W.Fast.tw13735803815772384245 : True := trivial
theorem PySem.W.Fast.tw6318282158187906307 : True := trivial
theorem PySem.W.Fast.tw11480139786430502221 : True := trivial
theorem PySem.W.Fast.tw16334668773686873236 : True := trivial
theorem PySem.W.Fast.tw8411449685535379746 : True := trivial
theorem PySem.W.Fast.tw8768146059848857257 : True := trivial
theorem PySem.W.Fast.tw9695110199704498078 : True := trivial
theorem PySem.W.Fast.tw17740012595114503855 : True := trivial
theorem PySem.W.Fast.tw5124235568658761087 : True := trivial
theorem PySem.W.Fast.tw1403374740706742821 : True := trivial
theorem PySem.W.Fast.tw12177232670815805106 : True := trivial
theorem PySem.W.Fast.tw1941044002517599940 : True := trivial
theorem PySem.W.Fast.tw5614680655369950488 : True := trivial
theorem PySem.W.Fast.tw5249634340228907975 : True := trivial
theorem PySem.W.Fast.tw1571401278034167921 : True := trivial
theorem PySem.W.Fast.tw1779055747727596932 : True := trivial
theorem PySem.W.Fast.tw14021462879102106655 : True := trivial
theorem PySem.W.Fast.tw17957286277404052581 : True := trivial
theorem PySem.W.Fast.tw8986159357614101960 : True := trivial
theorem PySem.W.Fast.tw6383066346005283258 : True := trivial
theorem PySem.W.Fast.tw18047367645386451730 : True := trivial
theorem PySem.W.Fast.tw5916989911410795083 : True := trivial
theorem PySem.W.Fast.tw17463844002361741647 : True := trivial
theorem PySem.W.Fast.tw14355215617146821252 : True := trivial
theorem PySem.W.Fast.tw807763329852898513 : True := trivial
theorem PySem.W.Fast.tw11141090642215652512 : True := trivial
theorem PySem.W.Fast.tw5239078365300351170 : True := trivial
theorem PySem.W.Fast.tw13691838436908547396 : True := trivial
theorem PySem.W.Fast.tw18174938820916320602 : True := trivial
theorem PySem.W.Fast.tw2280478477709621495 : True := trivial
theorem PySem.W.Fast.tw1518292133909455565 : True := trivial
theorem PySem.W.Fast.tw7781923847873927606 : True := trivial
theorem PySem.W.Fast.tw7014672094486193338 : True := trivial
theorem PySem.W.Fast.tw5901904998744864407 : True := trivial
theorem PySem.W.Fast.tw6390811287461794186 : True := trivial
theorem PySem.W.Fast.tw989275435532758650 : True := trivial
theorem PySem.W.Fast.tw12866186937960297273 : True := trivial
theorem PySem.W.Fast.tw10107850431833765781 : True := trivial
theorem PySem.W.Fast.tw6899114651348329922 : True := trivial
theorem PySem.W.Fast.tw16079877455508812040 : True := trivial
theorem PySem.W.Fast.tw15327271124968523393 : True := trivial
theorem PySem.W.Fast.tw17997132370879665280 : True := trivial
theorem PySem.W.Fast.tw9656498280626681712 : True := trivial
theorem PySem.W.Fast.tw3342288186819903248 : True := trivial
theorem PySem.W.Fast.tw13980684817462934277 : True := trivial
theorem PySem.W.Fast.tw16550670818474274518 : True := trivial
theorem PySem.W.Fast.tw5777896887807409801 : True := trivial
theorem PySem.W.Fast.tw5998258644553387857 : True := trivial
theorem PySem.W.Fast.tw5048963906421301637 : True := trivial
theorem PySem.W.Fast.tw16129034927975190732 : True := trivial
theorem PySem.W.Fast.tw628246675519626954 : True := trivial
theorem PySem.W.Fast.tw11048464199459653492 : True := trivial
theorem PySem.W.Fast.tw15590883148365378350 : True := trivial
theorem PySem.W.Fast.tw15374978479553943344 : True := trivial
theorem PySem.W.Fast.tw17478686190712941955 : True := trivial
theorem PySem.W.Fast.tw10677898356797834695 : True := trivial
theorem PySem.W.Fast.tw4989651151820610435 : True := trivial
theorem PySem.W.Fast.tw13704463419472176424 : True := trivial
theorem PySem.W.Fast.tw6406018122697953606 : True := trivial
theorem PySem.W.Fast.tw4936047308052036002 : True := trivial
theorem PySem.W.Fast.tw145381398655502307 : True := trivial
theorem PySem.W.Fast.tw16606338183885395056 : True := trivial
theorem PySem.W.Fast.tw5775620090744569550 : True := trivial
theorem PySem.W.Fast.tw6198785675248376764 : True := trivial
theorem PySem.W.Fast.tw14383064932822827463 : True := trivial
theorem PySem.W.Fast.tw7634769589772303907 : True := trivial
theorem PySem.W.Fast.tw16209770227124805853 : True := trivial
theorem PySem.W.Fast.tw2248056919703818169 : True := trivial
theorem PySem.W.Fast.tw17216284224478688760 : True := trivial
theorem PySem.W.Fast.tw13775585239556604211 : True := trivial
theorem PySem.W.Fast.tw13519036229882954614 : True := trivial
theorem PySem.W.Fast.tw12325316361249201643 : True := trivial
theorem PySem.W.Fast.tw8739570966332015950 : True := trivial
theorem PySem.W.Fast.tw10028516603739629015 : True := trivial
theorem PySem.W.Fast.tw6089712004875189438 : True := trivial
theorem PySem.W.Fast.tw13988113450977840715 : True := trivial
theorem PySem.W.Fast.tw10842583355772030447 : True := trivial
theorem PySem.W.Fast.tw12408083325683887233 : True := trivial
theorem PySem.W.Fast.tw3989881311880017854 : True := trivial
theorem PySem.W.Fast.tw2377850709540463976 : True := trivial
theorem PySem.W.Fast.tw12827698625494975782 : True := trivial
theorem PySem.W.Fast.tw16544481809832284482 : True := trivial
theorem PySem.W.Fast.tw11526105148316490625 : True := trivial
theorem PySem.W.Fast.tw6869185823812515605 : True := trivial
theorem PySem.W.Fast.tw16156120032996488566 : True := trivial
theorem PySem.W.Fast.tw6542870091423708343 : True := trivial
theorem PySem.W.Fast.tw10786611431030050168 : True := trivial
theorem PySem.W.Fast.tw11528469536527136727 : True := trivial
theorem PySem.W.Fast.tw3651196505057393781 : True := trivial
theorem PySem.W.Fast.tw8658625909356541026 : True := trivial
theorem PySem.W.Fast.tw15435481222986133792 : True := trivial
theorem PySem.W.Fast.tw1329423360951115898 : True := trivial
theorem PySem.W.Fast.tw986120860781428973 : True := trivial
theorem PySem.W.Fast.tw12272232080491559266 : True := trivial
theorem PySem.W.Fast.tw1204267215433033678 : True := trivial
theorem PySem.W.Fast.tw1154475786820736354 : True := trivial
theorem PySem.W.Fast.tw12604337525441783827 : True := trivial
theorem PySem.W.Fast.tw17966319104029636057 : True := trivial
theorem PySem.W.Fast.tw10712630929839736850 : True := trivial
theorem PySem.W.Fast.tw3337513950240415846 : True := trivial
theorem PySem.W.Fast.tw4374134476239081835 : True := trivial
theorem PySem.W.Fast.tw2113489476662722446 : True := trivial
theorem PySem.W.Fast.tw3002911512240176752 : True := trivial
theorem PySem.W.Fast.tw16872572442287216830 : True := trivial
theorem PySem.W.Fast.tw9839978805457224391 : True := trivial
theorem PySem.W.Fast.tw5113139984467546403 : True := trivial
theorem PySem.W.Fast.tw6102696227847942240 : True := trivial
theorem PySem.W.Fast.tw11230680709332155587 : True := trivial
theorem PySem.W.Fast.tw8497764400721892553 : True := trivial
theorem PySem.W.Fast.tw16761989050366841917 : True := trivial
theorem PySem.W.Fast.tw15127382047804017135 : True := trivial
theorem PySem.W.Fast.tw7580242310309347358 : True := trivial
theorem PySem.W.Fast.tw4624510911005019812 : True := trivial
theorem PySem.W.Fast.tw15843774916776514693 : True := trivial
theorem PySem.W.Fast.tw17823082487089224763 : True := trivial
theorem PySem.W.Fast.tw1057493167229177526 : True := trivial
theorem PySem.W.Fast.tw14903877645121652319 : True := trivial
theorem PySem.W.Fast.tw13859967296233234205 : True := trivial
theorem PySem.W.Fast.tw5895138903305010182 : True := trivial
theorem PySem.W.Fast.tw3381505056473860782 : True := trivial
theorem PySem.W.Fast.tw2180306444614018364 : True := trivial
theorem PySem.W.Fast.tw14170311776209065984 : True := trivial
theorem PySem.W.Fast.tw9084956464194000295 : True := trivial
theorem PySem.W.Fast.tw2921516003696341504 : True := trivial
theorem PySem.W.Fast.tw5816297433151978078 : True := trivial
theorem PySem.W.Fast.tw10750299968476241844 : True := trivial
theorem PySem.W.Fast.tw17880803179670585729 : True := trivial
theorem PySem.W.Fast.tw12598940367580984590 : True := trivial
theorem PySem.W.Fast.tw8980390215703694859 : True := trivial
theorem PySem.W.Fast.tw9256517890624457424 : True := trivial
theorem PySem.W.Fast.tw7973272182726867974 : True := trivial
theorem PySem.W.Fast.tw2632290504850218561 : True := trivial
theorem PySem.W.Fast.tw11911714006160198434 : True := trivial
theorem PySem.W.Fast.tw14603761355035776286 : True := trivial
theorem PySem.W.Fast.tw10438888410183182337 : True := trivial
theorem PySem.W.Fast.tw9299876632033952655 : True := trivial
theorem PySem.W.Fast.tw17544725115781033714 : True := trivial
theorem PySem.W.Fast.tw11140664756726892131 : True := trivial
theorem PySem.W.Fast.tw11620273829697070764 : True := trivial
theorem PySem.W.Fast.tw15523522497983863910 : True := trivial
theorem PySem.W.Fast.tw4538770716065583291 : True := trivial
theorem PySem.W.Fast.tw12352433291080091409 : True := trivial
theorem PySem.W.Fast.tw13660314922369914139 : True := trivial
theorem PySem.W.Fast.tw12241554503348429581 : True := trivial
theorem PySem.W.Fast.tw8438492067999767919 : True := trivial
theorem PySem.W.Fast.tw10049448532967311356 : True := trivial
theorem PySem.W.Fast.tw12357505588107215457 : True := trivial
theorem PySem.W.Fast.tw16902571504374821484 : True := trivial
theorem PySem.W.Fast.tw2073052696584972449 : True := trivial
theorem PySem.W.Fast.tw2159897818015594012 : True := trivial
theorem PySem.W.Fast.tw9926217650665500294 : True := trivial
theorem PySem.W.Fast.tw4849761107511092856 : True := trivial
theorem PySem.W.Fast.tw10295520818316868639 : True := trivial
theorem PySem.W.Fast.tw15099788077499980982 : True := trivial
theorem PySem.W.Fast.tw1910757870223837959 : True := trivial
theorem PySem.W.Fast.tw10998994846621144054 : True := trivial
theorem PySem.W.Fast.tw18138813182207509560 : True := trivial
theorem PySem.W.Fast.tw15226163953705975293 : True := trivial
theorem PySem.W.Fast.tw16320324775361087670 : True := trivial
theorem PySem.W.Fast.tw4602043679224841635 : True := trivial
theorem PySem.W.Fast.tw10450888059117445200 : True := trivial
theorem PySem.W.Fast.tw17895487761710691399 : True := trivial
theorem PySem.W.Fast.tw5986595691707588439 : True := trivial
theorem PySem.W.Fast.tw11008456656660818252 : True := trivial
theorem PySem.W.Fast.tw9887495238171233728 : True := trivial
theorem PySem.W.Fast.tw16070707146448057594 : True := trivial
theorem PySem.W.Fast.tw8262015010796084997 : True := trivial
theorem PySem.W.Fast.tw11831315711459467479 : True := trivial
theorem PySem.W.Fast.tw16826516232989823155 : True := trivial
theorem PySem.W.Fast.tw1996335805911619091 : True := trivial
theorem PySem.W.Fast.tw9847693270684705769 : True := trivial
theorem PySem.W.Fast.tw905096503388017747 : True := trivial
theorem PySem.W.Fast.tw11355311585345645099 : True := trivial
theorem PySem.W.Fast.tw17794601098566223516 : True := trivial
theorem PySem.W.Fast.tw9955168755198294815 : True := trivial
theorem PySem.W.Fast.tw13687650897539040364 : True := trivial
theorem PySem.W.Fast.tw15990171842414821364 : True := trivial
theorem PySem.W.Fast.tw5367547960273984645 : True := trivial
theorem PySem.W.Fast.tw9481004825165925684 : True := trivial
theorem PySem.W.Fast.tw18114889186424356537 : True := trivial
theorem PySem.W.Fast.tw4564471024866773919 : True := trivial
theorem PySem.W.Fast.tw6687069997564116 : True := trivial
theorem PySem.W.Fast.tw618517008233726504 : True := trivial
theorem PySem.W.Fast.tw5853061599209416645 : True := trivial
theorem PySem.W.Fast.tw1608342533088359696 : True := trivial
theorem PySem.W.Fast.tw2505232875639202260 : True := trivial
theorem PySem.W.Fast.tw4251651929628304303 : True := trivial
theorem PySem.W.Fast.tw15442135328373143296 : True := trivial
theorem PySem.W.Fast.tw13099280998561388485 : True := trivial
theorem PySem.W.Fast.tw15223685814667278314 : True := trivial
theorem PySem.W.Fast.tw10862899950088067367 : True := trivial
theorem PySem.W.Fast.tw14936627445793047422 : True := trivial
theorem PySem.W.Fast.tw15121335508567956239 : True := trivial
theorem PySem.W.Fast.tw982313719252752916 : True := trivial
theorem PySem.W.Fast.tw17681549758808692398 : True := trivial
theorem PySem.W.Fast.tw17475689725462332756 : True := trivial
theorem PySem.W.Fast.tw17571294331955524278 : True := trivial
theorem PySem.W.Fast.tw3751885735366820030 : True := trivial
theorem PySem.W.Fast.tw12882177346589336199 : True := trivial
theorem PySem.W.Fast.tw6413338485986519762 : True := trivial
theorem PySem.W.Fast.tw13138091225419015025 : True := trivial
theorem PySem.W.Fast.tw5079098404339980790 : True := trivial
theorem PySem.W.Fast.tw9160424070948532586 : True := trivial
theorem PySem.W.Fast.tw85662977216509514 : True := trivial
theorem PySem.W.Fast.tw1712719777311561985 : True := trivial
theorem PySem.W.Fast.tw10026397285270382594 : True := trivial
theorem PySem.W.Fast.tw3684334414653507099 : True := trivial
theorem PySem.W.Fast.tw10004899134009614304 : True := trivial
theorem PySem.W.Fast.tw9621008239134046052 : True := trivial
theorem PySem.W.Fast.tw14279751058946100239 : True := trivial
theorem PySem.W.Fast.tw14924630175928755399 : True := trivial
theorem PySem.W.Fast.tw14712776584666363821 : True := trivial
theorem PySem.W.Fast.tw16342750075109179340 : True := trivial
theorem PySem.W.Fast.tw11386022392019980719 : True := trivial
theorem PySem.W.Fast.tw2475490910864899986 : True := trivial
theorem PySem.W.Fast.tw13697356337289800342 : True := trivial
theorem PySem.W.Fast.tw4157974630228275042 : True := trivial
theorem PySem.W.Fast.tw870512639188498653 : True := trivial
theorem PySem.W.Fast.tw923470735350100500 : True := trivial
theorem PySem.W.Fast.tw10672146997790562345 : True := trivial
theorem PySem.W.Fast.tw1592011422744185476 : True := trivial
theorem PySem.W.Fast.tw12319984575522137877 : True := trivial
theorem PySem.W.Fast.tw17388792144181884168 : True := trivial
theorem PySem.W.Fast.tw15845695869626515998 : True := trivial
theorem PySem.W.Fast.tw5922753942292701607 : True := trivial
theorem PySem.W.Fast.tw8671781962112459088 : True := trivial
theorem PySem.W.Fast.tw81188565128656325 : True := trivial
theorem PySem.W.Fast.tw9121952606105088561 : True := trivial
theorem PySem.W.Fast.tw7447033734946890111 : True := trivial
theorem PySem.W.Fast.tw8869668400353990702 : True := trivial
theorem PySem.W.Fast.tw4877407068668487106 : True := trivial
theorem PySem.W.Fast.tw14221789368387895326 : True := trivial
theorem PySem.W.Fast.tw11961792757676675367 : True := trivial
theorem PySem.W.Fast.tw10942347145563073332 : True := trivial
theorem PySem.W.Fast.tw7290215099028268352 : True := trivial
theorem PySem.W.Fast.tw8336688590595336525 : True := trivial
theorem PySem.W.Fast.tw11731505588849718723 : True := trivial
theorem PySem.W.Fast.tw7841333003365400081 : True := trivial
theorem PySem.W.Fast.tw6963443616288214937 : True := trivial
theorem PySem.W.Fast.tw5001044399855882046 : True := trivial
theorem PySem.W.Fast.tw9110719448645490179 : True := trivial
theorem PySem.W.Fast.tw2135768901657478165 : True := trivial
theorem PySem.W.Fast.tw14323208793091432332 : True := trivial
theorem PySem.W.Fast.tw14585212347868054415 : True := trivial
theorem PySem.W.Fast.tw17474785741869594978 : True := trivial
theorem PySem.W.Fast.tw7283110209430329198 : True := trivial
theorem PySem.W.Fast.tw7016021195525874421 : True := trivial
theorem PySem.W.Fast.tw15271736229423899243 : True := trivial
theorem PySem.W.Fast.tw10078920818747766140 : True := trivial
theorem PySem.W.Fast.tw16934288528507545662 : True := trivial
theorem PySem.W.Fast.tw8927983590367091454 : True := trivial
theorem PySem.W.Fast.tw12496438292563828729 : True := trivial
theorem PySem.W.Fast.tw6075573526177191417 : True := trivial
theorem PySem.W.Fast.tw181190242730162268 : True := trivial
theorem PySem.W.Fast.tw6351228553113758195 : True := trivial
theorem PySem.W.Fast.tw7079798815625820003 : True := trivial
theorem PySem.W.Fast.tw3997853281756872287 : True := trivial
theorem PySem.W.Fast.tw1606193458479632233 : True := trivial
theorem PySem.W.Fast.tw16996710191872467692 : True := trivial
theorem PySem.W.Fast.tw3084148694027696147 : True := trivial
theorem PySem.W.Fast.tw16542139117570366868 : True := trivial
theorem PySem.W.Fast.tw10916279909499160673 : True := trivial
theorem PySem.W.Fast.tw16246783669629738753 : True := trivial
theorem PySem.W.Fast.tw16949734946321103796 : True := trivial
theorem PySem.W.Fast.tw11767568361981952499 : True := trivial
theorem PySem.W.Fast.tw8826393300276471677 : True := trivial
theorem PySem.W.Fast.tw11211421351071510324 : True := trivial
theorem PySem.W.Fast.tw16699360363794091718 : True := trivial
theorem PySem.W.Fast.tw1720698412350840717 : True := trivial
theorem PySem.W.Fast.tw2400135955697664929 : True := trivial
theorem PySem.W.Fast.tw5996012995509228384 : True := trivial
theorem PySem.W.Fast.tw7379943986946571773 : True := trivial
theorem PySem.W.Fast.tw5937394528847633190 : True := trivial
theorem PySem.W.Fast.tw10696214108737193070 : True := trivial
theorem PySem.W.Fast.tw6298438037182620412 : True := trivial
theorem PySem.W.Fast.tw11015308287260945381 : True := trivial
theorem PySem.W.Fast.tw9620586627362149539 : True := trivial
theorem PySem.W.Fast.tw3538034890766027091 : True := trivial
theorem PySem.W.Fast.tw9046937715417900973 : True := trivial
theorem PySem.W.Fast.tw17899111575170772248 : True := trivial
theorem PySem.W.Fast.tw4214179661273619404 : True := trivial
theorem PySem.W.Fast.tw8788644863339147263 : True := trivial
theorem PySem.W.Fast.tw12567866852269374132 : True := trivial
theorem PySem.W.Fast.tw6383026848898784198 : True := trivial
theorem PySem.W.Fast.tw122386368612707061 : True := trivial
theorem PySem.W.Fast.tw6605114937885620428 : True := trivial
theorem PySem.W.Fast.tw3069863556496342641 : True := trivial
theorem PySem.W.Fast.tw1359115693397308995 : True := trivial
theorem PySem.W.Fast.tw3829851168100471096 : True := trivial
theorem PySem.W.Fast.tw453293203639575050 : True := trivial
theorem PySem.W.Fast.tw4471074439366771760 : True := trivial
theorem PySem.W.Fast.tw2775805839454985925 : True := trivial
theorem PySem.W.Fast.tw17356504695414495893 : True := trivial
theorem PySem.W.Fast.tw3676633891123574804 : True := trivial
theorem PySem.W.Fast.tw3977964527130613769 : True := trivial
theorem PySem.W.Fast.tw9810120094472557989 : True := trivial
theorem PySem.W.Fast.tw6076308726467448568 : True := trivial
theorem PySem.W.Fast.tw7136670218303458741 : True := trivial
theorem PySem.W.Fast.tw1109170919419201834 : True := trivial
theorem PySem.W.Fast.tw16202093076599538269 : True := trivial
theorem PySem.W.Fast.tw17315633029249438421 : True := trivial
theorem PySem.W.Fast.tw10357293395969835779 : True := trivial
theorem PySem.W.Fast.tw16221747010025560166 : True := trivial
theorem PySem.W.Fast.tw13565843422082832538 : True := trivial
theorem PySem.W.Fast.tw4212187347808443711 : True := trivial
theorem PySem.W.Fast.tw7864039172999303680 : True := trivial
theorem PySem.W.Fast.tw14995853811987907059 : True := trivial
theorem PySem.W.Fast.tw6885066609320481462 : True := trivial
theorem PySem.W.Fast.tw6176625761099407457 : True := trivial
theorem PySem.W.Fast.tw6718952173558098788 : True := trivial
theorem PySem.W.Fast.tw12813589470905713048 : True := trivial
theorem PySem.W.Fast.tw2815470624810698016 : True := trivial
theorem PySem.W.Fast.tw1969273142446492752 : True := trivial
theorem PySem.W.Fast.tw3655855537859798553 : True := trivial
theorem PySem.W.Fast.tw17842352830149355455 : True := trivial
theorem PySem.W.Fast.tw15652309506064997540 : True := trivial
theorem PySem.W.Fast.tw5237568500280933186 : True := trivial
theorem PySem.W.Fast.tw18200341435313728729 : True := trivial
theorem PySem.W.Fast.tw14669463502863539806 : True := trivial
theorem PySem.W.Fast.tw5305863900777059820 : True := trivial
theorem PySem.W.Fast.tw17333498485714045788 : True := trivial
theorem PySem.W.Fast.tw8485535542454057308 : True := trivial
theorem PySem.W.Fast.tw732346613225713234 : True := trivial
theorem PySem.W.Fast.tw10886584958728521647 : True := trivial
theorem PySem.W.Fast.tw16116034432661446677 : True := trivial
theorem PySem.W.Fast.tw16206087107605343495 : True := trivial
theorem PySem.W.Fast.tw16671230445637719031 : True := trivial
theorem PySem.W.Fast.tw3467051538280884637 : True := trivial
theorem PySem.W.Fast.tw2198064760336611944 : True := trivial
theorem PySem.W.Fast.tw14476637082929843821 : True := trivial
theorem PySem.W.Fast.tw2947901207341333658 : True := trivial
theorem PySem.W.Fast.tw11088419354356245007 : True := trivial
theorem PySem.W.Fast.tw10307682575712466088 : True := trivial
theorem PySem.W.Fast.tw3638079808553967231 : True := trivial
theorem PySem.W.Fast.tw17129829761985213454 : True := trivial
theorem PySem.W.Fast.tw7605222645830936428 : True := trivial
theorem PySem.W.Fast.tw16530913834014745729 : True := trivial
theorem PySem.W.Fast.tw11519966830898024810 : True := trivial
theorem PySem.W.Fast.tw13545953862179743080 : True := trivial
theorem PySem.W.Fast.tw515109537594748436 : True := trivial
theorem PySem.W.Fast.tw17528281824237075085 : True := trivial
theorem PySem.W.Fast.tw12867673973007713848 : True := trivial
theorem PySem.W.Fast.tw15672793160722043349 : True := trivial
theorem PySem.W.Fast.tw2287825906758387658 : True := trivial
theorem PySem.W.Fast.tw13701815483657967949 : True := trivial
theorem PySem.W.Fast.tw5517687798643046402 : True := trivial
theorem PySem.W.Fast.tw14418302584325147995 : True := trivial
theorem PySem.W.Fast.tw6675817172593429950 : True := trivial
theorem PySem.W.Fast.tw14956791211631762143 : True := trivial
theorem PySem.W.Fast.tw13836179779767626172 : True := trivial
theorem PySem.W.Fast.tw13563847574579073132 : True := trivial
theorem PySem.W.Fast.tw8539638823247791179 : True := trivial
theorem PySem.W.Fast.tw17207713101971145658 : True := trivial
theorem PySem.W.Fast.tw7398751028770921456 : True := trivial
theorem PySem.W.Fast.tw5883938374653748905 : True := trivial
theorem PySem.W.Fast.tw7156960741761331628 : True := trivial
theorem PySem.W.Fast.tw3893779519334585623 : True := trivial
theorem PySem.W.Fast.tw7883526022048339249 : True := trivial
theorem PySem.W.Fast.tw12142150354825514003 : True := trivial
theorem PySem.W.Fast.tw6454206378375099567 : True := trivial
theorem PySem.W.Fast.tw4571725719106238725 : True := trivial
theorem PySem.W.Fast.tw18735902615827896 : True := trivial
theorem PySem.W.Fast.tw7007183378248985408 : True := trivial
theorem PySem.W.Fast.tw12913437571598805171 : True := trivial
theorem PySem.W.Fast.tw11342012551846358120 : True := trivial
theorem PySem.W.Fast.tw7516154514342035458 : True := trivial
theorem PySem.W.Fast.tw3798027859719795799 : True := trivial
theorem PySem.W.Fast.tw5806377349378280114 : True := trivial
theorem PySem.W.Fast.tw17903765161970981847 : True := trivial
theorem PySem.W.Fast.tw12032895210308343653 : True := trivial
theorem PySem.W.Fast.tw1259697982320620323 : True := trivial
theorem PySem.W.Fast.tw1142360881390421841 : True := trivial
theorem PySem.W.Fast.tw9388023979158419430 : True := trivial
theorem PySem.W.Fast.tw16979564921700627223 : True := trivial
theorem PySem.W.Fast.tw14839777249101869706 : True := trivial
theorem PySem.W.Fast.tw14200845226615416342 : True := trivial
theorem PySem.W.Fast.tw14849567713898560226 : True := trivial
theorem PySem.W.Fast.tw6561426795169823571 : True := trivial
theorem PySem.W.Fast.tw6128167248473494444 : True := trivial
theorem PySem.W.Fast.tw4341313179992872125 : True := trivial
theorem PySem.W.Fast.tw7697060912021172043 : True := trivial
theorem PySem.W.Fast.tw2757363761336128218 : True := trivial
theorem PySem.W.Fast.tw3698645967589677054 : True := trivial
theorem PySem.W.Fast.tw10351049858540449358 : True := trivial
theorem PySem.W.Fast.tw3864184653369268507 : True := trivial
theorem PySem.W.Fast.tw15981683952444180889 : True := trivial
theorem PySem.W.Fast.tw3023780952036876947 : True := trivial
theorem PySem.W.Fast.tw14336613951883883384 : True := trivial
theorem PySem.W.Fast.tw4145919404471083597 : True := trivial
theorem PySem.W.Fast.tw7515866528215451688 : True := trivial
theorem PySem.W.Fast.tw5906404820800555009 : True := trivial
theorem PySem.W.Fast.tw14015923644469984356 : True := trivial
theorem PySem.W.Fast.tw12746303717002526353 : True := trivial
theorem PySem.W.Fast.tw17204356901055732452 : True := trivial
theorem PySem.W.Fast.tw6197877470531339712 : True := trivial
theorem PySem.W.Fast.tw232010792969017229 : True := trivial
theorem PySem.W.Fast.tw17823633603242213139 : True := trivial
theorem PySem.W.Fast.tw15086039271948844092 : True := trivial
theorem PySem.W.Fast.tw12247011102578234066 : True := trivial
theorem PySem.W.Fast.tw3144777397609448851 : True := trivial
theorem PySem.W.Fast.tw6955764062929748525 : True := trivial
theorem PySem.W.Fast.tw3415552428148367804 : True := trivial
theorem PySem.W.Fast.tw14261963114131104087 : True := trivial
theorem PySem.W.Fast.tw5254213398605848582 : True := trivial
theorem PySem.W.Fast.tw17541145314410667314 : True := trivial
theorem PySem.W.Fast.tw15907893715975916862 : True := trivial
theorem PySem.W.Fast.tw7815293001819886076 : True := trivial
theorem PySem.W.Fast.tw666229993462409008 : True := trivial
theorem PySem.W.Fast.tw17217596790841899527 : True := trivial
theorem PySem.W.Fast.tw524196852189890153 : True := trivial
theorem PySem.W.Fast.tw3739393053594115001 : True := trivial
theorem PySem.W.Fast.tw13166392924565332324 : True := trivial
theorem PySem.W.Fast.tw11849138048337477985 : True := trivial
theorem PySem.W.Fast.tw9818154175386565250 : True := trivial
theorem PySem.W.Fast.tw13739156319203051032 : True := trivial
theorem PySem.W.Fast.tw6183653882440365198 : True := trivial
theorem PySem.W.Fast.tw12043133554569747385 : True := trivial
theorem PySem.W.Fast.tw3084758851743525658 : True := trivial
theorem PySem.W.Fast.tw16812004725243898768 : True := trivial
theorem PySem.W.Fast.tw600081323195436350 : True := trivial
theorem PySem.W.Fast.tw13441525289635052139 : True := trivial
theorem PySem.W.Fast.tw12392606254970265276 : True := trivial
theorem PySem.W.Fast.tw885450992672342712 : True := trivial
theorem PySem.W.Fast.tw8700288265934645931 : True := trivial
theorem PySem.W.Fast.tw17767538639963802049 : True := trivial
theorem PySem.W.Fast.tw9246131049469765509 : True := trivial
theorem PySem.W.Fast.tw3516885587620210817 : True := trivial
theorem PySem.W.Fast.tw13011289240009168391 : True := trivial
theorem PySem.W.Fast.tw542808432527698756 : True := trivial
theorem PySem.W.Fast.tw2505118790987409274 : True := trivial
theorem PySem.W.Fast.tw16092690778036776375 : True := trivial
theorem PySem.W.Fast.tw9955207978421319119 : True := trivial
theorem PySem.W.Fast.tw15492045757492782528 : True := trivial
theorem PySem.W.Fast.tw11661132373388541497 : True := trivial
theorem PySem.W.Fast.tw9055327211653092370 : True := trivial
theorem PySem.W.Fast.tw11135814351662401556 : True := trivial
theorem PySem.W.Fast.tw11291274657587674400 : True := trivial
theorem PySem.W.Fast.tw17069034512535220044 : True := trivial
theorem PySem.W.Fast.tw12845843807045498342 : True := trivial
theorem PySem.W.Fast.tw2232397232379727616 : True := trivial
theorem PySem.W.Fast.tw12884933513827565849 : True := trivial
theorem PySem.W.Fast.tw7096140359785142203 : True := trivial
theorem PySem.W.Fast.tw10366021938214197347 : True := trivial
theorem PySem.W.Fast.tw13520000169257138983 : True := trivial
theorem PySem.W.Fast.tw6505011883274957403 : True := trivial
theorem PySem.W.Fast.tw13863325095666307565 : True := trivial
theorem PySem.W.Fast.tw9675743447585847684 : True := trivial
theorem PySem.W.Fast.tw8068106948262077025 : True := trivial
theorem PySem.W.Fast.tw14366205526489511516 : True := trivial
theorem PySem.W.Fast.tw8932016425743196734 : True := trivial
theorem PySem.W.Fast.tw2419391472164067282 : True := trivial
theorem PySem.W.Fast.tw4873470688072112364 : True := trivial
theorem PySem.W.Fast.tw385809876264390931 : True := trivial
theorem PySem.W.Fast.tw4958189166830891771 : True := trivial
theorem PySem.W.Fast.tw8031464465393788774 : True := trivial
theorem PySem.W.Fast.tw1024441536980296960 : True := trivial
theorem PySem.W.Fast.tw14389019636209382405 : True := trivial
theorem PySem.W.Fast.tw458245170058036518 : True := trivial
theorem PySem.W.Fast.tw18425973157461076461 : True := trivial
theorem PySem.W.Fast.tw6318651133361872199 : True := trivial
theorem PySem.W.Fast.tw2821753063657635895 : True := trivial
theorem PySem.W.Fast.tw926498307953852004 : True := trivial
theorem PySem.W.Fast.tw14503914854955168918 : True := trivial
theorem PySem.W.Fast.tw14721473840580523950 : True := trivial
theorem PySem.W.Fast.tw6665495688468855904 : True := trivial
theorem PySem.W.Fast.tw7591548764802364761 : True := trivial
theorem PySem.W.Fast.tw14122157081652228135 : True := trivial
theorem PySem.W.Fast.tw9673300405884678616 : True := trivial
theorem PySem.W.Fast.tw13251886416111266671 : True := trivial
theorem PySem.W.Fast.tw7899938684878886058 : True := trivial
theorem PySem.W.Fast.tw4427116170676747601 : True := trivial
theorem PySem.W.Fast.tw1701924535016055937 : True := trivial
theorem PySem.W.Fast.tw17295431146482163027 : True := trivial
theorem PySem.W.Fast.tw8300472272955192097 : True := trivial
theorem PySem.W.Fast.tw8967270507039949783 : True := trivial
theorem PySem.W.Fast.tw4636710127615370914 : True := trivial
theorem PySem.W.Fast.tw10914671138816722668 : True := trivial
theorem PySem.W.Fast.tw10313298169098443568 : True := trivial
theorem PySem.W.Fast.tw6705163654447271252 : True := trivial
theorem PySem.W.Fast.tw2393476829253296084 : True := trivial
theorem PySem.W.Fast.tw5105615467016303474 : True := trivial
theorem PySem.W.Fast.tw85450144208769523 : True := trivial
theorem PySem.W.Fast.tw10724216583346914498 : True := trivial
theorem PySem.W.Fast.tw15803553791162100080 : True := trivial
theorem PySem.W.Fast.tw10509043868341359266 : True := trivial
theorem PySem.W.Fast.tw13960824761130448468 : True := trivial
theorem PySem.W.Fast.tw489284701051916827 : True := trivial
theorem PySem.W.Fast.tw16740653813342107994 : True := trivial
theorem PySem.W.Fast.tw2319991804299338651 : True := trivial
theorem PySem.W.Fast.tw424644353846163453 : True := trivial
theorem PySem.W.Fast.tw11335883037594970053 : True := trivial
theorem PySem.W.Fast.tw16718206603492194574 : True := trivial
theorem PySem.W.Fast.tw1546712729983927232 : True := trivial
theorem PySem.W.Fast.tw4528149278830408505 : True := trivial
theorem PySem.W.Fast.tw12093538969902579956 : True := trivial
theorem PySem.W.Fast.tw15601097331649515506 : True := trivial
theorem PySem.W.Fast.tw2814647788399319721 : True := trivial
theorem PySem.W.Fast.tw4205137762224503634 : True := trivial
theorem PySem.W.Fast.tw6928819358790654407 : True := trivial
theorem PySem.W.Fast.tw7626682536544011585 : True := trivial
theorem PySem.W.Fast.tw5565366191273601057 : True := trivial
theorem PySem.W.Fast.tw18411257430748874911 : True := trivial
theorem PySem.W.Fast.tw14145703377086380780 : True := trivial
theorem PySem.W.Fast.tw2783634954156652894 : True := trivial
theorem PySem.W.Fast.tw13817363317534408270 : True := trivial
theorem PySem.W.Fast.tw1611304638327246799 : True := trivial
theorem PySem.W.Fast.tw3192327935839223907 : True := trivial
theorem PySem.W.Fast.tw11677580121272059520 : True := trivial
theorem PySem.W.Fast.tw12546831161393756009 : True := trivial
theorem PySem.W.Fast.tw9534227367836993178 : True := trivial
theorem PySem.W.Fast.tw11616307295408153847 : True := trivial
theorem PySem.W.Fast.tw12040250914136598693 : True := trivial
theorem PySem.W.Fast.tw3549225298940063431 : True := trivial
theorem PySem.W.Fast.tw2429793082909211719 : True := trivial
theorem PySem.W.Fast.tw16852120001206048205 : True := trivial
theorem PySem.W.Fast.tw1409511804360549150 : True := trivial
theorem PySem.W.Fast.tw4902115619128818792 : True := trivial
theorem PySem.W.Fast.tw17440461666108852308 : True := trivial
theorem PySem.W.Fast.tw5547273382700765032 : True := trivial
theorem PySem.W.Fast.tw501410554088675834 : True := trivial
theorem PySem.W.Fast.tw936158980345467023 : True := trivial
theorem PySem.W.Fast.tw16572595342193270152 : True := trivial
theorem PySem.W.Fast.tw12396395031173615512 : True := trivial
theorem PySem.W.Fast.tw18304184048464377414 : True := trivial
theorem PySem.W.Fast.tw5113604249861297934 : True := trivial
theorem PySem.W.Fast.tw17304281326413000032 : True := trivial
theorem PySem.W.Fast.tw3081922261877951475 : True := trivial
theorem PySem.W.Fast.tw117909716379465301 : True := trivial
theorem PySem.W.Fast.tw12596195996368409682 : True := trivial
theorem PySem.W.Fast.tw15708791211333805708 : True := trivial
theorem PySem.W.Fast.tw1052003441427093770 : True := trivial
theorem PySem.W.Fast.tw12325424456856205667 : True := trivial
theorem PySem.W.Fast.tw4880188033471807480 : True := trivial
theorem PySem.W.Fast.tw14423966991441771892 : True := trivial
theorem PySem.W.Fast.tw17029094820629950711 : True := trivial
theorem PySem.W.Fast.tw7698043970117816979 : True := trivial
theorem PySem.W.Fast.tw17918259438998812296 : True := trivial
theorem PySem.W.Fast.tw15666043249674605952 : True := trivial
theorem PySem.W.Fast.tw1921547762192809809 : True := trivial
theorem PySem.W.Fast.tw13212459401560094754 : True := trivial
theorem PySem.W.Fast.tw14261279997668414515 : True := trivial
theorem PySem.W.Fast.tw5371785358437691932 : True := trivial
theorem PySem.W.Fast.tw13305299276009288314 : True := trivial
theorem PySem.W.Fast.tw8575691126574418715 : True := trivial
theorem PySem.W.Fast.tw17460083649063984594 : True := trivial
theorem PySem.W.Fast.tw11421739470087287325 : True := trivial
theorem PySem.W.Fast.tw5551187516828324284 : True := trivial
theorem PySem.W.Fast.tw6554237842684158831 : True := trivial
theorem PySem.W.Fast.tw16576877421458044121 : True := trivial
theorem PySem.W.Fast.tw10159146444551718570 : True := trivial
theorem PySem.W.Fast.tw12542191767261771399 : True := trivial
theorem PySem.W.Fast.tw12534500092706737139 : True := trivial
theorem PySem.W.Fast.tw16764535234467042298 : True := trivial
theorem PySem.W.Fast.tw17198887726533583521 : True := trivial
theorem PySem.W.Fast.tw319896958297384915 : True := trivial
theorem PySem.W.Fast.tw4822722854145340906 : True := trivial
theorem PySem.W.Fast.tw17507055424520337803 : True := trivial
theorem PySem.W.Fast.tw16447154299090341875 : True := trivial
theorem PySem.W.Fast.tw2756080032822030296 : True := trivial
theorem PySem.W.Fast.tw9728236448728012054 : True := trivial
theorem PySem.W.Fast.tw12713723625926645496 : True := trivial
theorem PySem.W.Fast.tw17075077077938751391 : True := trivial
theorem PySem.W.Fast.tw9125007225193015545 : True := trivial
theorem PySem.W.Fast.tw4095041244828432609 : True := trivial
theorem PySem.W.Fast.tw16025962781174006986 : True := trivial
theorem PySem.W.Fast.tw3192284612380923517 : True := trivial
theorem PySem.W.Fast.tw10863442342461491040 : True := trivial
theorem PySem.W.Fast.tw14293634251996119084 : True := trivial
theorem PySem.W.Fast.tw5980260131979172538 : True := trivial
theorem PySem.W.Fast.tw12377483761271477573 : True := trivial
theorem PySem.W.Fast.tw11118112845180919160 : True := trivial
theorem PySem.W.Fast.tw6318804025515066448 : True := trivial
theorem PySem.W.Fast.tw12617665207101526848 : True := trivial
theorem PySem.W.Fast.tw2469927476939348859 : True := trivial
theorem PySem.W.Fast.tw7249004150693827621 : True := trivial
theorem PySem.W.Fast.tw8378163527660182248 : True := trivial
theorem PySem.W.Fast.tw17570966904773889658 : True := trivial
theorem PySem.W.Fast.tw1208725831207094236 : True := trivial
theorem PySem.W.Fast.tw5194529393845468574 : True := trivial
theorem PySem.W.Fast.tw8413278092017462116 : True := trivial
theorem PySem.W.Fast.tw14360330622777466295 : True := trivial
theorem PySem.W.Fast.tw13637659375050126328 : True := trivial
theorem PySem.W.Fast.tw15810922081474133289 : True := trivial
theorem PySem.W.Fast.tw10311655659324468065 : True := trivial
theorem PySem.W.Fast.tw12369007074953616810 : True := trivial
theorem PySem.W.Fast.tw12090369994645811099 : True := trivial
theorem PySem.W.Fast.tw11775313411182824444 : True := trivial
theorem PySem.W.Fast.tw7734392097202272847 : True := trivial
theorem PySem.W.Fast.tw14083624086399522706 : True := trivial
theorem PySem.W.Fast.tw5708085802109608888 : True := trivial
theorem PySem.W.Fast.tw14685453602692480310 : True := trivial
theorem PySem.W.Fast.tw9289080888636867475 : True := trivial
theorem PySem.W.Fast.tw18067152634398706416 : True := trivial
theorem PySem.W.Fast.tw18094988076786324134 : True := trivial
theorem PySem.W.Fast.tw4081014899095975048 : True := trivial
theorem PySem.W.Fast.tw9312621022491568650 : True := trivial
theorem PySem.W.Fast.tw17027742128070797212 : True := trivial
theorem PySem.W.Fast.tw1129267709520094819 : True := trivial
theorem PySem.W.Fast.tw9557244146766770561 : True := trivial
theorem PySem.W.Fast.tw12973611982673074175 : True := trivial
theorem PySem.W.Fast.tw13609086633821129400 : True := trivial
theorem PySem.W.Fast.tw6896839742754972854 : True := trivial
theorem PySem.W.Fast.tw4921390482333784352 : True := trivial
theorem PySem.W.Fast.tw17685789597085161199 : True := trivial
theorem PySem.W.Fast.tw9131277936580040271 : True := trivial
theorem PySem.W.Fast.tw7070851194627095582 : True := trivial
theorem PySem.W.Fast.tw2212371073512279090 : True := trivial
theorem PySem.W.Fast.tw6933526777067497940 : True := trivial
theorem PySem.W.Fast.tw3034997446500029691 : True := trivial
theorem PySem.W.Fast.tw14594384000064968009 : True := trivial
theorem PySem.W.Fast.tw10126643672038101291 : True := trivial
theorem PySem.W.Fast.tw3389649909945849225 : True := trivial
theorem PySem.W.Fast.tw1053344408569108363 : True := trivial
theorem PySem.W.Fast.tw18334146543707222855 : True := trivial
theorem PySem.W.Fast.tw2672493116874468732 : True := trivial
theorem PySem.W.Fast.tw3321826570641223539 : True := trivial
theorem PySem.W.Fast.tw1160225888993737844 : True := trivial
theorem PySem.W.Fast.tw2960541724214855266 : True := trivial
theorem PySem.W.Fast.tw5668259778833037182 : True := trivial
theorem PySem.W.Fast.tw7968217199484236789 : True := trivial
theorem PySem.W.Fast.tw14729573170990723023 : True := trivial
theorem PySem.W.Fast.tw14607562825625286042 : True := trivial
theorem PySem.W.Fast.tw11148323189645936920 : True := trivial
theorem PySem.W.Fast.tw4090329110106924351 : True := trivial
theorem PySem.W.Fast.tw3805438638488013996 : True := trivial
theorem PySem.W.Fast.tw8664390142700981557 : True := trivial
theorem PySem.W.Fast.tw7194624665156567876 : True := trivial
theorem PySem.W.Fast.tw11910611588004401376 : True := trivial
theorem PySem.W.Fast.tw1300994655306391920 : True := trivial
theorem PySem.W.Fast.tw17188237982860757882 : True := trivial
theorem PySem.W.Fast.tw12123770412627945296 : True := trivial
theorem PySem.W.Fast.tw11255298945700255376 : True := trivial
theorem PySem.W.Fast.tw9671171243361546878 : True := trivial
theorem PySem.W.Fast.tw14249030377172899001 : True := trivial
theorem PySem.W.Fast.tw4685494564204951380 : True := trivial
theorem PySem.W.Fast.tw14902853813249656499 : True := trivial
theorem PySem.W.Fast.tw13786519628452511807 : True := trivial
theorem PySem.W.Fast.tw1723243246109829547 : True := trivial
theorem PySem.W.Fast.tw4090891472650246512 : True := trivial
theorem PySem.W.Fast.tw7897037537447848146 : True := trivial
theorem PySem.W.Fast.tw13359283552807940758 : True := trivial
theorem PySem.W.Fast.tw9514980519915495697 : True := trivial
theorem PySem.W.Fast.tw3854150966398477848 : True := trivial
theorem PySem.W.Fast.tw1096508509449782765 : True := trivial
theorem PySem.W.Fast.tw11468616845873900574 : True := trivial
theorem PySem.W.Fast.tw3337771787766037640 : True := trivial
theorem PySem.W.Fast.tw4161016562036487449 : True := trivial
theorem PySem.W.Fast.tw5589930271283394045 : True := trivial
theorem PySem.W.Fast.tw12233528960427318839 : True := trivial
theorem PySem.W.Fast.tw16671629043888585821 : True := trivial
theorem PySem.W.Fast.tw13522664811261305624 : True := trivial
theorem PySem.W.Fast.tw9305178307222679754 : True := trivial
theorem PySem.W.Fast.tw15357385822884842765 : True := trivial
theorem PySem.W.Fast.tw8036051684659284682 : True := trivial
theorem PySem.W.Fast.tw16875126797555554976 : True := trivial
theorem PySem.W.Fast.tw7748567454560921496 : True := trivial
theorem PySem.W.Fast.tw4941509229370479446 : True := trivial
theorem PySem.W.Fast.tw17877535298785180156 : True := trivial
theorem PySem.W.Fast.tw4385711753957927726 : True := trivial
theorem PySem.W.Fast.tw4154466310667210335 : True := trivial
theorem PySem.W.Fast.tw1511296523702550496 : True := trivial
theorem PySem.W.Fast.tw15137908246278396854 : True := trivial
theorem PySem.W.Fast.tw3970478939165392709 : True := trivial
theorem PySem.W.Fast.tw1218116698890511110 : True := trivial
theorem PySem.W.Fast.tw9574919427205671929 : True := trivial
theorem PySem.W.Fast.tw4531489145333647435 : True := trivial
theorem PySem.W.Fast.tw16924596372885130049 : True := trivial
theorem PySem.W.Fast.tw3323134384244145838 : True := trivial
theorem PySem.W.Fast.tw3237633795012151982 : True := trivial
theorem PySem.W.Fast.tw10795053308840255150 : True := trivial
theorem PySem.W.Fast.tw12348259378074362986 : True := trivial
theorem PySem.W.Fast.tw14164820085600302203 : True := trivial
theorem PySem.W.Fast.tw16087987237537477028 : True := trivial
theorem PySem.W.Fast.tw6538550896225963644 : True := trivial
theorem PySem.W.Fast.tw3074392894080536805 : True := trivial
theorem PySem.W.Fast.tw1878692858940379829 : True := trivial
theorem PySem.W.Fast.tw7991758486370257724 : True := trivial
theorem PySem.W.Fast.tw5575682914291149473 : True := trivial
theorem PySem.W.Fast.tw17959725836505149142 : True := trivial
theorem PySem.W.Fast.tw15863845427406433916 : True := trivial
theorem PySem.W.Fast.tw8563883682531548323 : True := trivial
theorem PySem.W.Fast.tw4970898033062564760 : True := trivial
theorem PySem.W.Fast.tw14800294384718355839 : True := trivial
theorem PySem.W.Fast.tw13313242292150485449 : True := trivial
theorem PySem.W.Fast.tw14150117078255318562 : True := trivial
theorem PySem.W.Fast.tw7095705858624154048 : True := trivial
theorem PySem.W.Fast.tw16913128971726113945 : True := trivial
theorem PySem.W.Fast.tw2432359539189270312 : True := trivial
theorem PySem.W.Fast.tw14643486329994032506 : True := trivial
theorem PySem.W.Fast.tw5522662246219582987 : True := trivial
theorem PySem.W.Fast.tw334200482585095110 : True := trivial
theorem PySem.W.Fast.tw15064637628215382341 : True := trivial
theorem PySem.W.Fast.tw15872740436922999948 : True := trivial
theorem PySem.W.Fast.tw1370454046776372169 : True := trivial
theorem PySem.W.Fast.tw8247091436405027444 : True := trivial
theorem PySem.W.Fast.tw8978189560358992958 : True := trivial
theorem PySem.W.Fast.tw12519256410282623974 : True := trivial
theorem PySem.W.Fast.tw3556009492828722314 : True := trivial
theorem PySem.W.Fast.tw14058207039917428301 : True := trivial
theorem PySem.W.Fast.tw15546939185117296745 : True := trivial
theorem PySem.W.Fast.tw71167246054685111 : True := trivial
theorem PySem.W.Fast.tw8222215220703735528 : True := trivial
theorem PySem.W.Fast.tw3757906435146350676 : True := trivial
theorem PySem.W.Fast.tw14789229726816683610 : True := trivial
theorem PySem.W.Fast.tw8956163940831048241 : True := trivial
theorem PySem.W.Fast.tw2152642593129384537 : True := trivial
theorem PySem.W.Fast.tw4523260711082124706 : True := trivial
theorem PySem.W.Fast.tw9718013274841777765 : True := trivial
theorem PySem.W.Fast.tw15592214640460674518 : True := trivial
theorem PySem.W.Fast.tw1262376651424705926 : True := trivial
theorem PySem.W.Fast.tw12278380207793791897 : True := trivial
theorem PySem.W.Fast.tw16056093103997548229 : True := trivial
theorem PySem.W.Fast.tw11876683961533825913 : True := trivial
theorem PySem.W.Fast.tw8769975764631797772 : True := trivial
theorem PySem.W.Fast.tw8573557247912314239 : True := trivial
theorem PySem.W.Fast.tw15693605545319368802 : True := trivial
theorem PySem.W.Fast.tw1596853712216213776 : True := trivial
theorem PySem.W.Fast.tw740593006722725705 : True := trivial
theorem PySem.W.Fast.tw18112913989387818132 : True := trivial
theorem PySem.W.Fast.tw13133773462542064508 : True := trivial
theorem PySem.W.Fast.tw414167609855934881 : True := trivial
theorem PySem.W.Fast.tw15609156969182794106 : True := trivial
theorem PySem.W.Fast.tw14423288657676183278 : True := trivial
theorem PySem.W.Fast.tw9015153754855306697 : True := trivial
theorem PySem.W.Fast.tw13020346613935978214 : True := trivial
theorem PySem.W.Fast.tw15464663077210109108 : True := trivial
theorem PySem.W.Fast.tw9430661664943205706 : True := trivial
theorem PySem.W.Fast.tw13391307068480307577 : True := trivial
theorem PySem.W.Fast.tw5822641980462386679 : True := trivial
theorem PySem.W.Fast.tw3205695954216215016 : True := trivial
theorem PySem.W.Fast.tw8253670076758567113 : True := trivial
theorem PySem.W.Fast.tw8473112322651906982 : True := trivial
theorem PySem.W.Fast.tw3439282032760609298 : True := trivial
theorem PySem.W.Fast.tw10339583347400781068 : True := trivial
theorem PySem.W.Fast.tw12639979143028916649 : True := trivial
theorem PySem.W.Fast.tw4633473236840817395 : True := trivial
theorem PySem.W.Fast.tw2328837360343324272 : True := trivial
theorem PySem.W.Fast.tw671806325522489763 : True := trivial
theorem PySem.W.Fast.tw11062311606353190240 : True := trivial
theorem PySem.W.Fast.tw13809041865511200587 : True := trivial
theorem PySem.W.Fast.tw12088431101419587608 : True := trivial
theorem PySem.W.Fast.tw7008702653028314581 : True := trivial
theorem PySem.W.Fast.tw11839982492562779078 : True := trivial
theorem PySem.W.Fast.tw545522003929191196 : True := trivial
theorem PySem.W.Fast.tw8386986820774023357 : True := trivial
theorem PySem.W.Fast.tw18151268782408596874 : True := trivial
theorem PySem.W.Fast.tw16564901259647276276 : True := trivial
theorem PySem.W.Fast.tw7410579812269924531 : True := trivial
theorem PySem.W.Fast.tw15038014366021915838 : True := trivial
theorem PySem.W.Fast.tw1501547471061347028 : True := trivial
theorem PySem.W.Fast.tw17566836479732021772 : True := trivial
theorem PySem.W.Fast.tw3188053175404436409 : True := trivial
theorem PySem.W.Fast.tw2473992162482331884 : True := trivial
theorem PySem.W.Fast.tw17408121477254584087 : True := trivial
theorem PySem.W.Fast.tw2682342481802930987 : True := trivial
theorem PySem.W.Fast.tw8538039077957217758 : True := trivial
theorem PySem.W.Fast.tw13501777422683815764 : True := trivial
theorem PySem.W.Fast.tw6526525356230744281 : True := trivial
theorem PySem.W.Fast.tw8496618323159305043 : True := trivial
theorem PySem.W.Fast.tw9968485705988791999 : True := trivial
theorem PySem.W.Fast.tw9222612492973736433 : True := trivial
theorem PySem.W.Fast.tw8099604473581576225 : True := trivial
theorem PySem.W.Fast.tw1125778861919996509 : True := trivial
theorem PySem.W.Fast.tw9038530444419518814 : True := trivial
theorem PySem.W.Fast.tw9398924308470817864 : True := trivial
theorem PySem.W.Fast.tw8333598669225191432 : True := trivial
theorem PySem.W.Fast.tw12758514765183146529 : True := trivial
theorem PySem.W.Fast.tw5386859219163239887 : True := trivial
theorem PySem.W.Fast.tw3269009632060046552 : True := trivial
theorem PySem.W.Fast.tw14542532454391786054 : True := trivial
theorem PySem.W.Fast.tw14726577026696873214 : True := trivial
theorem PySem.W.Fast.tw1244380471757254315 : True := trivial
theorem PySem.W.Fast.tw14113707643498349405 : True := trivial
theorem PySem.W.Fast.tw18183628019728119329 : True := trivial
theorem PySem.W.Fast.tw18266659341136383870 : True := trivial
theorem PySem.W.Fast.tw13939821394303059327 : True := trivial
theorem PySem.W.Fast.tw10512042804818466101 : True := trivial
theorem PySem.W.Fast.tw14691061410570095760 : True := trivial
theorem PySem.W.Fast.tw17428086079451352621 : True := trivial
theorem PySem.W.Fast.tw16892663956221157760 : True := trivial
theorem PySem.W.Fast.tw10521892193694257548 : True := trivial
theorem PySem.W.Fast.tw12278152694402433460 : True := trivial
theorem PySem.W.Fast.tw9471345863442357559 : True := trivial
theorem PySem.W.Fast.tw11090371211459887367 : True := trivial
theorem PySem.W.Fast.tw1909721772424624291 : True := trivial
theorem PySem.W.Fast.tw11942271878980321481 : True := trivial
theorem PySem.W.Fast.tw3921833283134235524 : True := trivial
theorem PySem.W.Fast.tw14975800784047897978 : True := trivial
theorem PySem.W.Fast.tw10085183774836409162 : True := trivial
theorem PySem.W.Fast.tw15310871674921605669 : True := trivial
theorem PySem.W.Fast.tw6078117523789305832 : True := trivial
theorem PySem.W.Fast.tw16677638520740901534 : True := trivial
theorem PySem.W.Fast.tw10579830977097253858 : True := trivial
theorem PySem.W.Fast.tw17796896189583174396 : True := trivial
theorem PySem.W.Fast.tw1115037205665842279 : True := trivial
theorem PySem.W.Fast.tw2031848770651811841 : True := trivial
theorem PySem.W.Fast.tw545134319389443928 : True := trivial
theorem PySem.W.Fast.tw16086438464153570695 : True := trivial
theorem PySem.W.Fast.tw8132675551352989718 : True := trivial
theorem PySem.W.Fast.tw8476568859957419930 : True := trivial
theorem PySem.W.Fast.tw13343020620312446995 : True := trivial
theorem PySem.W.Fast.tw4193085922046031777 : True := trivial
theorem PySem.W.Fast.tw625995347833299748 : True := trivial
theorem PySem.W.Fast.tw7021160854837370031 : True := trivial
theorem PySem.W.Fast.tw2500356160537246105 : True := trivial
theorem PySem.W.Fast.tw16260782942786062746 : True := trivial
theorem PySem.W.Fast.tw6539886203321158246 : True := trivial
theorem PySem.W.Fast.tw17031211128845892233 : True := trivial
theorem PySem.W.Fast.tw8119492548598007238 : True := trivial
theorem PySem.W.Fast.tw230644800595684234 : True := trivial
theorem PySem.W.Fast.tw6873487428477869314 : True := trivial
theorem PySem.W.Fast.tw17365241667700873187 : True := trivial
theorem PySem.W.Fast.tw12378074994221962197 : True := trivial
theorem PySem.W.Fast.tw11060899304003832424 : True := trivial
theorem PySem.W.Fast.tw2504411662484520694 : True := trivial
theorem PySem.W.Fast.tw3190544679419909568 : True := trivial
theorem PySem.W.Fast.tw15448104884270225222 : True := trivial
theorem PySem.W.Fast.tw14369872194563772959 : True := trivial
theorem PySem.W.Fast.tw9691694875063950640 : True := trivial
theorem PySem.W.Fast.tw14087734513841069405 : True := trivial
theorem PySem.W.Fast.tw11778620979820650181 : True := trivial
theorem PySem.W.Fast.tw15277720285905662807 : True := trivial
theorem PySem.W.Fast.tw10774125089815711955 : True := trivial
theorem PySem.W.Fast.tw8177266316463909876 : True := trivial
theorem PySem.W.Fast.tw14022655762319941769 : True := trivial
theorem PySem.W.Fast.tw3426050899665658614 : True := trivial
theorem PySem.W.Fast.tw15302484467906706638 : True := trivial
theorem PySem.W.Fast.tw10203883540251716229 : True := trivial
theorem PySem.W.Fast.tw16722365142566806907 : True := trivial
theorem PySem.W.Fast.tw3140358973027648819 : True := trivial
theorem PySem.W.Fast.tw9134705754035012847 : True := trivial
theorem PySem.W.Fast.tw10928602902716413082 : True := trivial
theorem PySem.W.Fast.tw881573161353837262 : True := trivial
theorem PySem.W.Fast.tw9489138823135370594 : True := trivial
theorem PySem.W.Fast.tw11809193836263460593 : True := trivial
theorem PySem.W.Fast.tw6635339409564888071 : True := trivial
theorem PySem.W.Fast.tw6021676342773678817 : True := trivial
theorem PySem.W.Fast.tw15319299878929805285 : True := trivial
theorem PySem.W.Fast.tw14719062262833653307 : True := trivial
theorem PySem.W.Fast.tw14159933347682953147 : True := trivial
theorem PySem.W.Fast.tw10937056047505109608 : True := trivial
theorem PySem.W.Fast.tw10396808879412430561 : True := trivial
theorem PySem.W.Fast.tw7518911260485881489 : True := trivial
theorem PySem.W.Fast.tw1893118673233749812 : True := trivial
theorem PySem.W.Fast.tw9519582725530789379 : True := trivial
theorem PySem.W.Fast.tw8602417114669286211 : True := trivial
theorem PySem.W.Fast.tw13976230701980102219 : True := trivial
theorem PySem.W.Fast.tw4575310058845858428 : True := trivial
theorem PySem.W.Fast.tw16745475423773338639 : True := trivial
theorem PySem.W.Fast.tw3184537750134669758 : True := trivial
theorem PySem.W.Fast.tw7170976617559637942 : True := trivial
theorem PySem.W.Fast.tw4090003549238760133 : True := trivial
theorem PySem.W.Fast.tw16072314233873009996 : True := trivial
theorem PySem.W.Fast.tw7587663092686176326 : True := trivial
theorem PySem.W.Fast.tw12394057266541627464 : True := trivial
theorem PySem.W.Fast.tw5598139488499502925 : True := trivial
theorem PySem.W.Fast.tw16803981134813683284 : True := trivial
theorem PySem.W.Fast.tw17511495640033234429 : True := trivial
theorem PySem.W.Fast.tw5017739385743485859 : True := trivial
theorem PySem.W.Fast.tw11862102235051117572 : True := trivial
theorem PySem.W.Fast.tw8374166877181062630 : True := trivial
theorem PySem.W.Fast.tw15230819031320523262 : True := trivial
theorem PySem.W.Fast.tw4142759241736641012 : True := trivial
theorem PySem.W.Fast.tw9173931210992841424 : True := trivial
theorem PySem.W.Fast.tw11508955417331967299 : True := trivial
theorem PySem.W.Fast.tw6184953700158540388 : True := trivial
theorem PySem.W.Fast.tw16536301178621432905 : True := trivial
theorem PySem.W.Fast.tw9503759871753269118 : True := trivial
theorem PySem.W.Fast.tw9812144968678135905 : True := trivial
theorem PySem.W.Fast.tw18343511047021182816 : True := trivial
theorem PySem.W.Fast.tw14617263280678842085 : True := trivial
theorem PySem.W.Fast.tw7781927937938835687 : True := trivial
theorem PySem.W.Fast.tw2123113817725825409 : True := trivial
theorem PySem.W.Fast.tw14147369827036692590 : True := trivial
theorem PySem.W.Fast.tw12765057842637250963 : True := trivial
theorem PySem.W.Fast.tw17366565576819285523 : True := trivial
theorem PySem.W.Fast.tw8462613886979102253 : True := trivial
theorem PySem.W.Fast.tw3374863859899814648 : True := trivial
theorem PySem.W.Fast.tw7901434354462782523 : True := trivial
theorem PySem.W.Fast.tw12817308064394451926 : True := trivial
theorem PySem.W.Fast.tw12265837303312837685 : True := trivial
theorem PySem.W.Fast.tw18077121325935065675 : True := trivial
theorem PySem.W.Fast.tw11617811824614392688 : True := trivial
theorem PySem.W.Fast.tw7447888148693650307 : True := trivial
theorem PySem.W.Fast.tw767131652648205876 : True := trivial
theorem PySem.W.Fast.tw14153861633201093049 : True := trivial
theorem PySem.W.Fast.tw2548715762649780796 : True := trivial
theorem PySem.W.Fast.tw8002790912008865034 : True := trivial
theorem PySem.W.Fast.tw9433867765392363904 : True := trivial
theorem PySem.W.Fast.tw6631211613346055330 : True := trivial
theorem PySem.W.Fast.tw6299934770913448841 : True := trivial
theorem PySem.W.Fast.tw12254643698390313491 : True := trivial
theorem PySem.W.Fast.tw6702848606861011896 : True := trivial
theorem PySem.W.Fast.tw7462476290050747343 : True := trivial
theorem PySem.W.Fast.tw7808232402907056132 : True := trivial
theorem PySem.W.Fast.tw13925860268889306340 : True := trivial
theorem PySem.W.Fast.tw16030326812890532204 : True := trivial
theorem PySem.W.Fast.tw17959515368721786223 : True := trivial
theorem PySem.W.Fast.tw11125760557903662718 : True := trivial
theorem PySem.W.Fast.tw3014101669786860646 : True := trivial
theorem PySem.W.Fast.tw14621753791366702722 : True := trivial
theorem PySem.W.Fast.tw8569687937733297057 : True := trivial
theorem PySem.W.Fast.tw10603823165929029986 : True := trivial
theorem PySem.W.Fast.tw8688620055345786203 : True := trivial
theorem PySem.W.Fast.tw4412003598045763664 : True := trivial
theorem PySem.W.Fast.tw12478323169847922830 : True := trivial
theorem PySem.W.Fast.tw5509492068906778297 : True := trivial
theorem PySem.W.Fast.tw5309913425025239895 : True := trivial
theorem PySem.W.Fast.tw4853126941592809745 : True := trivial
theorem PySem.W.Fast.tw11660156456839859110 : True := trivial
theorem PySem.W.Fast.tw14420483109970820571 : True := trivial
theorem PySem.W.Fast.tw3549862383261963573 : True := trivial
theorem PySem.W.Fast.tw17753385583402089002 : True := trivial
theorem PySem.W.Fast.tw1390307348551678528 : True := trivial
theorem PySem.W.Fast.tw2972324823887982172 : True := trivial
theorem PySem.W.Fast.tw10878654995005774441 : True := trivial
theorem PySem.W.Fast.tw7682697843395618672 : True := trivial
theorem PySem.W.Fast.tw12483067191550631256 : True := trivial
theorem PySem.W.Fast.tw17276387684377737694 : True := trivial
theorem PySem.W.Fast.tw6292653452444046055 : True := trivial
theorem PySem.W.Fast.tw15808520046210460916 : True := trivial
theorem PySem.W.Fast.tw8819725632707579260 : True := trivial
theorem PySem.W.Fast.tw13334407642196127937 : True := trivial
theorem PySem.W.Fast.tw7180290114812693695 : True := trivial
theorem PySem.W.Fast.tw9866682206689697046 : True := trivial
theorem PySem.W.Fast.tw6436610605850475217 : True := trivial
theorem PySem.W.Fast.tw15499658063391847242 : True := trivial
theorem PySem.W.Fast.tw6682307293720944625 : True := trivial
theorem PySem.W.Fast.tw17871932437762339925 : True := trivial
theorem PySem.W.Fast.tw12714264436868270357 : True := trivial
theorem PySem.W.Fast.tw5839350739268947077 : True := trivial
theorem PySem.W.Fast.tw281459618034575781 : True := trivial
theorem PySem.W.Fast.tw11482311234584845348 : True := trivial
theorem PySem.W.Fast.tw81508673381134390 : True := trivial
theorem PySem.W.Fast.tw2231678312285829656 : True := trivial
theorem PySem.W.Fast.tw4665756439508023187 : True := trivial
theorem PySem.W.Fast.tw11822687006282192861 : True := trivial
theorem PySem.W.Fast.tw9682911799621059253 : True := trivial
theorem PySem.W.Fast.tw16974794275046941046 : True := trivial
theorem PySem.W.Fast.tw16479432093505173107 : True := trivial
theorem PySem.W.Fast.tw11825434760311072472 : True := trivial
theorem PySem.W.Fast.tw15326305557806639309 : True := trivial
theorem PySem.W.Fast.tw10190761347628884561 : True := trivial
theorem PySem.W.Fast.tw10574055867109914428 : True := trivial
theorem PySem.W.Fast.tw12460288618952963443 : True := trivial
theorem PySem.W.Fast.tw405511697484688498 : True := trivial
theorem PySem.W.Fast.tw9274414499664958855 : True := trivial
theorem PySem.W.Fast.tw16337022841641238865 : True := trivial
theorem PySem.W.Fast.tw17728719452724692588 : True := trivial
theorem PySem.W.Fast.tw5979382567178125246 : True := trivial
theorem PySem.W.Fast.tw15880534164337904330 : True := trivial
theorem PySem.W.Fast.tw9419753460269356460 : True := trivial
theorem PySem.W.Fast.tw11285538897372487862 : True := trivial
theorem PySem.W.Fast.tw6737850742732902532 : True := trivial
theorem PySem.W.Fast.tw9701306440644487058 : True := trivial
theorem PySem.W.Fast.tw16954415378817013583 : True := trivial
theorem PySem.W.Fast.tw6098584768174469632 : True := trivial
theorem PySem.W.Fast.tw9931957451765253413 : True := trivial
theorem PySem.W.Fast.tw4418398056953984942 : True := trivial
theorem PySem.W.Fast.tw2129238494329749125 : True := trivial
theorem PySem.W.Fast.tw15445339155732880412 : True := trivial
theorem PySem.W.Fast.tw180617637440709681 : True := trivial
theorem PySem.W.Fast.tw1429242841705598661 : True := trivial
theorem PySem.W.Fast.tw6269571309836200368 : True := trivial
theorem PySem.W.Fast.tw1002853768064541928 : True := trivial
theorem PySem.W.Fast.tw11756885392587492961 : True := trivial
theorem PySem.W.Fast.tw4769779352310066143 : True := trivial
theorem PySem.W.Fast.tw14856871362697060 : True := trivial
theorem PySem.W.Fast.tw8736448478326579416 : True := trivial
theorem PySem.W.Fast.tw2368185555194371533 : True := trivial
theorem PySem.W.Fast.tw9409713055213004202 : True := trivial
theorem PySem.W.Fast.tw3615760398632472909 : True := trivial
theorem PySem.W.Fast.tw74688635626614415 : True := trivial
theorem PySem.W.Fast.tw8922391533431882514 : True := trivial
theorem PySem.W.Fast.tw1370930007885333452 : True := trivial
theorem PySem.W.Fast.tw16854373695557374317 : True := trivial
theorem PySem.W.Fast.tw2918719923237267265 : True := trivial
theorem PySem.W.Fast.tw1671420872104141534 : True := trivial
theorem PySem.W.Fast.tw18061884842624535942 : True := trivial
theorem PySem.W.Fast.tw460452604488689781 : True := trivial
theorem PySem.W.Fast.tw17660225434462954200 : True := trivial
theorem PySem.W.Fast.tw9386304559212624533 : True := trivial
theorem PySem.W.Fast.tw13638945860669260959 : True := trivial
theorem PySem.W.Fast.tw440265264551728489 : True := trivial
theorem PySem.W.Fast.tw6041501916436509946 : True := trivial
theorem PySem.W.Fast.tw13851274137638408582 : True := trivial
theorem PySem.W.Fast.tw5584757081604401652 : True := trivial
theorem PySem.W.Fast.tw18254235642633925229 : True := trivial
theorem PySem.W.Fast.tw4697037928493978346 : True := trivial
theorem PySem.W.Fast.tw14317875228725653006 : True := trivial
theorem PySem.W.Fast.tw5169855156815858457 : True := trivial
theorem PySem.W.Fast.tw9781542429532657452 : True := trivial
theorem PySem.W.Fast.tw4096292111428915660 : True := trivial
theorem PySem.W.Fast.tw8136150171317964744 : True := trivial
theorem PySem.W.Fast.tw18271585834396504158 : True := trivial
theorem PySem.W.Fast.tw5390722418953381250 : True := trivial
theorem PySem.W.Fast.tw13506525338495138065 : True := trivial
theorem PySem.W.Fast.tw18126794827205946841 : True := trivial
theorem PySem.W.Fast.tw12322422847829803656 : True := trivial
theorem PySem.W.Fast.tw6379539456165302882 : True := trivial
theorem PySem.W.Fast.tw2118518016078984957 : True := trivial
theorem PySem.W.Fast.tw13749525404531633428 : True := trivial
theorem PySem.W.Fast.tw15787949803355381730 : True := trivial
theorem PySem.W.Fast.tw9739201377012134830 : True := trivial
theorem PySem.W.Fast.tw1660533400653895801 : True := trivial
theorem PySem.W.Fast.tw11838449496224502425 : True := trivial
theorem PySem.W.Fast.tw10320043801957457144 : True := trivial
theorem PySem.W.Fast.tw16580624236500494007 : True := trivial
theorem PySem.W.Fast.tw8692730509256606910 : True := trivial
theorem PySem.W.Fast.tw3243160744865692355 : True := trivial
theorem PySem.W.Fast.tw2998670097921863614 : True := trivial
theorem PySem.W.Fast.tw14500757119623364459 : True := trivial
theorem PySem.W.Fast.tw8345379891688207993 : True := trivial
theorem PySem.W.Fast.tw10330217903370993450 : True := trivial
theorem PySem.W.Fast.tw2898648583002459345 : True := trivial
theorem PySem.W.Fast.tw15242458195609170618 : True := trivial
theorem PySem.W.Fast.tw8922787644467252192 : True := trivial
theorem PySem.W.Fast.tw655497301469593457 : True := trivial
theorem PySem.W.Fast.tw11376867321621674583 : True := trivial
theorem PySem.W.Fast.tw14662843828273470250 : True := trivial
theorem PySem.W.Fast.tw13826397859966586586 : True := trivial
theorem PySem.W.Fast.tw8574236466183588619 : True := trivial
theorem PySem.W.Fast.tw111933724295102448 : True := trivial
theorem PySem.W.Fast.tw4072036929828452584 : True := trivial
theorem PySem.W.Fast.tw974925480880044018 : True := trivial
theorem PySem.W.Fast.tw1346022807132121259 : True := trivial
theorem PySem.W.Fast.tw15796189280081207881 : True := trivial
theorem PySem.W.Fast.tw6635668695628662174 : True := trivial
theorem PySem.W.Fast.tw13932940779275324224 : True := trivial
theorem PySem.W.Fast.tw6770181257072558293 : True := trivial
theorem PySem.W.Fast.tw15406219464287479338 : True := trivial
theorem PySem.W.Fast.tw11582374389740148475 : True := trivial
theorem PySem.W.Fast.tw1421007342306373708 : True := trivial
theorem PySem.W.Fast.tw2440338904236540887 : True := trivial
theorem PySem.W.Fast.tw9983077164944905105 : True := trivial
theorem PySem.W.Fast.tw12260627190531055988 : True := trivial
theorem PySem.W.Fast.tw13734465199886929696 : True := trivial
theorem PySem.W.Fast.tw12386984851764605852 : True := trivial
theorem PySem.W.Fast.tw16518222414574202523 : True := trivial
theorem PySem.W.Fast.tw8843378915644196886 : True := trivial
theorem PySem.W.Fast.tw5649940303939556934 : True := trivial
theorem PySem.W.Fast.tw14493727967111070307 : True := trivial
theorem PySem.W.Fast.tw3436503560432774689 : True := trivial
theorem PySem.W.Fast.tw16882637157803903232 : True := trivial
theorem PySem.W.Fast.tw7913643852621072452 : True := trivial
theorem PySem.W.Fast.tw1047758298985620523 : True := trivial
theorem PySem.W.Fast.tw17175902344458290073 : True := trivial
theorem PySem.W.Fast.tw12169149519413519873 : True := trivial
theorem PySem.W.Fast.tw6664416650783306774 : True := trivial
theorem PySem.W.Fast.tw17631966509777408970 : True := trivial
theorem PySem.W.Fast.tw1774611086054207914 : True := trivial
theorem PySem.W.Fast.tw8836648488602445781 : True := trivial
theorem PySem.W.Fast.tw9847433912152815356 : True := trivial
theorem PySem.W.Fast.tw2236054915306143335 : True := trivial
theorem PySem.W.Fast.tw13643361615246440724 : True := trivial
theorem PySem.W.Fast.tw625591430309795535 : True := trivial
theorem PySem.W.Fast.tw14653912900490511088 : True := trivial
theorem PySem.W.Fast.tw3637328219669457036 : True := trivial
theorem PySem.W.Fast.tw13981081446541294108 : True := trivial
theorem PySem.W.Fast.tw5451195177898686292 : True := trivial
theorem PySem.W.Fast.tw16668914458414846080 : True := trivial
theorem PySem.W.Fast.tw6090661463505908569 : True := trivial
theorem PySem.W.Fast.tw10930902417887795940 : True := trivial
theorem PySem.W.Fast.tw15975095945540571219 : True := trivial
theorem PySem.W.Fast.tw3899013848520746577 : True := trivial
theorem PySem.W.Fast.tw15861641491139532386 : True := trivial
theorem PySem.W.Fast.tw8149332366755834465 : True := trivial
theorem PySem.W.Fast.tw6669180512163824134 : True := trivial
theorem PySem.W.Fast.tw11535041921280375538 : True := trivial
theorem PySem.W.Fast.tw10058930167979433692 : True := trivial
theorem PySem.W.Fast.tw966695559953907545 : True := trivial
theorem PySem.W.Fast.tw5968609959296188977 : True := trivial
theorem PySem.W.Fast.tw12186342215684308376 : True := trivial
theorem PySem.W.Fast.tw9363508152256072907 : True := trivial
theorem PySem.W.Fast.tw13293644024123606902 : True := trivial
theorem PySem.W.Fast.tw186578379489208250 : True := trivial
theorem PySem.W.Fast.tw11565899933223255656 : True := trivial
theorem PySem.W.Fast.tw15987639482973658294 : True := trivial
theorem PySem.W.Fast.tw1605000450882811390 : True := trivial
theorem PySem.W.Fast.tw12107284155926145922 : True := trivial
theorem PySem.W.Fast.tw16943066267802386466 : True := trivial
theorem PySem.W.Fast.tw9777544900540664358 : True := trivial
theorem PySem.W.Fast.tw17260346908779393491 : True := trivial
theorem PySem.W.Fast.tw9777495246682197467 : True := trivial
theorem PySem.W.Fast.tw8561179742907856412 : True := trivial
theorem PySem.W.Fast.tw15623520923602590135 : True := trivial
theorem PySem.W.Fast.tw674140410387045503 : True := trivial
theorem PySem.W.Fast.tw18269698422437602052 : True := trivial
theorem PySem.W.Fast.tw17708786787342045165 : True := trivial
theorem PySem.W.Fast.tw4949546100825897077 : True := trivial
theorem PySem.W.Fast.tw11421331062705086552 : True := trivial
theorem PySem.W.Fast.tw16254572090364638271 : True := trivial
theorem PySem.W.Fast.tw9396698846477444968 : True := trivial
theorem PySem.W.Fast.tw4467256894808769778 : True := trivial
theorem PySem.W.Fast.tw3936991378575371401 : True := trivial
theorem PySem.W.Fast.tw951408716084755130 : True := trivial
theorem PySem.W.Fast.tw9817540213662873394 : True := trivial
theorem PySem.W.Fast.tw17983758567033782231 : True := trivial
theorem PySem.W.Fast.tw785171894631297320 : True := trivial
theorem PySem.W.Fast.tw6928483971818758377 : True := trivial
theorem PySem.W.Fast.tw2007993232596016319 : True := trivial
theorem PySem.W.Fast.tw6914421524144987532 : True := trivial
theorem PySem.W.Fast.tw14033699517742821047 : True := trivial
theorem PySem.W.Fast.tw14282352636522901993 : True := trivial
theorem PySem.W.Fast.tw10504827187441286677 : True := trivial
theorem PySem.W.Fast.tw10757968297934523197 : True := trivial
theorem PySem.W.Fast.tw1927535365734812001 : True := trivial
theorem PySem.W.Fast.tw10417516378043573322 : True := trivial
theorem PySem.W.Fast.tw10847412965876629028 : True := trivial
theorem PySem.W.Fast.tw17090176634605796147 : True := trivial
theorem PySem.W.Fast.tw14476414330964415851 : True := trivial
theorem PySem.W.Fast.tw9441341378842805577 : True := trivial
theorem PySem.W.Fast.tw4498771442225232177 : True := trivial
theorem PySem.W.Fast.tw925321478364558111 : True := trivial
theorem PySem.W.Fast.tw17047484354004920590 : True := trivial
theorem PySem.W.Fast.tw14819675470287739956 : True := trivial
theorem PySem.W.Fast.tw6010706095782421934 : True := trivial
theorem PySem.W.Fast.tw8489039036040050692 : True := trivial
theorem PySem.W.Fast.tw11528179991971531075 : True := trivial
theorem PySem.W.Fast.tw14136922237494392158 : True := trivial
theorem PySem.W.Fast.tw12755737780147555662 : True := trivial
theorem PySem.W.Fast.tw13874053760088169215 : True := trivial
theorem PySem.W.Fast.tw8432062502039857868 : True := trivial
theorem PySem.W.Fast.tw5918074302442910720 : True := trivial
theorem PySem.W.Fast.tw7833686447666836277 : True := trivial
theorem PySem.W.Fast.tw6046619544163231327 : True := trivial
theorem PySem.W.Fast.tw15821772882709374336 : True := trivial
theorem PySem.W.Fast.tw8547981288894190382 : True := trivial
theorem PySem.W.Fast.tw1338671940864788219 : True := trivial
theorem PySem.W.Fast.tw2302345789623958528 : True := trivial
theorem PySem.W.Fast.tw9897752877435661001 : True := trivial
theorem PySem.W.Fast.tw18007293648300429012 : True := trivial
theorem PySem.W.Fast.tw17272783626972727981 : True := trivial
theorem PySem.W.Fast.tw14607093657835920429 : True := trivial
theorem PySem.W.Fast.tw18147780235558692655 : True := trivial
theorem PySem.W.Fast.tw17994729297108402276 : True := trivial
theorem PySem.W.Fast.tw5353523680728319840 : True := trivial
theorem PySem.W.Fast.tw12169716572133100546 : True := trivial
theorem PySem.W.Fast.tw10144979983255245113 : True := trivial
theorem PySem.W.Fast.tw2947526054884629070 : True := trivial
theorem PySem.W.Fast.tw937639706297280101 : True := trivial
theorem PySem.W.Fast.tw7037268679461209595 : True := trivial
theorem PySem.W.Fast.tw750320091652401011 : True := trivial
theorem PySem.W.Fast.tw6002713537063811403 : True := trivial
theorem PySem.W.Fast.tw3438876476618578425 : True := trivial
theorem PySem.W.Fast.tw4791117026888767362 : True := trivial
theorem PySem.W.Fast.tw2487307841532630173 : True := trivial
theorem PySem.W.Fast.tw1005417967184018515 : True := trivial
theorem PySem.W.Fast.tw5182962500633127952 : True := trivial
theorem PySem.W.Fast.tw3107871368483434150 : True := trivial
theorem PySem.W.Fast.tw17581618474598965859 : True := trivial
theorem PySem.W.Fast.tw13631724264433693024 : True := trivial
theorem PySem.W.Fast.tw2979149804177579694 : True := trivial
theorem PySem.W.Fast.tw1680445980521870823 : True := trivial
theorem PySem.W.Fast.tw9386042271612552264 : True := trivial
theorem PySem.W.Fast.tw5002247271158722283 : True := trivial
theorem PySem.W.Fast.tw378956392222958274 : True := trivial
theorem PySem.W.Fast.tw17820437249940182291 : True := trivial
theorem PySem.W.Fast.tw10409063788313518048 : True := trivial
theorem PySem.W.Fast.tw13340891827106472279 : True := trivial
theorem PySem.W.Fast.tw11083418137445471533 : True := trivial
theorem PySem.W.Fast.tw16323282271830446863 : True := trivial
theorem PySem.W.Fast.tw3900210760832056922 : True := trivial
theorem PySem.W.Fast.tw15814195915892274328 : True := trivial
theorem PySem.W.Fast.tw8893175799925979516 : True := trivial
theorem PySem.W.Fast.tw3067765410460775939 : True := trivial
theorem PySem.W.Fast.tw5890079325398680505 : True := trivial
theorem PySem.W.Fast.tw13157056464746125729 : True := trivial
theorem PySem.W.Fast.tw12931443110394875967 : True := trivial
theorem PySem.W.Fast.tw6801028196586171238 : True := trivial
theorem PySem.W.Fast.tw16203760245316648197 : True := trivial
theorem PySem.W.Fast.tw10442441999167960190 : True := trivial
theorem PySem.W.Fast.tw5432971554380184013 : True := trivial
theorem PySem.W.Fast.tw3499836377064599196 : True := trivial
theorem PySem.W.Fast.tw2756959760682118344 : True := trivial
theorem PySem.W.Fast.tw5394752549207988190 : True := trivial
theorem PySem.W.Fast.tw10767172740491220903 : True := trivial
theorem PySem.W.Fast.tw3962268457543498907 : True := trivial
theorem PySem.W.Fast.tw4084951702065294732 : True := trivial
theorem PySem.W.Fast.tw8779634207327428822 : True := trivial
theorem PySem.W.Fast.tw4062910491572498295 : True := trivial
theorem PySem.W.Fast.tw5438008150731711071 : True := trivial
theorem PySem.W.Fast.tw265633219775445055 : True := trivial
theorem PySem.W.Fast.tw2094400131893613969 : True := trivial
theorem PySem.W.Fast.tw5051494523800365823 : True := trivial
theorem PySem.W.Fast.tw13306429601701775292 : True := trivial
theorem PySem.W.Fast.tw7686632096412928992 : True := trivial
theorem PySem.W.Fast.tw17759381506589347026 : True := trivial
theorem PySem.W.Fast.tw16893364750943568540 : True := trivial
theorem PySem.W.Fast.tw6929410276643579777 : True := trivial
theorem PySem.W.Fast.tw6287857679377177602 : True := trivial
theorem PySem.W.Fast.tw18190688880156674246 : True := trivial
theorem PySem.W.Fast.tw1292271405719024856 : True := trivial
theorem PySem.W.Fast.tw11998980707891075361 : True := trivial
theorem PySem.W.Fast.tw1677478150945238128 : True := trivial
theorem PySem.W.Fast.tw5193737318504439101 : True := trivial
theorem PySem.W.Fast.tw2715904411455358237 : True := trivial
theorem PySem.W.Fast.tw10683427717216060062 : True := trivial
theorem PySem.W.Fast.tw2789899888488350701 : True := trivial
theorem PySem.W.Fast.tw15855614718496782193 : True := trivial
theorem PySem.W.Fast.tw9243011653035541407 : True := trivial
theorem PySem.W.Fast.tw7004016900147134543 : True := trivial
theorem PySem.W.Fast.tw7100004504543480847 : True := trivial
theorem PySem.W.Fast.tw4957295555649689297 : True := trivial
theorem PySem.W.Fast.tw6651056564468601879 : True := trivial
theorem PySem.W.Fast.tw6342168787770012421 : True := trivial
theorem PySem.W.Fast.tw11865065445127895372 : True := trivial
theorem PySem.W.Fast.tw16271484696611242250 : True := trivial
theorem PySem.W.Fast.tw6170959326301424763 : True := trivial
theorem PySem.W.Fast.tw765937486122404888 : True := trivial
theorem PySem.W.Fast.tw179284059665707173 : True := trivial
theorem PySem.W.Fast.tw3559148000592444492 : True := trivial
theorem PySem.W.Fast.tw17995408980546316748 : True := trivial
theorem PySem.W.Fast.tw10379359413902664336 : True := trivial
theorem PySem.W.Fast.tw15592314952953059917 : True := trivial
theorem PySem.W.Fast.tw8828785886718700714 : True := trivial
theorem PySem.W.Fast.tw16571891238708142924 : True := trivial
theorem PySem.W.Fast.tw10408581356843397682 : True := trivial
theorem PySem.W.Fast.tw15391731293064480372 : True := trivial
theorem PySem.W.Fast.tw3541650178003264004 : True := trivial
theorem PySem.W.Fast.tw7263669886644307208 : True := trivial
theorem PySem.W.Fast.tw2375230028858683308 : True := trivial
theorem PySem.W.Fast.tw15569232066939235127 : True := trivial
theorem PySem.W.Fast.tw12794307059363686370 : True := trivial
theorem PySem.W.Fast.tw14725990085180803200 : True := trivial
theorem PySem.W.Fast.tw6336596115842964382 : True := trivial
theorem PySem.W.Fast.tw17884247996410749667 : True := trivial
theorem PySem.W.Fast.tw18314027415646039010 : True := trivial
theorem PySem.W.Fast.tw9477954343836758613 : True := trivial
theorem PySem.W.Fast.tw8921363245784635153 : True := trivial
theorem PySem.W.Fast.tw15456479534719938130 : True := trivial
theorem PySem.W.Fast.tw2011124523740939026 : True := trivial
theorem PySem.W.Fast.tw18108553775783644007 : True := trivial
theorem PySem.W.Fast.tw8668209067250179240 : True := trivial
theorem PySem.W.Fast.tw8850456501982480247 : True := trivial
theorem PySem.W.Fast.tw12170017416783693388 : True := trivial
theorem PySem.W.Fast.tw11090363504588020736 : True := trivial
theorem PySem.W.Fast.tw2550526536835937292 : True := trivial
theorem PySem.W.Fast.tw8739609393784451627 : True := trivial
theorem PySem.W.Fast.tw1871476800726893358 : True := trivial
theorem PySem.W.Fast.tw11790543658349286393 : True := trivial
theorem PySem.W.Fast.tw13282752280921135664 : True := trivial
theorem PySem.W.Fast.tw2597845215733368043 : True := trivial
theorem PySem.W.Fast.tw6894785830376377226 : True := trivial
theorem PySem.W.Fast.tw16271796389582207608 : True := trivial
theorem PySem.W.Fast.tw18416024421435825566 : True := trivial
theorem PySem.W.Fast.tw6224912047879087541 : True := trivial
theorem PySem.W.Fast.tw2745138033481849462 : True := trivial
theorem PySem.W.Fast.tw3251431802431754241 : True := trivial
theorem PySem.W.Fast.tw5121191997232227546 : True := trivial
theorem PySem.W.Fast.tw16173005454510612134 : True := trivial
theorem PySem.W.Fast.tw14785959137311454527 : True := trivial
theorem PySem.W.Fast.tw14320694841802321107 : True := trivial
theorem PySem.W.Fast.tw12181094888068095101 : True := trivial
theorem PySem.W.Fast.tw7676181269688717702 : True := trivial
theorem PySem.W.Fast.tw13961783161932472198 : True := trivial
theorem PySem.W.Fast.tw5235316443625622495 : True := trivial
theorem PySem.W.Fast.tw1625310081664916263 : True := trivial
theorem PySem.W.Fast.tw10683092695315090942 : True := trivial
theorem PySem.W.Fast.tw1881095045558524723 : True := trivial
theorem PySem.W.Fast.tw13835661492027438323 : True := trivial
theorem PySem.W.Fast.tw17055769855964993340 : True := trivial
theorem PySem.W.Fast.tw2801940398465360928 : True := trivial
theorem PySem.W.Fast.tw2640827322096043629 : True := trivial
theorem PySem.W.Fast.tw2071580932091476868 : True := trivial
theorem PySem.W.Fast.tw12510113866185024556 : True := trivial
theorem PySem.W.Fast.tw1609580342882611521 : True := trivial
theorem PySem.W.Fast.tw9766800590245121184 : True := trivial
theorem PySem.W.Fast.tw13364097361270281345 : True := trivial
theorem PySem.W.Fast.tw14016676451788609281 : True := trivial
theorem PySem.W.Fast.tw4996096019972393784 : True := trivial
theorem PySem.W.Fast.tw10840514080421601271 : True := trivial
theorem PySem.W.Fast.tw11227073888737154102 : True := trivial
theorem PySem.W.Fast.tw6424352487367600491 : True := trivial
theorem PySem.W.Fast.tw6463373202032691969 : True := trivial
theorem PySem.W.Fast.tw691967364842500494 : True := trivial
theorem PySem.W.Fast.tw4192195180838663568 : True := trivial
theorem PySem.W.Fast.tw2754290126942497860 : True := trivial
theorem PySem.W.Fast.tw13882295847946987262 : True := trivial
theorem PySem.W.Fast.tw17390423977656290449 : True := trivial
theorem PySem.W.Fast.tw12954496095860814005 : True := trivial
theorem PySem.W.Fast.tw1630721288913198609 : True := trivial
theorem PySem.W.Fast.tw1514255974147388120 : True := trivial
theorem PySem.W.Fast.tw16136807246993223183 : True := trivial
theorem PySem.W.Fast.tw15281316215062857496 : True := trivial
theorem PySem.W.Fast.tw16225635819400459419 : True := trivial
theorem PySem.W.Fast.tw13336524171257952986 : True := trivial
theorem PySem.W.Fast.tw15880018666841711503 : True := trivial
theorem PySem.W.Fast.tw239668134353337125 : True := trivial
theorem PySem.W.Fast.tw15274735014775331053 : True := trivial
theorem PySem.W.Fast.tw4010172744747019169 : True := trivial
theorem PySem.W.Fast.tw7139385610021984168 : True := trivial
theorem PySem.W.Fast.tw5608998102095130275 : True := trivial
theorem PySem.W.Fast.tw7392089670246865 : True := trivial
theorem PySem.W.Fast.tw11942373275983089125 : True := trivial
theorem PySem.W.Fast.tw14090370925565610432 : True := trivial
theorem PySem.W.Fast.tw3564277109005667864 : True := trivial
theorem PySem.W.Fast.tw4522097805972059422 : True := trivial
theorem PySem.W.Fast.tw12751671486775533374 : True := trivial
theorem PySem.W.Fast.tw4298770563658102232 : True := trivial
theorem PySem.W.Fast.tw4240534443535095915 : True := trivial
theorem PySem.W.Fast.tw11151387478410728149 : True := trivial
theorem PySem.W.Fast.tw11623824340331390213 : True := trivial
theorem PySem.W.Fast.tw14585988091192186794 : True := trivial
theorem PySem.W.Fast.tw14872587480451297277 : True := trivial
theorem PySem.W.Fast.tw11585930239074108335 : True := trivial
theorem PySem.W.Fast.tw13047859455498366226 : True := trivial
theorem PySem.W.Fast.tw12836323242803500722 : True := trivial
theorem PySem.W.Fast.tw14601128850474379233 : True := trivial
theorem PySem.W.Fast.tw4329079334920734679 : True := trivial
theorem PySem.W.Fast.tw14936793714325143569 : True := trivial
theorem PySem.W.Fast.tw8818940341538846253 : True := trivial
theorem PySem.W.Fast.tw13102309553106262287 : True := trivial
theorem PySem.W.Fast.tw12673532441227448604 : True := trivial
theorem PySem.W.Fast.tw2596639322284418548 : True := trivial
theorem PySem.W.Fast.tw11634809642778529220 : True := trivial
theorem PySem.W.Fast.tw14722925873462095157 : True := trivial
theorem PySem.W.Fast.tw16733220019874567064 : True := trivial
theorem PySem.W.Fast.tw3374909568262698148 : True := trivial
theorem PySem.W.Fast.tw15949804989997867045 : True := trivial
theorem PySem.W.Fast.tw16844873722306719724 : True := trivial
theorem PySem.W.Fast.tw7662910926690446151 : True := trivial
theorem PySem.W.Fast.tw10726327061540310162 : True := trivial
theorem PySem.W.Fast.tw17950152605072878863 : True := trivial
theorem PySem.W.Fast.tw12585604593265299654 : True := trivial
theorem PySem.W.Fast.tw1690293583263320087 : True := trivial
theorem PySem.W.Fast.tw846703360735731665 : True := trivial
theorem PySem.W.Fast.tw2803785989432177200 : True := trivial
theorem PySem.W.Fast.tw7563455549400608389 : True := trivial
theorem PySem.W.Fast.tw9671478749233714679 : True := trivial
theorem PySem.W.Fast.tw15513827073075284820 : True := trivial
theorem PySem.W.Fast.tw15510369099871354245 : True := trivial
theorem PySem.W.Fast.tw16646557012457328858 : True := trivial
theorem PySem.W.Fast.tw18022167070889605294 : True := trivial
theorem PySem.W.Fast.tw9912917951588726980 : True := trivial
theorem PySem.W.Fast.tw6977021705678873373 : True := trivial
theorem PySem.W.Fast.tw2977929926450861582 : True := trivial
theorem PySem.W.Fast.tw9637890315229161591 : True := trivial
theorem PySem.W.Fast.tw15430284618383158853 : True := trivial
theorem PySem.W.Fast.tw5301165562490674710 : True := trivial
theorem PySem.W.Fast.tw16030818251694831408 : True := trivial
theorem PySem.W.Fast.tw7814618469048086185 : True := trivial
theorem PySem.W.Fast.tw8074101945166850002 : True := trivial
theorem PySem.W.Fast.tw12443685627313237471 : True := trivial
theorem PySem.W.Fast.tw13717749468782829214 : True := trivial
theorem PySem.W.Fast.tw1311811193503622747 : True := trivial
theorem PySem.W.Fast.tw13153565928807160343 : True := trivial
theorem PySem.W.Fast.tw12916794272394540377 : True := trivial
theorem PySem.W.Fast.tw8753642427482901988 : True := trivial
theorem PySem.W.Fast.tw4136491533517023552 : True := trivial
theorem PySem.W.Fast.tw11968012881415477142 : True := trivial
theorem PySem.W.Fast.tw2400692242539230076 : True := trivial
theorem PySem.W.Fast.tw6956426969075491558 : True := trivial
theorem PySem.W.Fast.tw10526365842165941875 : True := trivial
theorem PySem.W.Fast.tw11931802500734715157 : True := trivial
theorem PySem.W.Fast.tw8332300487083568031 : True := trivial
theorem PySem.W.Fast.tw8503137711644535987 : True := trivial
theorem PySem.W.Fast.tw4861941972334050206 : True := trivial
theorem PySem.W.Fast.tw509058293581358925 : True := trivial
theorem PySem.W.Fast.tw10053207622255974228 : True := trivial
theorem PySem.W.Fast.tw17854613130377876245 : True := trivial
theorem PySem.W.Fast.tw6719153978388628560 : True := trivial
theorem PySem.W.Fast.tw18418411656346969203 : True := trivial
theorem PySem.W.Fast.tw5244540903809751463 : True := trivial
theorem PySem.W.Fast.tw2207829929123736435 : True := trivial
theorem PySem.W.Fast.tw8322102966894131023 : True := trivial
theorem PySem.W.Fast.tw6346184192304665982 : True := trivial
theorem PySem.W.Fast.tw4424890654978711174 : True := trivial
theorem PySem.W.Fast.tw7648182834840842305 : True := trivial
theorem PySem.W.Fast.tw16795460591952900263 : True := trivial
theorem PySem.W.Fast.tw13228464798040306503 : True := trivial
theorem PySem.W.Fast.tw4568730307666884097 : True := trivial
theorem PySem.W.Fast.tw1841511703230362089 : True := trivial
theorem PySem.W.Fast.tw17496275068130614666 : True := trivial
theorem PySem.W.Fast.tw2614632116450134134 : True := trivial
theorem PySem.W.Fast.tw17464967552518952653 : True := trivial
theorem PySem.W.Fast.tw5025938967211851529 : True := trivial
theorem PySem.W.Fast.tw17340113092512000774 : True := trivial
theorem PySem.W.Fast.tw9444947695357061026 : True := trivial
theorem PySem.W.Fast.tw6569645061731514451 : True := trivial
theorem PySem.W.Fast.tw17820304229919237214 : True := trivial
theorem PySem.W.Fast.tw16705980022979855298 : True := trivial
theorem PySem.W.Fast.tw14213257476462085027 : True := trivial
theorem PySem.W.Fast.tw7045101153951188830 : True := trivial
theorem PySem.W.Fast.tw11100394273052562468 : True := trivial
theorem PySem.W.Fast.tw2272848586511520455 : True := trivial
theorem PySem.W.Fast.tw3409967582250811441 : True := trivial
theorem PySem.W.Fast.tw6952866270338931112 : True := trivial
theorem PySem.W.Fast.tw3190172960893869208 : True := trivial
theorem PySem.W.Fast.tw7726540167187537875 : True := trivial
theorem PySem.W.Fast.tw11004304153143758317 : True := trivial
theorem PySem.W.Fast.tw9174293986826086759 : True := trivial
theorem PySem.W.Fast.tw12291175026047283113 : True := trivial
theorem PySem.W.Fast.tw15911765946351822285 : True := trivial
theorem PySem.W.Fast.tw5621060369156373952 : True := trivial
theorem PySem.W.Fast.tw8926843836223278059 : True := trivial
theorem PySem.W.Fast.tw11840396262214533555 : True := trivial
theorem PySem.W.Fast.tw8032618732186077436 : True := trivial
theorem PySem.W.Fast.tw8462308608809421086 : True := trivial
theorem PySem.W.Fast.tw17617278775802533405 : True := trivial
theorem PySem.W.Fast.tw11295968070897514632 : True := trivial
theorem PySem.W.Fast.tw7281770090557423958 : True := trivial
theorem PySem.W.Fast.tw9282846617323788013 : True := trivial
theorem PySem.W.Fast.tw9784912467819457392 : True := trivial
theorem PySem.W.Fast.tw18172077536465375569 : True := trivial
theorem PySem.W.Fast.tw4931874829928467618 : True := trivial
theorem PySem.W.Fast.tw17810740064844116808 : True := trivial
theorem PySem.W.Fast.tw1202784237236377521 : True := trivial
theorem PySem.W.Fast.tw6883418207312469108 : True := trivial
theorem PySem.W.Fast.tw12355255404596162868 : True := trivial
theorem PySem.W.Fast.tw16155819187696006667 : True := trivial
theorem PySem.W.Fast.tw17456973535280408357 : True := trivial
theorem PySem.W.Fast.tw7498292921002502989 : True := trivial
theorem PySem.W.Fast.tw12916549588739474038 : True := trivial
theorem PySem.W.Fast.tw7953673653484709483 : True := trivial
theorem PySem.W.Fast.tw6659300005745210330 : True := trivial
theorem PySem.W.Fast.tw4967844198351251796 : True := trivial
theorem PySem.W.Fast.tw4046574263533717063 : True := trivial
theorem PySem.W.Fast.tw10180991264263084651 : True := trivial
theorem PySem.W.Fast.tw7891979808103395736 : True := trivial
theorem PySem.W.Fast.tw14597433858212398120 : True := trivial
theorem PySem.W.Fast.tw5634752138423858571 : True := trivial
theorem PySem.W.Fast.tw10788759548817149026 : True := trivial
theorem PySem.W.Fast.tw13536120057545238985 : True := trivial
theorem PySem.W.Fast.tw7138517530366035131 : True := trivial
theorem PySem.W.Fast.tw14278854690889045764 : True := trivial
theorem PySem.W.Fast.tw9937402215498780683 : True := trivial
theorem PySem.W.Fast.tw4107495156474327528 : True := trivial
theorem PySem.W.Fast.tw17031118302193397613 : True := trivial
theorem PySem.W.Fast.tw11591443951130453985 : True := trivial
theorem PySem.W.Fast.tw2653822082464887457 : True := trivial
theorem PySem.W.Fast.tw12804671997565080601 : True := trivial
theorem PySem.W.Fast.tw9328832753144120098 : True := trivial
theorem PySem.W.Fast.tw3174352791875463807 : True := trivial
theorem PySem.W.Fast.tw12977723079905093051 : True := trivial
theorem PySem.W.Fast.tw16921690592241189901 : True := trivial
theorem PySem.W.Fast.tw8900477741229960505 : True := trivial
theorem PySem.W.Fast.tw713608550052422032 : True := trivial
theorem PySem.W.Fast.tw5266622128485746240 : True := trivial
theorem PySem.W.Fast.tw14163342231277616702 : True := trivial
theorem PySem.W.Fast.tw9797457627907738141 : True := trivial
theorem PySem.W.Fast.tw10543966541371648201 : True := trivial
theorem PySem.W.Fast.tw4575606548983692450 : True := trivial
theorem PySem.W.Fast.tw10401559167022307292 : True := trivial
theorem PySem.W.Fast.tw1414969359567637847 : True := trivial
theorem PySem.W.Fast.tw14535385965390950670 : True := trivial
theorem PySem.W.Fast.tw11307148029906261194 : True := trivial
theorem PySem.W.Fast.tw18253433870926776415 : True := trivial
theorem PySem.W.Fast.tw11916613515490109294 : True := trivial
theorem PySem.W.Fast.tw16165090099569987894 : True := trivial
theorem PySem.W.Fast.tw15307093410405388376 : True := trivial
theorem PySem.W.Fast.tw13734668056749116925 : True := trivial
theorem PySem.W.Fast.tw4873102436374042143 : True := trivial
theorem PySem.W.Fast.tw6490667005455300541 : True := trivial
theorem PySem.W.Fast.tw18292156805393119129 : True := trivial
theorem PySem.W.Fast.tw7105691659936429742 : True := trivial
theorem PySem.W.Fast.tw6278329589408724834 : True := trivial
theorem PySem.W.Fast.tw4166990038711358976 : True := trivial
theorem PySem.W.Fast.tw7465918345194847854 : True := trivial
theorem PySem.W.Fast.tw5454590491423940654 : True := trivial
theorem PySem.W.Fast.tw6554630194276553771 : True := trivial
theorem PySem.W.Fast.tw14587677455506795941 : True := trivial
theorem PySem.W.Fast.tw6006070227810827613 : True := trivial
theorem PySem.W.Fast.tw2594822586156927538 : True := trivial
theorem PySem.W.Fast.tw7001678578605699030 : True := trivial
theorem PySem.W.Fast.tw12539150912501603694 : True := trivial
theorem PySem.W.Fast.tw15105488509218272551 : True := trivial
theorem PySem.W.Fast.tw4459551054885239679 : True := trivial
theorem PySem.W.Fast.tw3422498896805951371 : True := trivial
theorem PySem.W.Fast.tw7024302071181431875 : True := trivial
theorem PySem.W.Fast.tw4511736788388629484 : True := trivial
theorem PySem.W.Fast.tw1613959856896612506 : True := trivial
theorem PySem.W.Fast.tw8048078432621179682 : True := trivial
theorem PySem.W.Fast.tw15060630287327175895 : True := trivial
theorem PySem.W.Fast.tw16265490924683639980 : True := trivial
theorem PySem.W.Fast.tw1518884620654756199 : True := trivial
theorem PySem.W.Fast.tw3441241674985083484 : True := trivial
theorem PySem.W.Fast.tw10150170174794855917 : True := trivial
theorem PySem.W.Fast.tw16262983196178260051 : True := trivial
theorem PySem.W.Fast.tw17184489564773529087 : True := trivial
theorem PySem.W.Fast.tw1484176246135440724 : True := trivial
theorem PySem.W.Fast.tw11359497254034680258 : True := trivial
theorem PySem.W.Fast.tw13337259307012559792 : True := trivial
theorem PySem.W.Fast.tw5542110537624365667 : True := trivial
theorem PySem.W.Fast.tw14448447898641385274 : True := trivial
theorem PySem.W.Fast.tw15485826327798531847 : True := trivial
theorem PySem.W.Fast.tw17877232388065782470 : True := trivial
theorem PySem.W.Fast.tw10194209569821812209 : True := trivial
theorem PySem.W.Fast.tw7340090259312950421 : True := trivial
theorem PySem.W.Fast.tw17458674936884535044 : True := trivial
theorem PySem.W.Fast.tw6267851348174934346 : True := trivial
theorem PySem.W.Fast.tw9074301368375439496 : True := trivial
theorem PySem.W.Fast.tw8388962774197955707 : True := trivial
theorem PySem.W.Fast.tw4856509793884390502 : True := trivial
theorem PySem.W.Fast.tw1431448726458879731 : True := trivial
theorem PySem.W.Fast.tw11111024063090391275 : True := trivial
theorem PySem.W.Fast.tw3416247328063251165 : True := trivial
theorem PySem.W.Fast.tw162811099017775740 : True := trivial
theorem PySem.W.Fast.tw5324176033383533700 : True := trivial
theorem PySem.W.Fast.tw2825419435740660686 : True := trivial
theorem PySem.W.Fast.tw5587089593060000861 : True := trivial
theorem PySem.W.Fast.tw3803108857613564594 : True := trivial
theorem PySem.W.Fast.tw8059672152163297367 : True := trivial
theorem PySem.W.Fast.tw11637514081541168898 : True := trivial
theorem PySem.W.Fast.tw18348310997737001148 : True := trivial
theorem PySem.W.Fast.tw4677327641028524699 : True := trivial
theorem PySem.W.Fast.tw3310944917324500946 : True := trivial
theorem PySem.W.Fast.tw3099981473312569231 : True := trivial
theorem PySem.W.Fast.tw911620311390454884 : True := trivial
theorem PySem.W.Fast.tw615946533173759093 : True := trivial
theorem PySem.W.Fast.tw15532794691203158407 : True := trivial
theorem PySem.W.Fast.tw11889192804460082969 : True := trivial
theorem PySem.W.Fast.tw12796636758100655342 : True := trivial
theorem PySem.W.Fast.tw10736876486498826552 : True := trivial
theorem PySem.W.Fast.tw17932030156543050631 : True := trivial
theorem PySem.W.Fast.tw3988590538052635768 : True := trivial
theorem PySem.W.Fast.tw13878540687622436298 : True := trivial
theorem PySem.W.Fast.tw5678276047902376011 : True := trivial
theorem PySem.W.Fast.tw17391921591911769842 : True := trivial
theorem PySem.W.Fast.tw9829999643082778480 : True := trivial
theorem PySem.W.Fast.tw7897663986928119342 : True := trivial
theorem PySem.W.Fast.tw12095401885621069750 : True := trivial
theorem PySem.W.Fast.tw14159204028212864174 : True := trivial
theorem PySem.W.Fast.tw2620627116427217784 : True := trivial
theorem PySem.W.Fast.tw11944168837307212654 : True := trivial
theorem PySem.W.Fast.tw8995692909612406474 : True := trivial
theorem PySem.W.Fast.tw17289244160155517431 : True := trivial
theorem PySem.W.Fast.tw17669886485962572070 : True := trivial
theorem PySem.W.Fast.tw15566586789633523272 : True := trivial
theorem PySem.W.Fast.tw7299246687162095087 : True := trivial
theorem PySem.W.Fast.tw12992709586060177620 : True := trivial
theorem PySem.W.Fast.tw15279160311393606425 : True := trivial
theorem PySem.W.Fast.tw18283043273131580582 : True := trivial
theorem PySem.W.Fast.tw6371154914959488245 : True := trivial
theorem PySem.W.Fast.tw4285023584341030380 : True := trivial
theorem PySem.W.Fast.tw10841997939940782851 : True := trivial
theorem PySem.W.Fast.tw14173007203302992474 : True := trivial
theorem PySem.W.Fast.tw8937021951904649135 : True := trivial
theorem PySem.W.Fast.tw1083745600894638250 : True := trivial
theorem PySem.W.Fast.tw15286543954986520306 : True := trivial
theorem PySem.W.Fast.tw6822423407723306950 : True := trivial
theorem PySem.W.Fast.tw16974008205881200766 : True := trivial
theorem PySem.W.Fast.tw53173178604549647 : True := trivial
theorem PySem.W.Fast.tw11681911954049650568 : True := trivial
theorem PySem.W.Fast.tw102466985725357675 : True := trivial
theorem PySem.W.Fast.tw2407537508289139777 : True := trivial
theorem PySem.W.Fast.tw14100025053424127214 : True := trivial
theorem PySem.W.Fast.tw3819436656946402689 : True := trivial
theorem PySem.W.Fast.tw14940881557583643950 : True := trivial
theorem PySem.W.Fast.tw13217357518623073753 : True := trivial
theorem PySem.W.Fast.tw15352038442934675277 : True := trivial
theorem PySem.W.Fast.tw3516490503812080326 : True := trivial
theorem PySem.W.Fast.tw3639411974788735829 : True := trivial
theorem PySem.W.Fast.tw1769609666552242547 : True := trivial
theorem PySem.W.Fast.tw12914790965718617755 : True := trivial
theorem PySem.W.Fast.tw5896511503858914981 : True := trivial
theorem PySem.W.Fast.tw8185199928516824439 : True := trivial
theorem PySem.W.Fast.tw2242615677334778691 : True := trivial
theorem PySem.W.Fast.tw12722404848994850098 : True := trivial
theorem PySem.W.Fast.tw12811349896953498151 : True := trivial
theorem PySem.W.Fast.tw2384776830092199841 : True := trivial
theorem PySem.W.Fast.tw6985222503919756958 : True := trivial
theorem PySem.W.Fast.tw7737141783458384019 : True := trivial
theorem PySem.W.Fast.tw6741300068238707414 : True := trivial
theorem PySem.W.Fast.tw2724665538940030975 : True := trivial
theorem PySem.W.Fast.tw8385461942457106620 : True := trivial
theorem PySem.W.Fast.tw12733449486256053544 : True := trivial
theorem PySem.W.Fast.tw17967721305135709929 : True := trivial
theorem PySem.W.Fast.tw4854147369998428047 : True := trivial
theorem PySem.W.Fast.tw15990649475737683829 : True := trivial
theorem PySem.W.Fast.tw9653277075445243196 : True := trivial
theorem PySem.W.Fast.tw8539812369608307435 : True := trivial
theorem PySem.W.Fast.tw17968224348800096878 : True := trivial
theorem PySem.W.Fast.tw2625017555425105147 : True := trivial
theorem PySem.W.Fast.tw628548448989226700 : True := trivial
theorem PySem.W.Fast.tw746664185536559506 : True := trivial
theorem PySem.W.Fast.tw13731185998467962111 : True := trivial
theorem PySem.W.Fast.tw6679551787605463646 : True := trivial
theorem PySem.W.Fast.tw127202578197317159 : True := trivial
theorem PySem.W.Fast.tw720829791623360846 : True := trivial
theorem PySem.W.Fast.tw11926195800434767296 : True := trivial
theorem PySem.W.Fast.tw7082393247771134711 : True := trivial
theorem PySem.W.Fast.tw2247334892797838210 : True := trivial
theorem PySem.W.Fast.tw16347119247604549568 : True := trivial
theorem PySem.W.Fast.tw14552159398420992003 : True := trivial
theorem PySem.W.Fast.tw14797887636231950398 : True := trivial
theorem PySem.W.Fast.tw287166924850184534 : True := trivial
theorem PySem.W.Fast.tw17163356929745465853 : True := trivial
theorem PySem.W.Fast.tw101836995169058908 : True := trivial
theorem PySem.W.Fast.tw13889846923551138013 : True := trivial
theorem PySem.W.Fast.tw16318811950972160699 : True := trivial
theorem PySem.W.Fast.tw8239208829333255913 : True := trivial
theorem PySem.W.Fast.tw17360514655241628431 : True := trivial
theorem PySem.W.Fast.tw1593661083829332206 : True := trivial
theorem PySem.W.Fast.tw11330746287046941757 : True := trivial
theorem PySem.W.Fast.tw15983937079577287774 : True := trivial
theorem PySem.W.Fast.tw7348256383768029929 : True := trivial
theorem PySem.W.Fast.tw12265142148939875752 : True := trivial
theorem PySem.W.Fast.tw13343813708541961785 : True := trivial
theorem PySem.W.Fast.tw13892482768975665382 : True := trivial
theorem PySem.W.Fast.tw17656232203442159291 : True := trivial
theorem PySem.W.Fast.tw4550999126914097604 : True := trivial
theorem PySem.W.Fast.tw12475443288700141807 : True := trivial
theorem PySem.W.Fast.tw13937157223082546433 : True := trivial
theorem PySem.W.Fast.tw6355730161290730725 : True := trivial
theorem PySem.W.Fast.tw8503677104987490803 : True := trivial
theorem PySem.W.Fast.tw9091671372595627769 : True := trivial
theorem PySem.W.Fast.tw13751631813943434446 : True := trivial
theorem PySem.W.Fast.tw8204187033785578026 : True := trivial
theorem PySem.W.Fast.tw8444321318675048225 : True := trivial
theorem PySem.W.Fast.tw13677164452144753559 : True := trivial
theorem PySem.W.Fast.tw5971067948031150763 : True := trivial
theorem PySem.W.Fast.tw16212115160426764391 : True := trivial
theorem PySem.W.Fast.tw7889767527719128023 : True := trivial
theorem PySem.W.Fast.tw5904113771868541174 : True := trivial
theorem PySem.W.Fast.tw14968886447787432336 : True := trivial
theorem PySem.W.Fast.tw4837571551857294541 : True := trivial
theorem PySem.W.Fast.tw211973569094451924 : True := trivial
theorem PySem.W.Fast.tw11923878134762715084 : True := trivial
theorem PySem.W.Fast.tw13949273501462489743 : True := trivial
theorem PySem.W.Fast.tw14895829907547365652 : True := trivial
theorem PySem.W.Fast.tw4295842313201578245 : True := trivial
theorem PySem.W.Fast.tw3633297126555447423 : True := trivial
theorem PySem.W.Fast.tw16348682993354991183 : True := trivial
theorem PySem.W.Fast.tw6307440537754492829 : True := trivial
theorem PySem.W.Fast.tw5395814795267134772 : True := trivial
theorem PySem.W.Fast.tw36625237986338994 : True := trivial
theorem PySem.W.Fast.tw15135417077775914238 : True := trivial
theorem PySem.W.Fast.tw1487343377015269102 : True := trivial
theorem PySem.W.Fast.tw3102067418559466421 : True := trivial
theorem PySem.W.Fast.tw2332629727303470703 : True := trivial
theorem PySem.W.Fast.tw13700811356417948958 : True := trivial
theorem PySem.W.Fast.tw12296927104426098797 : True := trivial
theorem PySem.W.Fast.tw2512548773304181403 : True := trivial
theorem PySem.W.Fast.tw10764947970167446275 : True := trivial
theorem PySem.W.Fast.tw6016131365522004001 : True := trivial
theorem PySem.W.Fast.tw17584852345666180799 : True := trivial
theorem PySem.W.Fast.tw2289570750150357938 : True := trivial
theorem PySem.W.Fast.tw16616360518192025851 : True := trivial
theorem PySem.W.Fast.tw11801000658445948108 : True := trivial
theorem PySem.W.Fast.tw12737235774711239683 : True := trivial
theorem PySem.W.Fast.tw15917220524345395845 : True := trivial
theorem PySem.W.Fast.tw6282332739309776368 : True := trivial
theorem PySem.W.Fast.tw14316905305949049976 : True := trivial
theorem PySem.W.Fast.tw9054516703287921598 : True := trivial
theorem PySem.W.Fast.tw11448895808395927569 : True := trivial
theorem PySem.W.Fast.tw7190528572206412967 : True := trivial
theorem PySem.W.Fast.tw11954706088546274295 : True := trivial
theorem PySem.W.Fast.tw4323829739219207610 : True := trivial
theorem PySem.W.Fast.tw10726849304791406354 : True := trivial
theorem PySem.W.Fast.tw9977035149729464696 : True := trivial
theorem PySem.W.Fast.tw14128755601535315043 : True := trivial
theorem PySem.W.Fast.tw7320827748825445561 : True := trivial
theorem PySem.W.Fast.tw14224256529323479909 : True := trivial
theorem PySem.W.Fast.tw1879732772211556988 : True := trivial
theorem PySem.W.Fast.tw10367033315181950122 : True := trivial
theorem PySem.W.Fast.tw12335358769101460104 : True := trivial
theorem PySem.W.Fast.tw8031585258854650859 : True := trivial
theorem PySem.W.Fast.tw4942875493556601318 : True := trivial
theorem PySem.W.Fast.tw1090705999221806050 : True := trivial
theorem PySem.W.Fast.tw3129036675985897326 : True := trivial
theorem PySem.W.Fast.tw7204578193062337440 : True := trivial
theorem PySem.W.Fast.tw9052889616311482504 : True := trivial
theorem PySem.W.Fast.tw6926773751725372542 : True := trivial
theorem PySem.W.Fast.tw14465727521010215302 : True := trivial
theorem PySem.W.Fast.tw12002743719139893745 : True := trivial
theorem PySem.W.Fast.tw7364033133782067342 : True := trivial
theorem PySem.W.Fast.tw10111379221809450440 : True := trivial
theorem PySem.W.Fast.tw12331246187605276289 : True := trivial
theorem PySem.W.Fast.tw8833792539827682425 : True := trivial
theorem PySem.W.Fast.tw2087638635339680716 : True := trivial
theorem PySem.W.Fast.tw15126534599196835558 : True := trivial
theorem PySem.W.Fast.tw1005712015752752384 : True := trivial
theorem PySem.W.Fast.tw15967845348052281335 : True := trivial
theorem PySem.W.Fast.tw9626618894023645225 : True := trivial
theorem PySem.W.Fast.tw6283691570090944475 : True := trivial
theorem PySem.W.Fast.tw15797913703473264228 : True := trivial
theorem PySem.W.Fast.tw806075479329832095 : True := trivial
theorem PySem.W.Fast.tw3075484183124965641 : True := trivial
theorem PySem.W.Fast.tw7034691873450028064 : True := trivial
theorem PySem.W.Fast.tw14797511576211942774 : True := trivial
theorem PySem.W.Fast.tw14704158394004175488 : True := trivial
theorem PySem.W.Fast.tw10349905597715604903 : True := trivial
theorem PySem.W.Fast.tw5746864449858983207 : True := trivial
theorem PySem.W.Fast.tw7041919003588536623 : True := trivial
theorem PySem.W.Fast.tw6601851411617403961 : True := trivial
theorem PySem.W.Fast.tw8029972969796913131 : True := trivial
theorem PySem.W.Fast.tw1083065738116690258 : True := trivial
theorem PySem.W.Fast.tw7839501229114405700 : True := trivial
theorem PySem.W.Fast.tw12620995529066606449 : True := trivial
theorem PySem.W.Fast.tw4373129859536488217 : True := trivial
theorem PySem.W.Fast.tw15461964665421223495 : True := trivial
theorem PySem.W.Fast.tw17329810871656053419 : True := trivial
theorem PySem.W.Fast.tw8136056721819000547 : True := trivial
theorem PySem.W.Fast.tw5158343932357410104 : True := trivial
theorem PySem.W.Fast.tw3714962457727310868 : True := trivial
theorem PySem.W.Fast.tw9463969760024343803 : True := trivial
theorem PySem.W.Fast.tw8682241879331630916 : True := trivial
theorem PySem.W.Fast.tw1995957388049916358 : True := trivial
theorem PySem.W.Fast.tw10398976656178310195 : True := trivial
theorem PySem.W.Fast.tw17862719087251453675 : True := trivial
theorem PySem.W.Fast.tw407647765774062399 : True := trivial
theorem PySem.W.Fast.tw3869107768806701289 : True := trivial
theorem PySem.W.Fast.tw15974603367943819971 : True := trivial
theorem PySem.W.Fast.tw12868197000970116154 : True := trivial
theorem PySem.W.Fast.tw11504389479159009392 : True := trivial
theorem PySem.W.Fast.tw1364575792942674346 : True := trivial
theorem PySem.W.Fast.tw14062070505589093621 : True := trivial
theorem PySem.W.Fast.tw3996819970369059482 : True := trivial
theorem PySem.W.Fast.tw11185540269453560165 : True := trivial
theorem PySem.W.Fast.tw16469284561757514844 : True := trivial
theorem PySem.W.Fast.tw5532248805362242028 : True := trivial
theorem PySem.W.Fast.tw18219910851166514811 : True := trivial
theorem PySem.W.Fast.tw17493239541135286572 : True := trivial
theorem PySem.W.Fast.tw4937243463024926502 : True := trivial
theorem PySem.W.Fast.tw1130744753339911530 : True := trivial
theorem PySem.W.Fast.tw9112701113555852662 : True := trivial
theorem PySem.W.Fast.tw8073924700869846779 : True := trivial
theorem PySem.W.Fast.tw4046183824174125024 : True := trivial
theorem PySem.W.Fast.tw5419772236042760778 : True := trivial
theorem PySem.W.Fast.tw2552698910582944438 : True := trivial
theorem PySem.W.Fast.tw14059594569466037077 : True := trivial
theorem PySem.W.Fast.tw1393420978164132366 : True := trivial
theorem PySem.W.Fast.tw15013091584681683579 : True := trivial
theorem PySem.W.Fast.tw281971121850119703 : True := trivial
theorem PySem.W.Fast.tw7186402035130412609 : True := trivial
theorem PySem.W.Fast.tw2786488155607045519 : True := trivial
theorem PySem.W.Fast.tw4934568695270085186 : True := trivial
theorem PySem.W.Fast.tw14274281721146510623 : True := trivial
theorem PySem.W.Fast.tw906971933734810197 : True := trivial
theorem PySem.W.Fast.tw6928889429841233480 : True := trivial
theorem PySem.W.Fast.tw13751668875163246958 : True := trivial
theorem PySem.W.Fast.tw13682349496803511842 : True := trivial
theorem PySem.W.Fast.tw6384751452622681543 : True := trivial
theorem PySem.W.Fast.tw15670090092175589936 : True := trivial
theorem PySem.W.Fast.tw16113308950795694177 : True := trivial
theorem PySem.W.Fast.tw8110170869463102479 : True := trivial
theorem PySem.W.Fast.tw1105974867576274958 : True := trivial
theorem PySem.W.Fast.tw9553510033381421574 : True := trivial
theorem PySem.W.Fast.tw11353749467421370616 : True := trivial
theorem PySem.W.Fast.tw6882162005489834255 : True := trivial
theorem PySem.W.Fast.tw15020790433643800501 : True := trivial
theorem PySem.W.Fast.tw14268381104384590921 : True := trivial
theorem PySem.W.Fast.tw16139896726350517110 : True := trivial
theorem PySem.W.Fast.tw4065122900493555730 : True := trivial
theorem PySem.W.Fast.tw14558954535615425532 : True := trivial
theorem PySem.W.Fast.tw8672029166882113674 : True := trivial
theorem PySem.W.Fast.tw16421674565365798075 : True := trivial
theorem PySem.W.Fast.tw12474485476249865378 : True := trivial
theorem PySem.W.Fast.tw11535461189557308820 : True := trivial
theorem PySem.W.Fast.tw10984031645284646664 : True := trivial
theorem PySem.W.Fast.tw5746543103906664112 : True := trivial
theorem PySem.W.Fast.tw10716246981148236932 : True := trivial
theorem PySem.W.Fast.tw15722709989377787129 : True := trivial
theorem PySem.W.Fast.tw4492340736406037340 : True := trivial
theorem PySem.W.Fast.tw14627736668940374253 : True := trivial
theorem PySem.W.Fast.tw11342812272577188589 : True := trivial
theorem PySem.W.Fast.tw14251752783765268334 : True := trivial
theorem PySem.W.Fast.tw15090031823615112799 : True := trivial
theorem PySem.W.Fast.tw12155116630383210832 : True := trivial
theorem PySem.W.Fast.tw8118998123540396912 : True := trivial
theorem PySem.W.Fast.tw8852393732727584310 : True := trivial
theorem PySem.W.Fast.tw5662568000490030427 : True := trivial
theorem PySem.W.Fast.tw7982044530715803038 : True := trivial
theorem PySem.W.Fast.tw6385150803317413792 : True := trivial
theorem PySem.W.Fast.tw5717926475997863146 : True := trivial
theorem PySem.W.Fast.tw824774019173478986 : True := trivial
theorem PySem.W.Fast.tw14328855328269327717 : True := trivial
theorem PySem.W.Fast.tw15925228762274940185 : True := trivial
theorem PySem.W.Fast.tw13189047133095262697 : True := trivial
theorem PySem.W.Fast.tw14010094880056575261 : True := trivial
theorem PySem.W.Fast.tw2884992140380331378 : True := trivial
theorem PySem.W.Fast.tw7481759597725722759 : True := trivial
theorem PySem.W.Fast.tw4472013217556591589 : True := trivial
theorem PySem.W.Fast.tw5850196057132468466 : True := trivial
theorem PySem.W.Fast.tw13576276019272977925 : True := trivial
theorem PySem.W.Fast.tw11554073885977244819 : True := trivial
theorem PySem.W.Fast.tw18353591474898113285 : True := trivial
theorem PySem.W.Fast.tw17672180114448902701 : True := trivial
theorem PySem.W.Fast.tw13134403901236895372 : True := trivial
theorem PySem.W.Fast.tw6736182229099472625 : True := trivial
theorem PySem.W.Fast.tw15139013948186681842 : True := trivial
theorem PySem.W.Fast.tw4624308598028828473 : True := trivial
theorem PySem.W.Fast.tw9827224020825212276 : True := trivial
theorem PySem.W.Fast.tw7676748566578705784 : True := trivial
theorem PySem.W.Fast.tw3205983554075490803 : True := trivial
theorem PySem.W.Fast.tw17925818870001920846 : True := trivial
theorem PySem.W.Fast.tw14262779815830500093 : True := trivial
theorem PySem.W.Fast.tw13002281447815249456 : True := trivial
theorem PySem.W.Fast.tw3229460607503264840 : True := trivial
theorem PySem.W.Fast.tw15055256144230476862 : True := trivial
theorem PySem.W.Fast.tw5665474327625701842 : True := trivial
theorem PySem.W.Fast.tw1486661011745841041 : True := trivial
theorem PySem.W.Fast.tw11117967673083008696 : True := trivial
theorem PySem.W.Fast.tw2422571833336604491 : True := trivial
theorem PySem.W.Fast.tw5516054850095882477 : True := trivial
theorem PySem.W.Fast.tw7605136959780077545 : True := trivial
theorem PySem.W.Fast.tw11262200374760443060 : True := trivial
theorem PySem.W.Fast.tw13862836387644033221 : True := trivial
theorem PySem.W.Fast.tw12197883260731811107 : True := trivial
theorem PySem.W.Fast.tw9190536095942386363 : True := trivial
theorem PySem.W.Fast.tw14692596168996436997 : True := trivial
theorem PySem.W.Fast.tw6572767874358576175 : True := trivial
theorem PySem.W.Fast.tw13153059965013542973 : True := trivial
theorem PySem.W.Fast.tw14573576756541180976 : True := trivial
theorem PySem.W.Fast.tw15513900492111817435 : True := trivial
theorem PySem.W.Fast.tw17191941377762500574 : True := trivial
theorem PySem.W.Fast.tw12972917879009484669 : True := trivial
theorem PySem.W.Fast.tw12218168342053239415 : True := trivial
theorem PySem.W.Fast.tw5977047364100385595 : True := trivial
theorem PySem.W.Fast.tw14562948610063800707 : True := trivial
theorem PySem.W.Fast.tw6530132338862613946 : True := trivial
theorem PySem.W.Fast.tw10079646011467186167 : True := trivial
theorem PySem.W.Fast.tw8298981876737228322 : True := trivial
theorem PySem.W.Fast.tw12004045681130585814 : True := trivial
theorem PySem.W.Fast.tw17612450328251546090 : True := trivial
theorem PySem.W.Fast.tw6547573757038431771 : True := trivial
theorem PySem.W.Fast.tw2390726443062732143 : True := trivial
theorem PySem.W.Fast.tw4485303256920056657 : True := trivial
theorem PySem.W.Fast.tw15877847616972237719 : True := trivial
theorem PySem.W.Fast.tw14422023584667069684 : True := trivial
theorem PySem.W.Fast.tw11960617822081575261 : True := trivial
theorem PySem.W.Fast.tw3501570939509942621 : True := trivial
theorem PySem.W.Fast.tw2595473854786933802 : True := trivial
theorem PySem.W.Fast.tw16519952064542254312 : True := trivial
theorem PySem.W.Fast.tw7579544785616608092 : True := trivial
theorem PySem.W.Fast.tw15521982434502268176 : True := trivial
theorem PySem.W.Fast.tw18060006879690039000 : True := trivial
theorem PySem.W.Fast.tw18140658349225863732 : True := trivial
theorem PySem.W.Fast.tw6635034795421379318 : True := trivial
theorem PySem.W.Fast.tw8535305361863563607 : True := trivial
theorem PySem.W.Fast.tw16775044985454012614 : True := trivial
theorem PySem.W.Fast.tw16586905918109794066 : True := trivial
theorem PySem.W.Fast.tw4818474921969473005 : True := trivial
theorem PySem.W.Fast.tw855410275858592642 : True := trivial
theorem PySem.W.Fast.tw3799080785160102606 : True := trivial
theorem PySem.W.Fast.tw12129986554033905504 : True := trivial
theorem PySem.W.Fast.tw6776422920275267337 : True := trivial
theorem PySem.W.Fast.tw10516618744751006785 : True := trivial
theorem PySem.W.Fast.tw9979158471698410403 : True := trivial
theorem PySem.W.Fast.tw408263955994387765 : True := trivial
theorem PySem.W.Fast.tw16094678321489059253 : True := trivial
theorem PySem.W.Fast.tw8352115090467742241 : True := trivial
theorem PySem.W.Fast.tw14377272388704042796 : True := trivial
theorem PySem.W.Fast.tw11096366025235838762 : True := trivial
theorem PySem.W.Fast.tw10117087425078501801 : True := trivial
theorem PySem.W.Fast.tw10114645100606042016 : True := trivial
theorem PySem.W.Fast.tw10801271843974345393 : True := trivial
theorem PySem.W.Fast.tw15766222934260497710 : True := trivial
theorem PySem.W.Fast.tw8897984731777779023 : True := trivial
theorem PySem.W.Fast.tw7480109303252111302 : True := trivial
theorem PySem.W.Fast.tw6261701181903669509 : True := trivial
theorem PySem.W.Fast.tw7702476830831099326 : True := trivial
theorem PySem.W.Fast.tw14482156717719181640 : True := trivial
theorem PySem.W.Fast.tw7468217131097893383 : True := trivial
theorem PySem.W.Fast.tw12117651579255082151 : True := trivial
theorem PySem.W.Fast.tw462865270393372399 : True := trivial
theorem PySem.W.Fast.tw9735437814649267193 : True := trivial
theorem PySem.W.Fast.tw12866425805782940917 : True := trivial
theorem PySem.W.Fast.tw8668105158302772200 : True := trivial
theorem PySem.W.Fast.tw3910417694248302920 : True := trivial
theorem PySem.W.Fast.tw17814286211803213120 : True := trivial
theorem PySem.W.Fast.tw12355092256774038815 : True := trivial
theorem PySem.W.Fast.tw13658239956203592695 : True := trivial
theorem PySem.W.Fast.tw12423203876325348977 : True := trivial
theorem PySem.W.Fast.tw2895269168604173902 : True := trivial
theorem PySem.W.Fast.tw9063489658593922488 : True := trivial
theorem PySem.W.Fast.tw8364112812067724475 : True := trivial
theorem PySem.W.Fast.tw8353752677296858763 : True := trivial
theorem PySem.W.Fast.tw12475190627872730716 : True := trivial
theorem PySem.W.Fast.tw9659609341872275140 : True := trivial
theorem PySem.W.Fast.tw3728933375631814648 : True := trivial
theorem PySem.W.Fast.tw11058577191760321184 : True := trivial
theorem PySem.W.Fast.tw1882544552200076232 : True := trivial
theorem PySem.W.Fast.tw15875048832514760701 : True := trivial
theorem PySem.W.Fast.tw15084999171620632435 : True := trivial
theorem PySem.W.Fast.tw5350306773894988199 : True := trivial
theorem PySem.W.Fast.tw6665844491049923937 : True := trivial
theorem PySem.W.Fast.tw2012267176872244944 : True := trivial
theorem PySem.W.Fast.tw17167045890343115946 : True := trivial
theorem PySem.W.Fast.tw6380984311620533889 : True := trivial
theorem PySem.W.Fast.tw128780302939816761 : True := trivial
theorem PySem.W.Fast.tw13240865734152287136 : True := trivial
theorem PySem.W.Fast.tw15906661557698233852 : True := trivial
theorem PySem.W.Fast.tw4799528307749163889 : True := trivial
theorem PySem.W.Fast.tw7664143050965104685 : True := trivial
theorem PySem.W.Fast.tw10191507550218722369 : True := trivial
theorem PySem.W.Fast.tw15544197488272932106 : True := trivial
theorem PySem.W.Fast.tw6521220127131772190 : True := trivial
theorem PySem.W.Fast.tw9794698955386470021 : True := trivial
theorem PySem.W.Fast.tw8698820965517002999 : True := trivial
theorem PySem.W.Fast.tw6342873132043304080 : True := trivial
theorem PySem.W.Fast.tw13341825869060063305 : True := trivial
theorem PySem.W.Fast.tw11236861395052284627 : True := trivial
theorem PySem.W.Fast.tw7110207272504301173 : True := trivial
theorem PySem.W.Fast.tw16971266874780827559 : True := trivial
theorem PySem.W.Fast.tw370744239850111135 : True := trivial
theorem PySem.W.Fast.tw12811278416777759647 : True := trivial
theorem PySem.W.Fast.tw32054151084694250 : True := trivial
theorem PySem.W.Fast.tw16226284627897795641 : True := trivial
theorem PySem.W.Fast.tw14963942484049570865 : True := trivial
set_option maxRecDepth 100000 in
set_option maxHeartbeats 0 in
theorem PySem.Challenge.cw_asofhall_k85_whole_journals_cut_and_join_holds : PySem.Challenge.rw_asofhall_k85_whole_journals_cut_and_join.Holds := by
  w_on; o_law; k_head; (case hw => w_witness2)
  k_fill
  refine Ash.walk (l := PySem.Challenge.rw_asofhall_k85_whole_journals_cut_and_join) rfl rfl (fun w h Y => PySem.W.kIn_of Y) ?F
  case F =>
    intro w mg fa h KX G hmg
    refine' Ash.all_mk KX G hmg ?law0 ?law1 ?law2 ?law3
      { len := (PySem.W.mg_none_of KX G ?h_B_len), int := (PySem.W.mg_none_of KX G ?h_B_int), bool := (PySem.W.mg_none_of KX G ?h_B_bool), str := (PySem.W.mg_none_of KX G ?h_B_str), list := (PySem.W.mg_none_of KX G ?h_B_list), tuple := (PySem.W.mg_none_of KX G ?h_B_tuple), dict := (PySem.W.mg_none_of KX G ?h_B_dict), isinstance := (PySem.W.mg_none_of KX G ?h_B_isinstance), all := (PySem.W.mg_none_of KX G ?h_B_all), range := (PySem.W.mg_none_of KX G ?h_B_range), enumerate := (PySem.W.mg_none_of KX G ?h_B_enumerate), sorted := (PySem.W.mg_none_of KX G ?h_B_sorted), min := (PySem.W.mg_none_of KX G ?h_B_min), max := (PySem.W.mg_none_of KX G ?h_B_max), set := (PySem.W.mg_none_of KX G ?h_B_set) }
      ⟨(Ash.ex_str KX G ?h_Cs_0), (Ash.ex_int KX G ?h_Cs_1), (Ash.ex_int KX G ?h_Cs_2), (Ash.ex_int KX G ?h_Cs_3), (Ash.ex_int KX G ?h_Cs_4)⟩
      ⟨⟨?h_TB_0_0, ?h_TB_0_1, ?h_TB_0_2, ?h_TB_0_3⟩, ?h_TB_1, (PySem.W.mg_of KX G ?h_TB_2)⟩
      ⟨⟨?h_T_0_0, ?h_T_0_1, ?h_T_0_2, ?h_T_0_3⟩, ?h_T_1, ?h_T_2, ?h_T_3, (PySem.W.mg_of KX G ?h_T_4)⟩
      ⟨(PySem.W.mg_of KX G ?h_Tt_0), (Ash.tt_mk ?h_Tt_1_0)⟩
      (PySem.W.mg_of KX G ?h_cE)
      (Ash.txt_mk KX G ?h_TE_0 ?h_TE_1 ?h_TE_2 ?h_TE_3 ?h_TE_4 ?h_TE_5 ?h_TE_6 ?h_TE_7 ?h_TE_8 ?h_TE_9 ?h_TE_10 ?h_TE_11 ?h_TE_12 ?h_TE_13 ?h_TE_14 ?h_TE_15 ?h_TE_16 ?h_TE_17 ?h_TE_18 ?h_TE_19 ?h_TE_20 ?h_TE_21 ?h_TE_22 ?h_TE_23 ?h_TE_24 ?h_TE_25 ?h_TE_26 ?h_TE_27 ?h_TE_28 ?h_TE_29)
      ⟨?h_bi_0, ?h_bi_1, ?h_bi_2, ?h_bi_3⟩
      ⟨?h_ji_0, ?h_ji_1, ?h_ji_2, ?h_ji_3⟩
      ?h_mkB
      ?h_kB
      (Ash.ex_int KX G ?h_kM)
      (PySem.W.mg_of KX G ?h_cM)
      (Ash.txt_mk KX G ?h_TM_0 ?h_TM_1 ?h_TM_2 ?h_TM_3 ?h_TM_4 ?h_TM_5 ?h_TM_6 ?h_TM_7 ?h_TM_8 ?h_TM_9 ?h_TM_10 ?h_TM_11 ?h_TM_12 ?h_TM_13 ?h_TM_14 ?h_TM_15 ?h_TM_16 ?h_TM_17 ?h_TM_18 ?h_TM_19 ?h_TM_20 ?h_TM_21 ?h_TM_22 ?h_TM_23 ?h_TM_24 ?h_TM_25 ?h_TM_26 ?h_TM_27 ?h_TM_28 ?h_TM_29)
      ?h_sfJ
      (Ash.d1 KX G ?h_d_is_integer_0 ?h_d_is_integer_1 ?h_d_is_integer_2 ?h_d_is_integer_3)
      (Ash.d1 KX G ?h_d_is_natural_0 ?h_d_is_natural_1 ?h_d_is_natural_2 ?h_d_is_natural_3)
      (Ash.d1 KX G ?h_d_is_name_0 ?h_d_is_name_1 ?h_d_is_name_2 ?h_d_is_name_3)
      (Ash.d1 KX G ?h_d_are_integers_0 ?h_d_are_integers_1 ?h_d_are_integers_2 ?h_d_are_integers_3)
      (Ash.d1 KX G ?h_d_is_late_0 ?h_d_is_late_1 ?h_d_is_late_2 ?h_d_is_late_3)
      (Ash.d1 KX G ?h_d_is_lates_0 ?h_d_is_lates_1 ?h_d_is_lates_2 ?h_d_is_lates_3)
      (Ash.d1 KX G ?h_d_is_entry_0 ?h_d_is_entry_1 ?h_d_is_entry_2 ?h_d_is_entry_3)
      (Ash.d1 KX G ?h_d_arrival_of_0 ?h_d_arrival_of_1 ?h_d_arrival_of_2 ?h_d_arrival_of_3)
      (Ash.d1 KX G ?h_d_placed_0 ?h_d_placed_1 ?h_d_placed_2 ?h_d_placed_3)
      (Ash.d1 KX G ?h_d_row_behind_0 ?h_d_row_behind_1 ?h_d_row_behind_2 ?h_d_row_behind_3)
      (Ash.d1 KX G ?h_d_walked_0 ?h_d_walked_1 ?h_d_walked_2 ?h_d_walked_3)
      (Ash.d1 KX G ?h_d_is_row_0 ?h_d_is_row_1 ?h_d_is_row_2 ?h_d_is_row_3)
      (Ash.d1 KX G ?h_d__law_pool_0 ?h_d__law_pool_1 ?h_d__law_pool_2 ?h_d__law_pool_3)
      (Ash.d1 KX G ?h_d__law_draw_0 ?h_d__law_draw_1 ?h_d__law_draw_2 ?h_d__law_draw_3)
      (Ash.d1 KX G ?h_d__law_names_0 ?h_d__law_names_1 ?h_d__law_names_2 ?h_d__law_names_3)
      (Ash.d1 KX G ?h_d__law_lates_0 ?h_d__law_lates_1 ?h_d__law_lates_2 ?h_d__law_lates_3)
      (Ash.d1 KX G ?h_d__law_amount_0 ?h_d__law_amount_1 ?h_d__law_amount_2 ?h_d__law_amount_3)
      (Ash.d1 KX G ?h_d__law_begin_0 ?h_d__law_begin_1 ?h_d__law_begin_2 ?h_d__law_begin_3)
      (Ash.d1 KX G ?h_d__law_entry_0 ?h_d__law_entry_1 ?h_d__law_entry_2 ?h_d__law_entry_3)
      (Ash.d1 KX G ?h_d__law_put_0 ?h_d__law_put_1 ?h_d__law_put_2 ?h_d__law_put_3)
      (Ash.d1 KX G ?h_d__law_next_entry_0 ?h_d__law_next_entry_1 ?h_d__law_next_entry_2 ?h_d__law_next_entry_3)
      (Ash.d1 KX G ?h_d__law_work_0 ?h_d__law_work_1 ?h_d__law_work_2 ?h_d__law_work_3)
      (Ash.d1 KX G ?h_d__law_heard_0 ?h_d__law_heard_1 ?h_d__law_heard_2 ?h_d__law_heard_3)
      (Ash.d1 KX G ?h_d__law_of_key_0 ?h_d__law_of_key_1 ?h_d__law_of_key_2 ?h_d__law_of_key_3)
      (Ash.d1 KX G ?h_d__law_shuffled_0 ?h_d__law_shuffled_1 ?h_d__law_shuffled_2 ?h_d__law_shuffled_3)
      (Ash.d1 KX G ?h_d__law_merged_0 ?h_d__law_merged_1 ?h_d__law_merged_2 ?h_d__law_merged_3)
      (Ash.d1 KX G ?h_d__law_states_0 ?h_d__law_states_1 ?h_d__law_states_2 ?h_d__law_states_3)
      (Ash.d1 KX G ?h_d__law_rows_0 ?h_d__law_rows_1 ?h_d__law_rows_2 ?h_d__law_rows_3)
      (Ash.d1 KX G ?h_d_cut_0 ?h_d_cut_1 ?h_d_cut_2 ?h_d_cut_3)
      (Ash.d1 KX G ?h_d_joined_0 ?h_d_joined_1 ?h_d_joined_2 ?h_d_joined_3)
      (Ash.d1 KX G ?h_d_by_keys_0 ?h_d_by_keys_1 ?h_d_by_keys_2 ?h_d_by_keys_3)
      (Ash.d1 KX G ?h_d__law_good_cut_0 ?h_d__law_good_cut_1 ?h_d__law_good_cut_2 ?h_d__law_good_cut_3)
      (Ash.d1 KX G ?h_d__law_good_keys_0 ?h_d__law_good_keys_1 ?h_d__law_good_keys_2 ?h_d__law_good_keys_3)
      (Ash.d1 KX G ?h_d__law_good_whole_0 ?h_d__law_good_whole_1 ?h_d__law_good_whole_2 ?h_d__law_good_whole_3)
      (Ash.dm ?h_m_Init_0 ?h_m_Init_1 ?h_m_Init_2 ?h_m_Init_3 ?h_m_Init_4)
      (Ash.dm ?h_m_Has_0 ?h_m_Has_1 ?h_m_Has_2 ?h_m_Has_3 ?h_m_Has_4)
      (Ash.dm ?h_m_Late_0 ?h_m_Late_1 ?h_m_Late_2 ?h_m_Late_3 ?h_m_Late_4)
      (Ash.dd ?h_m_J_0 ?h_m_J_1 ?h_m_J_2 ?h_m_J_3 ?h_m_J_4 ?h_m_J_5 ?h_m_J_6 ?h_m_J_7)
      (Ash.dm ?h_m_Then_0 ?h_m_Then_1 ?h_m_Then_2 ?h_m_Then_3 ?h_m_Then_4)
      (Ash.dm ?h_m_Heard_0 ?h_m_Heard_1 ?h_m_Heard_2 ?h_m_Heard_3 ?h_m_Heard_4)
      (Ash.dm ?h_m_Rows_0 ?h_m_Rows_1 ?h_m_Rows_2 ?h_m_Rows_3 ?h_m_Rows_4)
      (Ash.dm ?h_m_Only_0 ?h_m_Only_1 ?h_m_Only_2 ?h_m_Only_3 ?h_m_Only_4)
      (Ash.dm ?h_m_Without_0 ?h_m_Without_1 ?h_m_Without_2 ?h_m_Without_3 ?h_m_Without_4)
      (Ash.dm ?h_m_Or_0 ?h_m_Or_1 ?h_m_Or_2 ?h_m_Or_3 ?h_m_Or_4)
      (Ash.dm ?h_m_Names_0 ?h_m_Names_1 ?h_m_Names_2 ?h_m_Names_3 ?h_m_Names_4)
      (Ash.dm ?h_m_Len_0 ?h_m_Len_1 ?h_m_Len_2 ?h_m_Len_3 ?h_m_Len_4)
      (Ash.dq ?h_m_Beq_0 ?h_m_Beq_1 ?h_m_Beq_2 ?h_m_Beq_3 ?h_m_Beq_4)
      (Ash.ne_mk ?h_bne_0 ?h_bne_1 ?h_bne_2 ?h_bne_3 ?h_bne_4 ?h_bne_5 ?h_bne_6)
      (Ash.dq ?h_m_Jeq_0 ?h_m_Jeq_1 ?h_m_Jeq_2 ?h_m_Jeq_3 ?h_m_Jeq_4)
      (Ash.ne_mk ?h_jne_0 ?h_jne_1 ?h_jne_2 ?h_jne_3 ?h_jne_4 ?h_jne_5 ?h_jne_6)
    (case h_Cs_0 => k_is)
    (case h_Cs_1 => k_is)
    (case h_Cs_2 => k_is)
    (case h_Cs_3 => k_is)
    (case h_Cs_4 => k_is)
    (case h_TB_2 => k_is)
    (case h_T_4 => k_is)
    (case h_Tt_0 => k_is)
    (case h_cE => k_is)
    (case h_kM => k_is)
    (case h_cM => k_is)
    (case law0 => k_is)
    (case law1 => k_is)
    (case law2 => k_is)
    (case law3 => k_is)
    (case h_B_len => k_is)
    (case h_B_int => k_is)
    (case h_B_bool => k_is)
    (case h_B_str => k_is)
    (case h_B_list => k_is)
    (case h_B_tuple => k_is)
    (case h_B_dict => k_is)
    (case h_B_isinstance => k_is)
    (case h_B_all => k_is)
    (case h_B_range => k_is)
    (case h_B_enumerate => k_is)
    (case h_B_sorted => k_is)
    (case h_B_min => k_is)
    (case h_B_max => k_is)
    (case h_B_set => k_is)
    (case h_TB_0_0 => k_is)
    (case h_TB_0_1 => k_is)
    (case h_TB_0_2 => k_is)
    (case h_TB_0_3 => k_is)
    (case h_TB_1 => delta L2.NoAttr; k_is)
    (case h_T_0_0 => k_is)
    (case h_T_0_1 => k_is)
    (case h_T_0_2 => k_is)
    (case h_T_0_3 => k_is)
    (case h_T_1 => delta L2.NoAttr; k_is)
    (case h_T_2 => delta L2.NoAttr; k_is)
    (case h_T_3 => delta L2.NoAttr; k_is)
    (case h_Tt_1_0 => k_is)
    (case h_TE_0 => k_is)
    (case h_TE_2 => k_is)
    (case h_TE_3 => k_is)
    (case h_TE_4 => k_is)
    (case h_TE_5 => k_is)
    (case h_TE_6 => k_is)
    (case h_TE_7 => k_is)
    (case h_TE_8 => k_is)
    (case h_TE_9 => k_is)
    (case h_TE_10 => k_is)
    (case h_TE_11 => k_is)
    (case h_TE_12 => k_is)
    (case h_TE_13 => k_is)
    (case h_TE_14 => k_is)
    (case h_TE_15 => k_is)
    (case h_TE_17 => k_is)
    (case h_TE_18 => k_is)
    (case h_TE_20 => k_is)
    (case h_TE_21 => k_is)
    (case h_TE_25 => k_is)
    (case h_TE_29 => k_is)
    (case h_bi_0 => k_is)
    (case h_bi_1 => k_is)
    (case h_bi_2 => k_is)
    (case h_bi_3 => k_is)
    (case h_ji_0 => k_is)
    (case h_ji_1 => k_is)
    (case h_ji_2 => k_is)
    (case h_ji_3 => k_is)
    (case h_mkB => k_is)
    (case h_kB => k_is)
    (case h_TM_0 => k_is)
    (case h_TM_2 => k_is)
    (case h_TM_3 => k_is)
    (case h_TM_4 => k_is)
    (case h_TM_5 => k_is)
    (case h_TM_6 => k_is)
    (case h_TM_7 => k_is)
    (case h_TM_8 => k_is)
    (case h_TM_9 => k_is)
    (case h_TM_10 => k_is)
    (case h_TM_11 => k_is)
    (case h_TM_12 => k_is)
    (case h_TM_13 => k_is)
    (case h_TM_14 => k_is)
    (case h_TM_15 => k_is)
    (case h_TM_17 => k_is)
    (case h_TM_18 => k_is)
    (case h_TM_20 => k_is)
    (case h_TM_21 => k_is)
    (case h_TM_25 => k_is)
    (case h_TM_29 => k_is)
    (case h_sfJ => k_is)
    (case h_d_is_integer_0 => k_is)
    (case h_d_is_integer_1 => k_is)
    (case h_d_is_integer_2 => k_is)
    (case h_d_is_integer_3 => k_is)
    (case h_d_is_natural_0 => k_is)
    (case h_d_is_natural_1 => k_is)
    (case h_d_is_natural_2 => k_is)
    (case h_d_is_natural_3 => k_is)
    (case h_d_is_name_0 => k_is)
    (case h_d_is_name_1 => k_is)
    (case h_d_is_name_2 => k_is)
    (case h_d_is_name_3 => k_is)
    (case h_d_are_integers_0 => k_is)
    (case h_d_are_integers_1 => k_is)
    (case h_d_are_integers_2 => k_is)
    (case h_d_are_integers_3 => k_is)
    (case h_d_is_late_0 => k_is)
    (case h_d_is_late_1 => k_is)
    (case h_d_is_late_2 => k_is)
    (case h_d_is_late_3 => k_is)
    (case h_d_is_lates_0 => k_is)
    (case h_d_is_lates_1 => k_is)
    (case h_d_is_lates_2 => k_is)
    (case h_d_is_lates_3 => k_is)
    (case h_d_is_entry_0 => k_is)
    (case h_d_is_entry_1 => k_is)
    (case h_d_is_entry_2 => k_is)
    (case h_d_is_entry_3 => k_is)
    (case h_d_arrival_of_0 => k_is)
    (case h_d_arrival_of_1 => k_is)
    (case h_d_arrival_of_2 => k_is)
    (case h_d_arrival_of_3 => k_is)
    (case h_d_placed_0 => k_is)
    (case h_d_placed_1 => k_is)
    (case h_d_placed_2 => k_is)
    (case h_d_placed_3 => k_is)
    (case h_d_row_behind_0 => k_is)
    (case h_d_row_behind_1 => k_is)
    (case h_d_row_behind_2 => k_is)
    (case h_d_row_behind_3 => k_is)
    (case h_d_walked_0 => k_is)
    (case h_d_walked_1 => k_is)
    (case h_d_walked_2 => k_is)
    (case h_d_walked_3 => k_is)
    (case h_d_is_row_0 => k_is)
    (case h_d_is_row_1 => k_is)
    (case h_d_is_row_2 => k_is)
    (case h_d_is_row_3 => k_is)
    (case h_d__law_pool_0 => k_is)
    (case h_d__law_pool_1 => k_is)
    (case h_d__law_pool_2 => k_is)
    (case h_d__law_pool_3 => k_is)
    (case h_d__law_draw_0 => k_is)
    (case h_d__law_draw_1 => k_is)
    (case h_d__law_draw_2 => k_is)
    (case h_d__law_draw_3 => k_is)
    (case h_d__law_names_0 => k_is)
    (case h_d__law_names_1 => k_is)
    (case h_d__law_names_2 => k_is)
    (case h_d__law_names_3 => k_is)
    (case h_d__law_lates_0 => k_is)
    (case h_d__law_lates_1 => k_is)
    (case h_d__law_lates_2 => k_is)
    (case h_d__law_lates_3 => k_is)
    (case h_d__law_amount_0 => k_is)
    (case h_d__law_amount_1 => k_is)
    (case h_d__law_amount_2 => k_is)
    (case h_d__law_amount_3 => k_is)
    (case h_d__law_begin_0 => k_is)
    (case h_d__law_begin_1 => k_is)
    (case h_d__law_begin_2 => k_is)
    (case h_d__law_begin_3 => k_is)
    (case h_d__law_entry_0 => k_is)
    (case h_d__law_entry_1 => k_is)
    (case h_d__law_entry_2 => k_is)
    (case h_d__law_entry_3 => k_is)
    (case h_d__law_put_0 => k_is)
    (case h_d__law_put_1 => k_is)
    (case h_d__law_put_2 => k_is)
    (case h_d__law_put_3 => k_is)
    (case h_d__law_next_entry_0 => k_is)
    (case h_d__law_next_entry_1 => k_is)
    (case h_d__law_next_entry_2 => k_is)
    (case h_d__law_next_entry_3 => k_is)
    (case h_d__law_work_0 => k_is)
    (case h_d__law_work_1 => k_is)
    (case h_d__law_work_2 => k_is)
    (case h_d__law_work_3 => k_is)
    (case h_d__law_heard_0 => k_is)
    (case h_d__law_heard_1 => k_is)
    (case h_d__law_heard_2 => k_is)
    (case h_d__law_heard_3 => k_is)
    (case h_d__law_of_key_0 => k_is)
    (case h_d__law_of_key_1 => k_is)
    (case h_d__law_of_key_2 => k_is)
    (case h_d__law_of_key_3 => k_is)
    (case h_d__law_shuffled_0 => k_is)
    (case h_d__law_shuffled_1 => k_is)
    (case h_d__law_shuffled_2 => k_is)
    (case h_d__law_shuffled_3 => k_is)
    (case h_d__law_merged_0 => k_is)
    (case h_d__law_merged_1 => k_is)
    (case h_d__law_merged_2 => k_is)
    (case h_d__law_merged_3 => k_is)
    (case h_d__law_states_0 => k_is)
    (case h_d__law_states_1 => k_is)
    (case h_d__law_states_2 => k_is)
    (case h_d__law_states_3 => k_is)
    (case h_d__law_rows_0 => k_is)
    (case h_d__law_rows_1 => k_is)
    (case h_d__law_rows_2 => k_is)
    (case h_d__law_rows_3 => k_is)
    (case h_d_cut_0 => k_is)
    (case h_d_cut_1 => k_is)
    (case h_d_cut_2 => k_is)
    (case h_d_cut_3 => k_is)
    (case h_d_joined_0 => k_is)
    (case h_d_joined_1 => k_is)
    (case h_d_joined_2 => k_is)
    (case h_d_joined_3 => k_is)
    (case h_d_by_keys_0 => k_is)
    (case h_d_by_keys_1 => k_is)
    (case h_d_by_keys_2 => k_is)
    (case h_d_by_keys_3 => k_is)
    (case h_d__law_good_cut_0 => k_is)
    (case h_d__law_good_cut_1 => k_is)
    (case h_d__law_good_cut_2 => k_is)
    (case h_d__law_good_cut_3 => k_is)
    (case h_d__law_good_keys_0 => k_is)
    (case h_d__law_good_keys_1 => k_is)
    (case h_d__law_good_keys_2 => k_is)
    (case h_d__law_good_keys_3 => k_is)
    (case h_d__law_good_whole_0 => k_is)
    (case h_d__law_good_whole_1 => k_is)
    (case h_d__law_good_whole_2 => k_is)
    (case h_d__law_good_whole_3 => k_is)
    (case h_m_Init_0 => k_is)
    (case h_m_Init_1 => k_is)
    (case h_m_Init_2 => k_is)
    (case h_m_Init_3 => k_is)
    (case h_m_Init_4 => k_is)
    (case h_m_Has_0 => k_is)
    (case h_m_Has_1 => k_is)
    (case h_m_Has_2 => k_is)
    (case h_m_Has_3 => k_is)
    (case h_m_Has_4 => k_is)
    (case h_m_Late_0 => k_is)
    (case h_m_Late_1 => k_is)
    (case h_m_Late_2 => k_is)
    (case h_m_Late_3 => k_is)
    (case h_m_Late_4 => k_is)
    (case h_m_J_0 => k_is)
    (case h_m_J_1 => k_is)
    (case h_m_J_2 => k_is)
    (case h_m_J_3 => k_is)
    (case h_m_J_4 => k_is)
    (case h_m_J_5 => k_is)
    (case h_m_J_6 => k_is)
    (case h_m_J_7 => k_is)
    (case h_m_Then_0 => k_is)
    (case h_m_Then_1 => k_is)
    (case h_m_Then_2 => k_is)
    (case h_m_Then_3 => k_is)
    (case h_m_Then_4 => k_is)
    (case h_m_Heard_0 => k_is)
    (case h_m_Heard_1 => k_is)
    (case h_m_Heard_2 => k_is)
    (case h_m_Heard_3 => k_is)
    (case h_m_Heard_4 => k_is)
    (case h_m_Rows_0 => k_is)
    (case h_m_Rows_1 => k_is)
    (case h_m_Rows_2 => k_is)
    (case h_m_Rows_3 => k_is)
    (case h_m_Rows_4 => k_is)
    (case h_m_Only_0 => k_is)
    (case h_m_Only_1 => k_is)
    (case h_m_Only_2 => k_is)
    (case h_m_Only_3 => k_is)
    (case h_m_Only_4 => k_is)
    (case h_m_Without_0 => k_is)
    (case h_m_Without_1 => k_is)
    (case h_m_Without_2 => k_is)
    (case h_m_Without_3 => k_is)
    (case h_m_Without_4 => k_is)
    (case h_m_Or_0 => k_is)
    (case h_m_Or_1 => k_is)
    (case h_m_Or_2 => k_is)
    (case h_m_Or_3 => k_is)
    (case h_m_Or_4 => k_is)
    (case h_m_Names_0 => k_is)
    (case h_m_Names_1 => k_is)
    (case h_m_Names_2 => k_is)
    (case h_m_Names_3 => k_is)
    (case h_m_Names_4 => k_is)
    (case h_m_Len_0 => k_is)
    (case h_m_Len_1 => k_is)
    (case h_m_Len_2 => k_is)
    (case h_m_Len_3 => k_is)
    (case h_m_Len_4 => k_is)
    (case h_m_Beq_0 => k_is)
    (case h_m_Beq_1 => k_is)
    (case h_m_Beq_2 => k_is)
    (case h_m_Beq_3 => k_is)
    (case h_m_Beq_4 => k_is)
    (case h_bne_0 => k_is)
    (case h_bne_1 => k_is)
    (case h_bne_3 => k_is)
    (case h_bne_4 => k_is)
    (case h_bne_5 => k_is)
    (case h_m_Jeq_0 => k_is)
    (case h_m_Jeq_1 => k_is)
    (case h_m_Jeq_2 => k_is)
    (case h_m_Jeq_3 => k_is)
    (case h_m_Jeq_4 => k_is)
    (case h_jne_0 => k_is)
    (case h_jne_1 => k_is)
    (case h_jne_3 => k_is)
    (case h_jne_4 => k_is)
    (case h_jne_5 => k_is)
    (case h_TE_1 => decide +kernel)
    (case h_TE_16 => ks_is)
    (case h_TE_19 => decide +kernel)
    (case h_TE_22 => exact rfl)
    (case h_TE_23 => exact rfl)
    (case h_TE_24 => exact fun s u v => .of_eq rfl)
    (case h_TE_26 => exact rfl)
    (case h_TE_27 => decide +kernel)
    (case h_TE_28 => decide +kernel)
    (case h_TM_1 => decide +kernel)
    (case h_TM_16 => ks_is)
    (case h_TM_19 => decide +kernel)
    (case h_TM_22 => exact rfl)
    (case h_TM_23 => exact rfl)
    (case h_TM_24 => exact fun s u v => .of_eq rfl)
    (case h_TM_26 => exact rfl)
    (case h_TM_27 => decide +kernel)
    (case h_TM_28 => decide +kernel)
    (case h_bne_2 => first | rfl | decide +kernel)
    (case h_bne_6 => rfl)
    (case h_jne_2 => first | rfl | decide +kernel)
    (case h_jne_6 => rfl)

