import PyProof.Rows.All
import Wide.All
import OpenK.AllK
import Wide.FinOn
import PyProof.EqAt
import PyProof.EqKinds
import PyProof.TupleCall
import KE.KExcSuper
import HandS.ForMost
import HandS.ForExc
import HandS.ExcInit
import HandS.IsInst
import HandS.Wide
import HandS.Star
import HandS.CallSlots
import HandS.DictComp
import HandS.OwnEq
import HandS.Codes
import HandS.Defaults
import HandS.Walk
import PySem.Challenge.RW_asofhall_k02_whole_rows_that_stand
import HandS.More
import KE.GoesMore
import PyProof.NeKinds
import HandS.SortRule
import HandS.Deep
import PyProof.InstNe
import OpenK.KOwn
import OpenK.KOps
import HandS.Sort
import OpenK.KMeth
import HandS.SlotsOwn
import PyProof.Rows.SortShellAny
import HandS.SetFor
import HandS.SetKeys
set_option Elab.async false
set_option linter.all false
set_option maxRecDepth 100000
set_option maxHeartbeats 4000000
namespace PySem
namespace BadX
open PySem.W PySem.Calls PyProof.Rows PySem.HandSPX
/-- super().__init__(text); self.fl = par -/
def shape (tx par fl : Str) (p0 p1 p2 p3 p4 p5 p6 p7 p8 p9 : Pos) (j : Nat) : List Stmt :=
  [.Expr (.Call (.Attribute (.Call (.Name "super" p0) [] [] p1) "__init__" p2) [.Constant (.str tx) j p3] [] p4) p5,
   .Assign [.Attribute (.Name "self" p6) fl p7] (.Name par p8) p9]
def sco (par : Str) : Scope := { kind := .function, names := [(PySem.Str.ofString "self", .local), (par, .local), (PySem.Str.ofString "__class__", .free), (PySem.Str.ofString "super", .globalImplicit)], isGenerator := false, isCoroutine := false, more := [] }
/-- what the written part says of an own error's class at C, its __init__ at fI, whose one field is fl -/
structure Txt (P : Program) (K : Frag) (mg : Str → Option Value) (par fl : Str) (C fI : Addr) : Prop where
  cls : ∃ nm q N bs bm sn sub ab col dd k0 k1 k2 k3 k5, K.lookup C = some (excClassObj nm q C N bs bm true sn sub ab col dd k0 k1 k2 k3 k5 "ValueError.__new__") ∧ refsVE bm = true
  sa : findIn K (.ref C) "__setattr__" = some (some (.builtin "object.__setattr__"))
  ga : findIn K (.ref C) "__getattribute__" = some (some (.builtin "BaseException.__getattribute__"))
  gg : findIn K (.ref C) "__getattr__" = some none
  noN : findIn K (.ref C) fl = some none
  iC : findIn K (.ref C) "__init__" = some (some (.ref fI))
  tC : typeIn K (.ref fI) = some (.type "function")
  kC : keepIn K (.ref C) = true
  exC : subIn K (.ref C) (.type "BaseException") = some true
  veC : subIn K (.ref C) (.type "ValueError") = some true
  slf : mroIn K C (.ref C) = some true
  tyC : typeIn K (.ref C) = some (.type "type")
  hdC : hasDictIn K C = true
  te : exmOne K (.ref C) (.ref C) = some true
  along : ks_superIn K C C "__init__" = some (some (.builtin "ValueError.__init__"))
  opq : nsIn K cStatics "thirdparty.any" = some none
  sup : mg "super" = none
  top : (P.main.scope.names.lookup ("super" : Str)).isSome = false
  fn : ∃ (oc : Value) (od : Option Addr) (qual tx : Str) (doc pm : Value) (an : Option Addr) (cda cc : Addr) (ct : Value) (osl : Array (Option Value)) (pa : Arguments) (p0 p1 p2 p3 p4 p5 p6 p7 p8 p9 : Pos) (j : Nat) (a0 : Arg),
    K.lookup fI = some ⟨oc, od, .func (ksFn "__init__" qual pa (shape tx par fl p0 p1 p2 p3 p4 p5 p6 p7 p8 p9 j) (sco par) .none .none doc pm an (.ref cda) ct cc), osl⟩ ∧ codeIn K (.ref cda) qual = true ∧
    (pa.posonlyargs ++ pa.args).head? = some a0 ∧ a0.arg = "self" ∧
    (∀ (s : Shared) (u v : Value), BindsTo s (ksFn "__init__" qual pa (shape tx par fl p0 p1 p2 p3 p4 p5 p6 p7 p8 p9 j) (sco par) .none .none doc pm an (.ref cda) ct cc) ⟨[u, v], []⟩ [("self", u), (par, v)]) ∧
    (∃ ccl cdd vs ccs file tf, K.lookup cda = some ⟨ccl, cdd, .fields vs, ccs⟩ ∧ vs[2]? = some (.str file tf) ∧ ((P.main.file : Str) == file) = true) ∧
    (p2.endLine == p4.line) = true ∧
    (∃ cl cld csl, K.lookup cc = some ⟨cl, cld, .cell (some (.ref C)), csl⟩)
/-- what __init__ leaves of a fresh exception at x -/
structure Left (fl : Str) (h h' : Heap) (x C dx t1 : Addr) (v : Value) : Prop where
  keep : ∀ b o, b ≠ x → h.get? b = some o → h'.get? b = some o
  obj : h'.get? x = some { cls := .ref C, dict := some dx, data := .fields #[.ref t1, .none, .none, .none, .bool false, .none] }
  dbig : h.objs.size ≤ dx
  dne : dx ≠ x
  ns : h'.Ns1 dx (fun y => if y = fl then some v else none)
section
variable {prog : Program} {w : World} {A : Around} {E : Value → Shared → Prop} {R : Result → Shared → Prop} {s : Shared} {K : Frag} {mg mb : Str → Option Value} {C fI : Addr} {par fl : Str}
/-- the wrapper of ValueError.__init__, bound to x, called -/
theorem call_bound {h : Heap} {g : Array GenState} {d : Drawn} {t : Nat} {os : OsState} {u x t0 : Addr} {rest : List Value} {Q : Value → Shared → Prop} {nm q : Str} {N : Addr} {bs bm : List Value} {sn : List Str} {sub : List Value} {ab : Bool} {col : Option Bool} {dd : Option Addr} {k0 k1 k2 k3 k5 : Option Value}
    (hC : h.get? C = some (excClassObj nm q C N bs bm true sn sub ab col dd k0 k1 k2 k3 k5 "ValueError.__new__")) (hx : h.get? x = some (excO C t0)) (hu : h.get? u = some (kxs_mw "ValueError.__init__" x)) (hr : rest.length ≤ sizeLine)
    (hq : ∀ h', (∀ b o, b ≠ x → h.get? b = some o → h'.get? b = some o) → h'.get? x = some (excO C h.objs.size) → Q .none ⟨h', g, d, t, os⟩) :
    wpAny (model prog w) A (call (.ref u) rest) Q E ⟨h, g, d, t, os⟩ := by
  have FB := F.excBase_ValueError
  refine wpAny_call (codeAny_of_tree ?_)
  show wpAny _ A.in1 (callAny (.ref u) ⟨rest, []⟩) _ _ _
  simp only [callAny]
  refine wpAny_bind (wpAny_load hu ?_)
  have c1 : (Value.type "method-wrapper" == Value.type "method" || Value.type "method-wrapper" == Value.type "builtin_function_or_method" || Value.type "method-wrapper" == Value.type "method-wrapper") = true := by decide
  simp only [kxs_mw, c1, if_true]
  refine KFB.if_so (by decide) (wpAny_bind (check_bound_init FB.toExcCallFacts hC hx rfl (wpAny_bind (wpAny_pure (wpAny_pure ⟨plainId_quiet FB.init.plain _, codeAny_builtin FB.initEntry ?_⟩)))))
  exact exc_init_tree (cls := .ref C) (t0 := t0) (dv := none) (c2 := .none) (c3 := .none) (b4 := .bool false) hx hr fun h' k e' _ => hq h' k e'
theorem init_ok {x t0 : Addr} {v : Value} (T : Txt prog K mg par fl C fI) (X : K.In s.heap) (G : s.heap.Ns mainGlobals mg) (B : s.heap.Ns builtinsNs mb) (hb : mb "super" = some (.type "super")) (hlim : s.heap.NoLimit)
    (hx : s.heap.get? x = some (excO C t0)) (hnx : K.lookup x = none) (hroom : A.depth < recursionLimit) (hp1 : (par == ("__debug__" : Str)) = false) (hp2 : ¬ par = "self")
    (hloc : (sco par).names.lookup par = some .local) (hks : (sco par).names.lookup ("super" : Str) = some .globalImplicit) (hkc : (sco par).names.lookup ("__class__" : Str) = some .free)
    (hq : ∀ h' tk t1 dx, Left fl s.heap h' x C dx t1 v → R (.ok (.ret .none)) { s with heap := h', toks := tk }) :
    codeAny (model prog w) A (.call (.ref fI) ⟨[.ref x, v], []⟩) R s := by
  obtain ⟨oc, od, qual, tx, doc, pm, an, cda, cc, ct, osl, pa, p0, p1, p2, p3, p4, p5, p6, p7, p8, p9, j, a0, ho, hcd, ha0, ha1, hbd, ⟨ccl, cdd, vs, ccs, file, tf, hcode, hvs, hfile⟩, hpe, ⟨cl, cld, csl, hcell⟩⟩ := T.fn
  obtain ⟨nm, q, N, bs, bm, sn, sub, ab, col, dd, k0, k1, k2, k3, k5, hC, hbm⟩ := T.cls
  have hcl : clsIn K C = some { name := nm, bases := bs, mro := .ref C :: bm, ns := N, qualname := q, hasDict := true, slotNames := sn, subclasses := sub, abstract := ab, collection := col, hasDel := false } := by unfold clsIn; rw [hC] <;> rfl
  refine ks_codeAny_call_defAt (binds := [("self", .ref x), (par, v)]) hroom (X _ _ ho) rfl hlim (codeRec_of X hcd) rfl (hbd s (.ref x) v) ?_ ?_ (fun h₁ hns hk₁ => ?_)
  · intro y hy
    have : y ∈ [(PySem.Str.ofString "self", NameKind.local), (par, .local), (PySem.Str.ofString "__class__", .free), (PySem.Str.ofString "super", .globalImplicit)] := hy
    simp only [List.mem_cons, List.not_mem_nil, or_false] at this
    rcases this with rfl | rfl | rfl | rfl <;> (intro z; cases z)
  · intro y hy
    simp only [List.mem_cons, List.not_mem_nil, or_false] at hy
    rcases hy with rfl | rfl
    · exact (by rfl : (sco par).names.lookup ("self" : Str) = some .local)
    · exact hloc
  have hself : ([(("self" : Str), Value.ref x), (par, v)] : List (Str × Value)).reverse.lookup ("self" : Str) = some (Value.ref x) := by
    show List.lookup ("self" : Str) [(par, v), (("self" : Str), Value.ref x)] = _
    have e1 : (("self" : Str) == par) = false := by simpa using fun z => hp2 z.symm
    simp [List.lookup, e1]
  have hpar : ([(("self" : Str), Value.ref x), (par, v)] : List (Str × Value)).reverse.lookup par = some v := by
    show List.lookup par [(par, v), (("self" : Str), Value.ref x)] = _
    simp [List.lookup]
  have X₁ : K.In h₁ := X.keeps hk₁
  have hx₁ := hk₁ _ _ hx
  refine ks_wpAt_execs_cons (ks_wpAt_Expr_any (ks_wpAt_MethodCall (pl := ?pl) ?_ ?he))
  case he =>
    rw [arm_eval_Call]
    unfold methodCall methodCallPos
    rw [hpe]
    with_unfolding_all rfl
  refine ks_wpAt_super_base (hks := hks) (hkc := hkc) (by decide +kernel) rfl (X₁ _ _ ho) rfl ha0 rfl (X₁ _ _ hcode) rfl hvs hfile T.top ?_
  refine ks_loadName_global rfl hks (loadGlobal_builtin (G.keeps hk₁) T.sup (B.keeps hk₁) hb ⟨rfl, ?_⟩)
  refine wpAny_loadName_free rfl hkc rfl ⟨_, X₁ _ _ hcell, rfl⟩ ?_
  rw [ha1]
  refine wpAny_loadName_local rfl rfl hns hself ?_
  refine ks_wpAny_isType_cls (X₁ _ _ hC) rfl ⟨rfl, ?_⟩
  refine ks_wpAny_call_super (X₁ _ _ hC) rfl hx₁ rfl (fun c e => by cases e) (looks_mroIn X₁ T.slf) (fun h₂ e₂ k₂ => ?_)
  have X₂ : K.In h₂ := X₁.keeps k₂
  have hx₂ := k₂ _ _ hx₁
  have I₂ : InstAt h₂ x (excO C t0) C none := ⟨hx₂, rfl, rfl, trivial⟩
  have hal := T.along
  unfold ks_superIn at hal
  rw [hcl] at hal
  refine kxs_getMethod kxs_ValueError e₂ (looks_opaque X₂ T.opq) (l₀ := .ref C :: bm) ?_ rfl X₂ hal (I₂.type.andThen (looks_subIn X₂ T.veC)) (ks_ne X₂ I₂ hcl) (by decide +kernel) ?_
  · exact fun A Q E s k q => wpAny_bind ((looks_clsIn X₂ hcl) A _ E s k (wpAny_pure q))
  have hu : (h₂.push (kxs_mw "ValueError.__init__" x)).get? h₂.objs.size = some (kxs_mw "ValueError.__init__" x) := Heap.get?_push_at rfl rfl
  have k₃ : ∀ b o, h₂.get? b = some o → (h₂.push (kxs_mw "ValueError.__init__" x)).get? b = some o := fun b o e => Heap.get?_push_of_some _ e
  let H₃ := h₂.push (kxs_mw "ValueError.__init__" x)
  refine kxs_callWith1 (i := "ValueError.__init__") (x := x) (u := h₂.objs.size) (h₀ := Att.noObjs H₃) (L := h₂.objs.size + 7) (news := [(h₂.objs.size, kxs_mw "ValueError.__init__" x)]) (fun q hq => ?_) (List.Mem.head _) ?_
  · rcases List.mem_cons.mp hq with rfl | hq
    · exact ⟨hu, by show h₂.objs.size ≠ h₂.objs.size + 7; omega, Att.noObjs_get _ _⟩
    · cases hq
  refine wpAny_items_cons (Constant_str ?_)
  refine wpAny_items_nil ⟨hu, ?_⟩
  have X₃ : K.In (h₂.push (kxs_mw "ValueError.__init__" x)) := X₂.keeps k₃
  refine call_bound (X₃ _ _ hC) (k₃ _ _ hx₂) hu (by rw [sizeLine_eq]; exact (by decide : 1 ≤ 16777216)) fun h₄ k₄ e₄ => ?_
  -- self.fl = par
  have k14 : ∀ b o, b ≠ x → h₁.get? b = some o → h₄.get? b = some o := fun b o hb e => k₄ b o hb (k₃ b o (k₂ b o e))
  have xL : s.heap.objs.size ≠ x := Nat.ne_of_gt (Heap.lt_size hx)
  obtain ⟨oL, es, ep, hL, hr⟩ := hns
  have hns₄ : h₄.Ns s.heap.objs.size (fun y => ([(("self" : Str), Value.ref x), (par, v)] : List (Str × Value)).reverse.lookup y) := ⟨oL, es, ep, k14 _ _ xL hL, hr⟩
  have X₄ : K.In h₄ := fun a o e => k₄ a o (fun z => by rw [z, hnx] at e; cases e) (X₃ a o e)
  refine wpAt_of_wpAny (wpAny_execs_cons (plainObj_wpAny_Assign_Attribute ?_))
  refine wpAny_Name (wpAny_loadName_local rfl hloc hns₄ hpar ?_) hp1
  refine wpAny_Name (wpAny_loadName_local rfl rfl hns₄ hself ?_) (by decide)
  refine set_plain X₄ (ox := excO C h₂.objs.size.succ) (od := none) ⟨?_, rfl, rfl, trivial⟩ T.sa ?_
  · show h₄.get? x = some (excO C h₂.objs.size.succ)
    rw [e₄, Heap.size_push]
  have e₄' : h₄.get? x = some (excO C h₂.objs.size.succ) := by
    rw [e₄, Heap.size_push]
  refine exc_osa X₄ e₄' hcl (show refsVE (.ref C :: bm) = true from hbm) rfl T.noN (fun h₅ tk₅ dx k₅ dn dne hx₅ hn₅ => ?_)
  have z1 : s.heap.objs.size < h₄.objs.size := Heap.lt_size (k14 _ _ xL hL)
  refine wpAny_execs_nil (hq h₅ tk₅ _ dx ⟨fun b o hb e => k₅ b o hb (k14 b o hb (hk₁ b o e)), hx₅, Nat.le_of_lt (Nat.lt_of_lt_of_le z1 dn), dne, hn₅⟩)
theorem one_le (v : Value) : [v].length ≤ sizeLine := by
  rw [sizeLine_eq]
  exact (by decide : 1 ≤ 16777216)
/-- a made error -/
structure Made (fl : Str) (h h' : Heap) (e C d : Addr) (v : Value) : Prop where
  keep : ∀ b o, h.get? b = some o → h'.get? b = some o
  new : h.objs.size ≤ e
  obj : ∃ oe vs, h'.get? e = some oe ∧ oe.cls = .ref C ∧ oe.dict = some d ∧ oe.data = .fields vs ∧ vs[1]? = some .none
  dbig : h.objs.size ≤ d
  dne : d ≠ e
  ns : h'.Ns1 d (fun y => if y = fl then some v else none)
/-- the names of such an __init__ -/
structure Par (par : Str) : Prop where
  p1 : (par == ("__debug__" : Str)) = false
  p2 : ¬ par = "self"
  p3 : (sco par).names.lookup par = some .local
  p4 : (sco par).names.lookup ("super" : Str) = some .globalImplicit
  p5 : (sco par).names.lookup ("__class__" : Str) = some .free
theorem made_ok {v : Value} (T : Txt prog K mg par fl C fI) (p : Par par) (X : K.In s.heap) (G : s.heap.Ns mainGlobals mg) (B : s.heap.Ns builtinsNs mb) (hb : mb "super" = some (.type "super")) (hlim : s.heap.NoLimit) (hroom : A.depth + 1 < recursionLimit)
    (hq : ∀ h' tk e d, Made fl s.heap h' e C d v → R (.ok (.ret (.ref e))) { s with heap := h', toks := tk }) :
    codeAny (model prog w) A (.call (.ref C) ⟨[v], []⟩) R s := by
  obtain ⟨nm, q, N, bs, bm, sn, sub, ab, col, dd, k0, k1, k2, k3, k5, hC, hbm⟩ := T.cls
  obtain ⟨hp, g, dr, tk, os⟩ := s
  let hp2 := (hp.push (kdv_tup [v])).push (excO C hp.objs.size)
  have k : ∀ b o, hp.get? b = some o → hp2.get? b = some o := fun b o e => Heap.get?_push_of_some _ (Heap.get?_push_of_some _ e)
  have hget : hp2.get? (hp.objs.size + 1) = some (excO C hp.objs.size) := by
    show ((hp.push (kdv_tup [v])).push (excO C hp.objs.size)).get? (hp.objs.size + 1) = _
    heap_get
  have hsz : hp2.objs.size = hp.objs.size + 2 := by
    show ((hp.push (kdv_tup [v])).push (excO C hp.objs.size)).objs.size = _
    rw [Heap.size_push, Heap.size_push]
  have hnx : K.lookup (hp.objs.size + 1) = none := by
    cases e : K.lookup (hp.objs.size + 1) with
    | none => rfl
    | some o => exact absurd (Nat.lt_of_succ_lt (Heap.lt_size (show hp.get? _ = some o from X _ _ e))) (Nat.lt_irrefl _)
  refine call_own F.excBase_ValueError (fun Y => refsVE_contains Y bm hbm) (X _ _ hC) (looks_findIn X T.iC) (fun self => bind_fn X self T.tC) (one_le v) ?_
  refine init_ok (s := ⟨hp2, g, dr, tk, os⟩) T (X.keeps k) (G.keeps k) (B.keeps k) hb (hlim.keeps k) hget hnx (show A.depth + 1 < recursionLimit from hroom) p.p1 p.p2 p.p3 p.p4 p.p5 fun h' tk' t1 dx ⟨k', hx, dn, dne, hns⟩ => ?_
  have old : ∀ b o, hp.get? b = some o → h'.get? b = some o := fun b o e => k' b o (Nat.ne_of_lt (Nat.lt_succ_of_lt (Heap.lt_size e))) (k b o e)
  have dn' : hp2.objs.size ≤ dx := dn
  rw [hsz] at dn'
  exact ⟨rfl, hq h' tk' (hp.objs.size + 1) dx ⟨old, Nat.le_succ _, ⟨_, _, hx, rfl, rfl, rfl, rfl⟩, (by show hp.objs.size ≤ dx; omega), dne, hns⟩⟩
end
end BadX
end PySem
namespace L2
open PySem PySem.Spec PyProof.Rows
theorem relO_one {v : V} {v' : Value} (r : RelV v v') (fl f : Str) : RelO (List.lookup f [(fl, v)]) (if f = fl then some v' else none) := by
  by_cases hw : f = fl
  · subst hw
    rw [if_pos rfl]
    have q : List.lookup f [(f, v)] = some v := by simp [List.lookup]
    rw [q]
    exact r
  · rw [if_neg hw]
    have qw : (f == fl) = false := by simpa using hw
    have q2 : List.lookup f [(fl, v)] = none := by simp [List.lookup, qw]
    rw [q2]
    trivial
section
variable {X : Cx} {C fI : Addr}
/-- Cls(e), an own error with the one field fl -/
def tMkB (fl : Str) (C : Addr) (ta : TA) : St → Hp → XK → Prop := fun σ H Q => ta σ H fun vs H1 => ∃ v, vs = [v] ∧ ∀ d, H1 d = none → Q (.ref C) (some d) (upd H1 d (.xd [(fl, v)]))
theorem pmk_bad {x par fl : Str} {a : Expr} {ta : TA} {p pos : Pos} {k : Nat} (T : PySem.BadX.Txt X.prog X.K X.mg par fl C fI) (pr : PySem.BadX.Par par) (hm : X.mg x = some (.ref C)) (hr : Room k X.A) (ha : PA X [a] ta) (hg : Gl X x)
    (hdb : (x == ("__debug__" : Str)) = false := by decide)
    (he : starEach (a :: []) X.env = (false, eval a X.env) :: starEach [] X.env := by rfl) (hpl : (backTo pos (starEach [] X.env)).any (·.1) = false := by rfl) :
    PMk X (.Call (.Name x p) [a] [] pos) (tMkB fl C ta) := by
  intro pins s σ H Q I h
  refine wpAny_Call_Name_kw (ld_glob I hg hm ?_ hdb)
  refine PySem.W.callWith_K (h₀ := X.base) I.ok.mod.kin T.kC (thn (ha.run pos pins s σ H _ I h) fun us s1 hh => ?_) he hpl
  obtain ⟨vs, H1, I1, r1, v, ev, q1⟩ := hh
  subst ev
  refine ⟨I1.kIn, ?_⟩
  cases r1 with
  | cons rv rn =>
    rename_i v' us'
    cases rn
    show wpAny _ _ (call (.ref C) [v']) _ _ _
    have hlim := I1.nolimit
    obtain ⟨mb, hb1, hb2⟩ := I1.mod.blt
    have Gn : s1.heap.Ns mainGlobals X.mg := I1.mod.glob.keeps I1.bk
    have Bn : s1.heap.Ns builtinsNs mb := hb1.keeps I1.bk
    have hbs : mb "super" = some (.type "super") := (hb2 _ (by decide +kernel)).trans (by first | boot_by_name | rfl | kernel_rfl)
    obtain ⟨hp, g, dr, tk, os⟩ := s1
    refine wpAny_call (PySem.BadX.made_ok T pr I1.kIn Gn Bn hbs hlim (by have := hr.dp; omega) fun h' tk' e d M => ?_)
    show MkP X pins σ Q (.ref e) ⟨h', g, dr, tk', os⟩
    obtain ⟨oe, fv, hoe, hc, hd, hdat, h1⟩ := M.obj
    have hns := M.ns
    obtain ⟨G', g1, g2⟩ := restrict h' fun b => decide (b ≠ e)
    have gk : ∀ b, b ≠ e → G'.get? b = h'.get? b := fun b hb => g1 b (decide_eq_true hb)
    have ge : G'.get? e = none := g2 e (by simp)
    have old : ∀ b o, hp.get? b = some o → G'.get? b = some o := fun b o q => (gk b (Nat.ne_of_lt (Nat.lt_of_lt_of_le (Heap.lt_size q) M.new))).trans (M.keep b o q)
    have ob : ObjOk X.prog X.w (upd H1 d (.xd [(fl, v)])) G' d (.xd [(fl, v)]) :=
      ⟨_, hns.at (fun o q => (gk d M.dne).trans q), fun f => relO_one rv fl f⟩
    have J : Inv X pins σ (upd H1 d (.xd [(fl, v)])) ⟨G', g, dr, tk', os⟩ := I1.laid (t' := tk') old M.dbig ob
    refine ⟨e, oe, fv, ⟨G', g, dr, tk', os⟩, _, .ref C, some d, rfl, J, fun b o q => ?_, ge, hoe, ⟨hc, hd⟩, hdat, h1, ?_, rfl, I1.bare, raises_own T.exC T.tyC, q1 d (I1.hok.fresh M.dbig)⟩
    · by_cases hb : b = e
      · have q' : G'.get? b = some o := q
        rw [hb, ge] at q'; cases q'
      · exact (gk b hb).symm.trans q
    · rw [upd_ne (Ne.symm M.dne)]
      exact I1.hok.fresh M.new
/-- raise Cls(e) -/
def tRaiseB (fl : Str) (C : Addr) (W : WX) (ta : TA) : TS := fun _ σ H => tMkB fl C ta σ H fun cls d H' => W cls d σ H'
theorem ps_raiseB {x par fl : Str} {a : Expr} {ta : TA} {W : WX} {p pos pos2 : Pos} {k : Nat} (hc : X.calm = true) (T : PySem.BadX.Txt X.prog X.K X.mg par fl C fI) (pr : PySem.BadX.Par par) (hm : X.mg x = some (.ref C)) (hr : Room k X.A) (tk : Takes X W) (ha : PA X [a] ta) (hg : Gl X x)
    (hdb : (x == ("__debug__" : Str)) = false := by decide)
    (he : starEach (a :: []) X.env = (false, eval a X.env) :: starEach [] X.env := by rfl) (hpl : (backTo pos (starEach [] X.env)).any (·.1) = false := by rfl) :
    PS X (.Raise (some (.Call (.Name x p) [a] [] pos)) none pos2) (tRaiseB fl C W ta) := ps_raise hc tk (pmk_bad T pr hm hr ha hg hdb he hpl)
end
end L2

set_option Elab.async false
set_option linter.all false
set_option maxRecDepth 100000
set_option maxHeartbeats 4000000
namespace Ash
open PySem PySem.Spec PyProof.Rows L2
abbrev topS (i : Nat) : Stmt := PySem.Challenge.pw_asofhall_k02_whole_rows_that_stand.main.body.getD i (.Pass ⟨0, 0, 0, 0⟩)
/-- a def of the top by its name, with its promise -/
structure Cal (P : Program) (w : World) (K : PySem.W.Frag) (mg : Str → Option Value) (base : Heap) (CX : CXT) (x : Str) (k : Nat) (ps : List Str) (sp : Sp) : Prop where
  ex : ∃ f fd, mg x = some (.ref f) ∧ PySem.W.keepIn K (.ref f) = true ∧ Binds K fd ps [] ∧ FnOk P w K mg base CX k f fd ps sp
section
variable {X : Cx} {CX : CXT} {k j : Nat} {ps : List Str} {sp : Sp} {E : XK} {x : Str} {p pos : Pos} {e : Expr} {es : List Expr} {t : TA}
theorem pe_cal (G : Cal X.prog X.w X.K X.mg X.base CX x k ps sp) (hr : Room k X.A) (hx : Passes CX X E) (ha : PA X (e :: es) t) (hg : Gl X x := by rfl)
    (hdb : (x == ("__debug__" : Str)) = false := by decide) (he : starEach (e :: es) X.env = (false, eval e X.env) :: starEach es X.env := by rfl) (hpl : (backTo pos (starEach es X.env)).any (·.1) = false := by rfl) :
    PE X (.Call (.Name x p) (e :: es) [] pos) (tCall sp [] E t) := by
  obtain ⟨f, fd, hm, hk, hb, F⟩ := G.ex
  exact pe_call F hr hg hm hk hb .nil hx ha hdb he hpl
theorem pe_calS {E : L2.St → XK} (G : Cal X.prog X.w X.K X.mg X.base CX x k ps sp) (hr : Room k X.A) (hx : ∀ σ, PassesAt CX X σ (E σ)) (ha : PA X (e :: es) t) (hg : Gl X x := by rfl)
    (hdb : (x == ("__debug__" : Str)) = false := by decide) (he : starEach (e :: es) X.env = (false, eval e X.env) :: starEach es X.env := by rfl) (hpl : (backTo pos (starEach es X.env)).any (·.1) = false := by rfl) :
    PE X (.Call (.Name x p) (e :: es) [] pos) (tCallSD sp [] E t) := by
  obtain ⟨f, fd, hm, hk, hb, F⟩ := G.ex
  exact pe_callSD F hr hg hm hk hb .nil hx ha hdb he hpl
/-- a class by its name, with its __init__'s promise -/
structure Mak (P : Program) (w : World) (K : PySem.W.Frag) (mg : Str → Option Value) (base : Heap) (CX : CXT) (x : Str) (C : Addr) (k : Nat) (ps : List Str) (sp : Sp) : Prop where
  ex : ∃ f fd, Mk K C f ∧ mg x = some (.ref C) ∧ Binds K fd ps [] ∧ FnOk P w K mg base CX k f fd ps sp
theorem pe_mak {C : Addr} (G : Mak X.prog X.w X.K X.mg X.base CX x C k ps sp) (hr : Room (k + 1) X.A) (hx : Passes CX X E) (ha : PA X (e :: es) t) (hg : Gl X x := by rfl)
    (hdb : (x == ("__debug__" : Str)) = false := by decide) (he : starEach (e :: es) X.env = (false, eval e X.env) :: starEach es X.env := by rfl) (hpl : (backTo pos (starEach es X.env)).any (·.1) = false := by rfl) :
    PE X (.Call (.Name x p) (e :: es) [] pos) (tMake C sp [] E t) := by
  obtain ⟨f, fd, M, hm, hb, F⟩ := G.ex
  exact pe_make M F hr hg hm hb .nil hx ha hdb he hpl
/-- int(n) of an int -/
theorem call_intI : CallR X (.type "int") (fun xs H Q => ∃ i, xs = [.int i] ∧ Q (.int i) H) := by
  intro pins s σ H xs us Q I r h
  exact call_int1 pins s σ H xs us Q I r (.inl h)
end
/-- what is wanted of an exception at any slots of the def -/
def WEl (X : Cx) (W : WX) : XK := fun cls d H => ∀ σ : L2.St, σ.length = X.N.length → W cls d σ H
theorem passW {X : Cx} {W : WX} (tk : Takes X W) : Passes (L2.CX X.prog X.w) X (WEl X W) := fun _ σ _ _ e s' I c => tk e s' (XE.of_call I (fun cls d H' h => h σ I.len) c)
theorem passE {X : Cx} {E : XK} (tk : Takes X (fun cls d _ H => E cls d H)) : Passes (L2.CX X.prog X.w) X E := passes_call tk fun _ _ _ _ h => h
/-- a method of a class, with its promise -/
structure Met (P : Program) (w : World) (K : PySem.W.Frag) (mg : Str → Option Value) (base : Heap) (CX : CXT) (C : Addr) (m : Str) (k : Nat) (ps : List Str) (sp : Sp) : Prop where
  ex : ∃ f fd, Meth K C m f ∧ Binds K fd ps [] ∧ FnOk P w K mg base CX k f fd ps sp
/-- a dict comprehension over a walk: as lc_it -/
theorem dc_it {J : It} {n : Nat} {W0 : Hp → Prop} {Y : Nat → Hp → V → Hp → Prop} (wk : Walk J n W0 Y) {g : TG} {tt : TT} {tk tv : TE} {vs : List Nat} {σ : L2.St} {H1 : Hp} {D : Addr} {Qd : Hp → Prop} (Pv : Nat → Hp → Prop) (h0 : Pv 0 (upd H1 D (.dK []))) (hG : ∀ i H, i ≤ n → Pv i H → W0 H)
    (hs : ∀ i x H H', i < n → Pv i H → Y i H x H' → g x (wipe σ vs) H' fun σ2 H2 => wipe σ2 vs = wipe σ vs ∧ tt σ2 H2 fun b H3 =>
      if b = true then tk σ2 H3 fun y H4 => tv σ2 H4 fun z H5 => ∃ kvs k, y = kV k ∧ H5 D = some (.dK kvs) ∧ kvs.length < sizeLine ∧ Pv (i + 1) (upd H5 D (.dK (putK kvs k z))) else Pv (i + 1) H3) (hd : ∀ H, Pv n H → Qd H) :
    ∃ W : Nat → Nat → Hp → Prop, (∃ m, W 0 m (upd H1 D (.dK []))) ∧ ∀ i m H, W i m H →
      (J.stop i H ∧ Qd H) ∨ (J.go i H ∧ ∃ Nx : Hp → Prop, (∀ H', Nx H' → ∃ m', m' < m ∧ W (i + 1) m' H') ∧ ∀ x H', J.yld i H x H' → g x (wipe σ vs) H' fun σ2 H2 => wipe σ2 vs = wipe σ vs ∧ tt σ2 H2 fun b H3 =>
        if b = true then tk σ2 H3 fun y H4 => tv σ2 H4 fun z H5 => ∃ kvs k, y = kV k ∧ H5 D = some (.dK kvs) ∧ kvs.length < sizeLine ∧ Nx (upd H5 D (.dK (putK kvs k z))) else Nx H3) := by
  refine ⟨fun i m H => (m + i = n) ∧ Pv i H, ⟨n, rfl, h0⟩, ?_⟩
  rintro i m H ⟨hm, pv⟩
  by_cases c : i < n
  · refine .inr ⟨wk.goes i H c (hG i H (by omega) pv), Pv (i + 1), fun H' pv' => ⟨m - 1, by omega, by omega, pv'⟩, fun x H' y => ?_⟩
    exact hs i x H H' c pv (wk.yields i H x H' c (hG i H (by omega) pv) y)
  · have : i = n := by omega
    subst this
    exact .inl ⟨wk.stops H (hG _ H (Nat.le_refl _) pv), hd H pv⟩
/-- the built-in names that the top leaves alone -/
structure Blt (mg : Str → Option Value) : Prop where
  len : mg "len" = none
  int : mg "int" = none
  bool : mg "bool" = none
  str : mg "str" = none
  list : mg "list" = none
  tuple : mg "tuple" = none
  dict : mg "dict" = none
  isinstance : mg "isinstance" = none
  all : mg "all" = none
  range : mg "range" = none
  enumerate : mg "enumerate" = none
  sorted : mg "sorted" = none
  min : mg "min" = none
  max : mg "max" = none
  set : mg "set" = none
/-- data without depth -/
def flatD : PyData → Bool
  | .none => true
  | .bool _ => true
  | .int _ => true
  | .str x => PyData.strOk x
  | _ => false
theorem flat_lay : ∀ {ds : List PyData}, ds.all flatD = true → PyData.canLayAll0 ds = true ∧ PyData.depthAll ds ≤ 1
  | [], _ => by simp [PyData.canLayAll0, PyData.depthAll]
  | d :: ds, h => by
    rw [List.all_cons, Bool.and_eq_true] at h
    obtain ⟨h1, h2⟩ := flat_lay h.2
    cases d with
    | none => simp [PyData.canLayAll0, PyData.depthAll, PyData.canLay0, PyData.depth, h1, h2]
    | bool b => simp [PyData.canLayAll0, PyData.depthAll, PyData.canLay0, PyData.depth, h1, h2]
    | int b => simp [PyData.canLayAll0, PyData.depthAll, PyData.canLay0, PyData.depth, h1, h2]
    | str b =>
      have hb : PyData.strOk b = true := h.1
      simp [PyData.canLayAll0, PyData.depthAll, PyData.canLay0, PyData.depth, h1, h2, hb]
    | _ => exact absurd h.1 (by simp [flatD])
theorem shaped_flat {ds : List PyData} (h : ds.all flatD = true) : SeqAt.shaped (.tuple ds) = true := by
  obtain ⟨h1, h2⟩ := flat_lay h
  unfold SeqAt.shaped
  simp [PyData.canLay0, PyData.depth, h1]
  omega
/-- all but p stands -/
def But (p : Addr) (H H' : Hp) : Prop := ∀ b o, H b = some o → b ≠ p → H' b = some o
theorem But.refl (p : Addr) (H : Hp) : But p H H := fun _ _ h _ => h
theorem But.trans {p : Addr} {H H1 H2 : Hp} (a : But p H H1) (b : But p H1 H2) : But p H H2 := fun c o h n => b c o (a c o h n) n
theorem But.upd {p : Addr} {H H' : Hp} {o : HO} (a : But p H H') : But p H (L2.upd H' p o) := fun c u h n => by rw [upd_ne n]; exact a c u h n
theorem But.new {p q : Addr} {H H' : Hp} {o : HO} (a : But p H H') (h : H' q = none) (hp : H q = none ∨ q ≠ p := by first | exact .inl ‹_› | exact .inr ‹_›) : But p H (L2.upd H' q o) := fun c u hc n => by
  rw [upd_ne]
  · exact a c u hc n
  · intro z
    subst z
    rw [a c u hc n] at h
    cases h
theorem But.at {p q : Addr} {H H' : Hp} {o : HO} (a : But p H H') (h : H q = none) : But p H (L2.upd H' q o) := fun c u hc n => by
  rw [upd_ne (ne_of_none hc h)]
  exact a c u hc n
theorem sameAt {q : Addr} {H H' : Hp} {o : HO} (a : Same H H') (h : H q = none) : Same H (L2.upd H' q o) := fun c u hc => by
  rw [upd_ne (ne_of_none hc h)]
  exact a c u hc
theorem But.same {p : Addr} {H H' : Hp} (a : Same H H') : But p H H' := fun c o h _ => a c o h
theorem Same.new {q : Addr} {H H' : Hp} {o : HO} (a : Same H H') (h : H' q = none) : Same H (upd H' q o) := fun c u hc => by
  rw [upd_ne (ne_of_none (a c u hc) h)]
  exact a c u hc
theorem But.seq {K : PySem.W.Frag} {p a : Addr} {H H' : Hp} {xs : List V} (e : But p H H') (hn : ∀ o, H p = some o → ∀ ys, o ≠ .lst ys → True) (h : H a = some (.lst xs)) (n : a ≠ p) : SqL K H' a xs := .of (e _ _ h n)
end Ash

set_option Elab.async false
set_option linter.all false
set_option maxRecDepth 100000
set_option maxHeartbeats 4000000
namespace Ash
open PySem PySem.Spec PyProof.Rows L2
open C8 (pss_cut)
/-- the pool of drawn numbers at p, the script's copy at s -/
def PoolAt (H : Hp) (p s : Addr) : Prop := ∃ (ns : List Int) (i c k n : Int), H p = some (.lst [.ref s, .int i, .int c, .int k, .int n]) ∧ H s = some (.lst (ns.map V.int)) ∧ 0 ≤ i ∧ s ≠ p
theorem PoolAt.same {H H' : Hp} {p s : Addr} (h : PoolAt H p s) (e : Same H H') : PoolAt H' p s := by
  obtain ⟨ns, i, c, k, n, h1, h2, h3, h4⟩ := h
  exact ⟨ns, i, c, k, n, e _ _ h1, e _ _ h2, h3, h4⟩
theorem PoolAt.off {H : Hp} {p s q : Addr} {o : HO} (h : PoolAt H p s) (hp : q ≠ p) (hs : q ≠ s) : PoolAt (L2.upd H q o) p s := by
  obtain ⟨ns, i, c, k, n, h1, h2, h3, h4⟩ := h
  exact ⟨ns, i, c, k, n, by rw [upd_ne hp.symm]; exact h1, by rw [upd_ne hs.symm]; exact h2, h3, h4⟩
/-- from H0 to H nothing that was tracked has changed but the pool -/
structure Pl (H0 H : Hp) (p s : Addr) : Prop where
  now : PoolAt H p s
  op : H0 p ≠ none
  os : H0 s ≠ none
  but : But p H0 H
section
variable {H0 H H1 : Hp} {p s q : Addr} {o : HO}
theorem PoolAt.ne (h : PoolAt H p s) : H p ≠ none ∧ H s ≠ none := by
  obtain ⟨ns, i, c, k, n, h1, h2, h3, h4⟩ := h
  rw [h1, h2]
  exact ⟨Option.some_ne_none _, Option.some_ne_none _⟩
theorem Pl.refl (h : PoolAt H p s) : Pl H H p s := ⟨h, h.ne.1, h.ne.2, But.refl p H⟩
theorem Pl.at (h : Pl H0 H p s) (hq : H0 q = none) : Pl H0 (L2.upd H q o) p s :=
  ⟨h.now.off (fun z => h.op (z ▸ hq)) (fun z => h.os (z ▸ hq)), h.op, h.os, h.but.at hq⟩
theorem Pl.keep (h : Pl H0 H p s) {b : Addr} {u : HO} (e : H0 b = some u) (n : b ≠ p) : H b = some u := h.but b u e n
theorem Pl.free (h : Pl H0 H p s) (hq : H q = none) : H0 q = none := by
  cases e : H0 q with
  | none => rfl
  | some u =>
    by_cases hp : q = p
    · exact absurd (hp ▸ hq) h.now.ne.1
    · rw [h.but q u e hp] at hq
      cases hq
theorem Pl.trans (a : Pl H0 H p s) (b : Pl H H1 p s) : Pl H0 H1 p s := ⟨b.now, a.op, a.os, a.but.trans b.but⟩
/-- a new thing -/
theorem Pl.new (h : Pl H0 H p s) (hq : H q = none) : Pl H0 (L2.upd H q o) p s := h.at (h.free hq)
theorem Pl.same (h : Pl H0 H p s) (e : Same H H1) : Pl H0 H1 p s := ⟨h.now.same e, h.op, h.os, fun b u hb n => e b u (h.but b u hb n)⟩
end
def spPool (K : PySem.W.Frag) : Sp := fun vs H Q _ => ∃ (a : Addr) (ns : List Int), vs = [.ref a] ∧ SqL K H a (ns.map V.int) ∧ ∀ p s H', H p = none → PoolAt H' p s → Same H H' → Q (.ref p) H'
def spDraw : Sp := fun vs H Q _ => ∃ (p s : Addr) (many : Int), vs = [.ref p, .int many] ∧ PoolAt H p s ∧ 0 < many ∧ many < 2 ^ 200 ∧ ∀ (d : Int) H', 0 ≤ d → d < many → Pl H H' p s → Q (.int d) H'
section
variable {P : Program} {w : World} {K : PySem.W.Frag} {mg : Str → Option Value} {base : Heap}
abbrev s_l_pool : Stmt := topS 32
theorem sc_l_pool : FnScope ["script"] ["script"] (defScope s_l_pool) := ⟨rfl, rfl, rfl, by decide +kernel, rfl, by decide +kernel, by decide +kernel⟩
theorem ok_pool {f : Addr} {fd : FuncData} (F : Fun K "_law_pool" "_law_pool" s_l_pool f fd) (B : Blt mg) : FnOk P w K mg base CX0 1 f fd ["script"] (spPool K) := by
  refine F.ok sc_l_pool (fun vs H Q E h => ?_) (fun cdv A outer s H vs Q E hr h => ?_)
  · obtain ⟨a, ns, rfl, _⟩ := h
    rfl
  · obtain ⟨a, ns, rfl, hS, k⟩ := h
    refine ⟨_, (pss_one (ps_ret (pe_lst (pa_cons (pe_callTy call_list_of (by rfl) B.list (by decide +kernel) (pa_cons (pv 0) pa_nil)) (pa_cons pe_int (pa_cons pe_int (pa_cons pe_int (pa_cons pe_int pa_nil)))))))), ?_⟩
    refine ⟨_, rfl, _, _, rfl, .inl hS, fun l hl => ⟨(by show 5 ≤ sizeLine; decide), fun p hp => ?_⟩⟩
    have hpl : l ≠ p := fun z => by rw [z, upd_same] at hp; cases hp
    have hp0 : H p = none := by rw [upd_ne (Ne.symm hpl)] at hp; exact hp
    refine k p l _ hp0 ⟨ns, _, _, _, _, upd_same, (by rw [upd_ne hpl, upd_same]), (by decide), hpl⟩ ?_
    exact Same.new (Same.new (Same.refl H) hl) hp
abbrev s_l_draw : Stmt := topS 33
theorem sc_l_draw : FnScope ["pool", "many", "cell", "digit", "number"] ["pool", "many"] (defScope s_l_draw) := ⟨rfl, rfl, rfl, by decide +kernel, rfl, by decide +kernel, by decide +kernel⟩
theorem ok_draw {f : Addr} {fd : FuncData} (F : Fun K "_law_draw" "_law_draw" s_l_draw f fd) (B : Blt mg) : FnOk P w K mg base CX0 1 f fd ["pool", "many"] spDraw := by
  refine F.ok sc_l_draw (fun vs H Q E h => ?_) (fun cdv A outer s H vs Q E hr h => ?_)
  · obtain ⟨p, _, many, rfl, _⟩ := h
    rfl
  · obtain ⟨p, s, many, rfl, hPP, hm, hm2, kk⟩ := h
    obtain ⟨ns, i, c, k, n, hp, hs, hi, hsp⟩ := id hPP
    refine ⟨_, (pss_cons (ps_asg (pe_op op_add (pe_ix ix_list (pv 0) pe_int (fun _ _ => rfl)) pe_int) (pg_sub (pv 0) pe_int set_list))
    (pss_cut (ps_if (PW.pt (pw_and (pt_cmpR op_eq (pe_ix ix_list (pv 0) pe_int (fun _ _ => rfl)) pe_int (nomark _)) (pw_and1 (pt_cmpR op_lt (pe_ix ix_list (pv 0) pe_int (fun _ _ => rfl)) (pe_callB call_len_seq (by rfl) B.len (by decide +kernel) (pa_cons (pe_ix ix_list (pv 0) pe_int (fun _ _ => rfl)) pa_nil)) (nomark _)))))
      (pss_cons (ps_set (i := 2) sc_l_draw.nd rfl (Or.inl rfl) (pe_callTy call_intI (by rfl) B.int (by decide +kernel) (pa_cons (pe_ix ix_list (pe_ix ix_list (pv 0) pe_int (fun _ _ => rfl)) (pe_ix ix_list (pv 0) pe_int (fun _ _ => rfl)) (fun _ _ => rfl)) pa_nil)))
      (pss_cons (ps_asg (pe_op op_add (pe_ix ix_list (pv 0) pe_int (fun _ _ => rfl)) pe_int) (pg_sub (pv 0) pe_int set_list))
      (pss_one (ps_if (pt_cmpR op_ge (pv 2) (pe_op op_pow pe_int pe_int) (nomark _))
        (pss_one (ps_asg (pv 2) (pg_sub (pv 0) pe_int set_list)))
        (pss_one (ps_asg (pe_op op_mod (pe_callTy call_intI (by rfl) B.int (by decide +kernel) (pa_cons (pe_op op_add (pe_op op_add (pe_op op_mul (pe_ix ix_list (pv 0) pe_int (fun _ _ => rfl)) pe_int) (pe_op op_mul (pv 2) pe_int)) pe_int) pa_nil)) pe_int) (pg_sub (pv 0) pe_int set_list)))))))
      pss_nil)
    (pss_cons (ps_if (pt_cmpR op_gt (pe_ix ix_list (pv 0) pe_int (fun _ _ => rfl)) pe_int (nomark _))
      (pss_cons (ps_set (i := 3) sc_l_draw.nd rfl (Or.inl rfl) (pe_op op_mod (pe_callTy call_intI (by rfl) B.int (by decide +kernel) (pa_cons (pe_ix ix_list (pv 0) pe_int (fun _ _ => rfl)) pa_nil)) (pv 1)))
      (pss_cons (ps_asg (pe_op op_fdivW (pe_callTy call_intI (by rfl) B.int (by decide +kernel) (pa_cons (pe_ix ix_list (pv 0) pe_int (fun _ _ => rfl)) pa_nil)) (pv 1)) (pg_sub (pv 0) pe_int set_list))
      (pss_one (ps_ret (pv 3)))))
      pss_nil)
    (pss_cons (ps_set (i := 4) sc_l_draw.nd rfl (Or.inl rfl) (pe_op op_mod (pe_callTy call_intI (by rfl) B.int (by decide +kernel) (pa_cons (pe_op op_add (pe_op op_add (pe_ix ix_list (pv 0) pe_int (fun _ _ => rfl)) (pe_op op_mul (pe_ix ix_list (pv 0) pe_int (fun _ _ => rfl)) pe_int)) pe_int) pa_nil)) pe_int))
    (pss_cons (ps_set (i := 4) sc_l_draw.nd rfl (Or.inl rfl) (pe_op op_mod (pe_callTy call_intI (by rfl) B.int (by decide +kernel) (pa_cons (pe_op op_mul (pv 4) (pe_op op_add (pe_op op_fdiv (pv 4) pe_int) pe_int)) pa_nil)) pe_int))
    (pss_cons (ps_set (i := 4) sc_l_draw.nd rfl (Or.inl rfl) (pe_op op_mod (pe_callTy call_intI (by rfl) B.int (by decide +kernel) (pa_cons (pe_op op_mul (pv 4) (pe_op op_add (pe_op op_fdiv (pv 4) pe_int) pe_int)) pa_nil)) pe_int))
    (pss_cons (ps_asg (pv 4) (pg_sub (pv 0) pe_int set_list))
    (pss_one (ps_ret (pe_op op_mod (pe_callTy call_intI (by rfl) B.int (by decide +kernel) (pa_cons (pe_op op_fdiv (pv 4) pe_int) pa_nil)) (pv 1))))))))))), ?_⟩
    -- pool[3] = pool[3] + 1
    refine ⟨_, rfl, _, _, _, _, rfl, rfl, SqL.of hp, rfl, _, _, rfl, rfl, _, rfl, _, _, _, _, rfl, rfl, hp, rfl, ?_⟩
    -- the first if
    refine ⟨fun σ H1 => (∃ cell, σ = [some (.ref p), some (.int many), cell, none, none]) ∧ ∃ (i c k n : Int), H1 p = some (.lst [.ref s, .int i, .int c, .int k, .int n]) ∧ H1 s = some (.lst (ns.map V.int)) ∧ 0 ≤ i ∧ But p H H1, ?_, ?_⟩
    · generalize eH : upd H p (.lst _) = H1
      have hp1 : H1 p = some (.lst [.ref s, .int i, .int c, .int (k + 1), .int n]) := by rw [← eH]; exact upd_same
      have hs1 : H1 s = some (.lst (ns.map V.int)) := by rw [← eH, upd_ne hsp]; exact hs
      have hb1 : But p H H1 := by rw [← eH]; exact (But.refl p H).upd
      clear eH
      refine ⟨_, rfl, _, _, _, _, rfl, rfl, SqL.of hp1, rfl, rfl, _, rfl, ?_⟩
      refine ite2 (fun c2 => ?_) (fun c2 => ?_)
      · refine ⟨_, rfl, _, _, _, _, rfl, rfl, SqL.of hp1, rfl, _, rfl, _, _, _, _, rfl, rfl, SqL.of hp1, rfl, _, _, rfl, .inl (SqL.of hs1), _, _, rfl, rfl, _, rfl, ?_⟩
        refine ite2 (fun c3 => ?_) (fun c3 => ?_)
        · have c3' : i < (ns.map V.int).length := of_decide_eq_true c3
          obtain ⟨j, rfl⟩ : ∃ j : Nat, i = (j : Int) := ⟨i.toNat, by omega⟩
          have hj : j < ns.length := by rw [List.length_map] at c3'; omega
          -- cell = int(pool[0][pool[1]])
          refine ⟨_, rfl, _, _, _, _, rfl, rfl, SqL.of hp1, rfl, _, rfl, _, _, _, _, rfl, rfl, SqL.of hp1, rfl, _, _, _, V.int ns[j], rfl, rfl, SqL.of hs1, atI_nat (by rw [List.getElem?_map, List.getElem?_eq_getElem hj]; rfl), _, rfl, ?_⟩
          refine ⟨_, rfl, _, _, _, _, rfl, rfl, SqL.of hp1, rfl, _, _, rfl, rfl, _, rfl, _, _, _, _, rfl, rfl, hp1, rfl, ?_⟩
          refine ⟨_, rfl, _, _, rfl, rfl, ⟨by decide, by decide, by decide⟩, _, _, rfl, rfl, _, rfl, ?_⟩
          refine ite2 (fun c4 => ?_) (fun c4 => ?_)
          · refine ⟨_, rfl, _, rfl, _, _, _, _, rfl, rfl, upd_same, rfl, ⟨_, rfl⟩, _, _, _, _, upd_same, (by rw [upd_ne hsp, upd_ne hsp]; exact hs1), (by omega), hb1.upd.upd⟩
          · refine ⟨_, rfl, _, _, _, _, rfl, rfl, SqL.of upd_same, rfl, _, _, rfl, rfl, .inr ⟨by decide, by decide⟩, _, rfl, _, _, rfl, rfl, .inr ⟨by decide, by decide⟩, _, _, rfl, rfl, _, _, rfl, rfl, _, rfl, _, _, rfl, rfl, (by show (0 : Int) < 2147483647; decide), _, rfl, _, _, _, _, rfl, rfl, upd_same, rfl, ⟨_, rfl⟩, _, _, _, _, upd_same, (by rw [upd_ne hsp, upd_ne hsp]; exact hs1), (by omega), hb1.upd.upd⟩
        · exact ⟨⟨_, rfl⟩, _, _, _, _, hp1, hs1, hi, hb1⟩
      · exact ⟨⟨_, rfl⟩, _, _, _, _, hp1, hs1, hi, hb1⟩
    · rintro σ' H1 ⟨⟨cell, rfl⟩, i, c, k, n, hp1, hs1, hi, hb1⟩
      refine ⟨_, rfl, _, _, _, _, rfl, rfl, SqL.of hp1, rfl, _, _, rfl, rfl, _, rfl, ?_⟩
      refine ite2 (fun c2 => ?_) (fun c2 => ?_)
      · refine ⟨_, rfl, _, _, _, _, rfl, rfl, SqL.of hp1, rfl, _, rfl, _, rfl, _, _, rfl, rfl, hm, _, rfl, _, _, _, _, rfl, rfl, SqL.of hp1, rfl, _, rfl, _, rfl, _, _, rfl, rfl, wide_div (b := 200) hm (by omega) (by decide) (by decide), _, rfl, _, _, _, _, rfl, rfl, hp1, rfl, _, rfl, ?_⟩
        refine kk _ _ (Int.emod_nonneg _ (by omega)) (Int.emod_lt_of_pos _ hm) ⟨⟨ns, _, _, _, _, upd_same, (by rw [upd_ne hsp]; exact hs1), hi, hsp⟩, hPP.ne.1, hPP.ne.2, hb1.upd⟩
      · refine ⟨_, rfl, _, _, _, _, rfl, rfl, SqL.of hp1, rfl, _, rfl, _, _, _, _, rfl, rfl, SqL.of hp1, rfl, _, _, rfl, rfl, .inr ⟨by decide, by decide⟩, _, _, rfl, rfl, _, _, rfl, rfl, _, rfl, _, _, rfl, rfl, (by show (0 : Int) < 2147483647; decide), ?_⟩
        generalize ea : (n + k * 104729 + 1) % 2147483647 = a
        have a0 : 0 ≤ a := by rw [← ea]; exact Int.emod_nonneg _ (by decide)
        have a1 : a < 2147483647 := by rw [← ea]; exact Int.emod_lt_of_pos _ (by decide)
        refine ⟨_, rfl, _, rfl, _, _, rfl, rfl, ⟨by decide, by decide⟩, _, _, rfl, rfl, _, _, rfl, rfl, .inl ⟨by omega, by omega⟩, _, rfl, _, _, rfl, rfl, (by show (0 : Int) < 2147483647; decide), ?_⟩
        generalize eb : a * (a / 1009 + 69621) % 2147483647 = b
        have b0 : 0 ≤ b := by rw [← eb]; exact Int.emod_nonneg _ (by decide)
        have b1 : b < 2147483647 := by rw [← eb]; exact Int.emod_lt_of_pos _ (by decide)
        refine ⟨_, rfl, _, rfl, _, _, rfl, rfl, ⟨by decide, by decide⟩, _, _, rfl, rfl, _, _, rfl, rfl, .inl ⟨by omega, by omega⟩, _, rfl, _, _, rfl, rfl, (by show (0 : Int) < 2147483399; decide), ?_⟩
        refine ⟨_, rfl, _, rfl, _, _, _, _, rfl, rfl, hp1, rfl, _, rfl, _, _, rfl, rfl, ⟨by decide, by decide⟩, _, rfl, _, rfl, _, _, rfl, rfl, hm, ?_⟩
        refine kk _ _ (Int.emod_nonneg _ (by omega)) (Int.emod_lt_of_pos _ hm) ⟨⟨ns, _, _, _, _, upd_same, (by rw [upd_ne hsp]; exact hs1), hi, hsp⟩, hPP.ne.1, hPP.ne.2, hb1.upd⟩
end
end Ash

set_option Elab.async false
set_option linter.all false
set_option maxRecDepth 100000
set_option maxHeartbeats 4000000
namespace Ash
open PySem PySem.Spec PyProof.Rows L2
open C8 (pss_cut)
/-! ### names -/
def LET : List Nat := [97, 98, 99, 100, 101, 102, 103, 104, 105, 106, 107, 108, 109, 110, 111, 112, 113, 114, 115, 116, 117, 118, 119, 120, 121, 122]
abbrev abc : Str := "abcdefghijklmnopqrstuvwxyz"
theorem abc_let : abc.cps.toList = LET := by decide +kernel
theorem abc_size : abc.cps.size = 26 := by decide +kernel
/-- a name: 1 to 8 letters -/
def IsNm (z : Str) : Prop := 1 ≤ z.length ∧ z.length ≤ 8 ∧ ∀ c ∈ z.cps.toList, c ∈ LET
theorem let_small : ∀ c ∈ LET, c < 0x110000 := by decide
theorem nm_ok {z : Str} (h : IsNm z) : PyData.strOk z = true := by
  unfold PyData.strOk
  rw [← Array.all_toList, List.all_eq_true]
  exact fun c hc => decide_eq_true (let_small c (h.2.2 c hc))
theorem append_length (a b : Str) : (a ++ b).length = a.length + b.length := by
  show (a.cps ++ b.cps).size = a.cps.size + b.cps.size
  rw [Array.size_append]
theorem append_list (a b : Str) : (a ++ b).cps.toList = a.cps.toList ++ b.cps.toList := by
  show (a.cps ++ b.cps).toList = _
  rw [Array.toList_append]
theorem one_nm {c : Nat} (h : c ∈ LET) : IsNm ⟨#[c]⟩ := ⟨Nat.le_refl 1, (by show 1 ≤ 8; decide), fun d hd => by
  have e : d = c := by simpa using hd
  rw [e]
  exact h⟩
theorem inV_str {z : Str} : ∀ {l : List Str}, inV (.str z) (l.map V.str) = decide (z ∈ l)
  | [] => by simp [inV]
  | a :: l => by
    have ih := inV_str (z := z) (l := l)
    unfold inV at ih ⊢
    rw [List.map_cons, List.any_cons, ih]
    show ((a == z) || decide (z ∈ l)) = decide (z ∈ a :: l)
    by_cases h : a = z
    · subst h
      simp
    · have h' : ¬ z = a := fun q => h q.symm
      by_cases h2 : z ∈ l <;> simp [h, h', h2]
theorem flat_strs (l : List Str) : (l.map V.str).all flatV = true := by
  induction l with
  | nil => rfl
  | cons a l ih =>
    rw [List.map_cons, List.all_cons, ih]
    rfl
theorem sub_len {α : Type} [DecidableEq α] : ∀ {l m : List α}, l.Nodup → (∀ x ∈ l, x ∈ m) → l.length ≤ m.length
  | [], m, _, _ => Nat.zero_le _
  | a :: l, m, hn, h => by
    obtain ⟨h1, h2⟩ := List.nodup_cons.mp hn
    have ha : a ∈ m := h a List.mem_cons_self
    have ih := sub_len (l := l) (m := m.erase a) h2 fun x hx => (List.mem_erase_of_ne (fun z => h1 (by rw [← z]; exact hx))).mpr (h x (List.mem_cons_of_mem _ hx))
    rw [List.length_erase_of_mem ha] at ih
    have : 0 < m.length := List.length_pos_of_mem ha
    rw [List.length_cons]
    omega
theorem atI_natC {α : Type} {xs : List α} {j : Nat} (h : j < xs.length) : atI xs (j : Int) = some xs[j] := by
  unfold atI ixN
  rw [if_pos (by omega), if_pos (by omega), Option.bind_some, Int.toNat_natCast]
  exact List.getElem?_eq_getElem h
theorem let_strs : (LET.map fun c => (⟨#[c]⟩ : Str)).Nodup := by decide +kernel
theorem not_all {l : List Str} (hl : l.length ≤ 25) (h : ∀ c ∈ LET, (⟨#[c]⟩ : Str) ∈ l) : False := by
  have := sub_len let_strs (m := l) fun x hx => by
    obtain ⟨c, hc, rfl⟩ := List.mem_map.mp hx
    exact h c hc
  have e : (LET.map fun c => (⟨#[c]⟩ : Str)).length = 26 := by decide +kernel
  omega
def spNames : Sp := fun vs H Q _ => ∃ (p s : Addr) (many : Int), vs = [.ref p, .int many] ∧ PoolAt H p s ∧ 0 ≤ many ∧ many ≤ 25 ∧
  ∀ (q : Addr) (l : List Str) H', H q = none → H' q = some (.lst (l.map V.str)) → l.length = many.toNat → l.Nodup → (∀ z ∈ l, IsNm z) → Pl H H' p s → Q (.ref q) H'
section
variable {P : Program} {w : World} {K : PySem.W.Frag} {mg : Str → Option Value} {base : Heap}
abbrev CDraw (P : Program) (w : World) (K : PySem.W.Frag) (mg : Str → Option Value) (base : Heap) : Prop := Cal P w K mg base CX0 "_law_draw" 1 ["pool", "many"] spDraw
structure G1 (P : Program) (w : World) (K : PySem.W.Frag) (mg : Str → Option Value) (base : Heap) : Prop where
  law_draw : CDraw P w K mg base
abbrev s_l_names : Stmt := topS 34
theorem sc_l_names : FnScope ["pool", "many", "letters", "names", "k", "length", "name", "at", "letter"] ["pool", "many"] (defScope s_l_names) := ⟨rfl, rfl, rfl, by decide +kernel, rfl, by decide +kernel, by decide +kernel⟩
theorem ok_names {f : Addr} {fd : FuncData} (F : Fun K "_law_names" "_law_names" s_l_names f fd) (B : Blt mg) (G : G1 P w K mg base) : FnOk P w K mg base CX0 2 f fd ["pool", "many"] spNames := by
  refine F.ok sc_l_names (fun vs H Q E h => ?_) (fun cdv A outer s H vs Q E hr h => ?_)
  · obtain ⟨p, _, many, rfl, _⟩ := h
    rfl
  · obtain ⟨p, s0, many, rfl, hP, hm, hm2, kk⟩ := h
    refine ⟨_, (pss_cons (ps_set (i := 2) sc_l_names.nd rfl (Or.inl rfl) pe_str)
    (pss_cons (ps_set (i := 3) sc_l_names.nd rfl (Or.inl rfl) (pe_lst pa_nil))
    (pss_cons (ps_for PassesOwn.never rfl (pi_range1 (by rfl) B.range (pa_cons (pv 1) pa_nil)) (pg_name (i := 4) sc_l_names.nd rfl (Or.inl rfl))
      (pss_cons (ps_set (i := 5) sc_l_names.nd rfl (Or.inl rfl) pe_int)
      (pss_cut (ps_if (pt_cmpR op_eq (pe_cal G.law_draw (hr.mono (by decide)) pass0 (pa_cons (pv 0) (pa_cons pe_int pa_nil))) pe_int (nomark _))
        (pss_one (ps_set (i := 5) sc_l_names.nd rfl (Or.inl rfl) (pe_op op_add pe_int (pe_cal G.law_draw (hr.mono (by decide)) pass0 (pa_cons (pv 0) (pa_cons pe_int pa_nil))))))
        pss_nil)
      (pss_cons (ps_set (i := 6) sc_l_names.nd rfl (Or.inl rfl) pe_str)
      (pss_cut (ps_for PassesOwn.never rfl (pi_range1 (by rfl) B.range (pa_cons (pv 5) pa_nil)) (pg_name (i := 7) sc_l_names.nd rfl (Or.inl rfl))
        (pss_one (ps_set (i := 6) sc_l_names.nd rfl (Or.inl rfl) (pe_op op_add_str (pv 6) (pe_ix ix_str (pv 2) (pe_cal G.law_draw (hr.mono (by decide)) pass0 (pa_cons (pv 0) (pa_cons pe_int pa_nil))) (fun _ _ => rfl))))))
      (pss_cut (ps_for PassesOwn.never rfl (pi_str (pv 2)) (pg_name (i := 8) sc_l_names.nd rfl (Or.inl rfl))
        (pss_one (ps_if (PW.pt (pw_and (pt_cmpR op_in_seq (pv 6) (pv 3) rfl) (pw_and1 (pt_cmpR op_notIn_seq (pv 8) (pv 3) rfl))))
          (pss_one (ps_set (i := 6) sc_l_names.nd rfl (Or.inl rfl) (pv 8)))
          pss_nil)))
      (pss_one (ps_expr (pe_bm PySem.F.plainAttrs_list PySem.F.slot_list_append PySem.F.type_list_append mt_append (pv 3) (pa_cons (pv 6) pa_nil))))))))))
    (pss_one (ps_ret (pv 3)))))), ?_⟩
    refine ⟨(by show 0 ≤ sizeLine; decide), fun q hq => ?_⟩
    have hr1 : Room 1 _ := hr.mono (by decide)
    refine ⟨_, rfl, _, rfl, (by omega), (by omega), for_range (n := many.toNat) (fun i σ H1 => (∃ a b c d e, σ = [some (.ref p), some (.int many), some (.str abc), some (.ref q), a, b, c, d, e]) ∧ ∃ l : List Str, H1 q = some (.lst (l.map V.str)) ∧ l.length = i ∧ l.Nodup ∧ (∀ z ∈ l, IsNm z) ∧ Pl H H1 p s0) ?_ ?_ ?_⟩
    · exact ⟨⟨_, _, _, _, _, rfl⟩, [], upd_same, rfl, List.nodup_nil, (fun z hz => nomatch hz), (Pl.refl hP).at hq⟩
    · rintro i σ H1 hi ⟨⟨a, b, c, d, e, rfl⟩, l, hl, hlen, hnd, hnm, PL⟩
      have hqp : q ≠ p := fun z => hP.ne.1 (z ▸ hq)
      -- length
      refine ⟨fun σ H2 => (∃ k len c d e, σ = [some (.ref p), some (.int many), some (.str abc), some (.ref q), k, some (.int len), c, d, e] ∧ 1 ≤ len ∧ len ≤ 8) ∧ Pl H1 H2 p s0, ?_, ?_⟩
      · refine ⟨_, rfl, p, s0, 3, rfl, PL.now, (by decide), (by decide), fun x H2 h0 h3 P2 => ⟨rfl, _, rfl, ?_⟩⟩
        refine ite2 (fun c2 => ?_) (fun c2 => ?_)
        · refine ⟨_, rfl, p, s0, 8, rfl, P2.now, (by decide), (by decide), fun y H3 y0 y8 P3 => ?_⟩
          exact ⟨_, _, rfl, rfl, ⟨_, _, _, _, _, rfl, by omega, by omega⟩, P2.trans P3⟩
        · exact ⟨⟨_, _, _, _, _, rfl, by omega, by omega⟩, P2⟩
      rintro σ H2 ⟨⟨k, len, c, d, e, rfl, hlo, hhi⟩, P2⟩
      -- name
      refine ⟨fun σ H3 => (∃ k len nm d e, σ = [some (.ref p), some (.int many), some (.str abc), some (.ref q), k, len, some (.str nm), d, e] ∧ IsNm nm) ∧ Pl H1 H3 p s0, ?_, ?_⟩
      · refine ⟨_, rfl, _, rfl, (by omega), (by omega), for_range (n := len.toNat) (fun j σ H3 => (∃ d nm, σ = [some (.ref p), some (.int many), some (.str abc), some (.ref q), k, some (.int len), some (.str nm), d, e] ∧ nm.length = j ∧ ∀ c ∈ nm.cps.toList, c ∈ LET) ∧ Pl H1 H3 p s0) ?_ ?_ ?_⟩
        · exact ⟨⟨_, _, rfl, rfl, fun c hc => by cases hc⟩, P2⟩
        · rintro j σ H3 hj ⟨⟨d, nm, rfl, hnl, hnc⟩, P3⟩
          refine ⟨_, rfl, _, rfl, _, rfl, p, s0, 26, rfl, P3.now, (by decide), (by decide), fun x H4 x0 x26 P4 => ?_⟩
          obtain ⟨g, rfl⟩ : ∃ g : Nat, x = (g : Int) := ⟨x.toNat, by omega⟩
          have hg : g < LET.length := by show g < 26; omega
          refine ⟨_, _, LET[g], rfl, rfl, (by show abc.cps.size ≤ sizeLine; rw [abc_size]; decide), (by rw [abc_let]; exact atI_natC hg), _, _, rfl, rfl, ?_, ?_⟩
          · show nm.length + 1 ≤ sizeLine
            rw [sizeLine_eq]
            omega
          · refine ⟨⟨_, _, rfl, ?_, ?_⟩, P3.trans P4⟩
            · rw [append_length, hnl]
              rfl
            · intro c hc
              rw [append_list] at hc
              rcases List.mem_append.mp hc with hc | hc
              · exact hnc c hc
              · have e : c = LET[g] := by simpa using hc
                rw [e]
                exact List.getElem_mem hg
        · rintro σ H3 ⟨⟨d, nm, rfl, hnl, hnc⟩, P3⟩
          exact ⟨⟨_, _, _, _, _, rfl, by omega, by omega, hnc⟩, P3⟩
      rintro σ H3 ⟨⟨k, len, nm, d, e, rfl, hN⟩, P3⟩
      -- another name
      have hq3 : H3 q = some (.lst (l.map V.str)) := P3.keep hl hqp
      refine ⟨fun σ H4 => (∃ k len nm d e, σ = [some (.ref p), some (.int many), some (.str abc), some (.ref q), k, len, some (.str nm), d, e] ∧ IsNm nm ∧ nm ∉ l) ∧ H4 = H3, ?_, ?_⟩
      · refine ⟨_, rfl, _, rfl, for_it (walk_str (z := abc)) (fun j σ H4 => (∃ nm e, σ = [some (.ref p), some (.int many), some (.str abc), some (.ref q), k, len, some (.str nm), d, e] ∧ IsNm nm ∧ (nm ∈ l → ∀ (i : Nat) (x : Nat), i < j → LET[i]? = some x → (⟨#[x]⟩ : Str) ∈ l)) ∧ H4 = H3) ?_ (fun _ _ _ _ _ => trivial) ?_ ?_⟩
        · exact ⟨⟨_, _, rfl, hN, fun _ i x hi => by omega⟩, rfl⟩
        · rintro j x σ H4 H5 hj ⟨⟨nm, e, rfl, hN, hall⟩, rfl⟩ ⟨rfl, c, hc, rfl⟩
          have hc' : LET[j]? = some c := by
            rw [← abc_let, Array.getElem?_toList]
            exact hc
          have hcm : c ∈ LET := List.mem_of_getElem? hc'
          refine ⟨_, rfl, _, rfl, _, _, rfl, .inl (SqL.of hq3), rfl, flat_strs l, _, rfl, ?_⟩
          rw [if_neg (by decide), inV_str]
          refine ite2 (fun c2 => ?_) (fun c2 => ?_)
          · have c2 : nm ∈ l := of_decide_eq_true c2
            refine ⟨_, rfl, _, rfl, _, _, rfl, .inl (SqL.of hq3), rfl, flat_strs l, _, rfl, ?_⟩
            rw [if_pos rfl, inV_str]
            refine ite2 (fun c3 => ?_) (fun c3 => ?_)
            · have c3 : ¬ (⟨#[c]⟩ : Str) ∈ l := by simpa using c3
              exact ⟨_, rfl, ⟨_, _, rfl, one_nm hcm, fun z => absurd z c3⟩, rfl⟩
            · have c3 : (⟨#[c]⟩ : Str) ∈ l := by simpa using c3
              refine ⟨⟨_, _, rfl, hN, fun _ i x hi hx => ?_⟩, rfl⟩
              by_cases hij : i < j
              · exact hall c2 i x hij hx
              · have : i = j := by omega
                subst this
                rw [hc'] at hx
                cases hx
                exact c3
          · have c2 : ¬ nm ∈ l := by simpa using c2
            exact ⟨⟨_, _, rfl, hN, fun z => absurd z c2⟩, rfl⟩
        · rintro σ H4 ⟨⟨nm, e, rfl, hN, hall⟩, rfl⟩
          refine ⟨⟨_, _, _, _, _, rfl, hN, fun z => ?_⟩, rfl⟩
          refine not_all (l := l) (by omega) fun c hc => ?_
          obtain ⟨i, hi, e2⟩ := List.getElem_of_mem hc
          exact hall z i c (by rw [abc_size]; exact hi) (by rw [List.getElem?_eq_getElem hi, e2])
      rintro σ H4 ⟨⟨k, len, nm, d, e, rfl, hN, hnl⟩, rfl⟩
      refine ⟨_, rfl, .inl ⟨rfl, _, SqL.of hq3⟩, _, rfl, q, _, _, rfl, rfl, hq3, (by rw [List.length_map]; exact small1000 (by omega)), ?_⟩
      refine ⟨⟨_, _, _, _, _, rfl⟩, l ++ [nm], ?_, ?_, nd_snoc hnd hnl, ?_, (PL.trans P3).at hq⟩
      · rw [upd_same, List.map_append]
        rfl
      · rw [List.length_append, hlen]
        rfl
      · intro z hz
        rcases List.mem_append.mp hz with hz | hz
        · exact hnm z hz
        · rw [List.mem_singleton.mp hz]
          exact hN
    · rintro σ H1 ⟨⟨a, b, c, d, e, rfl⟩, l, hl, hlen, hnd, hnm, PL⟩
      exact ⟨_, rfl, kk q l H1 hq hl hlen hnd hnm PL⟩
end
end Ash

set_option Elab.async false
set_option linter.all false
set_option maxRecDepth 100000
set_option maxHeartbeats 4000000
namespace Ash
open PySem PySem.Spec PyProof.Rows L2
open C8 (pss_cut)
/-- a book's lates as a dict's pairs -/
def LK (L : List (Str × Int)) : List (Key × V) := L.map fun x => (Sum.inr x.1, V.int x.2)
structure Lates (L : List (Str × Int)) : Prop where
  some_ : 1 ≤ L.length
  few : L.length ≤ 8
  nd : (L.map (·.1)).Nodup
  nm : ∀ x ∈ L, IsNm x.1
  lo : ∀ x ∈ L, 0 ≤ x.2
  hi : ∀ x ∈ L, x.2 ≤ 1000000
theorem LK_len (L : List (Str × Int)) : (LK L).length = L.length := List.length_map _
theorem LK_val : ∀ (L : List (Str × Int)) (z : Str), valV (LK L) (Sum.inr z : Key) = (L.lookup z).map V.int
  | [], z => rfl
  | a :: L, z => by
    have ih := LK_val L z
    by_cases h : a.1 = z
    · have h' : (z == a.1) = true := by simpa using h.symm
      show valV ((Sum.inr a.1, V.int a.2) :: LK L) (Sum.inr z : Key) = _
      rw [valV_pos (by rw [h])]
      obtain ⟨a1, a2⟩ := a
      simp only [List.lookup, h', Option.map_some]
    · have h' : (z == a.1) = false := by simpa using fun q => h q.symm
      show valV ((Sum.inr a.1, V.int a.2) :: LK L) (Sum.inr z : Key) = _
      rw [valV_neg (fun q => h (Sum.inr.inj q)), ih]
      obtain ⟨a1, a2⟩ := a
      simp only [List.lookup, h']
theorem lookup_none : ∀ {L : List (Str × Int)} {z : Str}, z ∉ L.map (·.1) → L.lookup z = none
  | [], _, _ => rfl
  | (a1, a2) :: L, z, h => by
    have h1 : ¬ z = a1 := fun q => h (by rw [q]; exact List.mem_cons_self)
    have h' : (z == a1) = false := by simpa using h1
    simp only [List.lookup, h']
    exact lookup_none fun q => h (List.mem_cons_of_mem _ q)
def spLates : Sp := fun vs H Q _ => ∃ (p s : Addr), vs = [.ref p] ∧ PoolAt H p s ∧
  ∀ (d : Addr) (L : List (Str × Int)) H', H d = none → H' d = some (.dK (LK L)) → Lates L → Pl H H' p s → Q (.ref d) H'
section
variable {P : Program} {w : World} {K : PySem.W.Frag} {mg : Str → Option Value} {base : Heap}
structure G2 (P : Program) (w : World) (K : PySem.W.Frag) (mg : Str → Option Value) (base : Heap) : Prop extends G1 P w K mg base where
  law_names : Cal P w K mg base CX0 "_law_names" 2 ["pool", "many"] spNames
abbrev s_l_lates : Stmt := topS 35
theorem sc_l_lates : FnScope ["pool", "many", "lates", "name", "kind"] ["pool"] (defScope s_l_lates) := ⟨rfl, rfl, rfl, by decide +kernel, rfl, by decide +kernel, by decide +kernel⟩
theorem ok_lates {f : Addr} {fd : FuncData} (F : Fun K "_law_lates" "_law_lates" s_l_lates f fd) (B : Blt mg) (G : G2 P w K mg base) : FnOk P w K mg base CX0 3 f fd ["pool"] spLates := by
  refine F.ok sc_l_lates (fun vs H Q E h => ?_) (fun cdv A outer s H vs Q E hr h => ?_)
  · obtain ⟨p, _, rfl, _⟩ := h
    rfl
  · obtain ⟨p, s0, rfl, hP, kk⟩ := h
    have hu := hu_of hr
    refine ⟨_, (pss_cons (ps_set (i := 1) sc_l_lates.nd rfl (Or.inl rfl) (pe_op op_add pe_int (pe_cal G.law_draw (hr.mono (by decide)) pass0 (pa_cons (pv 0) (pa_cons pe_int pa_nil)))))
    (pss_cut (ps_if (pt_cmpR op_eq (pe_cal G.law_draw (hr.mono (by decide)) pass0 (pa_cons (pv 0) (pa_cons pe_int pa_nil))) pe_int (nomark _))
      (pss_one (ps_set (i := 1) sc_l_lates.nd rfl (Or.inl rfl) (pe_op op_add pe_int (pe_cal G.law_draw (hr.mono (by decide)) pass0 (pa_cons (pv 0) (pa_cons pe_int pa_nil))))))
      pss_nil)
    (pss_cons (ps_set (i := 2) sc_l_lates.nd rfl (Or.inl rfl) pe_dnewK)
    (pss_cons (ps_for PassesOwn.never rfl (pi_list (pe_cal G.law_names (hr.mono (by decide)) pass0 (pa_cons (pv 0) (pa_cons (pv 1) pa_nil)))) (pg_name (i := 3) sc_l_lates.nd rfl (Or.inl rfl))
      (pss_cons (ps_set (i := 4) sc_l_lates.nd rfl (Or.inl rfl) (pe_cal G.law_draw (hr.mono (by decide)) pass0 (pa_cons (pv 0) (pa_cons pe_int pa_nil))))
      (pss_one (ps_dput hu (pv 2) (pv 3) (pe_ix ix_list (pe_lst (pa_cons pe_int (pa_cons (pe_cal G.law_draw (hr.mono (by decide)) pass0 (pa_cons (pv 0) (pa_cons pe_int pa_nil))) (pa_cons (pe_cal G.law_draw (hr.mono (by decide)) pass0 (pa_cons (pv 0) (pa_cons pe_int pa_nil))) (pa_cons (pe_cal G.law_draw (hr.mono (by decide)) pass0 (pa_cons (pv 0) (pa_cons (pe_op op_add (pe_op op_pow pe_int pe_int) pe_int) pa_nil))) pa_nil))))) (pv 4) (fun _ _ => rfl)) rfl))))
    (pss_one (ps_ret (pv 2))))))), ?_⟩
    -- many
    refine ⟨_, rfl, p, s0, 3, rfl, hP, (by decide), (by decide), fun x H1 x0 x3 P1 => ⟨_, _, rfl, rfl, ?_⟩⟩
    refine ⟨fun σ H2 => (∃ many b c d, σ = [some (.ref p), some (.int many), b, c, d] ∧ 1 ≤ many ∧ many ≤ 8) ∧ Pl H H2 p s0, ?_, ?_⟩
    · refine ⟨_, rfl, p, s0, 12, rfl, P1.now, (by decide), (by decide), fun y H2 y0 y3 P2 => ⟨rfl, _, rfl, ?_⟩⟩
      refine ite2 (fun c2 => ?_) (fun c2 => ?_)
      · exact ⟨_, rfl, p, s0, 8, rfl, P2.now, (by decide), (by decide), fun z H3 z0 z3 P3 => ⟨_, _, rfl, rfl, ⟨_, _, _, _, rfl, by omega, by omega⟩, (P1.trans P2).trans P3⟩⟩
      · exact ⟨⟨_, _, _, _, rfl, by omega, by omega⟩, P1.trans P2⟩
    rintro σ H2 ⟨⟨many, b, c, e, rfl, m1, m8⟩, P2⟩
    intro d hd
    have hd0 := P2.free hd
    have P3 : Pl H (upd H2 d (.dK [])) p s0 := P2.at hd0
    refine ⟨_, rfl, _, rfl, p, s0, many, rfl, P3.now, (by omega), (by omega), fun q l H4 hq hl hlen hnd hnm P4 => ?_⟩
    have hdp : d ≠ p := fun z => by rw [z] at hd; exact P2.now.ne.1 hd
    have hd4 : H4 d = some (.dK []) := P4.keep upd_same hdp
    have hdq : q ≠ d := fun z => by rw [z, upd_same] at hq; cases hq
    have hqp : q ≠ p := fun z => by rw [z] at hq; exact P3.now.ne.1 hq
    have hq0 : H q = none := P3.free hq
    refine ⟨q, rfl, ⟨_, SqL.of hl⟩, for_list (K := K) (a := q) (xs := l.map V.str) (fun i σ H5 => (∃ a b, σ = [some (.ref p), some (.int many), some (.ref d), a, b]) ∧ H5 q = some (.lst (l.map V.str)) ∧ (∃ L : List (Str × Int), H5 d = some (.dK (LK L)) ∧ L.map (·.1) = l.take i ∧ ∀ x ∈ L, 0 ≤ x.2 ∧ x.2 ≤ 1000000) ∧ Pl H H5 p s0) ?_ (fun i σ H5 _ hv => SqL.of hv.2.1) ?_ ?_⟩
    · exact ⟨⟨_, _, rfl⟩, hl, ⟨[], hd4, rfl, fun x hx => nomatch hx⟩, P3.trans P4⟩
    · rintro i y σ H5 hi ⟨⟨a, b, rfl⟩, hq5, ⟨L, hd5, hL, hLb⟩, P5⟩
      obtain ⟨nm, hn, rfl⟩ : ∃ nm, l[i]? = some nm ∧ y = V.str nm := by
        rw [List.getElem?_map] at hi
        cases e : l[i]? with
        | none => rw [e] at hi; cases hi
        | some z => rw [e] at hi; exact ⟨z, rfl, (Option.some.inj hi).symm⟩
      have hil : i < l.length := (List.getElem?_eq_some_iff.mp hn).1
      have hnL : nm ∉ L.map (·.1) := by
        rw [hL]
        intro hm
        obtain ⟨j, hj, e⟩ := List.getElem_of_mem hm
        rw [List.length_take] at hj
        rw [List.getElem_take] at e
        have := nd_ix hnd (List.getElem?_eq_some_iff.mpr ⟨by omega, e⟩) hn
        omega
      have hLl : L.length = i := by
        have := congrArg List.length hL
        rw [List.length_map, List.length_take] at this
        omega
      refine ⟨_, rfl, p, s0, 4, rfl, P5.now, (by decide), (by decide), fun kind H6 k0 k4 P6 => ?_⟩
      refine ⟨_, rfl, p, s0, 4, rfl, P6.now, (by decide), (by decide), fun v1 H7 a0 a1 P7 => ?_⟩
      refine ⟨_, rfl, p, s0, 8, rfl, P7.now, (by decide), (by decide), fun v2 H8 b0 b1 P8 => ?_⟩
      refine ⟨_, rfl, _, _, rfl, rfl, ⟨by decide, by decide, by decide⟩, _, _, rfl, rfl, p, s0, _, rfl, P8.now, (by decide), (by decide), fun v3 H9 c0 c1 P9 => ⟨(by show 4 ≤ sizeLine; decide), fun u hu9 => ?_⟩⟩
      have c1 : v3 < 1000001 := c1
      have P59 : Pl H5 H9 p s0 := ((P6.trans P7).trans P8).trans P9
      have hdu : d ≠ u := fun z => by rw [← z, P59.keep hd5 hdp] at hu9; cases hu9
      have hqu : q ≠ u := fun z => by rw [← z, P59.keep hq5 hqp] at hu9; cases hu9
      obtain ⟨v, hv, vge, vle⟩ : ∃ v : Int, atI ([V.int 0, V.int v1, V.int v2, V.int v3]) kind = some (V.int v) ∧ 0 ≤ v ∧ v ≤ 1000000 := by
        have : kind = 0 ∨ kind = 1 ∨ kind = 2 ∨ kind = 3 := by omega
        rcases this with rfl | rfl | rfl | rfl
        · exact ⟨0, rfl, by omega, by omega⟩
        · exact ⟨v1, rfl, by omega, by omega⟩
        · exact ⟨v2, rfl, by omega, by omega⟩
        · exact ⟨v3, rfl, by omega, by omega⟩
      have hdX : (upd H9 u (.lst [V.int 0, V.int v1, V.int v2, V.int v3])) d = some (.dK (LK L)) := by rw [upd_ne hdu]; exact P59.keep hd5 hdp
      refine ⟨_, rfl, _, _, _, _, rfl, rfl, SqL.of upd_same, hv, _, rfl, _, rfl, d, _, rfl, DPut.k (k := Sum.inr nm) hdX (by rw [LK_len]; exact small1000 (by omega)), ?_⟩
      have hput : putK (LK L) (Sum.inr nm : Key) (V.int v) = LK (L ++ [(nm, v)]) := by
        rw [putK_new _ (by rw [LK_val, lookup_none hnL]; rfl)]
        unfold LK
        rw [List.map_append]
        rfl
      rw [hput]
      refine ⟨⟨_, _, rfl⟩, ?_, ⟨L ++ [(nm, v)], upd_same, ?_, ?_⟩, ?_⟩
      · rw [upd_ne hdq, upd_ne hqu]
        exact P59.keep hq5 hqp
      · rw [List.map_append, hL, List.take_add_one, hn]
        rfl
      · intro x hx
        rcases List.mem_append.mp hx with hx | hx
        · exact hLb x hx
        · rw [List.mem_singleton.mp hx]
          exact ⟨vge, vle⟩
      · exact (((P5.trans P59).new hu9).at hd0)
    · rintro σ H5 ⟨⟨a, b, rfl⟩, hq5, ⟨L, hd5, hL, hLb⟩, P5⟩
      rw [List.length_map, List.take_length] at hL
      have hLl : L.length = l.length := by rw [← hL, List.length_map]
      refine ⟨_, rfl, kk d L H5 hd0 hd5 ⟨by omega, by omega, by rw [hL]; exact hnd, fun x hx => hnm _ (by rw [← hL]; exact List.mem_map_of_mem hx), fun x hx => (hLb x hx).1, fun x hx => (hLb x hx).2⟩ P5⟩
end
end Ash

set_option Elab.async false
set_option linter.all false
set_option maxRecDepth 100000
set_option maxHeartbeats 4000000
namespace Ash
open PySem PySem.Spec PyProof.Rows L2
open C8 (pss_cut)
/-! ### kinds of values -/
def NotInt (K : PySem.W.Frag) (H : Hp) (v : V) : Prop := ∃ t bi bb, TyX K H v t ∧ PySem.W.kitOne K t (.type "int") = some bi ∧ PySem.W.kitOne K t (.type "bool") = some bb ∧ (bi && !bb) = false
def NotStr (K : PySem.W.Frag) (H : Hp) (v : V) : Prop := ∃ t, TyX K H v t ∧ PySem.W.kitOne K t (.type "str") = some false
def NotTup (K : PySem.W.Frag) (H : Hp) (v : V) : Prop := ∃ t, TyX K H v t ∧ PySem.W.kitOne K t (.type "tuple") = some false
def spIsInt (K : PySem.W.Frag) : Sp := fun vs H Q _ => ∃ v, vs = [v] ∧ ((∃ n, v = .int n ∧ Q (.bl true) H) ∨ (NotInt K H v ∧ Q (.bl false) H))
def spIsNat (K : PySem.W.Frag) : Sp := fun vs H Q _ => ∃ v, vs = [v] ∧ ((∃ n, v = .int n ∧ Q (.bl (decide (0 ≤ n))) H) ∨ (NotInt K H v ∧ Q (.bl false) H))
/-- the test of names -/
def nmB (z : Str) : Bool := decide (1 ≤ z.length ∧ z.length ≤ 8) && z.cps.toList.all fun c => decide (c ∈ LET)
theorem nmB_iff (z : Str) : nmB z = true ↔ IsNm z := by
  unfold nmB IsNm
  simp only [Bool.and_eq_true, decide_eq_true_eq, List.all_eq_true]
  exact ⟨fun ⟨⟨a, b⟩, c⟩ => ⟨a, b, c⟩, fun ⟨a, b, c⟩ => ⟨⟨a, b⟩, c⟩⟩
def spIsName (K : PySem.W.Frag) : Sp := fun vs H Q _ => ∃ v, vs = [v] ∧ ((∃ z, v = .str z ∧ z.length ≤ sizeLine ∧ ∀ H', Same H H' → Q (.bl (nmB z)) H') ∨ (NotStr K H v ∧ Q (.bl false) H))
def spAreInts (K : PySem.W.Frag) : Sp := fun vs H Q _ => ∃ (a : Addr) (ns : List Int), vs = [.ref a] ∧ SqT K H a (ns.map V.int) ∧ ns.length ≤ 100 ∧ ∀ H', Same H H' → Q (.bl true) H'
def spIsLate (K : PySem.W.Frag) : Sp := fun vs H Q _ => ∃ n : Int, vs = [.int n] ∧ Q (.bl (decide (0 ≤ n ∧ n ≤ 1000000))) H
def spIsLates (K : PySem.W.Frag) : Sp := fun vs H Q _ => ∃ (d : Addr) (L : List (Str × Int)), vs = [.ref d] ∧ H d = some (.dK (LK L)) ∧ Lates L ∧ ∀ H', Same H H' → Q (.bl true) H'
theorem list_take {α : Type} {l : List α} {i : Nat} {x : α} (h : l[i]? = some x) : l.take (i + 1) = l.take i ++ [x] := by
  rw [List.take_add_one, h]
  rfl
theorem list_lit (l : List Nat) : ∀ i x, l[i]? = some x → l.take (i + 1) = l.take i ++ [x] := fun i x h => by
  rw [List.take_add_one, h]
  rfl
structure Cst (mg : Str → Option Value) : Prop where
  k_LETTERS : ∃ t, mg "LETTERS" = some (.str abc t)
  k_LONGEST_NAME : ∃ t, mg "LONGEST_NAME" = some (.int 8 t)
  k_MOST_STREAMS : ∃ t, mg "MOST_STREAMS" = some (.int 8 t)
  k_MOST_LATE : ∃ t, mg "MOST_LATE" = some (.int 1000000 t)
  k_MOST_ENTRIES : ∃ t, mg "MOST_ENTRIES" = some (.int 400 t)
section
variable {P : Program} {w : World} {K : PySem.W.Frag} {mg : Str → Option Value} {base : Heap}
structure K1 (P : Program) (w : World) (K : PySem.W.Frag) (mg : Str → Option Value) (base : Heap) : Prop where
  is_integer : Cal P w K mg base CX0 "is_integer" 1 ["thing"] (spIsInt K)
abbrev s_is_integer : Stmt := topS 10
theorem sc_is_integer : FnScope ["thing"] ["thing"] (defScope s_is_integer) := ⟨rfl, rfl, rfl, by decide +kernel, rfl, by decide +kernel, by decide +kernel⟩
theorem ok_is_integer {f : Addr} {fd : FuncData} (F : Fun K "is_integer" "is_integer" s_is_integer f fd) (B : Blt mg) : FnOk P w K mg base CX0 1 f fd ["thing"] (spIsInt K) := by
  refine F.ok sc_is_integer (fun vs H Q E h => ?_) (fun cdv A outer s H vs Q E hr h => ?_)
  · obtain ⟨v, rfl, _⟩ := h
    rfl
  · obtain ⟨v, rfl, hv⟩ := h
    refine ⟨_, (pss_one (ps_ret (pe_and (pe_callB call_isi (by rfl) B.isinstance (by decide +kernel) (pa_cons (pv 0) (pa_cons (pe_bltn (v := .ty "int") (by rfl) B.int (by decide +kernel) rfl) pa_nil))) (pe_one (pe_not (pe_callB call_isi (by rfl) B.isinstance (by decide +kernel) (pa_cons (pv 0) (pa_cons (pe_bltn (v := .ty "bool") (by rfl) B.bool (by decide +kernel) rfl) pa_nil)))))))), ?_⟩
    rcases hv with ⟨n, rfl, q⟩ | ⟨⟨t, bi, bb, ty, e1, e2, e3⟩, q⟩
    · refine ⟨_, rfl, _, _, _, _, true, rfl, ClsV.ty _, .base (.int n), kit_ty (by decide +kernel), _, rfl, iteT ?_⟩
      refine ⟨_, rfl, _, _, _, _, false, rfl, ClsV.ty _, .base (.int n), kit_ty (by decide +kernel), _, rfl, q⟩
    · refine ⟨_, rfl, _, _, _, _, bi, rfl, ClsV.ty _, ty, e1, _, rfl, ?_⟩
      cases bi with
      | false => exact iteF q
      | true =>
        refine iteT ⟨_, rfl, _, _, _, _, bb, rfl, ClsV.ty _, ty, e2, _, rfl, ?_⟩
        have e3 : (!bb) = false := e3
        rw [e3]
        exact q
abbrev s_is_natural : Stmt := topS 11
theorem sc_is_natural : FnScope ["thing"] ["thing"] (defScope s_is_natural) := ⟨rfl, rfl, rfl, by decide +kernel, rfl, by decide +kernel, by decide +kernel⟩
theorem ok_is_natural {f : Addr} {fd : FuncData} (F : Fun K "is_natural" "is_natural" s_is_natural f fd) (B : Blt mg) (G : K1 P w K mg base) : FnOk P w K mg base CX0 2 f fd ["thing"] (spIsNat K) := by
  refine F.ok sc_is_natural (fun vs H Q E h => ?_) (fun cdv A outer s H vs Q E hr h => ?_)
  · obtain ⟨v, rfl, _⟩ := h
    rfl
  · obtain ⟨v, rfl, hv⟩ := h
    refine ⟨_, (pss_one (ps_ret (pe_and (pe_cal G.is_integer (hr.mono (by decide)) pass0 (pa_cons (pv 0) pa_nil)) (pe_one (pe_cmpR op_ge (pv 0) pe_int (nomark _)))))), ?_⟩
    rcases hv with ⟨n, rfl, q⟩ | ⟨ni, q⟩
    · exact ⟨_, rfl, _, rfl, .inl ⟨n, rfl, _, rfl, iteT ⟨_, rfl, _, _, rfl, rfl, q⟩⟩⟩
    · exact ⟨_, rfl, _, rfl, .inr ⟨ni, _, rfl, iteF q⟩⟩
abbrev s_is_name : Stmt := topS 12
theorem sc_is_name : FnScope ["thing", "letter"] ["thing"] (defScope s_is_name) := ⟨rfl, rfl, rfl, by decide +kernel, rfl, by decide +kernel, by decide +kernel⟩
theorem ok_is_name {f : Addr} {fd : FuncData} (F : Fun K "is_name" "is_name" s_is_name f fd) (B : Blt mg) (Cs : Cst mg) : FnOk P w K mg base CX0 1 f fd ["thing"] (spIsName K) := by
  obtain ⟨t1, g_LETTERS⟩ := Cs.k_LETTERS
  obtain ⟨t2, g_LONGEST_NAME⟩ := Cs.k_LONGEST_NAME
  refine F.ok sc_is_name (fun vs H Q E h => ?_) (fun cdv A outer s H vs Q E hr h => ?_)
  · obtain ⟨v, rfl, _⟩ := h
    rfl
  · obtain ⟨v, rfl, hv⟩ := h
    refine ⟨_, (pss_cons (ps_if (PW.pt (pw_or (pt_not (pt_val (pe_callB call_isi (by rfl) B.isinstance (by decide +kernel) (pa_cons (pv 0) (pa_cons (pe_bltn (v := .ty "str") (by rfl) B.str (by decide +kernel) rfl) pa_nil))))) (pw_or1 (pt_not (pt_chain op_le op_le pe_int (pe_callB call_len_str (by rfl) B.len (by decide +kernel) (pa_cons (pv 0) pa_nil)) (pe_glob (v := .int 8) (by rfl) g_LONGEST_NAME ⟨_, rfl⟩))))))
      (pss_one (ps_ret pe_bl))
      pss_nil)
    (pss_one (ps_ret (pe_callB (cr_all rfl) (by rfl) B.all (by decide +kernel) (pa_cons (pe_lc (own := [("letter", 1)]) (g := gName 1) (tt := tYes) (by rfl) sc_is_name.nd (pi_str (pv 0)) (blkOk_by (own := [("letter", 1)]) (N := ["thing", "letter"]) (sc := defScope s_is_name) (by decide +kernel)) (fun _ _ _ _ _ => (pg_name (i := 1) sc_is_name.nd rfl (Or.inl rfl))) (fun _ _ _ _ _ => pts_nil) (fun _ _ _ _ _ => (pe_cmpR op_in_sign (pv 1) (pe_glob (v := .str "abcdefghijklmnopqrstuvwxyz") (by rfl) g_LETTERS ⟨_, rfl⟩) rfl))) pa_nil))))), ?_⟩
    rcases hv with ⟨z, rfl, hz, q⟩ | ⟨⟨t, ty, e1⟩, q⟩
    · refine ⟨_, rfl, _, _, _, _, true, rfl, ClsV.ty _, .base (.str z), kit_ty (by decide +kernel), _, rfl, iteF ?_⟩
      refine ⟨_, rfl, _, rfl, hz, _, _, rfl, rfl, _, rfl, ?_⟩
      refine ite2 (fun c1 => ?_) (fun c1 => ?_)
      · have c1 : (1 : Int) ≤ z.length := of_decide_eq_true c1
        refine ⟨_, _, rfl, rfl, _, rfl, ?_⟩
        by_cases c8 : (z.length : Int) ≤ 8
        · refine iteNS c8 ?_
          refine ⟨_, rfl, z, rfl, fun D hD => lc_it (walk_str (z := z)) (fun i H1 => H1 D = some (.lst (((z.cps.toList.take i).map fun c => decide (c ∈ LET)).map V.bl)) ∧ Same H H1) ⟨upd_same, sameAt (Same.refl H) hD⟩ (fun _ _ _ _ => trivial) ?_ ?_⟩
          · rintro i x H1 H2 hi ⟨hD1, hs⟩ ⟨rfl, c, hc, rfl⟩
            have hc' : z.cps.toList[i]? = some c := by rw [Array.getElem?_toList]; exact hc
            have hlen : (z.cps.toList.take i).length ≤ 8 := by
              have : i < z.length := hi
              rw [List.length_take]
              omega
            refine ⟨rfl, _, rfl, c, abc, rfl, rfl, _, hD1, (by rw [List.length_map, List.length_map]; exact small1000 (by omega)), ?_, sameAt hs hD⟩
            rw [upd_same, list_lit _ _ _ hc', abc_let, List.map_append, List.map_append]
            rfl
          · rintro H1 ⟨hD1, hs⟩
            have e : z.cps.toList.take z.cps.size = z.cps.toList := by rw [← Array.length_toList, List.take_length]
            rw [e] at hD1
            refine ⟨D, _, rfl, SqL.of hD1, ?_⟩
            have e2 : ((z.cps.toList.map fun c => decide (c ∈ LET)).all id) = nmB z := by
              unfold nmB
              rw [decide_eq_true (show 1 ≤ z.length ∧ z.length ≤ 8 by omega), Bool.true_and, List.all_map]
              rfl
            rw [e2]
            exact q _ hs
        · rw [decide_eq_false c8]
          refine iteT ?_
          have e2 : nmB z = false := by
            unfold nmB
            rw [decide_eq_false (show ¬ (1 ≤ z.length ∧ z.length ≤ 8) by omega), Bool.false_and]
          have := q H (Same.refl H)
          rw [e2] at this
          exact this
      · have c1 : ¬ (1 : Int) ≤ z.length := by simpa using c1
        refine ⟨_, rfl, iteT ?_⟩
        have e2 : nmB z = false := by
          unfold nmB
          rw [decide_eq_false (show ¬ (1 ≤ z.length ∧ z.length ≤ 8) by omega), Bool.false_and]
        have := q H (Same.refl H)
        rw [e2] at this
        exact this
    · refine ⟨_, rfl, _, _, _, _, false, rfl, ClsV.ty _, ty, e1, _, rfl, iteT q⟩
structure K2 (P : Program) (w : World) (K : PySem.W.Frag) (mg : Str → Option Value) (base : Heap) : Prop extends K1 P w K mg base where
  is_natural : Cal P w K mg base CX0 "is_natural" 2 ["thing"] (spIsNat K)
  is_name : Cal P w K mg base CX0 "is_name" 1 ["thing"] (spIsName K)
abbrev s_are_integers : Stmt := topS 14
theorem sc_are_integers : FnScope ["things", "thing"] ["things"] (defScope s_are_integers) := ⟨rfl, rfl, rfl, by decide +kernel, rfl, by decide +kernel, by decide +kernel⟩
theorem ok_are_integers {f : Addr} {fd : FuncData} (F : Fun K "are_integers" "are_integers" s_are_integers f fd) (B : Blt mg) (G : K2 P w K mg base) : FnOk P w K mg base CX0 2 f fd ["things"] (spAreInts K) := by
  refine F.ok sc_are_integers (fun vs H Q E h => ?_) (fun cdv A outer s H vs Q E hr h => ?_)
  · obtain ⟨a, ns, rfl, _⟩ := h
    rfl
  · obtain ⟨a, ns, rfl, hS, hn, q⟩ := h
    refine ⟨_, (pss_one (ps_ret (pe_callB (cr_all rfl) (by rfl) B.all (by decide +kernel) (pa_cons (pe_lc (own := [("thing", 1)]) (g := gName 1) (tt := tYes) (by rfl) sc_are_integers.nd (pi_tup (pv 0)) (blkOk_by (own := [("thing", 1)]) (N := ["things", "thing"]) (sc := defScope s_are_integers) (by decide +kernel)) (fun _ _ _ _ _ => (pg_name (i := 1) sc_are_integers.nd rfl (Or.inl rfl))) (fun _ _ _ _ _ => pts_nil) (fun _ _ _ _ _ => (pe_cal G.is_integer (hr.mono (by decide)) pass0 (pa_cons (pv 1) pa_nil)))) pa_nil)))), ?_⟩
    refine ⟨_, rfl, a, rfl, ⟨_, hS⟩, fun D hD => lc_it (walk_tup (xs := ns.map V.int)) (fun i H1 => H1 D = some (.lst ((List.replicate i true).map V.bl)) ∧ Same H H1) ⟨upd_same, sameAt (Same.refl H) hD⟩ (fun i H1 _ hv => ?_) ?_ ?_⟩
    · rcases hS with (h | ⟨o, h⟩) | h
      · exact .inl (.inl (hv.2 _ _ h))
      · exact .inl (.inr ⟨o, hv.2 _ _ h⟩)
      · exact .inr h
    · rintro i x H1 H2 hi ⟨hD1, hs⟩ ⟨rfl, hx⟩
      obtain ⟨z, rfl⟩ : ∃ z, x = V.int z := by
        rw [List.getElem?_map] at hx
        cases e : ns[i]? with
        | none => rw [e] at hx; cases hx
        | some z => rw [e] at hx; exact ⟨z, (Option.some.inj hx).symm⟩
      rw [List.length_map] at hi
      refine ⟨rfl, _, rfl, _, rfl, .inl ⟨z, rfl, _, hD1, (by rw [List.length_map, List.length_replicate]; exact small1000 (by omega)), ?_, sameAt hs hD⟩⟩
      rw [upd_same, List.replicate_succ', List.map_append]
      rfl
    · rintro H1 ⟨hD1, hs⟩
      refine ⟨D, _, rfl, SqL.of hD1, ?_⟩
      rw [List.length_map] at hD1 ⊢
      have e2 : ((List.replicate ns.length true).all id) = true := by simp
      rw [e2]
      exact q _ hs
abbrev s_is_late : Stmt := topS 20
theorem sc_is_late : FnScope ["thing"] ["thing"] (defScope s_is_late) := ⟨rfl, rfl, rfl, by decide +kernel, rfl, by decide +kernel, by decide +kernel⟩
theorem ok_is_late {f : Addr} {fd : FuncData} (F : Fun K "is_late" "is_late" s_is_late f fd) (B : Blt mg) (Cs : Cst mg) (G : K2 P w K mg base) : FnOk P w K mg base CX0 2 f fd ["thing"] (spIsLate K) := by
  obtain ⟨t1, g_MOST_LATE⟩ := Cs.k_MOST_LATE
  refine F.ok sc_is_late (fun vs H Q E h => ?_) (fun cdv A outer s H vs Q E hr h => ?_)
  · obtain ⟨n, rfl, _⟩ := h
    rfl
  · obtain ⟨n, rfl, q⟩ := h
    refine ⟨_, (pss_one (ps_ret (pe_and (pe_cal G.is_integer (hr.mono (by decide)) pass0 (pa_cons (pv 0) pa_nil)) (pe_one (pe_chain op_le op_le pe_int (pv 0) (pe_glob (v := .int 1000000) (by rfl) g_MOST_LATE ⟨_, rfl⟩)))))), ?_⟩
    refine ⟨_, rfl, _, rfl, .inl ⟨n, rfl, _, rfl, iteT ⟨_, rfl, _, _, rfl, rfl, _, rfl, ?_⟩⟩⟩
    refine ite2 (fun c1 => ?_) (fun c1 => ?_)
    · have c1 : 0 ≤ n := of_decide_eq_true c1
      refine ⟨_, _, rfl, rfl, ?_⟩
      have e : decide (0 ≤ n ∧ n ≤ 1000000) = decide (n ≤ 1000000) := by simp [c1]
      rw [e] at q
      exact q
    · have c1 : ¬ 0 ≤ n := by simpa using c1
      have e : decide (0 ≤ n ∧ n ≤ 1000000) = false := by simp [c1]
      rw [e] at q
      exact q
structure K3 (P : Program) (w : World) (K : PySem.W.Frag) (mg : Str → Option Value) (base : Heap) : Prop extends K2 P w K mg base where
  are_integers : Cal P w K mg base CX0 "are_integers" 2 ["things"] (spAreInts K)
  is_late : Cal P w K mg base CX0 "is_late" 2 ["thing"] (spIsLate K)
abbrev s_is_lates : Stmt := topS 19
theorem sc_is_lates : FnScope ["thing", "stream", "late"] ["thing"] (defScope s_is_lates) := ⟨rfl, rfl, rfl, by decide +kernel, rfl, by decide +kernel, by decide +kernel⟩
theorem ok_is_lates {f : Addr} {fd : FuncData} (F : Fun K "is_lates" "is_lates" s_is_lates f fd) (B : Blt mg) (Cs : Cst mg) (G : K3 P w K mg base) : FnOk P w K mg base CX0 3 f fd ["thing"] (spIsLates K) := by
  obtain ⟨t1, g_MOST_STREAMS⟩ := Cs.k_MOST_STREAMS
  refine F.ok sc_is_lates (fun vs H Q E h => ?_) (fun cdv A outer s H vs Q E hr h => ?_)
  · obtain ⟨d, L, rfl, _⟩ := h
    rfl
  · obtain ⟨d, L, rfl, hd, LL, q⟩ := h
    refine ⟨_, (pss_cons (ps_if (PW.pt (pw_or (pt_not (pt_val (pe_callB call_isi (by rfl) B.isinstance (by decide +kernel) (pa_cons (pv 0) (pa_cons (pe_bltn (v := .ty "dict") (by rfl) B.dict (by decide +kernel) rfl) pa_nil))))) (pw_or1 (pt_not (pt_chain op_le op_le pe_int (pe_callB call_lenD (by rfl) B.len (by decide +kernel) (pa_cons (pv 0) pa_nil)) (pe_glob (v := .int 8) (by rfl) g_MOST_STREAMS ⟨_, rfl⟩))))))
      (pss_one (ps_ret pe_bl))
      pss_nil)
    (pss_one (ps_ret (pe_callB (cr_all rfl) (by rfl) B.all (by decide +kernel) (pa_cons (pe_lock (pe_lc (own := [("stream", 1), ("late", 2)]) (g := gTup K 2 (gCons (gName 1) (gCons (gName 2) gNil))) (tt := tYes) (by rfl) sc_is_lates.nd (pi_items (pv 0)) (blkOk_by (own := [("stream", 1), ("late", 2)]) (N := ["thing", "stream", "late"]) (sc := defScope s_is_lates) (by decide +kernel)) (fun _ _ _ _ _ => (pg_tup (by rfl) (pgs_cons (pg_name (i := 1) sc_is_lates.nd rfl (Or.inl rfl)) (pgs_cons (pg_name (i := 2) sc_is_lates.nd rfl (Or.inl rfl)) pgs_nil)))) (fun _ _ _ _ _ => pts_nil) (fun _ _ _ _ _ => (pe_and (pe_cal G.is_name (hr.mono (by decide)) pass0 (pa_cons (pv 1) pa_nil)) (pe_one (pe_cal G.is_late (hr.mono (by decide)) pass0 (pa_cons (pv 2) pa_nil))))))) pa_nil))))), ?_⟩
    refine ⟨_, rfl, _, _, _, _, true, rfl, ClsV.ty _, .base (.dK hd), kit_ty (by decide +kernel), _, rfl, iteF ?_⟩
    refine ⟨_, rfl, d, _, rfl, hd, _, _, rfl, rfl, _, rfl, ?_⟩
    rw [LK_len]
    have l1 := LL.some_
    have l2 := LL.few
    rw [decide_eq_true (show (1 : Int) ≤ (L.length : Int) by omega)]
    refine iteT ⟨_, _, rfl, rfl, _, rfl, iteNS (by omega) ?_⟩
    refine ⟨d, _, hd, trivial, fun od => ?_⟩
    have hDd : ∀ {D : Addr}, (upd H d (.frz od (.dK (LK L)))) D = none → D ≠ d := fun h z => by rw [z, upd_same] at h; cases h
    refine ⟨_, rfl, d, od, _, rfl, upd_same, fun D hD => lc_it (walk_items (kvs := LK L)) (fun i H1 => H1 D = some (.lst ((List.replicate i true).map V.bl)) ∧ Same (upd H d (.frz od (.dK (LK L)))) H1) ⟨upd_same, sameAt (Same.refl _) hD⟩ (fun i H1 _ hv => hv.2 _ _ upd_same) ?_ ?_⟩
    · rintro i x H1 H2 hi ⟨hD1, hs⟩ ⟨T, x1, x2, rfl, hT, rfl, h1, h2⟩
      rw [LK_len] at hi
      have hx : (LK L)[i]? = some (Sum.inr L[i].1, V.int L[i].2) := by
        unfold LK
        rw [List.getElem?_map, List.getElem?_eq_getElem hi]
        rfl
      simp only [hx, Option.map_some] at h1 h2
      cases h1
      cases h2
      have hm : L[i] ∈ L := List.getElem_mem hi
      have hDT : D ≠ T := fun z => by rw [← z, hD1] at hT; cases hT
      have nmz : nmB L[i].1 = true := (nmB_iff _).mpr (LL.nm _ hm)
      have lz : decide (0 ≤ L[i].2 ∧ L[i].2 ≤ 1000000) = true := decide_eq_true ⟨LL.lo _ hm, LL.hi _ hm⟩
      refine ⟨T, _, rfl, SqT.of upd_same, rfl, _, _, rfl, _, _, rfl, rfl, rfl, ?_⟩
      refine ⟨_, rfl, _, rfl, .inl ⟨L[i].1, rfl, (by have := (LL.nm _ hm).2.1; rw [sizeLine_eq]; omega), fun H3 s3 => ⟨_, rfl, ?_⟩⟩⟩
      rw [nmz]
      refine iteT ⟨_, rfl, L[i].2, rfl, ?_⟩
      rw [lz]
      refine ⟨_, s3 _ _ (by rw [upd_ne hDT]; exact hD1), (by rw [List.length_map, List.length_replicate]; exact small1000 (by omega)), ?_, fun b o hb => ?_⟩
      · rw [upd_same, List.replicate_succ', List.map_append]
        rfl
      · rw [upd_ne (ne_of_none hb hD)]
        refine s3 _ _ ?_
        rw [upd_ne (ne_of_none (hs _ _ hb) hT)]
        exact hs _ _ hb
    · rintro H1 ⟨hD1, hs⟩
      refine ⟨hs _ _ upd_same, D, _, rfl, SqL.of (by rw [upd_ne (hDd hD)]; exact hD1), ?_⟩
      have e2 : ((List.replicate (LK L).length true).all id) = true := by simp
      rw [e2]
      refine q _ fun b o hb => ?_
      by_cases e : b = d
      · rw [e, hd] at hb
        cases hb
        rw [e, upd_same]
      · rw [upd_ne e]
        exact hs _ _ (by rw [upd_ne e]; exact hb)
end
end Ash

set_option Elab.async false
set_option linter.all false
set_option maxRecDepth 100000
set_option maxHeartbeats 4000000
namespace Ash
open PySem PySem.Spec PyProof.Rows L2
open C8 (pss_cut)
/-! ### books -/
def BookAt (CB : Addr) (H : Hp) (b : Addr) (L : List (Str × Int)) : Prop := ∃ dx d L', H b = some (.ins CB dx [("_lates", .ref d)]) ∧ H d = some (.dK (LK L')) ∧ (∀ z, L'.lookup z = L.lookup z) ∧ (L'.map (·.1)).Nodup
theorem BookAt.same {CB : Addr} {H H' : Hp} {b : Addr} {L : List (Str × Int)} (h : BookAt CB H b L) (s : Same H H') : BookAt CB H' b L := by
  obtain ⟨dx, d, L', h1, h2, h3⟩ := h
  exact ⟨dx, d, L', s _ _ h1, s _ _ h2, h3⟩
theorem BookAt.pl {CB : Addr} {H H' : Hp} {b p s : Addr} {L : List (Str × Int)} (h : BookAt CB H b L) (P0 : PoolAt H p s) (P : Pl H H' p s) : BookAt CB H' b L := by
  obtain ⟨dx, d, L', h1, h2, h3⟩ := h
  obtain ⟨ns, i, c, k, n, hp, _⟩ := P0
  exact ⟨dx, d, L', P.keep h1 (ne_of h1 hp (by intro z; cases z)), P.keep h2 (ne_of h2 hp (by intro z; cases z)), h3⟩
theorem lookup_perm {L : List (Str × Int)} (hn : (L.map (·.1)).Nodup) {ys : List Str} (hp : ys.Perm (L.map (·.1))) (f : Str → Int) (hf : ∀ x ∈ L, f x.1 = x.2) (z : Str) : (ys.map fun y => (y, f y)).lookup z = L.lookup z := by
  by_cases hz : z ∈ L.map (·.1)
  · have hy : z ∈ ys := hp.mem_iff.mpr hz
    have a1 : ∀ (l : List Str), z ∈ l → (l.map fun y => (y, f y)).lookup z = some (f z) := fun l => by
      induction l with
      | nil => intro h; cases h
      | cons a l ih =>
        intro h
        by_cases e : z = a
        · subst e
          simp [List.lookup]
        · have h' : (z == a) = false := by simpa using e
          show List.lookup z ((a, f a) :: l.map fun y => (y, f y)) = _
          simp only [List.lookup, h']
          exact ih ((List.mem_cons.mp h).resolve_left e)
    have a2 : ∀ (l : List (Str × Int)), (∀ x ∈ l, f x.1 = x.2) → z ∈ l.map (·.1) → l.lookup z = some (f z) := fun l => by
      induction l with
      | nil => intro _ h; cases h
      | cons a l ih =>
        intro hf h
        obtain ⟨a1, a2⟩ := a
        by_cases e : z = a1
        · subst e
          have := hf _ List.mem_cons_self
          simp only [List.lookup, beq_self_eq_true]
          exact congrArg some this.symm
        · have h' : (z == a1) = false := by simpa using e
          simp only [List.lookup, h']
          exact ih (fun x hx => hf x (List.mem_cons_of_mem _ hx)) ((List.mem_cons.mp h).resolve_left e)
    rw [a1 ys hy, a2 L hf hz]
  · rw [lookup_none hz, lookup_none (L := ys.map fun y => (y, f y))]
    rw [List.map_map]
    show z ∉ ys.map fun y => y
    rw [List.map_id']
    exact fun h => hz (hp.mem_iff.mp h)
theorem lookup_mem : ∀ {L : List (Str × Int)} {x : Str × Int}, (L.map (·.1)).Nodup → x ∈ L → L.lookup x.1 = some x.2
  | [], x, _, h => nomatch h
  | (a1, a2) :: L, x, hn, h => by
    obtain ⟨h1, h2⟩ := List.nodup_cons.mp (show (a1 :: L.map (·.1)).Nodup from hn)
    rcases List.mem_cons.mp h with rfl | h
    · simp [List.lookup]
    · have e : ¬ x.1 = a1 := fun z => h1 (by rw [← z]; exact List.mem_map_of_mem h)
      have h' : (x.1 == a1) = false := by simpa using e
      simp only [List.lookup, h']
      exact lookup_mem h2 h
def spBookInit (CB : Addr) : Sp := fun vs H Q _ => ∃ (b dx d : Addr) (L : List (Str × Int)), vs = [.ref b, .ref d] ∧ H b = some (.ins CB dx []) ∧ H d = some (.dK (LK L)) ∧ Lates L ∧
  ∀ H', BookAt CB H' b L → (∀ c o, H c = some o → c ≠ b → H' c = some o) → Q .non H'
/-- has(stream) of a text -/
def spHas (CB : Addr) : Sp := fun vs H Q _ => ∃ (b : Addr) (L : List (Str × Int)) (z : Str), vs = [.ref b, .str z] ∧ BookAt CB H b L ∧ IsNm z ∧ ∀ H', Same H H' → Q (.bl (L.lookup z).isSome) H'
def spLate (CB : Addr) : Sp := fun vs H Q _ => ∃ (b : Addr) (L : List (Str × Int)) (z : Str) (n : Int), vs = [.ref b, .str z] ∧ BookAt CB H b L ∧ IsNm z ∧ L.lookup z = some n ∧ ∀ H', Same H H' → Q (.int n) H'
structure Cb (K : PySem.W.Frag) (mg : Str → Option Value) (CB : Addr) : Prop where
  cl : Cls K CB
  nL : NoAttr K CB "_lates"
  c : mg "Book" = some (.ref CB)
section
variable {P : Program} {w : World} {K : PySem.W.Frag} {mg : Str → Option Value} {base : Heap}
structure K4 (P : Program) (w : World) (K : PySem.W.Frag) (mg : Str → Option Value) (base : Heap) : Prop extends K3 P w K mg base where
  is_lates : Cal P w K mg base CX0 "is_lates" 3 ["thing"] (spIsLates K)
abbrev s_Book_init : Stmt := inClass (topS 18) 0
theorem sc_Book_init : FnScope ["self", "lates", "stream"] ["self", "lates"] (defScope s_Book_init) := ⟨rfl, rfl, rfl, by decide +kernel, rfl, by decide +kernel, by decide +kernel⟩
theorem ok_book_init {f CB : Addr} {fd : FuncData} (F : Fun K "__init__" "Book.__init__" s_Book_init f fd) (B : Blt mg) (T : Cb K mg CB) (G : K4 P w K mg base) : FnOk P w K mg base CX0 4 f fd ["self", "lates"] (spBookInit CB) := by
  refine F.ok sc_Book_init (fun vs H Q E h => ?_) (fun cdv A outer s H vs Q E hr h => ?_)
  · obtain ⟨b, dx, d, L, rfl, _⟩ := h
    rfl
  · obtain ⟨b, dx, d, L, rfl, hb, hd, LL, q⟩ := h
    have hu := hu_of hr
    refine ⟨_, (pss_cons (ps_if (pt_not (pt_val (pe_cal G.is_lates (hr.mono (by decide)) pass0 (pa_cons (pv 1) pa_nil))))
      (pss_one ps_never)
      pss_nil)
    (pss_one (ps_fld (pv 0) (pe_dc (own := [("stream", 2)]) (g := gName 2) (tt := tYes) (by rfl) sc_Book_init.nd (pi_list (pe_callB cr_sortedS (by rfl) B.sorted (by decide +kernel) (pa_cons (pe_callTy (call_listD (by rfl)) (by rfl) B.list (by decide +kernel) (pa_cons (pv 1) pa_nil)) pa_nil))) (blkOk_by (own := [("stream", 2)]) (N := ["self", "lates", "stream"]) (sc := defScope s_Book_init) (by decide +kernel)) (fun _ _ _ _ _ => (pg_name (i := 2) sc_Book_init.nd rfl (Or.inl rfl))) (fun _ _ _ _ _ => pts_nil) (fun _ _ _ _ _ => (pv 2)) (fun _ _ _ _ _ => (pe_dget hu (pv 1) (pv 2) (fun _ _ => rfl)))) rfl))), ?_⟩
    refine ⟨_, rfl, d, L, rfl, hd, LL, fun H1 s1 => ⟨_, rfl, iteF ?_⟩⟩
    refine ⟨_, rfl, d, _, rfl, .of (s1 _ _ hd), fun l hl => ?_⟩
    have e1 : (LK L).map (fun kv => kV kv.1) = (L.map (·.1)).map V.str := by
      unfold LK
      rw [List.map_map, List.map_map]
      rfl
    rw [e1]
    have l8 := LL.few
    refine ⟨l, _, rfl, SqL.of upd_same, (by rw [List.length_map]; omega), fun ys q1 hperm hsort hq1 => ?_⟩
    have hln : l ≠ q1 := fun z => by rw [← z, upd_same] at hq1; cases hq1
    have s2 : Same H (upd (upd H1 l (.lst ((L.map (·.1)).map V.str))) q1 (.lst (ys.map V.str))) := (s1.trans (sameAt (Same.refl H1) hl)).trans (sameAt (Same.refl _) hq1)
    have hlenY : ys.length ≤ 8 := by rw [hperm.length_eq, List.length_map]; exact l8
    have fOf : ∀ z, z ∈ L.map (·.1) → L.lookup z = some ((L.lookup z).getD 0) := fun z hz => by
      obtain ⟨x, hx, rfl⟩ := List.mem_map.mp hz
      rw [lookup_mem LL.nd hx]
      rfl
    refine ⟨q1, rfl, ⟨_, SqL.of upd_same⟩, fun D hD => dc_it (walk_list (xs := ys.map V.str)) (fun i H3 => H3 D = some (.dK (LK ((ys.take i).map fun y => (y, (L.lookup y).getD 0)))) ∧ Same (upd (upd H1 l (.lst ((L.map (·.1)).map V.str))) q1 (.lst (ys.map V.str))) H3) ⟨upd_same, sameAt (Same.refl _) hD⟩ (fun i H3 _ hv => SqL.of (hv.2 _ _ upd_same)) ?_ ?_⟩
    · rintro i x H3 H4 hi ⟨hD3, s3⟩ ⟨rfl, hx⟩
      obtain ⟨z, hz, rfl⟩ : ∃ z, ys[i]? = some z ∧ x = V.str z := by
        rw [List.getElem?_map] at hx
        cases e : ys[i]? with
        | none => rw [e] at hx; cases hx
        | some z => rw [e] at hx; exact ⟨z, rfl, (Option.some.inj hx).symm⟩
      have hzL : z ∈ L.map (·.1) := hperm.mem_iff.mp (List.mem_of_getElem? hz)
      have hd3 : H4 d = some (.dK (LK L)) := s3 _ _ (s2 _ _ hd)
      have hyn : ys.Nodup := hperm.symm.nodup LL.nd
      rw [List.length_map] at hi
      have hg := DGet.k (k := Sum.inr z) hd3
      rw [LK_val, fOf z hzL, Option.map_some] at hg
      refine ⟨rfl, _, rfl, _, rfl, _, rfl, d, _, rfl, hg, _, Sum.inr z, rfl, hD3, (by rw [LK_len, List.length_map, List.length_take]; exact small1000 (by omega)), ?_, sameAt s3 hD⟩
      rw [upd_same, putK_new]
      · rw [list_take hz, List.map_append]
        unfold LK
        rw [List.map_append]
        rfl
      · rw [LK_val, lookup_none]
        · rfl
        · rw [List.map_map]
          show z ∉ (ys.take i).map fun y => y
          rw [List.map_id']
          intro hm
          obtain ⟨j, hj, e⟩ := List.getElem_of_mem hm
          rw [List.length_take] at hj
          rw [List.getElem_take] at e
          have := nd_ix hyn (List.getElem?_eq_some_iff.mpr ⟨by omega, e⟩) hz
          omega
    · rintro H3 ⟨hD3, s3⟩
      rw [List.length_map, List.take_length] at hD3
      have hb3 : H3 b = some (.ins CB dx []) := s3 _ _ (s2 _ _ hb)
      have hbD : D ≠ b := fun z => by rw [z] at hD; exact absurd (s2 _ _ hb) (by rw [hD]; simp)
      refine ⟨_, rfl, b, CB, dx, [], rfl, hb3, T.cl, T.nL, (by show 0 < 1000; decide), ?_⟩
      refine q _ ⟨dx, D, _, upd_same, (by rw [upd_ne hbD]; exact hD3), fun z => ?_, ?_⟩ fun c o hc hn => ?_
      · exact lookup_perm LL.nd hperm _ (fun x hx => by rw [lookup_mem LL.nd hx]; rfl) z
      · rw [List.map_map]
        show (ys.map fun y => y).Nodup
        rw [List.map_id']
        exact hperm.symm.nodup LL.nd
      · rw [upd_ne hn]
        exact s3 _ _ (s2 _ _ hc)
abbrev s_Book_has : Stmt := inClass (topS 18) 3
theorem sc_Book_has : FnScope ["self", "stream"] ["self", "stream"] (defScope s_Book_has) := ⟨rfl, rfl, rfl, by decide +kernel, rfl, by decide +kernel, by decide +kernel⟩
theorem ok_book_has {f CB : Addr} {fd : FuncData} (F : Fun K "has" "Book.has" s_Book_has f fd) (B : Blt mg) (T : Cb K mg CB) (G : K4 P w K mg base) : FnOk P w K mg base CX0 2 f fd ["self", "stream"] (spHas CB) := by
  refine F.ok sc_Book_has (fun vs H Q E h => ?_) (fun cdv A outer s H vs Q E hr h => ?_)
  · obtain ⟨b, L, z, rfl, _⟩ := h
    rfl
  · obtain ⟨b, L, z, rfl, hB, hz, q⟩ := h
    have hu := hu_of hr
    refine ⟨_, (pss_one (ps_ret (pe_and (pe_cal G.is_name (hr.mono (by decide)) pass0 (pa_cons (pv 1) pa_nil)) (pe_one (pe_cmp (pc_din hu (pv 1) (pe_fld (pv 0) rfl)) rfl))))), ?_⟩
    refine ⟨_, rfl, _, rfl, .inl ⟨z, rfl, (by have := hz.2.1; rw [sizeLine_eq]; omega), fun H1 s1 => ⟨_, rfl, ?_⟩⟩⟩
    rw [(nmB_iff z).mpr hz]
    obtain ⟨dx, d, L', h1, h2, h3, _⟩ := hB.same s1
    refine iteT ⟨_, rfl, _, rfl, b, CB, dx, _, _, rfl, h1, T.cl, T.nL, rfl, d, _, rfl, DGet.k (k := Sum.inr z) h2, ?_⟩
    have e : (valV (LK L') (Sum.inr z : Key)).isSome = (L.lookup z).isSome := by rw [LK_val, Option.isSome_map, h3]
    rw [e]
    exact q H1 s1
abbrev s_Book_late : Stmt := inClass (topS 18) 4
theorem sc_Book_late : FnScope ["self", "stream"] ["self", "stream"] (defScope s_Book_late) := ⟨rfl, rfl, rfl, by decide +kernel, rfl, by decide +kernel, by decide +kernel⟩
theorem ok_book_late {f fh CB : Addr} {fd fdh : FuncData} (F : Fun K "late" "Book.late" s_Book_late f fd) (B : Blt mg) (T : Cb K mg CB) (M_has : Meth K CB "has" fh) (b_has : Binds K fdh ["self", "stream"] []) (F_has : FnOk P w K mg base CX0 2 fh fdh ["self", "stream"] (spHas CB)) : FnOk P w K mg base CX0 3 f fd ["self", "stream"] (spLate CB) := by
  refine F.ok sc_Book_late (fun vs H Q E h => ?_) (fun cdv A outer s H vs Q E hr h => ?_)
  · obtain ⟨b, L, z, n, rfl, _⟩ := h
    rfl
  · obtain ⟨b, L, z, n, rfl, hB, hz, hn, q⟩ := h
    have hu := hu_of hr
    refine ⟨_, (pss_cons (ps_if (pt_not (pt_val (pe_meth (pv 0) T.cl M_has F_has (hr.mono (by decide)) b_has .nil pass0 (pa_cons (pv 1) pa_nil))))
      (pss_one ps_never)
      pss_nil)
    (pss_one (ps_ret (pe_dget hu (pe_fld (pv 0) rfl) (pv 1) (fun _ _ => rfl))))), ?_⟩
    obtain ⟨dx, d, L', h1, h2, h3, _⟩ := id hB
    refine ⟨_, rfl, b, dx, _, rfl, h1, rfl, _, rfl, b, L, z, rfl, hB, hz, fun H1 s1 => ⟨_, rfl, ?_⟩⟩
    rw [hn]
    refine iteF ?_
    have hg := DGet.k (k := Sum.inr z) (s1 _ _ h2)
    rw [LK_val, h3, hn] at hg
    exact ⟨_, rfl, b, CB, dx, _, _, rfl, s1 _ _ h1, T.cl, T.nL, rfl, _, rfl, d, _, rfl, hg, q H1 s1⟩
end
end Ash

set_option Elab.async false
set_option linter.all false
set_option maxRecDepth 100000
set_option maxHeartbeats 4000000
namespace Ash
open PySem PySem.Spec PyProof.Rows L2
open C8 (pss_cut)
/-! ### entries -/
inductive Ent where
  | row (id : Int) (s k : Str) (m a r : Int)
  | fix (id m a r : Int)
  | gone (id r : Int)
  deriving DecidableEq
def Ent.vs : Ent → List V
  | .row id s k m a r => [.str "row", .int id, .str s, .str k, .int m, .int a, .int r]
  | .fix id m a r => [.str "fix", .int id, .int m, .int a, .int r]
  | .gone id r => [.str "gone", .int id, .int r]
def Ent.id : Ent → Int
  | .row id _ _ _ _ _ => id
  | .fix id _ _ _ => id
  | .gone id _ => id
def Ent.arr : Ent → Int
  | .row _ _ _ _ _ r => r
  | .fix _ _ _ r => r
  | .gone _ r => r
def Ent.ok (x : Ent) : Prop := 0 ≤ x.id ∧ ∀ id s k m a r, x = .row id s k m a r → IsNm s ∧ IsNm k
def EntAt (H : Hp) (e : Addr) (x : Ent) : Prop := H e = some (.tup x.vs)
/-- what is known of a row: taken back, or what it is -/
inductive RowSt where
  | tb
  | at_ (s k : Str) (m a : Int)
def RowV (aT : Addr) (H : Hp) : Option V → Option RowSt → Prop
  | none, none => True
  | some v, some .tb => v = .ref aT
  | some v, some (.at_ s k m a) => ∃ t, v = .ref t ∧ H t = some (.tup [.str s, .str k, .int m, .int a])
  | _, _ => False
theorem RowV.same {aT : Addr} {H H' : Hp} {v : Option V} {o : Option RowSt} (h : RowV aT H v o) (s : Same H H') : RowV aT H' v o := by
  cases v with
  | none => cases o <;> exact h
  | some v =>
    cases o with
    | none => exact h
    | some o =>
      cases o with
      | tb => exact h
      | at_ z k m a =>
        obtain ⟨t, e, h⟩ := h
        exact ⟨t, e, s _ _ h⟩
/-- what an entry makes of its row -/
def behind (L : List (Str × Int)) : Ent → Option RowSt → Option RowSt
  | .row _ s k m a r, none => (L.lookup s).bind fun l => if m ≤ r ∧ r ≤ m + l then some (.at_ s k m a) else none
  | .fix _ m a r, some (.at_ s k m0 _) => (L.lookup s).bind fun l => if r ≤ m0 + l ∧ m ≤ r ∧ r ≤ m + l then some (.at_ s k m a) else none
  | .gone _ r, some (.at_ s _ m0 _) => (L.lookup s).bind fun l => if r ≤ m0 + l then some .tb else none
  | _, _ => none
def spIsEntry (K : PySem.W.Frag) : Sp := fun vs H Q _ => ∃ v, vs = [v] ∧ ((∃ e x, v = .ref e ∧ EntAt H e x ∧ x.ok ∧ ∀ H', Same H H' → Q (.bl true) H') ∨ (NotTup K H v ∧ Q (.bl false) H) ∨
  ∃ e xs, v = .ref e ∧ H e = some (.tup xs) ∧ xs.length < 3 ∧ Q (.bl false) H)
def spArr (K : PySem.W.Frag) : Sp := fun vs H Q _ => ∃ e x, vs = [.ref e] ∧ EntAt H e x ∧ Q (.int x.arr) H
def spPlaced (CB : Addr) : Sp := fun vs H Q _ => ∃ (b t : Addr) (L : List (Str × Int)) (s k : Str) (m a r l : Int), vs = [.ref b, .ref t, .int r] ∧ BookAt CB H b L ∧ H t = some (.tup [.str s, .str k, .int m, .int a]) ∧ IsNm s ∧ L.lookup s = some l ∧
  ∀ H', Same H H' → Q (if m ≤ r ∧ r ≤ m + l then .ref t else .non) H'
def spBehind (aT CB : Addr) : Sp := fun vs H Q _ => ∃ (b e : Addr) (L : List (Str × Int)) (x : Ent) (ov : Option V) (o : Option RowSt), vs = [.ref b, .ref e, ov.getD .non] ∧ BookAt CB H b L ∧ EntAt H e x ∧ x.ok ∧ RowV aT H ov o ∧
  (∀ s k m a, o = some (.at_ s k m a) → IsNm s ∧ IsNm k ∧ (L.lookup s).isSome) ∧
  ∀ v H', Same H H' → ((behind L x o = none ∧ v = .non) ∨ (v ≠ .non ∧ ∃ y, behind L x o = some y ∧ RowV aT H' (some v) (some y))) → Q v H'
section
variable {P : Program} {w : World} {K : PySem.W.Frag} {mg : Str → Option Value} {base : Heap}
abbrev s_is_entry : Stmt := topS 23
theorem sc_is_entry : FnScope ["thing"] ["thing"] (defScope s_is_entry) := ⟨rfl, rfl, rfl, by decide +kernel, rfl, by decide +kernel, by decide +kernel⟩
theorem ok_is_entry {f : Addr} {fd : FuncData} (F : Fun K "is_entry" "is_entry" s_is_entry f fd) (B : Blt mg) (G : K3 P w K mg base) : FnOk P w K mg base CX0 3 f fd ["thing"] (spIsEntry K) := by
  refine F.ok sc_is_entry (fun vs H Q E h => ?_) (fun cdv A outer s H vs Q E hr h => ?_)
  · obtain ⟨v, rfl, _⟩ := h
    rfl
  · obtain ⟨v, rfl, hv⟩ := h
    refine ⟨_, (pss_cons (ps_if (PW.pt (pw_or (pt_not (pt_val (pe_callB call_isi (by rfl) B.isinstance (by decide +kernel) (pa_cons (pv 0) (pa_cons (pe_bltn (v := .ty "tuple") (by rfl) B.tuple (by decide +kernel) rfl) pa_nil))))) (pw_or (pt_cmpR op_lt (pe_callB call_len_seq (by rfl) B.len (by decide +kernel) (pa_cons (pv 0) pa_nil)) pe_int (nomark _)) (pw_or1 (pt_not (pt_val (pe_cal G.is_natural (hr.mono (by decide)) pass0 (pa_cons (pe_ix ix_tup (pv 0) pe_int (fun _ _ => rfl)) pa_nil))))))))
      (pss_one (ps_ret pe_bl))
      pss_nil)
    (pss_cons (ps_if (pt_cmpR op_eq (pe_ix ix_tup (pv 0) pe_int (fun _ _ => rfl)) pe_str (nomark _))
      (pss_one (ps_ret (pe_and (pe_cmpR op_eq (pe_callB call_len_seq (by rfl) B.len (by decide +kernel) (pa_cons (pv 0) pa_nil)) pe_int (nomark _)) (pe_and (pe_cal G.is_name (hr.mono (by decide)) pass0 (pa_cons (pe_ix ix_tup (pv 0) pe_int (fun _ _ => rfl)) pa_nil)) (pe_and (pe_cal G.is_name (hr.mono (by decide)) pass0 (pa_cons (pe_ix ix_tup (pv 0) pe_int (fun _ _ => rfl)) pa_nil)) (pe_one (pe_cal G.are_integers (hr.mono (by decide)) pass0 (pa_cons (pe_slice sl_tup (pv 0) (po_some pe_int) po_none) pa_nil))))))))
      pss_nil)
    (pss_cons (ps_if (pt_cmpR op_eq (pe_ix ix_tup (pv 0) pe_int (fun _ _ => rfl)) pe_str (nomark _))
      (pss_one (ps_ret (pe_and (pe_cmpR op_eq (pe_callB call_len_seq (by rfl) B.len (by decide +kernel) (pa_cons (pv 0) pa_nil)) pe_int (nomark _)) (pe_one (pe_cal G.are_integers (hr.mono (by decide)) pass0 (pa_cons (pe_slice sl_tup (pv 0) (po_some pe_int) po_none) pa_nil))))))
      pss_nil)
    (pss_one (ps_ret (pe_and (pe_cmpR op_eq (pe_ix ix_tup (pv 0) pe_int (fun _ _ => rfl)) pe_str (nomark _)) (pe_and (pe_cmpR op_eq (pe_callB call_len_seq (by rfl) B.len (by decide +kernel) (pa_cons (pv 0) pa_nil)) pe_int (nomark _)) (pe_one (pe_cal G.are_integers (hr.mono (by decide)) pass0 (pa_cons (pe_slice sl_tup (pv 0) (po_some pe_int) po_none) pa_nil)))))))))), ?_⟩
    rcases hv with ⟨e, x, rfl, hx, hok, q⟩ | ⟨⟨t, ty, e1⟩, q⟩ | ⟨e, xs, rfl, hx, hl, q⟩
    · refine ⟨_, rfl, _, _, _, _, true, rfl, ClsV.ty _, .base (.tup hx), kit_ty (by decide +kernel), _, rfl, iteF ?_⟩
      refine ⟨_, rfl, e, _, rfl, .inr (SqT.of hx), _, _, rfl, rfl, _, rfl, ?_⟩
      cases x with
      | row id s k m a r =>
        obtain ⟨h0, hn⟩ := hok
        obtain ⟨hs, hk⟩ := hn _ _ _ _ _ _ rfl
        refine iteF ⟨_, rfl, _, _, _, _, rfl, rfl, SqT.of hx, rfl, _, rfl, .inl ⟨id, rfl, _, rfl, ?_⟩⟩
        rw [decide_eq_true (show 0 ≤ id from h0)]
        refine iteF ⟨_, rfl, _, _, _, _, rfl, rfl, SqT.of hx, rfl, rfl, _, rfl, ?_⟩
        refine iteT ⟨_, rfl, e, _, rfl, .inr (SqT.of hx), rfl, _, rfl, iteT ?_⟩
        refine ⟨_, rfl, _, _, _, _, rfl, rfl, SqT.of hx, rfl, _, rfl, .inl ⟨s, rfl, (by have := hs.2.1; rw [sizeLine_eq]; omega), fun H1 s1 => ⟨_, rfl, ?_⟩⟩⟩
        rw [(nmB_iff s).mpr hs]
        have hx1 := s1 _ _ hx
        refine iteT ⟨_, rfl, _, _, _, _, rfl, rfl, SqT.of hx1, rfl, _, rfl, .inl ⟨k, rfl, (by have := hk.2.1; rw [sizeLine_eq]; omega), fun H2 s2 => ⟨_, rfl, ?_⟩⟩⟩
        rw [(nmB_iff k).mpr hk]
        have hx2 := s2 _ _ hx1
        refine iteT ⟨_, rfl, _, rfl, e, _, rfl, SqT.of hx2, (by show ¬ (HT.sIx 7 0 (some 4) = 0 ∧ HT.sIx 7 7 none = 7); decide), fun p hp => ?_⟩
        refine ⟨p, [m, a, r], rfl, SqT.of upd_same, (by show 3 ≤ 100; decide), fun H3 s3 => q _ ?_⟩
        exact ((s1.trans s2).trans (sameAt (Same.refl _) hp)).trans s3
      | fix id m a r =>
        obtain ⟨h0, hn⟩ := hok
        refine iteF ⟨_, rfl, _, _, _, _, rfl, rfl, SqT.of hx, rfl, _, rfl, .inl ⟨id, rfl, _, rfl, ?_⟩⟩
        rw [decide_eq_true (show 0 ≤ id from h0)]
        refine iteF ⟨_, rfl, _, _, _, _, rfl, rfl, SqT.of hx, rfl, rfl, _, rfl, ?_⟩
        refine iteF ⟨_, rfl, _, _, _, _, rfl, rfl, SqT.of hx, rfl, rfl, _, rfl, ?_⟩
        refine iteT ⟨_, rfl, e, _, rfl, .inr (SqT.of hx), rfl, _, rfl, iteT ?_⟩
        refine ⟨_, rfl, _, rfl, e, _, rfl, SqT.of hx, (by show ¬ (HT.sIx 5 0 (some 2) = 0 ∧ HT.sIx 5 5 none = 5); decide), fun p hp => ?_⟩
        refine ⟨p, [m, a, r], rfl, SqT.of upd_same, (by show 3 ≤ 100; decide), fun H3 s3 => q _ ?_⟩
        exact (sameAt (Same.refl _) hp).trans s3
      | gone id r =>
        obtain ⟨h0, hn⟩ := hok
        refine iteF ⟨_, rfl, _, _, _, _, rfl, rfl, SqT.of hx, rfl, _, rfl, .inl ⟨id, rfl, _, rfl, ?_⟩⟩
        rw [decide_eq_true (show 0 ≤ id from h0)]
        refine iteF ⟨_, rfl, _, _, _, _, rfl, rfl, SqT.of hx, rfl, rfl, _, rfl, ?_⟩
        refine iteF ⟨_, rfl, _, _, _, _, rfl, rfl, SqT.of hx, rfl, rfl, _, rfl, ?_⟩
        refine iteF ⟨_, rfl, _, _, _, _, rfl, rfl, SqT.of hx, rfl, rfl, _, rfl, iteT ?_⟩
        refine ⟨_, rfl, e, _, rfl, .inr (SqT.of hx), rfl, _, rfl, iteT ?_⟩
        refine ⟨_, rfl, _, rfl, e, _, rfl, SqT.of hx, (by show ¬ (HT.sIx 3 0 (some 2) = 0 ∧ HT.sIx 3 3 none = 3); decide), fun p hp => ?_⟩
        refine ⟨p, [r], rfl, SqT.of upd_same, (by show 1 ≤ 100; decide), fun H3 s3 => q _ ?_⟩
        exact (sameAt (Same.refl _) hp).trans s3
    · exact ⟨_, rfl, _, _, _, _, false, rfl, ClsV.ty _, ty, e1, _, rfl, iteT q⟩
    · refine ⟨_, rfl, _, _, _, _, true, rfl, ClsV.ty _, .base (.tup hx), kit_ty (by decide +kernel), _, rfl, iteF ?_⟩
      refine ⟨_, rfl, e, _, rfl, .inr (SqT.of hx), _, _, rfl, rfl, _, rfl, ?_⟩
      rw [decide_eq_true (show (xs.length : Int) < 3 by omega)]
      exact iteT q
abbrev s_arrival_of : Stmt := topS 24
theorem sc_arrival_of : FnScope ["entry"] ["entry"] (defScope s_arrival_of) := ⟨rfl, rfl, rfl, by decide +kernel, rfl, by decide +kernel, by decide +kernel⟩
theorem ok_arrival_of {f : Addr} {fd : FuncData} (F : Fun K "arrival_of" "arrival_of" s_arrival_of f fd) (B : Blt mg) : FnOk P w K mg base CX0 1 f fd ["entry"] (spArr K) := by
  refine F.ok sc_arrival_of (fun vs H Q E h => ?_) (fun cdv A outer s H vs Q E hr h => ?_)
  · obtain ⟨e, x, rfl, _⟩ := h
    rfl
  · obtain ⟨e, x, rfl, hx, q⟩ := h
    refine ⟨_, (pss_one (ps_ret (pe_ix ix_tup (pv 0) (pe_un un_neg pe_int) (fun _ _ => rfl)))), ?_⟩
    cases x with
    | row id s k m a r => exact ⟨_, rfl, _, rfl, _, _, _, _, rfl, rfl, SqT.of hx, rfl, q⟩
    | fix id m a r => exact ⟨_, rfl, _, rfl, _, _, _, _, rfl, rfl, SqT.of hx, rfl, q⟩
    | gone id r => exact ⟨_, rfl, _, rfl, _, _, _, _, rfl, rfl, SqT.of hx, rfl, q⟩
abbrev s_placed : Stmt := topS 26
theorem sc_placed : FnScope ["book", "row", "arrival", "stream", "moment"] ["book", "row", "arrival"] (defScope s_placed) := ⟨rfl, rfl, rfl, by decide +kernel, rfl, by decide +kernel, by decide +kernel⟩
theorem ok_placed {f fl CB : Addr} {fd fdl : FuncData} (F : Fun K "placed" "placed" s_placed f fd) (B : Blt mg) (T : Cb K mg CB) (M_late : Meth K CB "late" fl) (b_late : Binds K fdl ["self", "stream"] []) (F_late : FnOk P w K mg base CX0 3 fl fdl ["self", "stream"] (spLate CB)) : FnOk P w K mg base CX0 4 f fd ["book", "row", "arrival"] (spPlaced CB) := by
  refine F.ok sc_placed (fun vs H Q E h => ?_) (fun cdv A outer s H vs Q E hr h => ?_)
  · obtain ⟨b, t, L, z, k, m, a, r, l, rfl, _⟩ := h
    rfl
  · obtain ⟨b, t, L, z, k, m, a, r, l, rfl, hB, ht, hz, hl, q⟩ := h
    refine ⟨_, (pss_cons (ps_par (i := 3) (j := 4) (by rfl) sc_placed.nd rfl rfl (by decide) rfl rfl (pa_cons (pe_ix ix_tup (pv 1) pe_int (fun _ _ => rfl)) (pa_cons (pe_ix ix_tup (pv 1) pe_int (fun _ _ => rfl)) pa_nil)) (by rfl))
    (pss_cons (ps_if (pt_chain op_le op_le (pv 4) (pv 2) (pe_op op_add (pv 4) (pe_meth (pv 0) T.cl M_late F_late (hr.mono (by decide)) b_late .nil pass0 (pa_cons (pv 3) pa_nil))))
      (pss_one (ps_ret (pv 1)))
      pss_nil)
    (pss_one (ps_ret pe_non)))), ?_⟩
    refine ⟨_, rfl, _, _, _, _, rfl, rfl, SqT.of ht, rfl, _, rfl, _, _, _, _, rfl, rfl, SqT.of ht, rfl, _, _, rfl, ?_⟩
    obtain ⟨dx, d, L', h1, h2, h3⟩ := id hB
    refine ⟨_, rfl, _, rfl, _, _, rfl, rfl, _, rfl, ?_⟩
    refine ite2 (fun c1 => ?_) (fun c1 => ?_)
    · have c1 : m ≤ r := of_decide_eq_true c1
      refine ⟨_, rfl, _, rfl, b, dx, _, rfl, h1, rfl, _, rfl, b, L, z, l, rfl, hB, hz, hl, fun H1 s1 => ⟨_, _, rfl, rfl, _, _, rfl, rfl, _, rfl, ?_⟩⟩
      refine ite2 (fun c2 => ?_) (fun c2 => ?_)
      · have c2 : r ≤ m + l := of_decide_eq_true c2
        have := q H1 s1
        rw [if_pos ⟨c1, c2⟩] at this
        exact ⟨_, rfl, this⟩
      · have c2 : ¬ r ≤ m + l := by simpa using c2
        have := q H1 s1
        rw [if_neg (fun z => c2 z.2)] at this
        exact this
    · have c1 : ¬ m ≤ r := by simpa using c1
      have := q H (Same.refl H)
      rw [if_neg (fun z => c1 z.1)] at this
      exact ⟨_, rfl, iteF this⟩
structure K5 (P : Program) (w : World) (K : PySem.W.Frag) (mg : Str → Option Value) (base : Heap) (CB : Addr) : Prop extends K4 P w K mg base where
  is_entry : Cal P w K mg base CX0 "is_entry" 3 ["thing"] (spIsEntry K)
  arrival_of : Cal P w K mg base CX0 "arrival_of" 1 ["entry"] (spArr K)
  placed : Cal P w K mg base CX0 "placed" 4 ["book", "row", "arrival"] (spPlaced CB)
/-- the written () -/
structure Tb (K : PySem.W.Frag) (mg : Str → Option Value) (aT : Addr) : Prop where
  g : mg "TAKEN_BACK" = some (.ref aT)
  t : ∃ (o : Obj) (n : Nat), K.lookup aT = some o ∧ o.cls = .type "tuple" ∧ o.data = .seq #[] n
theorem Tb.sq {aT : Addr} (h : Tb K mg aT) (H : Hp) : SqT K H aT [] := by
  obtain ⟨o, n, h1, h2, h3⟩ := h.t
  exact .inr ⟨o, #[], n, h1, h2, h3, Nat.zero_le _, .nil⟩
abbrev s_row_behind : Stmt := topS 25
theorem sc_row_behind : FnScope ["book", "entry", "old", "stream", "key", "moment", "_"] ["book", "entry", "old"] (defScope s_row_behind) := ⟨rfl, rfl, rfl, by decide +kernel, rfl, by decide +kernel, by decide +kernel⟩
theorem ok_row_behind {f fh fl CB a_TAKEN_BACK : Addr} {fd fdh fdl : FuncData} (F : Fun K "row_behind" "row_behind" s_row_behind f fd) (B : Blt mg) (T : Cb K mg CB) (TB : Tb K mg a_TAKEN_BACK) (G : K5 P w K mg base CB) (M_has : Meth K CB "has" fh) (b_has : Binds K fdh ["self", "stream"] []) (F_has : FnOk P w K mg base CX0 2 fh fdh ["self", "stream"] (spHas CB))
    (M_late : Meth K CB "late" fl) (b_late : Binds K fdl ["self", "stream"] []) (F_late : FnOk P w K mg base CX0 3 fl fdl ["self", "stream"] (spLate CB)) : FnOk P w K mg base CX0 5 f fd ["book", "entry", "old"] (spBehind a_TAKEN_BACK CB) := by
  have g_TAKEN_BACK := TB.g
  refine F.ok sc_row_behind (fun vs H Q E h => ?_) (fun cdv A outer s H vs Q E hr h => ?_)
  · obtain ⟨b, e, L, x, ov, o, rfl, _⟩ := h
    rfl
  · obtain ⟨b, e, L, x, ov, o, rfl, hB, hx, hok, hV, hNm, q⟩ := h
    have hu := hu_of hr
    obtain ⟨dx, d, L', h1, h2, h3⟩ := id hB
    refine ⟨_, (pss_cons (ps_if (pt_cmpR op_eq (pe_ix ix_tup (pv 1) pe_int (fun _ _ => rfl)) pe_str (nomark _))
      (pss_cons (ps_if (PW.pt (pw_or (pt_cmpR op_notN (pv 2) pe_non (nomark _)) (pw_or1 (pt_not (pt_val (pe_meth (pv 0) T.cl M_has F_has (hr.mono (by decide)) b_has .nil pass0 (pa_cons (pe_ix ix_tup (pv 1) pe_int (fun _ _ => rfl)) pa_nil)))))))
        (pss_one (ps_ret pe_non))
        pss_nil)
      (pss_one (ps_ret (pe_cal G.placed (hr.mono (by decide)) pass0 (pa_cons (pv 0) (pa_cons (pe_slice sl_tup (pv 1) (po_some pe_int) (po_some pe_int)) (pa_cons (pe_cal G.arrival_of (hr.mono (by decide)) pass0 (pa_cons (pv 1) pa_nil)) pa_nil)))))))
      pss_nil)
    (pss_cons (ps_if (PW.pt (pw_or (pt_cmpR op_isN (pv 2) pe_non (nomark _)) (pw_or1 (pt_cmpR (op_eqD hr.units) (pv 2) (pe_glob (v := .ref a_TAKEN_BACK) (by rfl) g_TAKEN_BACK rfl) (nomark _)))))
      (pss_one (ps_ret pe_non))
      pss_nil)
    (pss_cons (ps_asg (pv 2) (pg_tup (by rfl) (pgs_cons (pg_name (i := 3) sc_row_behind.nd rfl (Or.inl rfl)) (pgs_cons (pg_name (i := 4) sc_row_behind.nd rfl (Or.inl rfl)) (pgs_cons (pg_name (i := 5) sc_row_behind.nd rfl (Or.inl rfl)) (pgs_cons (pg_name (i := 6) sc_row_behind.nd rfl (Or.inl rfl)) pgs_nil))))))
    (pss_cons (ps_if (pt_cmpR op_gt (pe_cal G.arrival_of (hr.mono (by decide)) pass0 (pa_cons (pv 1) pa_nil)) (pe_op op_add (pv 5) (pe_meth (pv 0) T.cl M_late F_late (hr.mono (by decide)) b_late .nil pass0 (pa_cons (pv 3) pa_nil))) (nomark _))
      (pss_one (ps_ret pe_non))
      pss_nil)
    (pss_cons (ps_if (pt_cmpR op_eq (pe_ix ix_tup (pv 1) pe_int (fun _ _ => rfl)) pe_str (nomark _))
      (pss_one (ps_ret (pe_glob (v := .ref a_TAKEN_BACK) (by rfl) g_TAKEN_BACK rfl)))
      pss_nil)
    (pss_one (ps_ret (pe_cal G.placed (hr.mono (by decide)) pass0 (pa_cons (pv 0) (pa_cons (pe_tup (pa_cons (pv 3) (pa_cons (pv 4) (pa_cons (pe_ix ix_tup (pv 1) pe_int (fun _ _ => rfl)) (pa_cons (pe_ix ix_tup (pv 1) pe_int (fun _ _ => rfl)) pa_nil))))) (pa_cons (pe_cal G.arrival_of (hr.mono (by decide)) pass0 (pa_cons (pv 1) pa_nil)) pa_nil))))))))))), ?_⟩
    cases x with
    | row id s k m a r =>
      obtain ⟨hs, hk⟩ := hok.2 _ _ _ _ _ _ rfl
      refine ⟨_, rfl, _, _, _, _, rfl, rfl, SqT.of hx, rfl, rfl, _, rfl, iteT ?_⟩
      cases ov with
      | some v =>
        have hvn : v ≠ .non := by
          cases o with
          | none => exact absurd hV (fun z => z)
          | some o =>
            cases o with
            | tb => obtain rfl : v = .ref a_TAKEN_BACK := hV; exact fun z => nomatch z
            | at_ s k m a => obtain ⟨t, rfl, _⟩ := hV; exact fun z => nomatch z
        refine ⟨_, rfl, rfl, _, rfl, ?_⟩
        show if (!decide (v = .non)) = true then _ else _
        rw [decide_eq_false hvn]
        refine iteT (q _ H (Same.refl H) (.inl ⟨?_, rfl⟩))
        cases o with
        | none => exact absurd hV (fun z => z)
        | some o => cases o <;> rfl
      | none =>
        cases o with
        | some o => exact absurd hV (fun z => z)
        | none =>
          refine ⟨_, rfl, rfl, _, rfl, iteF ?_⟩
          refine ⟨_, rfl, b, dx, _, rfl, h1, rfl, _, rfl, _, _, _, _, rfl, rfl, SqT.of hx, rfl, b, L, s, rfl, hB, hs, fun H1 s1 => ⟨_, rfl, ?_⟩⟩
          cases el : L.lookup s with
          | none =>
            refine iteT (q _ H1 s1 (.inl ⟨?_, rfl⟩))
            show (L.lookup s).bind _ = none
            rw [el]
            rfl
          | some l =>
            have hx1 := s1 _ _ hx
            refine iteF ⟨_, rfl, _, rfl, _, rfl, _, rfl, e, _, rfl, SqT.of hx1, (by show ¬ (HT.sIx 7 0 (some 2) = 0 ∧ HT.sIx 7 7 (some 6) = 7); decide), fun p hp => ?_⟩
            have hs2 : Same H (upd H1 p (.tup [.str s, .str k, .int m, .int a])) := s1.trans (sameAt (Same.refl _) hp)
            have hx2 : EntAt (upd H1 p (.tup [.str s, .str k, .int m, .int a])) e (.row id s k m a r) := hs2 _ _ hx
            refine ⟨_, rfl, e, _, rfl, hx2, b, p, L, s, k, m, a, r, l, rfl, hB.same hs2, upd_same, hs, el, fun H3 s3 => ?_⟩
            refine q _ H3 (hs2.trans s3) ?_
            by_cases c : m ≤ r ∧ r ≤ m + l
            · rw [if_pos c]
              refine .inr ⟨(fun z => nomatch z), .at_ s k m a, ?_, p, rfl, s3 _ _ upd_same⟩
              show (L.lookup s).bind _ = _
              rw [el, Option.bind_some, if_pos c]
            · rw [if_neg c]
              refine .inl ⟨?_, rfl⟩
              show (L.lookup s).bind _ = _
              rw [el, Option.bind_some, if_neg c]
    | fix id m a r =>
      refine ⟨_, rfl, _, _, _, _, rfl, rfl, SqT.of hx, rfl, rfl, _, rfl, iteF ?_⟩
      cases ov with
      | none =>
        cases o with
        | some o => exact absurd hV (fun z => z)
        | none => exact ⟨_, rfl, rfl, _, rfl, iteT (q _ H (Same.refl H) (.inl ⟨rfl, rfl⟩))⟩
      | some v =>
        cases o with
        | none => exact absurd hV (fun z => z)
        | some o =>
          cases o with
          | tb =>
            obtain rfl : v = .ref a_TAKEN_BACK := hV
            exact ⟨_, rfl, rfl, _, rfl, iteF ⟨_, rfl, .tuple [], .tuple [], .tup (TB.sq H) .nil, .tup (TB.sq H) .nil, rfl, rfl, _, rfl, iteT (q _ H (Same.refl H) (.inl ⟨rfl, rfl⟩))⟩⟩
          | at_ z k m0 a0 =>
            obtain ⟨t, rfl, ht⟩ := hV
            obtain ⟨hz, hk0, hzl⟩ := hNm _ _ _ _ rfl
            obtain ⟨l, el⟩ := Option.isSome_iff_exists.mp hzl
            refine ⟨_, rfl, rfl, _, rfl, iteF ⟨_, rfl, .tuple [.str z, .str k, .int m0, .int a0], .tuple [], .tup (SqT.of ht) (.cons (.str _) (.cons (.str _) (.cons (.int _) (.cons (.int _) .nil)))), .tup (TB.sq H) .nil, shaped_flat (by simp [flatD, nm_ok hz, nm_ok hk0]), rfl, _, rfl, iteF ?_⟩⟩
            refine ⟨_, rfl, t, _, rfl, SqT.of ht, rfl, _, _, rfl, _, _, rfl, _, _, rfl, _, _, rfl, rfl, ?_⟩
            refine ⟨_, rfl, e, _, rfl, hx, _, rfl, _, rfl, b, dx, _, rfl, h1, rfl, _, rfl, b, L, z, l, rfl, hB, hz, el, fun H1 s1 => ⟨_, _, rfl, rfl, _, _, rfl, rfl, _, rfl, ?_⟩⟩
            have hx1 : EntAt H1 e (.fix id m a r) := s1 _ _ hx
            have hB1 := hB.same s1
            refine ite2 (fun c1 => ?_) (fun c1 => ?_)
            · have c1 : m0 + l < r := of_decide_eq_true c1
              refine q _ H1 s1 (.inl ⟨?_, rfl⟩)
              show (L.lookup z).bind _ = none
              rw [el, Option.bind_some, if_neg (by omega)]
            · have c1 : ¬ m0 + l < r := fun z => c1 (decide_eq_true z)
              refine ⟨_, rfl, _, _, _, _, rfl, rfl, SqT.of hx1, rfl, rfl, _, rfl, iteF ?_⟩
              refine ⟨_, rfl, _, rfl, _, rfl, _, rfl, _, _, _, _, rfl, rfl, SqT.of hx1, rfl, _, rfl, _, _, _, _, rfl, rfl, SqT.of hx1, rfl, (by show 4 ≤ sizeLine; decide), fun p hp => ?_⟩
              have s2 : Same H (upd H1 p (.tup [.str z, .str k, .int m, .int a])) := s1.trans (sameAt (Same.refl _) hp)
              have hx2 : EntAt (upd H1 p (.tup [.str z, .str k, .int m, .int a])) e (.fix id m a r) := s2 _ _ hx
              refine ⟨_, rfl, e, _, rfl, hx2, b, p, L, z, k, m, a, r, l, rfl, hB.same s2, upd_same, hz, el, fun H3 s3 => ?_⟩
              refine q _ H3 (s2.trans s3) ?_
              by_cases c : m ≤ r ∧ r ≤ m + l
              · rw [if_pos c]
                refine .inr ⟨(fun z => nomatch z), .at_ z k m a, ?_, p, rfl, s3 _ _ upd_same⟩
                show (L.lookup z).bind _ = _
                rw [el, Option.bind_some, if_pos ⟨by omega, c.1, c.2⟩]
              · rw [if_neg c]
                refine .inl ⟨?_, rfl⟩
                show (L.lookup z).bind _ = _
                rw [el, Option.bind_some, if_neg (fun y => c y.2)]
    | gone id r =>
      refine ⟨_, rfl, _, _, _, _, rfl, rfl, SqT.of hx, rfl, rfl, _, rfl, iteF ?_⟩
      cases ov with
      | none =>
        cases o with
        | some o => exact absurd hV (fun z => z)
        | none => exact ⟨_, rfl, rfl, _, rfl, iteT (q _ H (Same.refl H) (.inl ⟨rfl, rfl⟩))⟩
      | some v =>
        cases o with
        | none => exact absurd hV (fun z => z)
        | some o =>
          cases o with
          | tb =>
            obtain rfl : v = .ref a_TAKEN_BACK := hV
            exact ⟨_, rfl, rfl, _, rfl, iteF ⟨_, rfl, .tuple [], .tuple [], .tup (TB.sq H) .nil, .tup (TB.sq H) .nil, rfl, rfl, _, rfl, iteT (q _ H (Same.refl H) (.inl ⟨rfl, rfl⟩))⟩⟩
          | at_ z k m0 a0 =>
            obtain ⟨t, rfl, ht⟩ := hV
            obtain ⟨hz, hk0, hzl⟩ := hNm _ _ _ _ rfl
            obtain ⟨l, el⟩ := Option.isSome_iff_exists.mp hzl
            refine ⟨_, rfl, rfl, _, rfl, iteF ⟨_, rfl, .tuple [.str z, .str k, .int m0, .int a0], .tuple [], .tup (SqT.of ht) (.cons (.str _) (.cons (.str _) (.cons (.int _) (.cons (.int _) .nil)))), .tup (TB.sq H) .nil, shaped_flat (by simp [flatD, nm_ok hz, nm_ok hk0]), rfl, _, rfl, iteF ?_⟩⟩
            refine ⟨_, rfl, t, _, rfl, SqT.of ht, rfl, _, _, rfl, _, _, rfl, _, _, rfl, _, _, rfl, rfl, ?_⟩
            refine ⟨_, rfl, e, _, rfl, hx, _, rfl, _, rfl, b, dx, _, rfl, h1, rfl, _, rfl, b, L, z, l, rfl, hB, hz, el, fun H1 s1 => ⟨_, _, rfl, rfl, _, _, rfl, rfl, _, rfl, ?_⟩⟩
            have hx1 : EntAt H1 e (.gone id r) := s1 _ _ hx
            refine ite2 (fun c1 => ?_) (fun c1 => ?_)
            · have c1 : m0 + l < r := of_decide_eq_true c1
              refine q _ H1 s1 (.inl ⟨?_, rfl⟩)
              show (L.lookup z).bind _ = none
              rw [el, Option.bind_some, if_neg (by omega)]
            · have c1 : ¬ m0 + l < r := fun z => c1 (decide_eq_true z)
              refine ⟨_, rfl, _, _, _, _, rfl, rfl, SqT.of hx1, rfl, rfl, _, rfl, iteT ?_⟩
              refine q _ H1 s1 (.inr ⟨(fun z => nomatch z), .tb, ?_, rfl⟩)
              show (L.lookup z).bind _ = _
              rw [el, Option.bind_some, if_pos (by omega)]
end
end Ash

set_option Elab.async false
set_option linter.all false
set_option maxRecDepth 100000
set_option maxHeartbeats 4000000
namespace PySem
open Sem (wp)
open AutoSeq1 (wpAny_loadPart')
theorem ash_enum_newT (l : Addr) (its : Array Value) (n : Nat) (dc : Option Addr) (sl : Array (Option Value)) :
    Meets (Builtin.«enumerate.__new__» ⟨[.type "enumerate", .ref l], []⟩) (fun _ R s => s.heap.get? l = some { cls := .type "tuple", dict := dc, data := .seq its n, slots := sl } ∧
      R (.ok (.ret (.ref (s.heap.push { cls := .type "tuple_iterator", data := .fields #[.ref l, .int 0 0] }).objs.size)))
        { s with heap := (s.heap.push { cls := .type "tuple_iterator", data := .fields #[.ref l, .int 0 0] }).push { cls := .type "enumerate", data := .fields #[.none, .bool false, .ref s.heap.objs.size, rawInt 0, .none, .none] } }) :=
  .of_wp fun prog w A R s h => by
    obtain ⟨hp, g, d, tk, os⟩ := s
    obtain ⟨ht, h⟩ := h
    have hsub := sub_enumerate
    have hT : Heap.IsTuple (Shared.heap ⟨hp, g, d, tk, os⟩) l its := ⟨_, ht, rfl, n, rfl⟩
    wp_walk using wpAny_loadPart' ht
    refine wpAny_stack_any fun st => wpAny_pure ?_
    split
    · rename_i c _ _ _ _ _
      cases (c == Value.type "enumerate") <;>
      · wp_walk using wpAny_loadPart' ht, wpAny_pyIter_tuple hT
        exact ⟨_, rfl, h⟩
    · wp_walk using wpAny_loadPart' ht, wpAny_pyIter_tuple hT
      exact ⟨_, rfl, h⟩
section
variable {prog : Program} {w : World} {A : Around} {E : Value → Shared → Prop} {s : Shared}
theorem ash_call_enumT {l : Addr} {its : Array Value} {Q : Value → Shared → Prop} (hT : s.heap.IsTuple l its)
    (h : ∀ h', IsEnum h' (s.heap.objs.size + 1) s.heap.objs.size 0 .none → h'.IsTupleIter s.heap.objs.size l 0 →
      (∀ b o, s.heap.get? b = some o → h'.get? b = some o) → Q (.ref (s.heap.objs.size + 1)) { s with heap := h' }) :
    wpAny (model prog w) A (call (.type "enumerate") [.ref l]) Q E s := by
  obtain ⟨⟨c, dc, dt, sl⟩, hl, hc, n, hd⟩ := hT
  replace hc : c = .type "tuple" := hc
  replace hd : dt = .seq its n := hd
  subst hc hd
  refine callType_new F.called_enumerate (by decide) (F.typeCall_enumerate_1 _) (F.newCall_enumerate_1 _) (fun o => F.args_object_init_2 o _) F.entry_enumerate_new (ash_enum_newT l its n dc sl) ⟨hl, ?_⟩
  let oi : Obj := { cls := .type "tuple_iterator", data := .fields #[.ref l, .int 0 0] }
  let oe : Obj := { cls := .type "enumerate", data := .fields #[.none, .bool false, .ref s.heap.objs.size, rawInt 0, .none, .none] }
  have hz : (s.heap.push oi).objs.size = s.heap.objs.size + 1 := Heap.size_push ..
  have he : IsEnum ((s.heap.push oi).push oe) (s.heap.objs.size + 1) s.heap.objs.size 0 .none := by
    have q := Heap.get?_push_size (s.heap.push oi) (o := oe) rfl
    rw [hz] at q
    exact q
  show _ ∧ _
  rw [hz]
  exact ⟨⟨_, he, rfl⟩, h _ he ⟨_, Heap.get?_push_of_some _ (Heap.get?_push_size _ rfl), rfl, rfl⟩ fun b o x => Heap.get?_push_of_some _ (Heap.get?_push_of_some _ x)⟩
end
end PySem
namespace Ash
open PySem PySem.Spec PyProof.Rows L2
/-- enumerate of a tuple: its items in new pairs -/
def Itet (K : PySem.W.Frag) (a : Addr) : It :=
  ⟨fun i H => ∃ (xs : List V) (x : V), SqT K H a xs ∧ xs[i]? = some x, fun i H v H' => ∃ T x, v = .ref T ∧ H T = none ∧ H' = upd H T (.tup [.int (i : Nat), x]) ∧ ∀ xs, SqT K H a xs → xs[i]? = some x, fun i H => ∃ xs : List V, SqT K H a xs ∧ xs.length ≤ i⟩
theorem turn_enumT {P : Program} {w : World} {K : PySem.W.Frag} {elts : List Expr} {kk : Nat} {tpos : Pos} (a e it : Addr) :
    Turn P w K (.Tuple elts kk tpos) (Itet K a) [e, it] e (fun i h => (∃ old, IsEnum h e it ((i : Nat) : Int) old) ∧ h.IsTupleIter it a i ∧ e ≠ it) where
  mem := by simp
  obj := fun i h st b hb => by
    obtain ⟨⟨old, he⟩, ⟨o, ho, hc, hd⟩, _⟩ := st
    rcases (show b = e ∨ b = it by simpa using hb) with z | z
    · subst z
      exact ⟨_, he, fun v q => nomatch q⟩
    · exact ⟨o, by rw [z]; exact ho, fun v q => by rw [hd] at q; cases q⟩
  keep := fun i h h' st k => by
    obtain ⟨⟨old, he⟩, hi, hne⟩ := st
    exact ⟨⟨old, k e (by simp) _ he⟩, hi.at fun o q => k it (by simp) o q, hne⟩
  item := by
    intro X hP hw hK hc i pins s σ H E I hf st hg
    subst hP hw hK
    obtain ⟨⟨old, he⟩, hit, hne⟩ := st
    obtain ⟨xs, x, hq, hx⟩ := hg
    obtain ⟨its, rv, p, hz⟩ := I.tuple hq
    obtain ⟨u, hu, ru⟩ := rv.get hx
    have hpT : s.heap.IsTuple a its.toArray := p
    have hel : e < s.heap.objs.size := Heap.lt_size he
    have hil : it < s.heap.objs.size := by
      obtain ⟨_, q, _⟩ := hit
      exact Heap.lt_size q
    have hae : e ≠ a := fun z => by
      obtain ⟨o, q1, q2, _⟩ := hpT
      rw [← z] at q1
      have q3 : s.heap.get? e = some _ := he
      rw [q3] at q1
      cases q1
      exact absurd (Value.type.inj q2) (by decide)
    have hai : a ≠ it := fun z => by
      obtain ⟨o, q1, q2, _⟩ := hpT
      obtain ⟨o2, q3, q4, _⟩ := hit
      rw [z, q3] at q1
      cases q1
      rw [q4] at q2
      exact absurd (Value.type.inj q2) (by decide)
    have hh : X.A.in1.handled = none := I.ok.hd hc
    have D := Draws.tuple (prog := X.prog) (w := X.w) hh it a hai its.toArray
    have hlt : i < its.toArray.size := by
      have := (List.getElem?_eq_some_iff.mp hu).1
      simpa using this
    refine wpAny_pyNext_enum_itemD D he ⟨hit, hpT⟩ hlt hne (by simp [hne, hae]) fun y h' tk hy ho hst hT hsz hk => ?_
    have hyu : y = u := by
      have q : its[i]? = some y := by simpa using hy
      rw [hu] at q
      exact (Option.some.inj q).symm
    subst hyu
    refine ⟨_, rfl, wpAny_letOwnedTupleGo_enum (s := { s with heap := h', toks := tk + 1 }) ho fun h'' he' sb => ?_⟩
    have hT2 : h''.get? s.heap.objs.size = some { cls := .type "tuple", data := .seq #[.int i tk, y] } := (sb.2 _ (Nat.ne_of_gt hel)).trans hT
    have new : ObjOk X.prog X.w (upd H s.heap.objs.size (.tup [.int (i : Nat), x])) h'' s.heap.objs.size (.tup [.int (i : Nat), x]) :=
      ⟨by show 2 ≤ sizeLine; decide, [.int i tk, y], .cons ⟨_, rfl⟩ (.cons ru .nil), ⟨_, hT2, rfl, _, rfl⟩⟩
    have I1 : Inv X pins σ (upd H s.heap.objs.size (.tup [.int (i : Nat), x])) { s with heap := h'', toks := tk + 1 } :=
      I.turnedNew (ch := [e, it]) (fun b o hb q => (sb.2 b (fun z => hb (by simp [z]))).trans (hk b o (fun z => hb (by simp [z])) (fun z => hb (by simp [z])) q)) hf (Nat.le_refl _) new
    refine ⟨.ref s.heap.objs.size, _, I1, rfl, ⟨_, x, rfl, I.hok.fresh (Nat.le_refl _), rfl, fun ys hy => by rw [I.tuple_inj hy hq]; exact hx⟩, ⟨⟨y, ?_⟩, hst.1.at fun o q => (sb.2 it (Ne.symm hne)).trans q, hne⟩, fun b hb => ?_⟩
    · rw [show ((i + 1 : Nat) : Int) = (i : Int) + 1 by omega]
      exact he'
    · have hb' : b < s.heap.objs.size := by
        rcases (show b = e ∨ b = it by simpa using hb) with z | z <;> rw [z] <;> assumption
      rw [upd_ne (Nat.ne_of_lt hb')]
      exact (hf b hb).1
  done := by
    intro X hP hw hK hc i pins s σ H E I hf st hg
    subst hP hw hK
    obtain ⟨⟨old, he⟩, hit, hne⟩ := st
    obtain ⟨xs, hq, hx⟩ := hg
    obtain ⟨its, rv, p, hz⟩ := I.tuple hq
    have hpT : s.heap.IsTuple a its.toArray := p
    obtain ⟨f0, f1, f2, f3, f4, f5⟩ := hf it (by simp)
    have hl := rv.length
    have hh : X.A.in1.handled = none := I.ok.hd hc
    have hT : s.TypeIs (.ref e) "enumerate" := ⟨_, he, rfl⟩
    unfold pyNext
    refine wpAny_bind (wpAny_attempt (wpAny_callSpecial?_slot (name := Str.ofString "__next__") hT F.slot_enumerate_next
      (wpAny_call_entry F.slot_enumerate_next hT F.entry_enumerate_next ?_ (F.args_enumerate_next_1 _))))
    show wpAny _ _ (field (.ref e) 2 >>= _) _ _ _
    refine wpAny_bind (wpAny_field he rfl (x := .ref it) rfl (wpAny_bind (wpAny_nextOf_tuple_end hh hit hpT (by simp; omega) fun h' x hb ⟨o, ho, hco⟩ => ?_)))
    refine wpAny_bind (wpAny_isInstance (T := "StopIteration") (b := true) ⟨o, ho, hco⟩ isSubtype_stop ?_)
    exact wpAny_pure ⟨rfl, I.turned (t' := s.toks) (fun b o hn q => hb b o hn q) f0 f1 f3 f4 f5⟩
  self := fun A i s Q E st h => by
    obtain ⟨⟨_, he⟩, _⟩ := st
    exact wpAny_pyIter_enum he h
/-- enumerate of a list or a tuple -/
def iEnumS (K : PySem.W.Frag) (ta : TA) : TI := fun σ H R => ta σ H fun vs H1 => ∃ a, vs = [.ref a] ∧ ((∃ xs, SqL K H1 a xs ∧ R (Ite K a) H1) ∨ ∃ xs, SqT K H1 a xs ∧ R (Itet K a) H1)
theorem pi_enumS {X : Cx} {e : Expr} {ta : TA} {p pos tpos : Pos} {elts : List Expr} {kk : Nat} (hg : Gl X "enumerate") (hm : X.mg "enumerate" = none) (ha : PA X [e] ta) (hs : starEach [e] X.env = [(false, eval e X.env)] := by rfl) :
    PI X (.Tuple elts kk tpos) (.Call (.Name "enumerate" p) [e] [] pos) (iEnumS X.K ta) := by
  refine ⟨fun pins s σ H R I h => ?_⟩
  refine Call_ (ld_blt I hg hm boot_enumerate (PyProof.Rows.callWith_type1 (thn (ha.run pos pins s σ H _ I h) fun us s1 ⟨vs, H1, I1, r1, a, ex, q1⟩ => ?_) hs rfl))
  subst ex
  have fresh : ∀ b, b ∈ [s1.heap.objs.size + 1, s1.heap.objs.size] → FpOk X pins H1 b := fun b hb => by
    have hle : s1.heap.objs.size ≤ b := by
      rcases (show b = s1.heap.objs.size + 1 ∨ b = s1.heap.objs.size by simpa using hb) with z | z <;> omega
    exact I1.fpOk hle (I1.hok.fresh hle)
  cases r1 with
  | cons r rr =>
    cases rr
    cases r
    rcases q1 with ⟨xs, hq, q⟩ | ⟨xs, hq, q⟩
    · obtain ⟨its, rv, p', hz⟩ := I1.list hq
      exact call_enumerate_list p'.isList fun h' he hit _ hk => wpAny_pyIter_enum he ⟨_, _, _, _, H1, rfl, I1.kept (t' := s1.toks) hk, turn_enum a _ _, ⟨⟨.none, he⟩, hit, Nat.succ_ne_self _⟩, fresh, q⟩
    · obtain ⟨its, rv, p', hz⟩ := I1.tuple hq
      exact ash_call_enumT (show s1.heap.IsTuple a its.toArray from p') fun h' he hit hk => wpAny_pyIter_enum he ⟨_, _, _, _, H1, rfl, I1.kept (t' := s1.toks) hk, turn_enumT a _ _, ⟨⟨.none, he⟩, hit, Nat.succ_ne_self _⟩, fresh, q⟩
theorem walk_enumT {K : PySem.W.Frag} {a : Addr} {xs : List V} : Walk (Itet K a) xs.length (fun H => SqT K H a xs) (YPair (fun i => some (.int (i : Nat))) (fun i => xs[i]?)) := by
  refine ⟨fun i _ hi q => ⟨xs, xs[i], q, by simp [hi]⟩, fun _ q => ⟨xs, q, Nat.le_refl _⟩, fun i H v H' _ q y => ?_⟩
  obtain ⟨T, x, h1, h2, h3, h4⟩ := y
  exact ⟨T, .int (i : Nat), x, h1, h2, h3, rfl, h4 xs q⟩
end Ash

set_option Elab.async false
set_option linter.all false
set_option maxRecDepth 100000
set_option maxHeartbeats 4000000
namespace Ash
open PySem PySem.Spec PyProof.Rows L2
open C8 (pss_cut)
/-! ### rows of things that may be entries -/
abbrev Kn := Int → Option RowSt
def late? (l : Option Int) (r : Int) : Bool := match l with
  | some t => decide (r < t)
  | none => false
/-- the index of the first thing that is not a good entry, and what is known ahead of it -/
def wk (L : List (Str × Int)) : List (Option Ent) → Nat → Kn → Option Int → Option Nat × Kn
  | [], _, S, _ => (none, S)
  | none :: _, i, S, _ => (some i, S)
  | some x :: r, i, S, l => if late? l x.arr = true then (some i, S) else match behind L x (S x.id) with
    | none => (some i, S)
    | some y => wk L r (i + 1) (fun j => if j = x.id then some y else S j) (some x.arr)
def ThAt (K : PySem.W.Frag) (H : Hp) (v : V) : Option Ent → Prop
  | some x => ∃ e, v = .ref e ∧ EntAt H e x ∧ x.ok
  | none => NotTup K H v ∨ ∃ e xs, v = .ref e ∧ H e = some (.tup xs) ∧ xs.length < 3
/-- a dict with keys that are ints, each once -/
structure KLen (kvs : List (Key × V)) (n : Nat) : Prop where
  len : kvs.length ≤ n
  nd : (kvs.map (·.1)).Nodup
  ik : ∀ kv ∈ kvs, ∃ id, kv.1 = Sum.inl id
theorem KLen.mono {kvs : List (Key × V)} {n m : Nat} (h : KLen kvs n) (l : n ≤ m) : KLen kvs m := ⟨Nat.le_trans h.len l, h.nd, h.ik⟩
theorem KLen.nil {n : Nat} : KLen [] n := ⟨Nat.zero_le _, .nil, fun _ h => nomatch h⟩
theorem KLen.put {kvs : List (Key × V)} {n : Nat} (h : KLen kvs n) (id : Int) (v : V) : KLen (putK kvs (Sum.inl id : Key) v) (n + 1) := by
  have hl := length_putK kvs (Sum.inl id : Key) v
  have h1 := h.len
  refine ⟨by omega, ?_, ?_⟩
  · unfold putK
    split
    · rw [List.map_map]
      have e : ((fun x : Key × V => x.1) ∘ fun kv : Key × V => if kv.1 = Sum.inl id then (kv.1, v) else kv) = fun x => x.1 := by
        funext x
        show (if x.1 = Sum.inl id then (x.1, v) else x).1 = x.1
        split <;> rfl
      first
        | exact e ▸ h.nd
        | (rw [show (kvs.map _) = kvs.map (·.1) from List.map_congr_left fun x _ => by
            show (if x.1 = Sum.inl id then _ else _ : Key × V).1 = x.1
            split <;> simp_all]
           exact h.nd)
    · rename_i c
      rw [List.map_append, List.nodup_append]
      refine ⟨h.nd, by simp, fun a ha b hb => ?_⟩
      obtain ⟨x, hx, rfl⟩ := List.mem_map.mp ha
      have : b = Sum.inl id := by simpa using hb
      subst this
      intro z
      exact c (List.any_eq_true.mpr ⟨x, hx, by simp [z]⟩)
  · intro kv hkv
    unfold putK at hkv
    split at hkv
    · obtain ⟨x, hx, rfl⟩ := List.mem_map.mp hkv
      obtain ⟨j, hj⟩ := h.ik x hx
      split
      · exact ⟨j, hj⟩
      · exact ⟨j, hj⟩
    · rcases List.mem_append.mp hkv with hk | hk
      · exact h.ik kv hk
      · rw [List.mem_singleton.mp hk]
        exact ⟨id, rfl⟩
def KnAt (aT : Addr) (H : Hp) (d : Addr) (S : Kn) (n : Nat) : Prop := ∃ kvs : List (Key × V), H d = some (.dK kvs) ∧ KLen kvs n ∧ ∀ id, RowV aT H (valV kvs (Sum.inl id)) (S id)
def KnOk (L : List (Str × Int)) (S : Kn) : Prop := ∀ id s k m a, S id = some (.at_ s k m a) → IsNm s ∧ IsNm k ∧ (L.lookup s).isSome
theorem tyx_same {K : PySem.W.Frag} {H H' : Hp} {v : V} {t : Value} (h : TyX K H v t) (s : Same H H') : TyX K H' v t := by
  cases h with
  | base b =>
    refine .base ?_
    cases b with
    | non => exact .non
    | bl x => exact .bl x
    | int x => exact .int x
    | str x => exact .str x
    | flt x => exact .flt x
    | lst e => exact .lst (s _ _ e)
    | frz e => exact .frz (s _ _ e)
    | tup e => exact .tup (s _ _ e)
    | dK e => exact .dK (s _ _ e)
    | dT e => exact .dT (s _ _ e)
    | ins e c a b d f => exact .ins (s _ _ e) c a b d f
  | byt b => exact .byt b
  | set e => exact .set (s _ _ e)
  | kList e c => exact .kList e c
  | kTuple e c => exact .kTuple e c
  | kDict e c => exact .kDict e c
  | fTuple e => exact .fTuple (s _ _ e)
  | fDict e => exact .fDict (s _ _ e)
theorem ThAt.same {K : PySem.W.Frag} {H H' : Hp} {v : V} {o : Option Ent} (h : ThAt K H v o) (s : Same H H') : ThAt K H' v o := by
  cases o with
  | some x =>
    obtain ⟨e, h1, h2, h3⟩ := h
    exact ⟨e, h1, s _ _ h2, h3⟩
  | none =>
    rcases h with ⟨t, h1, h2⟩ | ⟨e, xs, h1, h2, h3⟩
    · exact .inl ⟨t, tyx_same h1 s, h2⟩
    · exact .inr ⟨e, xs, h1, s _ _ h2, h3⟩
theorem behind_ok {L : List (Str × Int)} {x : Ent} {o : Option RowSt} {y : RowSt} (hx : x.ok) (ho : ∀ s k m a, o = some (.at_ s k m a) → IsNm s ∧ IsNm k ∧ (L.lookup s).isSome) (h : behind L x o = some y) :
    ∀ s k m a, y = .at_ s k m a → IsNm s ∧ IsNm k ∧ (L.lookup s).isSome := by
  rintro s k m a rfl
  cases x with
  | row id s' k' m' a' r =>
    cases o with
    | some o => cases h
    | none =>
      have h : (L.lookup s').bind _ = _ := h
      cases el : L.lookup s' with
      | none => rw [el] at h; cases h
      | some l =>
        rw [el, Option.bind_some] at h
        split at h
        · cases h
          obtain ⟨h1, h2⟩ := hx.2 _ _ _ _ _ _ rfl
          exact ⟨h1, h2, by rw [el]; rfl⟩
        · cases h
  | fix id m' a' r =>
    cases o with
    | none => cases h
    | some o =>
      cases o with
      | tb => cases h
      | at_ s' k' m0 a0 =>
        have h : (L.lookup s').bind _ = _ := h
        cases el : L.lookup s' with
        | none => rw [el] at h; cases h
        | some l =>
          rw [el, Option.bind_some] at h
          split at h
          · cases h
            exact ho _ _ _ _ rfl
          · cases h
  | gone id r =>
    cases o with
    | none => cases h
    | some o =>
      cases o with
      | tb => cases h
      | at_ s' k' m0 a0 =>
        have h : (L.lookup s').bind _ = _ := h
        cases el : L.lookup s' with
        | none => rw [el] at h; cases h
        | some l =>
          rw [el, Option.bind_some] at h
          split at h <;> cases h
def atV : Option Nat → V
  | none => .non
  | some i => .int (i : Int)
def spWalked (K : PySem.W.Frag) (aT CB : Addr) : Sp := fun vs H Q _ => ∃ (b a : Addr) (L : List (Str × Int)) (us : List V) (ths : List (Option Ent)), vs = [.ref b, .ref a] ∧ BookAt CB H b L ∧ (SqL K H a us ∨ SqT K H a us) ∧ us.length ≤ 1000 ∧ us.length = ths.length ∧
  (∀ (i : Nat) v o, us[i]? = some v → ths[i]? = some o → ThAt K H v o) ∧
  ∀ t kd H', H kd = none → Same H H' → H' t = some (.tup [atV (wk L ths 0 (fun _ => none) none).1, .ref kd]) → KnAt aT H' kd (wk L ths 0 (fun _ => none) none).2 us.length → Q (.ref t) H'
theorem pk_len {κ : Type} [DecidableEq κ] (c : List (κ × V)) (k : κ) (x : V) : (putK c k x).length ≤ c.length + 1 := by
  unfold putK
  split
  · rw [List.length_map]
    omega
  · rw [List.length_append]
    exact Nat.le_refl _
theorem seqS {K : PySem.W.Frag} {H H' : Hp} {a : Addr} {us : List V} (h : SqT K H a us) (s : Same H H') : SqT K H' a us := by
  rcases h with (h | ⟨o, h⟩) | h
  · exact .inl (.inl (s _ _ h))
  · exact .inl (.inr ⟨o, s _ _ h⟩)
  · exact .inr h
theorem rowV_off {aT d : Addr} {H : Hp} {kvs : List (Key × V)} {o' : HO} {w : Option V} {o : Option RowSt} (h : RowV aT H w o) (hd : H d = some (.dK kvs)) : RowV aT (upd H d o') w o := by
  cases w with
  | none => cases o <;> exact h
  | some v =>
    cases o with
    | none => exact h
    | some o =>
      cases o with
      | tb => exact h
      | at_ z k m a =>
        obtain ⟨t, e, h⟩ := h
        exact ⟨t, e, by rw [upd_ne (ne_of h hd (by intro z; cases z))]; exact h⟩
def latV : Option Int → V
  | none => .non
  | some n => .int n
theorem ent_id (y : Ent) : atI y.vs 1 = some (.int y.id) := by cases y <;> rfl
theorem wk_odd (L : List (Str × Int)) (r : List (Option Ent)) (i : Nat) (S : Kn) (l : Option Int) : wk L (none :: r) i S l = (some i, S) := rfl
theorem wk_late {L : List (Str × Int)} {x : Ent} {r : List (Option Ent)} {i : Nat} {S : Kn} {l : Option Int} (h : late? l x.arr = true) : wk L (some x :: r) i S l = (some i, S) := by
  show (if late? l x.arr = true then _ else _) = _
  rw [if_pos h]
theorem wk_bad {L : List (Str × Int)} {x : Ent} {r : List (Option Ent)} {i : Nat} {S : Kn} {l : Option Int} (h : late? l x.arr = false) (hb : behind L x (S x.id) = none) : wk L (some x :: r) i S l = (some i, S) := by
  show (if late? l x.arr = true then _ else _) = _
  rw [h, if_neg Bool.false_ne_true, hb]
theorem wk_go {L : List (Str × Int)} {x : Ent} {r : List (Option Ent)} {i : Nat} {S : Kn} {l : Option Int} {y : RowSt} (h : late? l x.arr = false) (hb : behind L x (S x.id) = some y) : wk L (some x :: r) i S l = wk L r (i + 1) (fun j => if j = x.id then some y else S j) (some x.arr) := by
  show (if late? l x.arr = true then _ else _) = _
  rw [h, if_neg Bool.false_ne_true, hb]
section
variable {P : Program} {w : World} {K : PySem.W.Frag} {mg : Str → Option Value} {base : Heap}
structure K6 (P : Program) (w : World) (K : PySem.W.Frag) (mg : Str → Option Value) (base : Heap) (CB aT : Addr) : Prop extends K5 P w K mg base CB where
  row_behind : Cal P w K mg base CX0 "row_behind" 5 ["book", "entry", "old"] (spBehind aT CB)
abbrev s_walked : Stmt := topS 27
theorem sc_walked : FnScope ["book", "things", "known", "latest", "at", "thing", "row"] ["book", "things"] (defScope s_walked) := ⟨rfl, rfl, rfl, by decide +kernel, rfl, by decide +kernel, by decide +kernel⟩
theorem ok_walked {f CB a_TAKEN_BACK : Addr} {fd : FuncData} (F : Fun K "walked" "walked" s_walked f fd) (B : Blt mg) (G : K6 P w K mg base CB a_TAKEN_BACK) : FnOk P w K mg base CX0 6 f fd ["book", "things"] (spWalked K a_TAKEN_BACK CB) := by
  refine F.ok sc_walked (fun vs H Q E h => ?_) (fun cdv A outer s H vs Q E hr h => ?_)
  · obtain ⟨b, a, L, us, ths, rfl, _⟩ := h
    rfl
  · obtain ⟨b, a, L, us, ths, rfl, hB, hS, hn, hlen, hT3, q⟩ := h
    have hu := hu_of hr
    refine ⟨_, (pss_cons (ps_set (i := 2) sc_walked.nd rfl (Or.inl rfl) pe_dnewK)
    (pss_cons (ps_set (i := 3) sc_walked.nd rfl (Or.inl rfl) pe_non)
    (pss_cons (ps_for PassesOwn.never rfl (pi_enumS (by rfl) B.enumerate (pa_cons (pv 1) pa_nil)) (pg_tup (by rfl) (pgs_cons (pg_name (i := 4) sc_walked.nd rfl (Or.inl rfl)) (pgs_cons (pg_name (i := 5) sc_walked.nd rfl (Or.inl rfl)) pgs_nil)))
      (pss_cut (ps_if (PW.pt (pw_or (pt_not (pt_val (pe_cal G.is_entry (hr.mono (by decide)) pass0 (pa_cons (pv 5) pa_nil)))) (pw_or1 (PW.pt (pw_and (pt_cmpR op_notN (pv 3) pe_non (nomark _)) (pw_and1 (pt_cmpR op_lt (pe_cal G.arrival_of (hr.mono (by decide)) pass0 (pa_cons (pv 5) pa_nil)) (pv 3) (nomark _))))))))
        (pss_one (ps_ret (pe_tup (pa_cons (pv 4) (pa_cons (pv 2) pa_nil)))))
        pss_nil)
      (pss_cons (ps_set (i := 6) sc_walked.nd rfl (Or.inl rfl) (pe_cal G.row_behind (hr.mono (by decide)) pass0 (pa_cons (pv 0) (pa_cons (pv 5) (pa_cons (pe_dget1 hu (pv 2) (pe_ix ix_tup (pv 5) pe_int (fun _ _ => rfl)) ⟨rfl, rfl, rfl, rfl⟩) pa_nil)))))
      (pss_cons (ps_if (pt_cmpR op_isN (pv 6) pe_non (nomark _))
        (pss_one (ps_ret (pe_tup (pa_cons (pv 4) (pa_cons (pv 2) pa_nil)))))
        pss_nil)
      (pss_cons (ps_dput hu (pv 2) (pe_ix ix_tup (pv 5) pe_int (fun _ _ => rfl)) (pv 6) rfl)
      (pss_one (ps_set (i := 3) sc_walked.nd rfl (Or.inl rfl) (pe_cal G.arrival_of (hr.mono (by decide)) pass0 (pa_cons (pv 5) pa_nil)))))))))
    (pss_one (ps_ret (pe_tup (pa_cons pe_non (pa_cons (pv 2) pa_nil)))))))), ?_⟩
    intro d hd
    rcases hS with hS | hS
    · refine ⟨_, rfl, a, rfl, .inl ⟨_, (sameAt (Same.refl H) hd).seq hS, for_it walk_enum (fun i σ H1 => ∃ (S : Kn) (lo : Option Int), (∃ a1 a2 a3, σ = [some (.ref b), some (.ref a), some (.ref d), some (latV lo), a1, a2, a3]) ∧ wk L ths 0 (fun _ => none) none = wk L (ths.drop i) i S lo ∧ KnAt a_TAKEN_BACK H1 d S i ∧ Same H H1 ∧ KnOk L S) ?_ (fun i σ H1 _ hv => by
        obtain ⟨S, lo, _, _, _, s1, _⟩ := hv
        exact s1.seq hS) ?_ ?_⟩⟩
      · exact ⟨fun _ => none, none, ⟨_, _, _, rfl⟩, rfl, ⟨[], upd_same, KLen.nil, fun id => trivial⟩, sameAt (Same.refl H) hd, fun _ _ _ _ _ z => nomatch z⟩
      · rintro i x σ H1 H2 hi ⟨S, lo, ⟨a1, a2, a3, rfl⟩, hw, ⟨kvs, hk1, hk2, hk3⟩, s1, hKn⟩ ⟨T, x1, x2, rfl, hT, rfl, e1, e2⟩
        cases e1
        have hil : i < ths.length := by rw [← hlen]; exact hi
        obtain ⟨o, ho⟩ : ∃ o, ths[i]? = some o := ⟨_, List.getElem?_eq_getElem hil⟩
        have s2 : Same H (upd H1 T (.tup [.int (i : Nat), x2])) := s1.trans (sameAt (Same.refl _) hT)
        have hdT : d ≠ T := fun z => by rw [← z, hk1] at hT; cases hT
        have hkd2 : (upd H1 T (.tup [.int (i : Nat), x2])) d = some (.dK kvs) := by rw [upd_ne hdT]; exact hk1
        have hth := hT3 i x2 o e2 ho
        have hdrop : ths.drop i = o :: ths.drop (i + 1) := by
          rw [List.drop_eq_getElem_cons hil]
          rw [List.getElem?_eq_getElem hil] at ho
          rw [Option.some.inj ho]
        rw [hdrop] at hw
        refine ⟨T, _, rfl, SqT.of upd_same, rfl, _, _, rfl, _, _, rfl, rfl, ?_⟩
        have bad : ∀ H3, Same (upd H1 T (.tup [.int (i : Nat), x2])) H3 → wk L (o :: ths.drop (i + 1)) i S lo = (some i, S) →
            ∀ (p : Addr), H3 p = none → Q (.ref p) (upd H3 p (.tup [.int (i : Nat), .ref d])) := fun H3 s3 hbad p hp => by
          have s4 := s3.trans (sameAt (Same.refl H3) hp (o := .tup [.int (i : Nat), .ref d]))
          rw [hbad] at hw
          refine q p d _ hd (s2.trans s4) ?_ ?_
          · rw [upd_same, hw]
            rfl
          · rw [hw]
            exact ⟨kvs, s4 _ _ hkd2, hk2.mono (Nat.le_of_lt hi), fun id => (hk3 id).same ((sameAt (Same.refl H1) hT).trans s4)⟩
        refine ⟨fun σ' H3 => (∃ e y a3, o = some y ∧ x2 = .ref e ∧ EntAt H e y ∧ y.ok ∧ σ' = [some (.ref b), some (.ref a), some (.ref d), some (latV lo), some (.int (i : Nat)), some (.ref e), a3] ∧ late? lo y.arr = false) ∧ Same (upd H1 T (.tup [.int (i : Nat), x2])) H3, ?_, ?_⟩
        · cases o with
          | none =>
            refine ⟨_, rfl, x2, rfl, .inr ?_⟩
            rcases hth.same s2 with nt | ⟨e, xs, rfl, hx, hx3⟩
            · exact .inl ⟨nt, _, rfl, iteT ⟨_, rfl, _, rfl, (by show 2 ≤ sizeLine; decide), fun p hp => bad _ (Same.refl _) rfl p hp⟩⟩
            · exact .inr ⟨e, xs, rfl, hx, hx3, _, rfl, iteT ⟨_, rfl, _, rfl, (by show 2 ≤ sizeLine; decide), fun p hp => bad _ (Same.refl _) rfl p hp⟩⟩
          | some y =>
            obtain ⟨e, rfl, hx, hok⟩ := hth
            refine ⟨_, rfl, _, rfl, .inl ⟨e, y, rfl, s2 _ _ hx, hok, fun H3 s3 => ⟨_, rfl, iteF ?_⟩⟩⟩
            have hx3 : EntAt H3 e y := s3 _ _ (s2 _ _ hx)
            cases lo with
            | none => exact ⟨_, rfl, rfl, _, rfl, iteF ⟨⟨e, y, _, rfl, rfl, hx, hok, rfl, rfl⟩, s3⟩⟩
            | some n =>
              refine ⟨_, rfl, rfl, _, rfl, iteT ⟨_, rfl, e, y, rfl, hx3, _, rfl, _, _, rfl, rfl, _, rfl, ?_⟩⟩
              refine ite2 (fun c1 => ?_) (fun c1 => ?_)
              · exact ⟨_, rfl, _, rfl, (by show 2 ≤ sizeLine; decide), fun p hp => bad _ s3 (wk_late c1) p hp⟩
              · exact ⟨⟨e, y, _, rfl, rfl, hx, hok, rfl, Bool.eq_false_iff.mpr c1⟩, s3⟩
        · rintro σ' H3 ⟨⟨e, y, a3, rfl, rfl, hx, hok, rfl, hlt⟩, s3⟩
          have s23 := s2.trans s3
          have hx3 : EntAt H3 e y := s23 _ _ hx
          have hkd3 : H3 d = some (.dK kvs) := s3 _ _ hkd2
          have s13 : Same H1 H3 := (sameAt (Same.refl H1) hT).trans s3
          refine ⟨_, rfl, _, rfl, _, rfl, d, rfl, .inl ⟨_, .of hkd3⟩, _, rfl, _, _, _, _, rfl, rfl, SqT.of hx3, ent_id y, _, DGet.k (k := Sum.inl y.id) hkd3, b, e, L, y, _, S y.id, rfl, hB.same s23, hx3, hok, (hk3 y.id).same s13, hKn y.id, fun v H4 s4 hv => ?_⟩
          have s34 := s3.trans s4
          rcases hv with ⟨hb, rfl⟩ | ⟨hvn, z, hb, hvz⟩
          · exact ⟨_, rfl, rfl, _, rfl, iteT ⟨_, rfl, _, rfl, (by show 2 ≤ sizeLine; decide), fun p hp => bad _ s34 (wk_bad hlt hb) p hp⟩⟩
          · refine ⟨_, rfl, rfl, _, rfl, ?_⟩
            rw [decide_eq_false hvn]
            have hx4 : EntAt H4 e y := s4 _ _ hx3
            have hkd4 : H4 d = some (.dK kvs) := s4 _ _ hkd3
            refine iteF ⟨_, rfl, _, rfl, _, rfl, _, _, _, _, rfl, rfl, SqT.of hx4, ent_id y, d, _, rfl, DPut.k (k := Sum.inl y.id) hkd4 (small1000 (by have := hk2.len; omega)), ?_⟩
            have hed : e ≠ d := fun q => by rw [q] at hx4; rw [show H4 d = _ from hx4] at hkd4; cases hkd4
            have hx5 : EntAt (upd H4 d (.dK (putK kvs (Sum.inl y.id) v))) e y := by show upd _ _ _ _ = _; rw [upd_ne hed]; exact hx4
            have s5 : Same H (upd H4 d (.dK (putK kvs (Sum.inl y.id) v))) := sameAt (s23.trans s4) hd
            refine ⟨_, rfl, e, y, rfl, hx5, (fun j => if j = y.id then some z else S j), some y.arr, ⟨_, _, _, rfl⟩, ?_, ⟨_, upd_same, hk2.put _ _, fun id => ?_⟩, s5, ?_⟩
            · rw [hw, wk_go hlt hb]
            · rw [valV_put]
              show RowV _ _ _ (if id = y.id then some z else S id)
              have rv : ∀ {w : Option V} {o : Option RowSt}, RowV a_TAKEN_BACK H4 w o → RowV a_TAKEN_BACK (upd H4 d (.dK (putK kvs (Sum.inl y.id) v))) w o := fun {w o} h => rowV_off h hkd4
              by_cases ej : id = y.id
              · rw [if_pos (by rw [ej]), if_pos ej]
                exact rv hvz
              · rw [if_neg (fun q => ej (Sum.inl.inj q)), if_neg ej]
                exact rv (((hk3 id).same s13).same s4)
            · intro id z1 k m a' he
              by_cases ej : id = y.id
              · have he : (if id = y.id then some z else S id) = some (.at_ z1 k m a') := he
                rw [if_pos ej] at he
                exact behind_ok hok (hKn y.id) hb _ _ _ _ (Option.some.inj he)
              · have he : (if id = y.id then some z else S id) = some (.at_ z1 k m a') := he
                rw [if_neg ej] at he
                exact hKn id _ _ _ _ he
      · rintro σ H1 ⟨S, lo, ⟨a1, a2, a3, rfl⟩, hw, hk, s1, hKn⟩
        have e : ths.drop us.length = [] := by rw [hlen]; exact List.drop_length
        rw [e] at hw
        refine ⟨_, rfl, (by show 2 ≤ sizeLine; decide), fun p hp => ?_⟩
        have s4 := sameAt (Same.refl H1) hp (o := .tup [.non, .ref d])
        obtain ⟨kvs, hk1, hk2, hk3⟩ := hk
        refine q p d _ hd (s1.trans s4) ?_ ?_
        · rw [upd_same, hw]
          rfl
        · rw [hw]
          exact ⟨kvs, s4 _ _ hk1, hk2, fun id => (hk3 id).same s4⟩
    · refine ⟨_, rfl, a, rfl, .inr ⟨_, seqS hS (sameAt (Same.refl H) hd), for_it walk_enumT (fun i σ H1 => ∃ (S : Kn) (lo : Option Int), (∃ a1 a2 a3, σ = [some (.ref b), some (.ref a), some (.ref d), some (latV lo), a1, a2, a3]) ∧ wk L ths 0 (fun _ => none) none = wk L (ths.drop i) i S lo ∧ KnAt a_TAKEN_BACK H1 d S i ∧ Same H H1 ∧ KnOk L S) ?_ (fun i σ H1 _ hv => by
        obtain ⟨S, lo, _, _, _, s1, _⟩ := hv
        exact seqS hS s1) ?_ ?_⟩⟩
      · exact ⟨fun _ => none, none, ⟨_, _, _, rfl⟩, rfl, ⟨[], upd_same, KLen.nil, fun id => trivial⟩, sameAt (Same.refl H) hd, fun _ _ _ _ _ z => nomatch z⟩
      · rintro i x σ H1 H2 hi ⟨S, lo, ⟨a1, a2, a3, rfl⟩, hw, ⟨kvs, hk1, hk2, hk3⟩, s1, hKn⟩ ⟨T, x1, x2, rfl, hT, rfl, e1, e2⟩
        cases e1
        have hil : i < ths.length := by rw [← hlen]; exact hi
        obtain ⟨o, ho⟩ : ∃ o, ths[i]? = some o := ⟨_, List.getElem?_eq_getElem hil⟩
        have s2 : Same H (upd H1 T (.tup [.int (i : Nat), x2])) := s1.trans (sameAt (Same.refl _) hT)
        have hdT : d ≠ T := fun z => by rw [← z, hk1] at hT; cases hT
        have hkd2 : (upd H1 T (.tup [.int (i : Nat), x2])) d = some (.dK kvs) := by rw [upd_ne hdT]; exact hk1
        have hth := hT3 i x2 o e2 ho
        have hdrop : ths.drop i = o :: ths.drop (i + 1) := by
          rw [List.drop_eq_getElem_cons hil]
          rw [List.getElem?_eq_getElem hil] at ho
          rw [Option.some.inj ho]
        rw [hdrop] at hw
        refine ⟨T, _, rfl, SqT.of upd_same, rfl, _, _, rfl, _, _, rfl, rfl, ?_⟩
        have bad : ∀ H3, Same (upd H1 T (.tup [.int (i : Nat), x2])) H3 → wk L (o :: ths.drop (i + 1)) i S lo = (some i, S) →
            ∀ (p : Addr), H3 p = none → Q (.ref p) (upd H3 p (.tup [.int (i : Nat), .ref d])) := fun H3 s3 hbad p hp => by
          have s4 := s3.trans (sameAt (Same.refl H3) hp (o := .tup [.int (i : Nat), .ref d]))
          rw [hbad] at hw
          refine q p d _ hd (s2.trans s4) ?_ ?_
          · rw [upd_same, hw]
            rfl
          · rw [hw]
            exact ⟨kvs, s4 _ _ hkd2, hk2.mono (Nat.le_of_lt hi), fun id => (hk3 id).same ((sameAt (Same.refl H1) hT).trans s4)⟩
        refine ⟨fun σ' H3 => (∃ e y a3, o = some y ∧ x2 = .ref e ∧ EntAt H e y ∧ y.ok ∧ σ' = [some (.ref b), some (.ref a), some (.ref d), some (latV lo), some (.int (i : Nat)), some (.ref e), a3] ∧ late? lo y.arr = false) ∧ Same (upd H1 T (.tup [.int (i : Nat), x2])) H3, ?_, ?_⟩
        · cases o with
          | none =>
            refine ⟨_, rfl, x2, rfl, .inr ?_⟩
            rcases hth.same s2 with nt | ⟨e, xs, rfl, hx, hx3⟩
            · exact .inl ⟨nt, _, rfl, iteT ⟨_, rfl, _, rfl, (by show 2 ≤ sizeLine; decide), fun p hp => bad _ (Same.refl _) rfl p hp⟩⟩
            · exact .inr ⟨e, xs, rfl, hx, hx3, _, rfl, iteT ⟨_, rfl, _, rfl, (by show 2 ≤ sizeLine; decide), fun p hp => bad _ (Same.refl _) rfl p hp⟩⟩
          | some y =>
            obtain ⟨e, rfl, hx, hok⟩ := hth
            refine ⟨_, rfl, _, rfl, .inl ⟨e, y, rfl, s2 _ _ hx, hok, fun H3 s3 => ⟨_, rfl, iteF ?_⟩⟩⟩
            have hx3 : EntAt H3 e y := s3 _ _ (s2 _ _ hx)
            cases lo with
            | none => exact ⟨_, rfl, rfl, _, rfl, iteF ⟨⟨e, y, _, rfl, rfl, hx, hok, rfl, rfl⟩, s3⟩⟩
            | some n =>
              refine ⟨_, rfl, rfl, _, rfl, iteT ⟨_, rfl, e, y, rfl, hx3, _, rfl, _, _, rfl, rfl, _, rfl, ?_⟩⟩
              refine ite2 (fun c1 => ?_) (fun c1 => ?_)
              · exact ⟨_, rfl, _, rfl, (by show 2 ≤ sizeLine; decide), fun p hp => bad _ s3 (wk_late c1) p hp⟩
              · exact ⟨⟨e, y, _, rfl, rfl, hx, hok, rfl, Bool.eq_false_iff.mpr c1⟩, s3⟩
        · rintro σ' H3 ⟨⟨e, y, a3, rfl, rfl, hx, hok, rfl, hlt⟩, s3⟩
          have s23 := s2.trans s3
          have hx3 : EntAt H3 e y := s23 _ _ hx
          have hkd3 : H3 d = some (.dK kvs) := s3 _ _ hkd2
          have s13 : Same H1 H3 := (sameAt (Same.refl H1) hT).trans s3
          refine ⟨_, rfl, _, rfl, _, rfl, d, rfl, .inl ⟨_, .of hkd3⟩, _, rfl, _, _, _, _, rfl, rfl, SqT.of hx3, ent_id y, _, DGet.k (k := Sum.inl y.id) hkd3, b, e, L, y, _, S y.id, rfl, hB.same s23, hx3, hok, (hk3 y.id).same s13, hKn y.id, fun v H4 s4 hv => ?_⟩
          have s34 := s3.trans s4
          rcases hv with ⟨hb, rfl⟩ | ⟨hvn, z, hb, hvz⟩
          · exact ⟨_, rfl, rfl, _, rfl, iteT ⟨_, rfl, _, rfl, (by show 2 ≤ sizeLine; decide), fun p hp => bad _ s34 (wk_bad hlt hb) p hp⟩⟩
          · refine ⟨_, rfl, rfl, _, rfl, ?_⟩
            rw [decide_eq_false hvn]
            have hx4 : EntAt H4 e y := s4 _ _ hx3
            have hkd4 : H4 d = some (.dK kvs) := s4 _ _ hkd3
            refine iteF ⟨_, rfl, _, rfl, _, rfl, _, _, _, _, rfl, rfl, SqT.of hx4, ent_id y, d, _, rfl, DPut.k (k := Sum.inl y.id) hkd4 (small1000 (by have := hk2.len; omega)), ?_⟩
            have hed : e ≠ d := fun q => by rw [q] at hx4; rw [show H4 d = _ from hx4] at hkd4; cases hkd4
            have hx5 : EntAt (upd H4 d (.dK (putK kvs (Sum.inl y.id) v))) e y := by show upd _ _ _ _ = _; rw [upd_ne hed]; exact hx4
            have s5 : Same H (upd H4 d (.dK (putK kvs (Sum.inl y.id) v))) := sameAt (s23.trans s4) hd
            refine ⟨_, rfl, e, y, rfl, hx5, (fun j => if j = y.id then some z else S j), some y.arr, ⟨_, _, _, rfl⟩, ?_, ⟨_, upd_same, hk2.put _ _, fun id => ?_⟩, s5, ?_⟩
            · rw [hw, wk_go hlt hb]
            · rw [valV_put]
              show RowV _ _ _ (if id = y.id then some z else S id)
              have rv : ∀ {w : Option V} {o : Option RowSt}, RowV a_TAKEN_BACK H4 w o → RowV a_TAKEN_BACK (upd H4 d (.dK (putK kvs (Sum.inl y.id) v))) w o := fun {w o} h => rowV_off h hkd4
              by_cases ej : id = y.id
              · rw [if_pos (by rw [ej]), if_pos ej]
                exact rv hvz
              · rw [if_neg (fun q => ej (Sum.inl.inj q)), if_neg ej]
                exact rv (((hk3 id).same s13).same s4)
            · intro id z1 k m a' he
              by_cases ej : id = y.id
              · have he : (if id = y.id then some z else S id) = some (.at_ z1 k m a') := he
                rw [if_pos ej] at he
                exact behind_ok hok (hKn y.id) hb _ _ _ _ (Option.some.inj he)
              · have he : (if id = y.id then some z else S id) = some (.at_ z1 k m a') := he
                rw [if_neg ej] at he
                exact hKn id _ _ _ _ he
      · rintro σ H1 ⟨S, lo, ⟨a1, a2, a3, rfl⟩, hw, hk, s1, hKn⟩
        have e : ths.drop us.length = [] := by rw [hlen]; exact List.drop_length
        rw [e] at hw
        refine ⟨_, rfl, (by show 2 ≤ sizeLine; decide), fun p hp => ?_⟩
        have s4 := sameAt (Same.refl H1) hp (o := .tup [.non, .ref d])
        obtain ⟨kvs, hk1, hk2, hk3⟩ := hk
        refine q p d _ hd (s1.trans s4) ?_ ?_
        · rw [upd_same, hw]
          rfl
        · rw [hw]
          exact ⟨kvs, s4 _ _ hk1, hk2, fun id => (hk3 id).same s4⟩
end
end Ash

set_option Elab.async false
set_option linter.all false
set_option maxRecDepth 100000
set_option maxHeartbeats 4000000
namespace Ash
open PySem PySem.Spec PyProof.Rows L2
open C8 (pss_cut)
/-! ### journals -/
def jf (b t kd : Addr) : List (Str × V) := putF "_known" (.ref kd) (putF "entries" (.ref t) (putF "book" (.ref b) []))
theorem jf_b (b t kd : Addr) : (jf b t kd).lookup ("book" : Str) = some (.ref b) := by
  unfold jf
  rw [lookup_putF, if_neg (by decide +kernel), lookup_putF, if_neg (by decide +kernel), lookup_putF, if_pos rfl]
theorem jf_e (b t kd : Addr) : (jf b t kd).lookup ("entries" : Str) = some (.ref t) := by
  unfold jf
  rw [lookup_putF, if_neg (by decide +kernel), lookup_putF, if_pos rfl]
theorem jf_k (b t kd : Addr) : (jf b t kd).lookup ("_known" : Str) = some (.ref kd) := by
  unfold jf
  rw [lookup_putF, if_pos rfl]
theorem jf_no (b t kd : Addr) {m : Str} (h1 : ¬ m = "_known") (h2 : ¬ m = "entries") (h3 : ¬ m = "book") : (jf b t kd).lookup m = none := by
  unfold jf
  rw [lookup_putF, if_neg h1, lookup_putF, if_neg h2, lookup_putF, if_neg h3]
  rfl
/-- a journal of the book at b with the things us, which are the entries xs -/
def JAt (K : PySem.W.Frag) (aT CJ CB : Addr) (H : Hp) (j b : Addr) (L : List (Str × Int)) (us : List V) (xs : List Ent) : Prop := ∃ dx t kd, H j = some (.ins CJ dx (jf b t kd)) ∧ BookAt CB H b L ∧ SqT K H t us ∧ us.length = xs.length ∧
  (∀ (i : Nat) v x, us[i]? = some v → xs[i]? = some x → ThAt K H v (some x)) ∧ (wk L (xs.map some) 0 (fun _ => none) none).1 = none ∧ KnAt aT H kd (wk L (xs.map some) 0 (fun _ => none) none).2 us.length
theorem KnAt.same {aT : Addr} {H H' : Hp} {d : Addr} {S : Kn} {n : Nat} (h : KnAt aT H d S n) (s : Same H H') : KnAt aT H' d S n := by
  obtain ⟨kvs, h1, h2, h3⟩ := h
  exact ⟨kvs, s _ _ h1, h2, fun id => (h3 id).same s⟩
theorem JAt.same {K : PySem.W.Frag} {aT CJ CB : Addr} {H H' : Hp} {j b : Addr} {L : List (Str × Int)} {us : List V} {xs : List Ent} (h : JAt K aT CJ CB H j b L us xs) (s : Same H H') : JAt K aT CJ CB H' j b L us xs := by
  obtain ⟨dx, t, kd, h1, h2, h3, h4, h5, h6, h7⟩ := h
  exact ⟨dx, t, kd, s _ _ h1, h2.same s, seqS h3 s, h4, fun i v x a b => (h5 i v x a b).same s, h6, h7.same s⟩
def spIsRow (K : PySem.W.Frag) : Sp := fun vs H Q _ => ∃ (a : Addr) (us : List V), vs = [.ref a] ∧ (H a = some (.lst us) ∨ SqT K H a us) ∧ ∀ H', Same H H' → Q (.bl true) H'
/-- the made error's dict -/
def Xd (H : Hp) (d : Addr) (fl : Str) (v : V) : Prop := H d = some (.xd [(fl, v)])
def spJInit (K : PySem.W.Frag) (aT CJ CB CE : Addr) : Sp := fun vs H Q E => ∃ (j dx b a : Addr) (L : List (Str × Int)) (us : List V) (ths : List (Option Ent)), vs = [.ref j, .ref b, .ref a] ∧ H j = some (.ins CJ dx []) ∧ BookAt CB H b L ∧ (H a = some (.lst us) ∨ SqT K H a us) ∧ us.length ≤ 400 ∧ us.length = ths.length ∧
  (∀ (i : Nat) v o, us[i]? = some v → ths[i]? = some o → ThAt K H v o) ∧
  (∀ H' xs, ths = xs.map some → (wk L ths 0 (fun _ => none) none).1 = none → JAt K aT CJ CB H' j b L us xs → (∃ dx t kd, H' j = some (.ins CJ dx (jf b t kd)) ∧ H kd = none) → (∀ c o, H c = some o → c ≠ j → H' c = some o) → Q .non H') ∧
  (∀ i d H', (wk L ths 0 (fun _ => none) none).1 = some i → Same H H' → Xd H' d "at" (.int (i : Int)) → E (.ref CE) (some d) H')
/-- what the top says of Journal and of the errors -/
structure Cj (P : Program) (K : PySem.W.Frag) (mg : Str → Option Value) (CJ CB : Addr) : Prop where
  cl : Cls K CJ
  nB : NoAttr K CJ "book"
  nE : NoAttr K CJ "entries"
  nK : NoAttr K CJ "_known"
  c : mg "Journal" = some (.ref CJ)
theorem wk_some {L : List (Str × Int)} : ∀ {ths : List (Option Ent)} {i : Nat} {S : Kn} {l : Option Int}, (wk L ths i S l).1 = none → ∃ xs : List Ent, ths = xs.map some
  | [], _, _, _, _ => ⟨[], rfl⟩
  | none :: r, i, S, l, h => by
    rw [wk_odd] at h
    cases h
  | some x :: r, i, S, l, h => by
    by_cases c : late? l x.arr = true
    · rw [wk_late c] at h
      cases h
    · have c : late? l x.arr = false := Bool.eq_false_iff.mpr c
      cases hb : behind L x (S x.id) with
      | none =>
        rw [wk_bad c hb] at h
        cases h
      | some y =>
        rw [wk_go c hb] at h
        obtain ⟨xs, e⟩ := wk_some h
        exact ⟨x :: xs, by rw [e]; rfl⟩
/-- all but an instance stands -/
theorem BookAt.chg {CB j C dx : Addr} {H H' : Hp} {b : Addr} {L : List (Str × Int)} (h : BookAt CB H b L) (hj : H j = some (.ins C dx [])) (k : ∀ c o, H c = some o → c ≠ j → H' c = some o) : BookAt CB H' b L := by
  obtain ⟨dx, d, L', h1, h2, h3⟩ := h
  exact ⟨dx, d, L', k _ _ h1 (ne_of h1 hj (by intro z; cases z)), k _ _ h2 (ne_of h2 hj (by intro z; cases z)), h3⟩
theorem seqC {K : PySem.W.Frag} {H H' : Hp} {a j C dx : Addr} {us : List V} (h : SqT K H a us) (hj : H j = some (.ins C dx [])) (k : ∀ c o, H c = some o → c ≠ j → H' c = some o) : SqT K H' a us := by
  rcases h with (h | ⟨o, h⟩) | h
  · exact .inl (.inl (k _ _ h (ne_of h hj (by intro z; cases z))))
  · exact .inl (.inr ⟨o, k _ _ h (ne_of h hj (by intro z; cases z))⟩)
  · exact .inr h
theorem knC {aT j : Addr} {H H' : Hp} {d : Addr} {S : Kn} {n : Nat} (h : KnAt aT H d S n) (k : ∀ c o, H c = some o → c ≠ j → H' c = some o) (hj : ∃ C dx fs, H j = some (.ins C dx fs)) : KnAt aT H' d S n := by
  obtain ⟨kvs, h1, h2, h3⟩ := h
  obtain ⟨C, dx, fs, hj⟩ := hj
  refine ⟨kvs, k _ _ h1 (ne_of h1 hj (by intro z; cases z)), h2, fun id => ?_⟩
  have q := h3 id
  cases e : valV kvs (Sum.inl id : Key) with
  | none => rw [e] at q; cases eS : S id <;> (rw [eS] at q; exact q)
  | some v =>
    rw [e] at q
    cases eS : S id with
    | none => rw [eS] at q; exact q
    | some o =>
      rw [eS] at q
      cases o with
      | tb => exact q
      | at_ z kk m a =>
        obtain ⟨t, e1, e2⟩ := q
        exact ⟨t, e1, k _ _ e2 (ne_of e2 hj (by intro z; cases z))⟩
theorem thC {K : PySem.W.Frag} {H H' : Hp} {j C dx : Addr} {v : V} {x : Ent} (h : ThAt K H v (some x)) (hj : H j = some (.ins C dx [])) (k : ∀ c o, H c = some o → c ≠ j → H' c = some o) : ThAt K H' v (some x) := by
  obtain ⟨e, h1, h2, h3⟩ := h
  exact ⟨e, h1, k _ _ h2 (ne_of h2 hj (by intro z; cases z)), h3⟩
section
variable {P : Program} {w : World} {K : PySem.W.Frag} {mg : Str → Option Value} {base : Heap}
abbrev s_is_row : Stmt := topS 13
theorem sc_is_row : FnScope ["thing"] ["thing"] (defScope s_is_row) := ⟨rfl, rfl, rfl, by decide +kernel, rfl, by decide +kernel, by decide +kernel⟩
theorem ok_is_row {f : Addr} {fd : FuncData} (F : Fun K "is_row" "is_row" s_is_row f fd) (B : Blt mg) : FnOk P w K mg base CX0 1 f fd ["thing"] (spIsRow K) := by
  refine F.ok sc_is_row (fun vs H Q E h => ?_) (fun cdv A outer s H vs Q E hr h => ?_)
  · obtain ⟨a, us, rfl, _⟩ := h
    rfl
  · obtain ⟨a, us, rfl, hS, q⟩ := h
    refine ⟨_, (pss_one (ps_ret (pe_callB call_isiT (by rfl) B.isinstance (by decide +kernel) (pa_cons (pv 0) (pa_cons (pe_tup (pa_cons (pe_bltn (v := .ty "list") (by rfl) B.list (by decide +kernel) rfl) (pa_cons (pe_bltn (v := .ty "tuple") (by rfl) B.tuple (by decide +kernel) rfl) pa_nil))) pa_nil))))), ?_⟩
    refine ⟨_, rfl, (by show 2 ≤ sizeLine; decide), fun p hp => ?_⟩
    rcases hS with hS | hS
    · refine ⟨_, p, _, .type "list", [.type "list", .type "tuple"], true, rfl, upd_same, .cons (ClsV.ty _) (.cons (ClsV.ty _) .nil), .base (.lst (by rw [upd_ne (ne_of_none hS hp)]; exact hS)), kitAny_cons (b := true) (kit_ty (by decide +kernel)) (fun z => by cases z) (fun _ => rfl), q _ (sameAt (Same.refl H) hp)⟩
    · have ty : TyX K (upd H p (.tup [.ty "list", .ty "tuple"])) (.ref a) (.type "tuple") := by
        rcases hS with (h | ⟨o, h⟩) | ⟨o, its, n, h1, h2, h3⟩
        · exact .base (.tup (by rw [upd_ne (ne_of_none h hp)]; exact h))
        · exact .fTuple (by rw [upd_ne (ne_of_none h hp)]; exact h)
        · exact .kTuple h1 h2
      refine ⟨_, p, _, .type "tuple", [.type "list", .type "tuple"], true, rfl, upd_same, .cons (ClsV.ty _) (.cons (ClsV.ty _) .nil), ty, kitAny_cons (b := false) (kit_ty (by decide +kernel)) (fun _ => kitAny_cons (b := true) (kit_ty (by decide +kernel)) (fun z => by cases z) (fun _ => rfl)) (fun z => by cases z), q _ (sameAt (Same.refl H) hp)⟩
structure K7 (P : Program) (w : World) (K : PySem.W.Frag) (mg : Str → Option Value) (base : Heap) (CB aT : Addr) : Prop extends K6 P w K mg base CB aT where
  walked : Cal P w K mg base CX0 "walked" 6 ["book", "things"] (spWalked K aT CB)
  is_row : Cal P w K mg base CX0 "is_row" 1 ["thing"] (spIsRow K)
theorem par_at : PySem.BadX.Par "at" := ⟨by decide, by decide +kernel, by decide +kernel, by decide +kernel, by decide +kernel⟩
theorem par_value : PySem.BadX.Par "value" := ⟨by decide, by decide +kernel, by decide +kernel, by decide +kernel, by decide +kernel⟩
abbrev s_Journal_init : Stmt := inClass (topS 30) 0
theorem sc_Journal_init : FnScope ["self", "book", "entries", "at", "known"] ["self", "book", "entries"] (defScope s_Journal_init) := ⟨rfl, rfl, rfl, by decide +kernel, rfl, by decide +kernel, by decide +kernel⟩
theorem ok_j_init {f CJ CBook CE fE aT aE : Addr} {fd : FuncData} (F : FunD K "__init__" "Journal.__init__" (defArgs s_Journal_init) (defBody s_Journal_init) (defScope s_Journal_init) [.ref aE] [] f fd) (B : Blt mg) (Cs : Cst mg) (T : Cj P K mg CJ CBook) (TB : Cb K mg CBook) (TE : PySem.BadX.Txt P K mg "at" "at" CE fE) (c_BadEntry : mg "BadEntry" = some (.ref CE))
    (bk : ∀ H b dx fs, H b = some (.ins CBook dx fs) → TyX K H (.ref b) (.ref CBook)) (G : K7 P w K mg base CBook aT) : FnOk P w K mg base (L2.CX P w) 7 f fd ["self", "book", "entries"] (spJInit K aT CJ CBook CE) := by
  obtain ⟨t1, g_MOST_ENTRIES⟩ := Cs.k_MOST_ENTRIES
  have c_Book := TB.c
  refine F.ok (CX := L2.CX P w) sc_Journal_init (fun vs H Q E h => ?_) (fun cdv A outer s H vs Q E hr h => ?_)
  · obtain ⟨j, dx, b, a, L, us, ths, rfl, _⟩ := h
    rfl
  · obtain ⟨j, dx, b, a, L, us, ths, rfl, hj, hB, hS, h4, hlen, hT, qg, qb⟩ := h
    have hu := hu_of hr
    refine ⟨_, (pss_cons (ps_if (pt_not (pt_val (pe_callB call_isi (by rfl) B.isinstance (by decide +kernel) (pa_cons (pv 1) (pa_cons (pe_glob (v := .ref CBook) (by rfl) c_Book rfl) pa_nil)))))
      (pss_one ps_never)
      pss_nil)
    (pss_cons (ps_if (PW.pt (pw_or (pt_not (pt_val (pe_cal G.is_row (hr.mono (by decide)) pass0 (pa_cons (pv 2) pa_nil)))) (pw_or1 (pt_cmpR op_gt (pe_callB call_len_seq (by rfl) B.len (by decide +kernel) (pa_cons (pv 2) pa_nil)) (pe_glob (v := .int 400) (by rfl) g_MOST_ENTRIES ⟨_, rfl⟩) (nomark _)))))
      (pss_one ps_never)
      pss_nil)
    (pss_cons (ps_asg (pe_cal G.walked (hr.mono (by decide)) pass0 (pa_cons (pv 1) (pa_cons (pv 2) pa_nil))) (pg_tup (by rfl) (pgs_cons (pg_name (i := 3) sc_Journal_init.nd rfl (Or.inl rfl)) (pgs_cons (pg_name (i := 4) sc_Journal_init.nd rfl (Or.inl rfl)) pgs_nil))))
    (pss_cons (ps_if (pt_cmpR op_notN (pv 3) pe_non (nomark _))
      (pss_one (ps_raiseB rfl TE par_at c_BadEntry (hr.mono (Nat.zero_le _)) (takes_of rfl rfl rfl rfl) (pa_cons (pv 3) pa_nil) (by rfl)))
      pss_nil)
    (pss_cons (ps_fld (pv 0) (pv 1) rfl)
    (pss_cons (ps_fld (pv 0) (pe_callTy call_tuple_of (by rfl) B.tuple (by decide +kernel) (pa_cons (pv 2) pa_nil)) rfl)
    (pss_one (ps_fld (pv 0) (pv 4) rfl)))))))), ?_⟩
    obtain ⟨bx, bd, L', b1, b2, b3⟩ := id hB
    refine ⟨_, rfl, _, _, _, _, true, rfl, ClsV.own _, bk _ _ _ _ b1, (by show PySem.W.kitOne K _ _ = _; unfold PySem.W.kitOne; rw [if_pos (by simp)]), _, rfl, iteF ?_⟩
    refine ⟨_, rfl, a, us, rfl, hS, fun H1 s1 => ⟨_, rfl, iteF ?_⟩⟩
    have hS1 : SqL K H1 a us ∨ SqT K H1 a us := by
      rcases hS with h | h
      · exact .inl (SqL.of (s1 _ _ h))
      · exact .inr (seqS h s1)
    refine ⟨_, rfl, a, us, rfl, hS1, _, _, rfl, rfl, _, rfl, ?_⟩
    rw [decide_eq_false (show ¬ (400 : Int) < (us.length : Int) by omega)]
    refine iteF ⟨_, rfl, _, rfl, b, a, L, us, ths, rfl, hB.same s1, hS1, by omega, hlen, fun i v o x y => (hT i v o x y).same s1, fun t kd H2 hkn s2 ht hk => ?_⟩
    have s12 := s1.trans s2
    have hkd0 : H kd = none := by
      cases e : H kd with
      | none => rfl
      | some o => rw [s1 _ _ e] at hkn; cases hkn
    refine ⟨t, _, rfl, SqT.of ht, rfl, _, _, rfl, _, _, rfl, rfl, ?_⟩
    have hj2 : H2 j = some (.ins CJ dx []) := s12 _ _ hj
    cases hw : (wk L ths 0 (fun _ => none) none).1 with
    | some i =>
      refine ⟨_, rfl, rfl, _, rfl, ?_⟩
      show if (!decide (atV (some i) = V.non)) = true then _ else _
      exact iteT ⟨_, rfl, _, rfl, fun d hd => qb i d _ hw (s12.trans (sameAt (Same.refl H2) hd)) upd_same⟩
    | none =>
      refine ⟨_, rfl, rfl, _, rfl, ?_⟩
      show if (!decide (atV none = V.non)) = true then _ else _
      refine iteF ?_
      obtain ⟨xs, hxs⟩ := wk_some hw
      have hlx : us.length = xs.length := by rw [hlen, hxs, List.length_map]
      have hTx : ∀ (i : Nat) v x, us[i]? = some v → xs[i]? = some x → ThAt K H v (some x) := fun i v x a b => hT i v (some x) a (by rw [hxs, List.getElem?_map, b]; rfl)
      have fin : ∀ H', (∀ c o, H2 c = some o → c ≠ j → H' c = some o) → (∃ t, H' j = some (.ins CJ dx (jf b t kd)) ∧ SqT K H' t us) → Q .non H' := fun H' kk2 ⟨t, h1, h2⟩ => by
        have kk : ∀ c o, H c = some o → c ≠ j → H' c = some o := fun c o h n => kk2 c o (s12 _ _ h) n
        refine qg H' xs hxs hw ⟨dx, t, kd, h1, hB.chg hj kk, h2, hlx, fun i v x a b => thC (hTx i v x a b) hj kk, by rw [← hxs]; exact hw, by rw [← hxs]; exact knC hk kk2 ⟨_, _, _, hj2⟩⟩ ⟨dx, t, kd, h1, hkd0⟩ kk
      refine ⟨_, rfl, _, rfl, j, CJ, dx, [], rfl, hj2, T.cl, T.nB, (by show 0 < 1000; decide), ?_⟩
      generalize eA : upd H2 j (.ins CJ dx (putF "book" (.ref b) [])) = HA
      have hA : HA j = some (.ins CJ dx (putF "book" (.ref b) [])) := by rw [← eA]; exact upd_same
      have kA2 : ∀ c o, H2 c = some o → c ≠ j → HA c = some o := fun c o h n => by rw [← eA, upd_ne n]; exact h
      have kA : ∀ c o, H c = some o → c ≠ j → HA c = some o := fun c o h n => kA2 c o (s12 _ _ h) n
      clear eA
      rcases hS with hS | hS
      · have haj : a ≠ j := ne_of hS hj (by intro z; cases z)
        refine ⟨_, rfl, a, us, rfl, .inl ⟨SqL.of (kA _ _ hS haj), fun l hl => ?_⟩⟩
        have hlj : l ≠ j := fun z => by rw [z, hA] at hl; cases hl
        refine ⟨_, rfl, j, CJ, dx, _, rfl, (by rw [upd_ne hlj.symm]; exact hA), T.cl, T.nE, (by show 1 < 1000; decide), ?_⟩
        refine ⟨_, rfl, _, rfl, j, CJ, dx, _, rfl, upd_same, T.cl, T.nK, (by show 2 < 1000; decide), ?_⟩
        refine fin _ (fun c o h n => ?_) ⟨l, upd_same, SqT.of (by rw [upd_ne hlj, upd_ne hlj, upd_same])⟩
        have hcl : c ≠ l := fun z => by rw [← z, kA2 c o h n] at hl; cases hl
        rw [upd_ne n, upd_ne n, upd_ne hcl]
        exact kA2 c o h n
      · refine ⟨_, rfl, a, us, rfl, .inr ⟨seqC hS hj kA, ?_⟩⟩
        refine ⟨_, rfl, j, CJ, dx, _, rfl, hA, T.cl, T.nE, (by show 1 < 1000; decide), ?_⟩
        refine ⟨_, rfl, _, rfl, j, CJ, dx, _, rfl, upd_same, T.cl, T.nK, (by show 2 < 1000; decide), ?_⟩
        have kF : ∀ c o, H2 c = some o → c ≠ j → (upd (upd HA j (.ins CJ dx (putF "entries" (.ref a) (putF "book" (.ref b) [])))) j (.ins CJ dx (putF "_known" (.ref kd) (putF "entries" (.ref a) (putF "book" (.ref b) []))))) c = some o := fun c o h n => by
          rw [upd_ne n, upd_ne n]
          exact kA2 c o h n
        exact fin _ kF ⟨a, upd_same, seqC hS hj fun c o h n => kF c o (s12 _ _ h) n⟩
structure K8 (P : Program) (w : World) (K : PySem.W.Frag) (mg : Str → Option Value) (base : Heap) (CB aT CJ CE : Addr) : Prop extends K7 P w K mg base CB aT where
  Journal : Mak P w K mg base (L2.CX P w) "Journal" CJ 7 ["self", "book", "entries"] (spJInit K aT CJ CB CE)
theorem wk_ge {L : List (Str × Int)} : ∀ {xs : List Ent} {i : Nat} {S : Kn} {t : Int}, (wk L (xs.map some) i S (some t)).1 = none → ∀ x ∈ xs, t ≤ x.arr
  | [], _, _, _, _, x, hx => nomatch hx
  | y :: r, i, S, t, h, x, hx => by
    have h : (wk L (some y :: r.map some) i S (some t)).1 = none := h
    by_cases c : late? (some t) y.arr = true
    · rw [wk_late c] at h
      cases h
    · have c0 : late? (some t) y.arr = false := Bool.eq_false_iff.mpr c
      have c1 : ¬ y.arr < t := fun z => c (decide_eq_true z)
      cases hb : behind L y (S y.id) with
      | none =>
        rw [wk_bad c0 hb] at h
        cases h
      | some z =>
        rw [wk_go c0 hb] at h
        rcases List.mem_cons.mp hx with rfl | hx
        · omega
        · have := wk_ge h x hx
          omega
theorem wk_cut {L : List (Str × Int)} (n : Int) : ∀ {xs : List Ent} {i : Nat} {S : Kn} {l : Option Int}, (wk L (xs.map some) i S l).1 = none →
    ∃ k, k ≤ xs.length ∧ (∀ (j : Nat) x, xs[j]? = some x → (x.arr ≤ n ↔ j < k)) ∧ (wk L ((xs.take k).map some) i S l).1 = none ∧ xs.filter (fun x => decide (x.arr ≤ n)) = xs.take k
  | [], _, _, _, _ => ⟨0, Nat.le_refl _, fun j x h => by simp at h, rfl, rfl⟩
  | y :: r, i, S, l, h => by
    have h : (wk L (some y :: r.map some) i S l).1 = none := h
    by_cases c : late? l y.arr = true
    · rw [wk_late c] at h
      cases h
    · have c0 : late? l y.arr = false := Bool.eq_false_iff.mpr c
      cases hb : behind L y (S y.id) with
      | none =>
        rw [wk_bad c0 hb] at h
        cases h
      | some z =>
        rw [wk_go c0 hb] at h
        by_cases cn : y.arr ≤ n
        · obtain ⟨k, k1, k2, k3, k4⟩ := wk_cut n h
          refine ⟨k + 1, by rw [List.length_cons]; omega, fun j x hj => ?_, ?_, ?_⟩
          · cases j with
            | zero =>
              have : y = x := Option.some.inj hj
              subst this
              exact ⟨fun _ => Nat.succ_pos _, fun _ => cn⟩
            | succ j =>
              have := k2 j x hj
              omega
          · show (wk L (some y :: (r.take k).map some) i S l).1 = none
            rw [wk_go c0 hb]
            exact k3
          · rw [List.filter_cons, if_pos (decide_eq_true cn), k4]
            rfl
        · refine ⟨0, Nat.zero_le _, fun j x hj => ?_, rfl, ?_⟩
          · have hx := List.mem_of_getElem? hj
            have : n < x.arr := by
              rcases List.mem_cons.mp hx with rfl | hx
              · omega
              · have := wk_ge h x hx
                omega
            omega
          · rw [List.filter_eq_nil_iff.mpr]
            · rfl
            · intro x hx
              rcases List.mem_cons.mp hx with rfl | hx
              · simpa using cn
              · have := wk_ge h x hx
                simp
                omega
def spThen (K : PySem.W.Frag) (aT CJ CB CE : Addr) : Sp := fun vs H Q E => ∃ (j b : Addr) (L : List (Str × Int)) (us : List V) (xs : List Ent) (v : V) (o : Option Ent), vs = [.ref j, v] ∧ JAt K aT CJ CB H j b L us xs ∧ us.length < 400 ∧ ThAt K H v o ∧
  (∀ j' H' x, o = some x → (wk L ((xs ++ [x]).map some) 0 (fun _ => none) none).1 = none → Same H H' → JAt K aT CJ CB H' j' b L (us ++ [v]) (xs ++ [x]) → Q (.ref j') H') ∧
  (∀ i d H', (wk L (xs.map some ++ [o]) 0 (fun _ => none) none).1 = some i → Same H H' → Xd H' d "at" (.int (i : Int)) → E (.ref CE) (some d) H')
def spHeard (K : PySem.W.Frag) (aT CJ CB CM : Addr) : Sp := fun vs H Q E => ∃ (j b : Addr) (L : List (Str × Int)) (us : List V) (xs : List Ent) (v : V), vs = [.ref j, v] ∧ JAt K aT CJ CB H j b L us xs ∧ us.length ≤ 400 ∧
  ((∃ n, v = .int n ∧ ∀ k j' H', xs.filter (fun x => decide (x.arr ≤ n)) = xs.take k → Same H H' → JAt K aT CJ CB H' j' b L (us.take k) (xs.take k) → Q (.ref j') H') ∨
   (NotInt K H v ∧ ∀ d H', Same H H' → Xd H' d "value" v → E (.ref CM) (some d) H'))
theorem mk_same {H H' : Hp} {x dx C : Addr} (nx : H x = none) (nd : H dx = none) (k : ∀ c o, (upd (upd H dx (.own x)) x (.ins C dx [])) c = some o → c ≠ x → H' c = some o) : Same H H' := fun c o h =>
  k c o (by rw [upd_ne (ne_of_none h nx), upd_ne (ne_of_none h nd)]; exact h) (ne_of_none h nx)
end
end Ash

set_option Elab.async false
set_option linter.all false
set_option maxRecDepth 100000
set_option maxHeartbeats 4000000
namespace Ash
open PySem PySem.Spec PyProof.Rows L2
open C8 (pss_cut)
section
variable {P : Program} {w : World} {K : PySem.W.Frag} {mg : Str → Option Value} {base : Heap}
abbrev s_Journal_heard : Stmt := inClass (topS 30) 6
theorem sc_Journal_heard : FnScope ["self", "h", "entry"] ["self", "h"] (defScope s_Journal_heard) := ⟨rfl, rfl, rfl, by decide +kernel, rfl, by decide +kernel, by decide +kernel⟩
theorem ok_heard {f CJ CB CE CM fM aT : Addr} {fd : FuncData} (F : Fun K "heard" "Journal.heard" s_Journal_heard f fd) (B : Blt mg) (T : Cj P K mg CJ CB) (TM : PySem.BadX.Txt P K mg "value" "value" CM fM) (c_BadMoment : mg "BadMoment" = some (.ref CM)) (G : K8 P w K mg base CB aT CJ CE) : FnOk P w K mg base (L2.CX P w) 9 f fd ["self", "h"] (spHeard K aT CJ CB CM) := by
  refine F.okX sc_Journal_heard (fun vs H Q E h => ?_) (fun cdv A outer s H vs Q E hr h => ?_)
  · obtain ⟨j, b, L, us, xs, v, rfl, _⟩ := h
    rfl
  · obtain ⟨j, b, L, us, xs, v, rfl, hJ, h4, hv⟩ := h
    refine ⟨_, (pss_cons (ps_if (pt_not (pt_val (pe_cal G.is_integer (hr.mono (by decide)) pass0 (pa_cons (pv 1) pa_nil))))
      (pss_one (ps_raiseB rfl TM par_value c_BadMoment (hr.mono (Nat.zero_le _)) (takes_of rfl rfl rfl rfl) (pa_cons (pv 1) pa_nil) (by rfl)))
      pss_nil)
    (pss_one (ps_ret (pe_mak G.Journal (hr.mono (by decide)) (passE (takes_of rfl rfl rfl rfl)) (pa_cons (pe_fld (pv 0) rfl) (pa_cons (pe_lc (own := [("entry", 2)]) (g := gName 2) (by rfl) sc_Journal_heard.nd (pi_tup (pe_fld (pv 0) rfl)) (blkOk_by (own := [("entry", 2)]) (N := ["self", "h", "entry"]) (sc := defScope s_Journal_heard) (by decide +kernel)) (fun _ _ _ _ _ => (pg_name (i := 2) sc_Journal_heard.nd rfl (Or.inl rfl))) (fun _ _ _ _ _ => pts_one (pt_cmpR op_le (pe_cal G.arrival_of (hr.mono (by decide)) pass0 (pa_cons (pv 2) pa_nil)) (pv 1) (nomark _))) (fun _ _ _ _ _ => (pv 2))) pa_nil)))))), ?_⟩
    obtain ⟨dx, t, kd, h1, h2, h3, hl, h5, h6, h7⟩ := id hJ
    rcases hv with ⟨n, rfl, q⟩ | ⟨ni, q⟩
    · refine ⟨_, rfl, _, rfl, .inl ⟨n, rfl, _, rfl, iteF ?_⟩⟩
      obtain ⟨k, k1, k2, k3, k4⟩ := wk_cut n h6
      refine ⟨_, rfl, j, CJ, dx, _, _, rfl, h1, T.cl, T.nB, jf_b _ _ _, _, rfl, j, CJ, dx, _, _, rfl, h1, T.cl, T.nE, jf_e _ _ _, t, rfl, ⟨_, h3⟩, fun D hD => lc_it (walk_tup (xs := us)) (fun i H1 => H1 D = some (.lst (us.take (min i k))) ∧ Same H H1) ⟨by rw [Nat.zero_min]; exact upd_same, sameAt (Same.refl H) hD⟩ (fun i H1 _ hv => seqS h3 hv.2) ?_ ?_⟩
      · rintro i v H1 H2 hi ⟨hD1, s1⟩ ⟨rfl, hvi⟩
        have hix : i < xs.length := by rw [← hl]; exact hi
        obtain ⟨x, hx⟩ : ∃ x, xs[i]? = some x := ⟨_, List.getElem?_eq_getElem hix⟩
        obtain ⟨e, rfl, he, hok⟩ := h5 i v x hvi hx
        refine ⟨rfl, _, rfl, e, x, rfl, s1 _ _ he, _, rfl, _, _, rfl, rfl, _, rfl, ?_⟩
        refine ite2 (fun c => ?_) (fun c => ?_)
        · have c : x.arr ≤ n := of_decide_eq_true c
          have ik := (k2 i x hx).mp c
          refine ⟨_, rfl, _, hD1, (by rw [List.length_take]; exact small1000 (by omega)), ?_, sameAt s1 hD⟩
          rw [upd_same, Nat.min_eq_left (Nat.le_of_lt ik), Nat.min_eq_left (by omega), list_take hvi]
        · have c : ¬ x.arr ≤ n := fun z => c (decide_eq_true z)
          have ik : k ≤ i := Nat.le_of_not_lt fun z => c ((k2 i x hx).mpr z)
          refine ⟨?_, s1⟩
          rw [hD1, Nat.min_eq_right ik, Nat.min_eq_right (by omega)]
      · rintro H1 ⟨hD1, s1⟩
        rw [Nat.min_eq_right (by omega)] at hD1
        intro x dx' nx ndx nex
        have sX : Same H1 (upd (upd H1 dx' (.own x)) x (.ins CJ dx' [])) := (sameAt (Same.refl _) ndx).trans (sameAt (Same.refl _) (by rw [upd_ne (Ne.symm nex)]; exact nx))
        refine ⟨x, dx', b, D, L, us.take k, (xs.take k).map some, rfl, upd_same, h2.same (s1.trans sX), .inl (sX _ _ hD1), by rw [List.length_take]; omega, by rw [List.length_take, List.length_map, List.length_take, hl], fun i v' o' hi ho => ?_, fun H' ys hys hw hJ' _ kk => ⟨rfl, ?_⟩, fun i d H' hw s hx => ?_⟩
        · have hik : i < k := by
            have := (List.getElem?_eq_some_iff.mp hi).1
            rw [List.length_take] at this
            omega
          rw [List.getElem?_take_of_lt hik] at hi
          rw [List.getElem?_map, List.getElem?_take_of_lt hik] at ho
          cases e : xs[i]? with
          | none => rw [e] at ho; cases ho
          | some y =>
            rw [e] at ho
            cases ho
            exact (h5 i v' y hi e).same (s1.trans sX)
        · have e : ys = xs.take k := (List.map_inj_right (fun a b h => Option.some.inj h)).mp hys.symm
          subst e
          exact q k x H' k4 (s1.trans (mk_same nx ndx kk)) hJ'
        · rw [k3] at hw
          cases hw
    · refine ⟨_, rfl, _, rfl, .inr ⟨ni, _, rfl, iteT ?_⟩⟩
      exact ⟨_, rfl, _, rfl, fun d hd => q d _ (sameAt (Same.refl H) hd) upd_same⟩
end
end Ash

set_option Elab.async false
set_option linter.all false
set_option maxRecDepth 100000
set_option maxHeartbeats 4000000
namespace Ash
open PySem PySem.Spec PyProof.Rows L2
/-! ### equality by identity, item by item -/
def SameV (x y : V) : Prop := (flatV x = true ∧ flatV y = true ∧ eqV x y = true) ∨ (x = y ∧ ∃ a, x = .ref a)
def SeqS (K : PySem.W.Frag) (H : Hp) (x y : V) : Prop := ∃ a b xs ys, x = .ref a ∧ y = .ref b ∧ SqT K H a xs ∧ SqT K H b ys ∧ xs.length = ys.length ∧ ∀ (i : Nat) u v, xs[i]? = some u → ys[i]? = some v → SameV u v
section
variable {X : Cx}
theorem same_at {A : Around} {s : Shared} {x y : V} {u v : Value} (h : SameV x y) (rx : RelV x u) (ry : RelV y v) : SeqAt.EqAt A s u v true := by
  rcases h with ⟨fx, fy, e⟩ | ⟨rfl, a, rfl⟩
  · have q := eqAt_V (A := A) (s := s) rx ry fx fy
    rw [e] at q
    exact q
  · cases (show u = Value.ref a from rx)
    cases (show v = Value.ref a from ry)
    exact SeqAt.EqAt.same _
theorem op_neS (hu : X.A.units < cLine) : OpR X (compareOp .NotEq) (fun x y H Q => SeqS X.K H x y ∧ Q (.bl false) H) := by
  intro pins s σ H x y v u Q I rx ry ⟨h, q⟩
  obtain ⟨a, b, xs, ys, rfl, rfl, ha, hb, hl, hi⟩ := h
  cases (show v = Value.ref a from rx)
  cases (show u = Value.ref b from ry)
  obtain ⟨i1, r1, t1, z1⟩ := I.tuple ha
  obtain ⟨i2, r2, t2, z2⟩ := I.tuple hb
  have l1 := r1.length
  have l2 := r2.length
  have e : (!((List.range (min i1.toArray.size i2.toArray.size)).all (fun _ => true) && i1.toArray.size == i2.toArray.size)) = false := by
    have : i1.toArray.size = i2.toArray.size := by simp; omega
    simp [this]
  have key := SeqAt.RcNeAt.tuples (A := X.A) (s := s) (e := fun _ => true) (show s.heap.IsTuple a i1.toArray from t1) (show s.heap.IsTuple b i2.toArray from t2) hu fun j h1 h2 => by
    have h1' : j < i1.length := by simpa using h1
    have h2' : j < i2.length := by simpa using h2
    have x1 : xs[j]? = some xs[j] := List.getElem?_eq_getElem (by omega)
    have y1 : ys[j]? = some ys[j] := List.getElem?_eq_getElem (by omega)
    obtain ⟨u1, e1, q1⟩ := r1.get x1
    obtain ⟨u2, e2, q2⟩ := r2.get y1
    have e1' : i1.toArray[j] = u1 := by
      rw [List.getElem?_eq_getElem h1'] at e1
      simpa using Option.some.inj e1
    have e2' : i2.toArray[j] = u2 := by
      rw [List.getElem?_eq_getElem h2'] at e2
      simpa using Option.some.inj e2
    rw [e1', e2']
    exact same_at (hi j _ _ x1 y1) q1 q2
  rw [e] at key
  exact key X.prog X.w X.xe _ ⟨.bl false, H, I, rfl, q⟩
end
/-! ### entries as data -/
def Ent.data : Ent → PyData
  | .row id s k m a r => .tuple [.str "row", .int id, .str s, .str k, .int m, .int a, .int r]
  | .fix id m a r => .tuple [.str "fix", .int id, .int m, .int a, .int r]
  | .gone id r => .tuple [.str "gone", .int id, .int r]
theorem ent_dp {K : PySem.W.Frag} {H : Hp} {e : Addr} {x : Ent} (h : EntAt H e x) : Dp K H (.ref e) x.data := by
  cases x with
  | row id s k m a r => exact .tup (SqT.of h) (.cons (.str _) (.cons (.int _) (.cons (.str _) (.cons (.str _) (.cons (.int _) (.cons (.int _) (.cons (.int _) .nil)))))))
  | fix id m a r => exact .tup (SqT.of h) (.cons (.str _) (.cons (.int _) (.cons (.int _) (.cons (.int _) (.cons (.int _) .nil)))))
  | gone id r => exact .tup (SqT.of h) (.cons (.str _) (.cons (.int _) (.cons (.int _) .nil)))
theorem ent_lay {x : Ent} (h : x.ok) : x.data.canLay0 = true ∧ x.data.depth ≤ 2 := by
  have key : ∀ ds : List PyData, ds.all flatD = true → (PyData.tuple ds).canLay0 = true ∧ (PyData.tuple ds).depth ≤ 2 := fun ds hd => by
    obtain ⟨h1, h2⟩ := flat_lay hd
    simp [PyData.canLay0, PyData.depth, h1]
    omega
  cases x with
  | row id s k m a r =>
    obtain ⟨h1, h2⟩ := h.2 _ _ _ _ _ _ rfl
    have hr : PyData.strOk "row" = true := by decide +kernel
    exact key _ (by simp [flatD, nm_ok h1, nm_ok h2, hr])
  | fix id m a r =>
    have hr : PyData.strOk "fix" = true := by decide +kernel
    exact key _ (by simp [flatD, hr])
  | gone id r =>
    have hr : PyData.strOk "gone" = true := by decide +kernel
    exact key _ (by simp [flatD, hr])
theorem ents_lay : ∀ {xs : List Ent}, (∀ x ∈ xs, x.ok) → PyData.canLayAll0 (xs.map Ent.data) = true ∧ PyData.depthAll (xs.map Ent.data) ≤ 2
  | [], _ => by simp [PyData.canLayAll0, PyData.depthAll]
  | x :: xs, h => by
    obtain ⟨h1, h2⟩ := ents_lay fun y hy => h y (List.mem_cons_of_mem _ hy)
    obtain ⟨h3, h4⟩ := ent_lay (h x List.mem_cons_self)
    rw [List.map_cons]
    simp only [PyData.canLayAll0, PyData.depthAll, h1, h3, Bool.and_self, true_and]
    exact Nat.max_le.mpr ⟨h4, h2⟩
/-- us are the entries xs -/
def Ents (H : Hp) (us : List V) (xs : List Ent) : Prop := us.length = xs.length ∧ ∀ (i : Nat) v x, us[i]? = some v → xs[i]? = some x → ∃ e, v = .ref e ∧ EntAt H e x ∧ x.ok
theorem Ents.same {H H' : Hp} {us : List V} {xs : List Ent} (h : Ents H us xs) (s : Same H H') : Ents H' us xs := ⟨h.1, fun i v x a b => by
  obtain ⟨e, h1, h2, h3⟩ := h.2 i v x a b
  exact ⟨e, h1, s _ _ h2, h3⟩⟩
theorem Ents.dp {K : PySem.W.Frag} {H : Hp} : ∀ {us : List V} {xs : List Ent}, Ents H us xs → DpAll K H us (xs.map Ent.data)
  | [], [], _ => .nil
  | [], _ :: _, h => by have := h.1; simp at this
  | _ :: _, [], h => by have := h.1; simp at this
  | v :: us, x :: xs, h => by
    obtain ⟨e, rfl, h2, _⟩ := h.2 0 v x rfl rfl
    exact .cons (ent_dp h2) (Ents.dp ⟨by have := h.1; simpa using this, fun i v x a b => h.2 (i + 1) v x a b⟩)
theorem Ents.ok {H : Hp} {us : List V} {xs : List Ent} (h : Ents H us xs) : ∀ x ∈ xs, x.ok := fun x hx => by
  obtain ⟨i, hi, e⟩ := List.getElem_of_mem hx
  have hu : i < us.length := by rw [h.1]; exact hi
  obtain ⟨_, _, _, h3⟩ := h.2 i us[i] x (List.getElem?_eq_getElem hu) (by rw [List.getElem?_eq_getElem hi, e])
  exact h3
theorem told_shaped {xs : List Ent} {w : Str} (hw : PyData.strOk w = true) (h : ∀ x ∈ xs, x.ok) : SeqAt.shaped (.tuple [.str w, .list (xs.map Ent.data)]) = true := by
  obtain ⟨h1, h2⟩ := ents_lay h
  unfold SeqAt.shaped
  simp [PyData.canLay0, PyData.canLayAll0, PyData.depth, PyData.depthAll, h1, hw]
  omega
theorem list_shaped {xs : List Ent} (h : ∀ x ∈ xs, x.ok) : SeqAt.shaped (.list (xs.map Ent.data)) = true := by
  obtain ⟨h1, h2⟩ := ents_lay h
  unfold SeqAt.shaped
  simp [PyData.canLay0, PyData.depth, h1]
  omega
end Ash

set_option Elab.async false
set_option linter.all false
set_option maxRecDepth 100000
set_option maxHeartbeats 4000000
namespace Ash
open PySem PySem.Spec PyProof.Rows L2
open C8 (pss_cut)
/-! ### the law's own draws -/
def spInt : Sp := fun vs H Q _ => ∃ (p s : Addr), vs = [.ref p] ∧ PoolAt H p s ∧ ∀ (n : Int) H', Pl H H' p s → Q (.int n) H'
def SV (H : Hp) : Option V → Option RowSt → Prop
  | none, none => True
  | some v, some .tb => v = .non
  | some v, some (.at_ s k m a) => ∃ t, v = .ref t ∧ H t = some (.tup [.str s, .str k, .int m, .int a])
  | _, _ => False
theorem SV.but {H H' : Hp} {v : Option V} {o : Option RowSt} (h : SV H v o) (s : ∀ t xs, H t = some (.tup xs) → H' t = some (.tup xs)) : SV H' v o := by
  cases v with
  | none => cases o <;> exact h
  | some v =>
    cases o with
    | none => exact h
    | some o =>
      cases o with
      | tb => exact h
      | at_ z k m a =>
        obtain ⟨t, e, h⟩ := h
        exact ⟨t, e, s _ _ h⟩
/-- the law's states: a dict from ids to None or what is known -/
def StAt (H : Hp) (d : Addr) (S : Kn) (n : Nat) : Prop := ∃ kvs : List (Key × V), H d = some (.dK kvs) ∧ kvs.length ≤ n ∧ (∀ kv ∈ kvs, ∃ id, kv.1 = Sum.inl id) ∧ ∀ id, SV H (valV kvs (Sum.inl id)) (S id)
theorem StAt.same {H H' : Hp} {d : Addr} {S : Kn} {n : Nat} (h : StAt H d S n) (s : Same H H') : StAt H' d S n := by
  obtain ⟨kvs, h1, h2, h3, h4⟩ := h
  exact ⟨kvs, s _ _ h1, h2, h3, fun id => (h4 id).but fun t xs e => s _ _ e⟩
theorem StAt.pl {H H' : Hp} {d p s : Addr} {S : Kn} {n : Nat} (h : StAt H d S n) (P0 : PoolAt H p s) (P : Pl H H' p s) : StAt H' d S n := by
  obtain ⟨kvs, h1, h2, h3, h4⟩ := h
  obtain ⟨ns, i, c, k, m, hp, _⟩ := P0
  exact ⟨kvs, P.keep h1 (ne_of h1 hp (by intro z; cases z)), h2, h3, fun id => (h4 id).but fun t xs e => P.keep e (ne_of e hp (by intro z; cases z))⟩
theorem Pl.dk {H H' : Hp} {p s d : Addr} {kvs : List (Key × V)} (P : Pl H H' p s) (P0 : PoolAt H p s) (h : H d = some (.dK kvs)) : H' d = some (.dK kvs) := by
  obtain ⟨ns, i, c, k, m, hp, _⟩ := P0
  exact P.keep h (ne_of h hp (by intro z; cases z))
theorem Pl.tp {H H' : Hp} {p s d : Addr} {xs : List V} (P : Pl H H' p s) (P0 : PoolAt H p s) (h : H d = some (.tup xs)) : H' d = some (.tup xs) := by
  obtain ⟨ns, i, c, k, m, hp, _⟩ := P0
  exact P.keep h (ne_of h hp (by intro z; cases z))
theorem strs_ne {ns : List Int} {r : Addr} {a b c d : Int} {ks : List Str} : (HO.lst (ks.map V.str)) ≠ .lst [.ref r, .int a, .int b, .int c, .int d] := fun z => by
  injection z with z
  cases ks with
  | nil => cases z
  | cons k ks => injection z with z1 _; cases z1
theorem Pl.sl {H H' : Hp} {p s d : Addr} {ks : List Str} (P : Pl H H' p s) (P0 : PoolAt H p s) (h : H d = some (.lst (ks.map V.str))) : H' d = some (.lst (ks.map V.str)) := by
  obtain ⟨ns, i, c, k, m, hp, _⟩ := P0
  exact P.keep h (ne_of h hp (strs_ne (ns := ns)))
theorem mem_val {kvs : List (Key × V)} {kv : Key × V} (h : kv ∈ kvs) : ∃ v, valV kvs kv.1 = some v := by
  have q : (kvs.any fun x => decide (x.1 = kv.1)) = true := List.any_eq_true.mpr ⟨kv, h, decide_eq_true rfl⟩
  rw [valV_any] at q
  exact Option.isSome_iff_exists.mp q
/-- what the entry is drawn from -/
structure Draw (H : Hp) (p s dl dk ds : Addr) (L : List (Str × Int)) (ks : List Str) (S : Kn) : Prop where
  pool : PoolAt H p s
  dl : H dl = some (.dK (LK L))
  LL : Lates L
  dk : H dk = some (.lst (ks.map V.str))
  k1 : 1 ≤ ks.length
  k2 : ks.length ≤ 30
  kn : ∀ z ∈ ks, IsNm z
  st : StAt H ds S 500
  ok : KnOk L S
  pos : ∀ id, S id ≠ none → 0 ≤ id
/-- a row of one of the keys -/
def KIn (ks : List Str) (x : Ent) : Prop := ∀ id s k m a r, x = .row id s k m a r → k ∈ ks
def spEntry : Sp := fun vs H Q _ => ∃ (p s dl dk ds : Addr) (L : List (Str × Int)) (ks : List Str) (S : Kn) (number arrival : Int), vs = [.ref p, .ref dl, .ref dk, .ref ds, .int number, .int arrival] ∧ Draw H p s dl dk ds L ks S ∧ 0 ≤ number ∧ S number = none ∧
  ∀ e x y H', EntAt H' e x → x.ok → KIn ks x → x.arr = arrival → behind L x (S x.id) = some y → (x.id = number ∨ S x.id ≠ none) → Pl H H' p s → Q (.ref e) H'
section
variable {P : Program} {w : World} {K : PySem.W.Frag} {mg : Str → Option Value} {base : Heap}
abbrev s_l_amount : Stmt := topS 36
theorem sc_l_amount : FnScope ["pool"] ["pool"] (defScope s_l_amount) := ⟨rfl, rfl, rfl, by decide +kernel, rfl, by decide +kernel, by decide +kernel⟩
theorem ok_amount {f : Addr} {fd : FuncData} (F : Fun K "_law_amount" "_law_amount" s_l_amount f fd) (B : Blt mg) (G : G2 P w K mg base) : FnOk P w K mg base CX0 2 f fd ["pool"] spInt := by
  refine F.ok sc_l_amount (fun vs H Q E h => ?_) (fun cdv A outer s H vs Q E hr h => ?_)
  · obtain ⟨p, s, rfl, _⟩ := h
    rfl
  · obtain ⟨p, s0, rfl, hP, q⟩ := h
    refine ⟨_, (pss_cons (ps_if (pt_cmpR op_eq (pe_cal G.law_draw (hr.mono (by decide)) pass0 (pa_cons (pv 0) (pa_cons pe_int pa_nil))) pe_int (nomark _))
      (pss_one (ps_ret (pe_op op_sub (pe_cal G.law_draw (hr.mono (by decide)) pass0 (pa_cons (pv 0) (pa_cons (pe_op op_mul pe_int (pe_op op_pow pe_int pe_int)) pa_nil))) (pe_op op_pow pe_int pe_int))))
      pss_nil)
    (pss_one (ps_ret (pe_op op_sub (pe_cal G.law_draw (hr.mono (by decide)) pass0 (pa_cons (pv 0) (pa_cons pe_int pa_nil))) pe_int)))), ?_⟩
    refine ⟨_, rfl, p, s0, 6, rfl, hP, (by decide), (by decide), fun x H1 x0 x6 P1 => ⟨rfl, _, rfl, ?_⟩⟩
    refine ite2 (fun c => ?_) (fun c => ?_)
    · exact ⟨_, rfl, _, _, rfl, rfl, ⟨by decide, by decide, by decide⟩, _, _, rfl, rfl, .inl ⟨by decide, by decide⟩, p, s0, _, rfl, P1.now, (by decide), (by decide), fun y H2 y0 y6 P2 => ⟨_, _, rfl, rfl, ⟨by decide, by decide, by decide⟩, _, _, rfl, rfl, q _ H2 (P1.trans P2)⟩⟩
    · exact ⟨_, rfl, p, s0, 21, rfl, P1.now, (by decide), (by decide), fun y H2 y0 y6 P2 => ⟨_, _, rfl, rfl, q _ H2 (P1.trans P2)⟩⟩
abbrev s_l_begin : Stmt := topS 40
theorem sc_l_begin : FnScope ["pool"] ["pool"] (defScope s_l_begin) := ⟨rfl, rfl, rfl, by decide +kernel, rfl, by decide +kernel, by decide +kernel⟩
theorem ok_begin {f : Addr} {fd : FuncData} (F : Fun K "_law_begin" "_law_begin" s_l_begin f fd) (B : Blt mg) (G : G2 P w K mg base) : FnOk P w K mg base CX0 2 f fd ["pool"] spInt := by
  refine F.ok sc_l_begin (fun vs H Q E h => ?_) (fun cdv A outer s H vs Q E hr h => ?_)
  · obtain ⟨p, s, rfl, _⟩ := h
    rfl
  · obtain ⟨p, s0, rfl, hP, q⟩ := h
    refine ⟨_, (pss_cons (ps_if (pt_cmpR op_eq (pe_cal G.law_draw (hr.mono (by decide)) pass0 (pa_cons (pv 0) (pa_cons pe_int pa_nil))) pe_int (nomark _))
      (pss_one (ps_ret (pe_op op_sub (pe_cal G.law_draw (hr.mono (by decide)) pass0 (pa_cons (pv 0) (pa_cons (pe_op op_mul pe_int (pe_op op_pow pe_int pe_int)) pa_nil))) (pe_op op_pow pe_int pe_int))))
      pss_nil)
    (pss_one (ps_ret (pe_op op_sub (pe_cal G.law_draw (hr.mono (by decide)) pass0 (pa_cons (pv 0) (pa_cons pe_int pa_nil))) pe_int)))), ?_⟩
    refine ⟨_, rfl, p, s0, 3, rfl, hP, (by decide), (by decide), fun x H1 x0 x6 P1 => ⟨rfl, _, rfl, ?_⟩⟩
    refine ite2 (fun c => ?_) (fun c => ?_)
    · exact ⟨_, rfl, _, _, rfl, rfl, ⟨by decide, by decide, by decide⟩, _, _, rfl, rfl, .inl ⟨by decide, by decide⟩, p, s0, _, rfl, P1.now, (by decide), (by decide), fun y H2 y0 y6 P2 => ⟨_, _, rfl, rfl, ⟨by decide, by decide, by decide⟩, _, _, rfl, rfl, q _ H2 (P1.trans P2)⟩⟩
    · exact ⟨_, rfl, p, s0, 21, rfl, P1.now, (by decide), (by decide), fun y H2 y0 y6 P2 => ⟨_, _, rfl, rfl, q _ H2 (P1.trans P2)⟩⟩
structure G3 (P : Program) (w : World) (K : PySem.W.Frag) (mg : Str → Option Value) (base : Heap) : Prop extends G2 P w K mg base where
  law_lates : Cal P w K mg base CX0 "_law_lates" 3 ["pool"] spLates
  law_amount : Cal P w K mg base CX0 "_law_amount" 2 ["pool"] spInt
  law_begin : Cal P w K mg base CX0 "_law_begin" 2 ["pool"] spInt
abbrev s_l_entry : Stmt := topS 37
theorem sc_l_entry : FnScope ["pool", "lates", "keys", "states", "number", "arrival", "open_ones", "other", "kind", "stream", "moment"] ["pool", "lates", "keys", "states", "number", "arrival"] (defScope s_l_entry) := ⟨rfl, rfl, rfl, by decide +kernel, rfl, by decide +kernel, by decide +kernel⟩
theorem ok_entry {f : Addr} {fd : FuncData} (F : Fun K "_law_entry" "_law_entry" s_l_entry f fd) (B : Blt mg) (G : G3 P w K mg base) : FnOk P w K mg base CX0 3 f fd ["pool", "lates", "keys", "states", "number", "arrival"] spEntry := by
  refine F.ok sc_l_entry (fun vs H Q E h => ?_) (fun cdv A outer s H vs Q E hr h => ?_)
  · obtain ⟨p, s, dl, dk, ds, L, ks, S, number, arrival, rfl, _⟩ := h
    rfl
  · obtain ⟨p, s0, dl, dk, ds, L, ks, S, number, arrival, rfl, D, hn, hSn, q⟩ := h
    have hu := hu_of hr
    refine ⟨_, (pss_cons (ps_set (i := 6) sc_l_entry.nd rfl (Or.inl rfl) (pe_lst pa_nil))
    (pss_cut (ps_for PassesOwn.never rfl (pi_list (pe_callTy (call_listD (by rfl)) (by rfl) B.list (by decide +kernel) (pa_cons (pv 3) pa_nil))) (pg_name (i := 7) sc_l_entry.nd rfl (Or.inl rfl))
      (pss_one (ps_if (PW.pt (pw_and (pt_cmpR op_notN (pe_dget hu (pv 3) (pv 7) (fun _ _ => rfl)) pe_non (nomark _)) (pw_and1 (pt_cmpR op_le (pv 5) (pe_op op_add (pe_ix ix_tup (pe_dget hu (pv 3) (pv 7) (fun _ _ => rfl)) pe_int (fun _ _ => rfl)) (pe_dget hu (pv 1) (pe_ix ix_tup (pe_dget hu (pv 3) (pv 7) (fun _ _ => rfl)) pe_int (fun _ _ => rfl)) (fun _ _ => rfl))) (nomark _)))))
        (pss_one (ps_expr (pe_bm PySem.F.plainAttrs_list PySem.F.slot_list_append PySem.F.type_list_append mt_append (pv 6) (pa_cons (pv 7) pa_nil))))
        pss_nil)))
    (pss_cons (ps_set (i := 8) sc_l_entry.nd rfl (Or.inl rfl) (pe_cal G.law_draw (hr.mono (by decide)) pass0 (pa_cons (pv 0) (pa_cons pe_int pa_nil))))
    (pss_cons (ps_if (PW.pt (pw_or (pt_cmpR op_lt (pv 8) pe_int (nomark _)) (pw_or1 (pt_cmpR op_eq (pe_callB call_len_seq (by rfl) B.len (by decide +kernel) (pa_cons (pv 6) pa_nil)) pe_int (nomark _)))))
      (pss_cons (ps_set (i := 9) sc_l_entry.nd rfl (Or.inl rfl) (pe_ix ix_list (pe_callTy (call_listD (by rfl)) (by rfl) B.list (by decide +kernel) (pa_cons (pv 1) pa_nil)) (pe_cal G.law_draw (hr.mono (by decide)) pass0 (pa_cons (pv 0) (pa_cons (pe_callB call_lenD (by rfl) B.len (by decide +kernel) (pa_cons (pv 1) pa_nil)) pa_nil))) (fun _ _ => rfl)))
      (pss_cons (ps_set (i := 10) sc_l_entry.nd rfl (Or.inl rfl) (pe_op op_sub (pv 5) (pe_cal G.law_draw (hr.mono (by decide)) pass0 (pa_cons (pv 0) (pa_cons (pe_op op_add (pe_dget hu (pv 1) (pv 9) (fun _ _ => rfl)) pe_int) pa_nil)))))
      (pss_one (ps_ret (pe_tup (pa_cons pe_str (pa_cons (pv 4) (pa_cons (pv 9) (pa_cons (pe_ix ix_list (pv 2) (pe_cal G.law_draw (hr.mono (by decide)) pass0 (pa_cons (pv 0) (pa_cons (pe_callB call_len_seq (by rfl) B.len (by decide +kernel) (pa_cons (pv 2) pa_nil)) pa_nil))) (fun _ _ => rfl)) (pa_cons (pv 10) (pa_cons (pe_cal G.law_amount (hr.mono (by decide)) pass0 (pa_cons (pv 0) pa_nil)) (pa_cons (pv 5) pa_nil))))))))))))
      pss_nil)
    (pss_cons (ps_set (i := 7) sc_l_entry.nd rfl (Or.inl rfl) (pe_ix ix_list (pv 6) (pe_cal G.law_draw (hr.mono (by decide)) pass0 (pa_cons (pv 0) (pa_cons (pe_callB call_len_seq (by rfl) B.len (by decide +kernel) (pa_cons (pv 6) pa_nil)) pa_nil))) (fun _ _ => rfl)))
    (pss_cons (ps_if (pt_cmpR op_eq (pv 8) pe_int (nomark _))
      (pss_cons (ps_set (i := 10) sc_l_entry.nd rfl (Or.inl rfl) (pe_op op_sub (pv 5) (pe_cal G.law_draw (hr.mono (by decide)) pass0 (pa_cons (pv 0) (pa_cons (pe_op op_add (pe_dget hu (pv 1) (pe_ix ix_tup (pe_dget hu (pv 3) (pv 7) (fun _ _ => rfl)) pe_int (fun _ _ => rfl)) (fun _ _ => rfl)) pe_int) pa_nil)))))
      (pss_one (ps_ret (pe_tup (pa_cons pe_str (pa_cons (pv 7) (pa_cons (pv 10) (pa_cons (pe_cal G.law_amount (hr.mono (by decide)) pass0 (pa_cons (pv 0) pa_nil)) (pa_cons (pv 5) pa_nil)))))))))
      pss_nil)
    (pss_one (ps_ret (pe_tup (pa_cons pe_str (pa_cons (pv 7) (pa_cons (pv 5) pa_nil)))))))))))), ?_⟩
    refine ⟨(by show 0 ≤ sizeLine; decide), fun q0 hq0 => ?_⟩
    obtain ⟨kvs, hst, hst1, hst2, hst3⟩ := D.st
    have s0' := sameAt (Same.refl H) hq0 (o := .lst [])
    -- open_ones
    refine ⟨fun σ H1 => (∃ a b c d, ∃ ids : List Int, σ = [some (.ref p), some (.ref dl), some (.ref dk), some (.ref ds), some (.int number), some (.int arrival), some (.ref q0), a, b, c, d] ∧ H1 q0 = some (.lst (ids.map V.int)) ∧ ids.length ≤ 500 ∧
      ∀ id ∈ ids, ∃ z k m a l, S id = some (.at_ z k m a) ∧ L.lookup z = some l ∧ arrival ≤ m + l) ∧ Same H H1, ?_, ?_⟩
    · refine ⟨_, rfl, ds, kvs, rfl, .of (s0' _ _ hst), fun l hl => ⟨l, rfl, ⟨_, SqL.of upd_same⟩, ?_⟩⟩
      have e1 : kvs.map (fun kv => kV kv.1) = kvs.map (fun kv => kV kv.1) := rfl
      have s1 : Same H (upd (upd H q0 (.lst [])) l (.lst (kvs.map fun kv => kV kv.1))) := s0'.trans (sameAt (Same.refl _) hl)
      have hql : q0 ≠ l := fun z => by rw [← z, upd_same] at hl; cases hl
      refine for_list (K := K) (a := l) (xs := kvs.map fun kv => kV kv.1) (fun i σ H1 => (∃ a b c d, ∃ ids : List Int, σ = [some (.ref p), some (.ref dl), some (.ref dk), some (.ref ds), some (.int number), some (.int arrival), some (.ref q0), a, b, c, d] ∧ H1 q0 = some (.lst (ids.map V.int)) ∧ ids.length ≤ i ∧
        ∀ id ∈ ids, ∃ z k m a l, S id = some (.at_ z k m a) ∧ L.lookup z = some l ∧ arrival ≤ m + l) ∧ H1 l = some (.lst (kvs.map fun kv => kV kv.1)) ∧ Same H H1) ?_ (fun i σ H1 _ hv => SqL.of hv.2.1) ?_ ?_
      · exact ⟨⟨_, _, _, _, [], rfl, by rw [upd_ne hql]; exact upd_same, Nat.le_refl _, fun _ h => nomatch h⟩, upd_same, s1⟩
      · rintro i x σ H1 hi ⟨⟨a, b, c, d, ids, rfl, hq1, hlen, hids⟩, hl1, s2⟩
        obtain ⟨kv, hkv, rfl⟩ : ∃ kv, kvs[i]? = some kv ∧ x = kV kv.1 := by
          rw [List.getElem?_map] at hi
          cases e : kvs[i]? with
          | none => rw [e] at hi; cases hi
          | some z => rw [e] at hi; exact ⟨z, rfl, (Option.some.inj hi).symm⟩
        have hil : i < kvs.length := (List.getElem?_eq_some_iff.mp hkv).1
        have hm := List.mem_of_getElem? hkv
        obtain ⟨id, hid⟩ := hst2 _ hm
        obtain ⟨v, hv⟩ := mem_val hm
        rw [hid] at hv ⊢
        have hs1 := s2 _ _ hst
        have hd1 := s2 _ _ D.dl
        have sv := (hst3 id).but (fun t xs e => s2 _ _ e)
        rw [hv] at sv
        have hg := DGet.k (k := Sum.inl id) hs1
        rw [hv] at hg
        cases eS : S id with
        | none => rw [eS] at sv; exact absurd sv (fun z => z)
        | some r =>
          rw [eS] at sv
          cases r with
          | tb =>
            obtain rfl : v = .non := sv
            refine ⟨_, rfl, _, rfl, ds, _, rfl, hg, rfl, _, rfl, iteF ?_⟩
            exact ⟨⟨_, _, _, _, ids, rfl, hq1, by omega, hids⟩, hl1, s2⟩
          | at_ z k m am =>
            obtain ⟨t, rfl, ht⟩ := sv
            obtain ⟨_, _, hz⟩ := D.ok _ _ _ _ _ eS
            obtain ⟨lt, hlt⟩ := Option.isSome_iff_exists.mp hz
            have hgl := DGet.k (k := Sum.inr z) hd1
            rw [LK_val, hlt] at hgl
            refine ⟨_, rfl, _, rfl, ds, _, rfl, hg, rfl, _, rfl, iteT ?_⟩
            refine ⟨_, rfl, _, rfl, _, rfl, ds, _, rfl, hg, _, _, _, _, rfl, rfl, SqT.of ht, rfl, _, rfl, _, rfl, _, rfl, ds, _, rfl, hg, _, _, _, _, rfl, rfl, SqT.of ht, rfl, dl, _, rfl, hgl, _, _, rfl, rfl, _, _, rfl, rfl, _, rfl, ?_⟩
            refine ite2 (fun c1 => ?_) (fun c1 => ?_)
            · have c1 : arrival ≤ m + lt := of_decide_eq_true c1
              refine ⟨_, rfl, .inl ⟨rfl, _, SqL.of hq1⟩, _, rfl, q0, _, _, rfl, rfl, hq1, (by rw [List.length_map]; exact small1000 (by omega)), ?_⟩
              refine ⟨⟨_, _, _, _, ids ++ [id], rfl, ?_, by rw [List.length_append]; show ids.length + 1 ≤ i + 1; omega, fun id' hid' => ?_⟩, ?_, ?_⟩
              · rw [upd_same, List.map_append]
                rfl
              · rcases List.mem_append.mp hid' with h | h
                · exact hids _ h
                · rw [List.mem_singleton.mp h]
                  exact ⟨z, k, m, am, lt, eS, hlt, c1⟩
              · rw [upd_ne (Ne.symm hql)]
                exact hl1
              · exact sameAt s2 hq0
            · exact ⟨⟨_, _, _, _, ids, rfl, hq1, by omega, hids⟩, hl1, s2⟩
      · rintro σ H1 ⟨⟨a, b, c, d, ids, rfl, hq1, hlen, hids⟩, hl1, s2⟩
        rw [List.length_map] at hlen
        exact ⟨⟨_, _, _, _, ids, rfl, hq1, by omega, hids⟩, s2⟩
    rintro σ H1 ⟨⟨a, b, c, d, ids, rfl, hq1, hlen, hids⟩, s1⟩
    have P1 := D.pool.same s1
    refine ⟨_, rfl, p, s0, 4, rfl, P1, (by decide), (by decide), fun kind H2 k0 k4 P2 => ?_⟩
    have PP2 : Pl H H2 p s0 := ⟨P2.now, D.pool.ne.1, D.pool.ne.2, fun b o hb hn => P2.keep (s1 _ _ hb) hn⟩
    have hqp : q0 ≠ p := fun z => D.pool.ne.1 (z ▸ hq0)
    have hq2 : H2 q0 = some (.lst (ids.map V.int)) := P2.keep hq1 hqp
    have hd2 : H2 dl = some (.dK (LK L)) := PP2.dk D.pool D.dl
    have hk2 : H2 dk = some (.lst (ks.map V.str)) := PP2.sl D.pool D.dk
    have l1 := D.LL.some_
    have l8 := D.LL.few
    refine ⟨_, rfl, _, _, rfl, rfl, _, rfl, ?_⟩
    refine ite2 (fun c1 => ?_) (fun c1 => ?_)
    · skip
      refine ⟨_, rfl, dl, _, rfl, .of hd2, fun l hl => ?_⟩
      have e1 : (LK L).map (fun kv => kV kv.1) = (L.map (·.1)).map V.str := by
        unfold LK
        rw [List.map_map, List.map_map]
        rfl
      rw [e1]
      have PP3 : Pl H (upd H2 l (.lst ((L.map (·.1)).map V.str))) p s0 := PP2.new hl
      have hlp : l ≠ p := fun z => P2.now.ne.1 (z ▸ hl)
      refine ⟨_, rfl, _, rfl, dl, _, rfl, PP3.dk D.pool D.dl, p, s0, _, rfl, PP3.now, (by rw [LK_len]; omega), (by rw [LK_len]; omega), fun g H4 g0 g1 P4 => ?_⟩
      rw [LK_len] at g1
      obtain ⟨g, rfl⟩ : ∃ n : Nat, g = (n : Int) := ⟨g.toNat, by omega⟩
      have hg : g < L.length := by omega
      have PP4 := PP3.trans P4
      have hm : L[g] ∈ L := List.getElem_mem hg
      have hlk : L.lookup L[g].1 = some L[g].2 := lookup_mem D.LL.nd hm
      have b0 := D.LL.lo _ hm
      have b1 := D.LL.hi _ hm
      refine ⟨_, _, _, V.str L[g].1, rfl, rfl, SqL.of (P4.keep upd_same hlp), atI_nat (by rw [List.getElem?_map, List.getElem?_map, List.getElem?_eq_getElem hg]; rfl), ?_⟩
      have hgl := DGet.k (k := Sum.inr L[g].1) (PP4.dk D.pool D.dl)
      rw [LK_val, hlk] at hgl
      refine ⟨_, rfl, _, rfl, _, rfl, _, rfl, dl, _, rfl, hgl, _, _, rfl, rfl, p, s0, _, rfl, PP4.now, (by omega), (by omega), fun dd H5 d0 d1 P5 => ⟨_, _, rfl, rfl, ?_⟩⟩
      have PP5 := PP4.trans P5
      have k1 := D.k1
      have k2 := D.k2
      refine ⟨_, rfl, _, rfl, _, rfl, _, rfl, _, rfl, dk, _, rfl, .inl (SqL.of (PP5.sl D.pool D.dk)), p, s0, _, rfl, PP5.now, (by rw [List.length_map]; omega), (by rw [List.length_map]; omega), fun gk H6 gk0 gk1 P6 => ?_⟩
      rw [List.length_map] at gk1
      obtain ⟨gk, rfl⟩ : ∃ n : Nat, gk = (n : Int) := ⟨gk.toNat, by omega⟩
      have hgk : gk < ks.length := by omega
      have PP6 := PP5.trans P6
      refine ⟨_, _, _, V.str ks[gk], rfl, rfl, SqL.of (PP6.sl D.pool D.dk), atI_nat (by rw [List.getElem?_map, List.getElem?_eq_getElem hgk]; rfl), _, rfl, _, rfl, p, s0, rfl, PP6.now, fun am H7 P7 => ⟨_, rfl, (by show 7 ≤ sizeLine; decide), fun e he => ?_⟩⟩
      refine q e (.row number L[g].1 ks[gk] (arrival - dd) am arrival) (.at_ L[g].1 ks[gk] (arrival - dd) am) _ upd_same ⟨hn, fun _ _ _ _ _ _ z => by
        cases z
        exact ⟨D.LL.nm _ hm, D.kn _ (List.getElem_mem hgk)⟩⟩ (fun _ _ _ _ _ _ z => by cases z; exact List.getElem_mem hgk) rfl ?_ (.inl rfl) ((PP6.trans P7).new he)
      show behind L _ (S number) = _
      rw [hSn]
      show (L.lookup L[g].1).bind _ = _
      rw [hlk, Option.bind_some, if_pos ⟨by omega, by omega⟩]
    · refine ⟨_, rfl, q0, _, rfl, .inl (SqL.of hq2), rfl, _, rfl, ?_⟩
      refine ite2 (fun c2 => ?_) (fun c2 => ?_)
      · skip
        refine ⟨_, rfl, dl, _, rfl, .of hd2, fun l hl => ?_⟩
        have e1 : (LK L).map (fun kv => kV kv.1) = (L.map (·.1)).map V.str := by
          unfold LK
          rw [List.map_map, List.map_map]
          rfl
        rw [e1]
        have PP3 : Pl H (upd H2 l (.lst ((L.map (·.1)).map V.str))) p s0 := PP2.new hl
        have hlp : l ≠ p := fun z => P2.now.ne.1 (z ▸ hl)
        refine ⟨_, rfl, _, rfl, dl, _, rfl, PP3.dk D.pool D.dl, p, s0, _, rfl, PP3.now, (by rw [LK_len]; omega), (by rw [LK_len]; omega), fun g H4 g0 g1 P4 => ?_⟩
        rw [LK_len] at g1
        obtain ⟨g, rfl⟩ : ∃ n : Nat, g = (n : Int) := ⟨g.toNat, by omega⟩
        have hg : g < L.length := by omega
        have PP4 := PP3.trans P4
        have hm : L[g] ∈ L := List.getElem_mem hg
        have hlk : L.lookup L[g].1 = some L[g].2 := lookup_mem D.LL.nd hm
        have b0 := D.LL.lo _ hm
        have b1 := D.LL.hi _ hm
        refine ⟨_, _, _, V.str L[g].1, rfl, rfl, SqL.of (P4.keep upd_same hlp), atI_nat (by rw [List.getElem?_map, List.getElem?_map, List.getElem?_eq_getElem hg]; rfl), ?_⟩
        have hgl := DGet.k (k := Sum.inr L[g].1) (PP4.dk D.pool D.dl)
        rw [LK_val, hlk] at hgl
        refine ⟨_, rfl, _, rfl, _, rfl, _, rfl, dl, _, rfl, hgl, _, _, rfl, rfl, p, s0, _, rfl, PP4.now, (by omega), (by omega), fun dd H5 d0 d1 P5 => ⟨_, _, rfl, rfl, ?_⟩⟩
        have PP5 := PP4.trans P5
        have k1 := D.k1
        have k2 := D.k2
        refine ⟨_, rfl, _, rfl, _, rfl, _, rfl, _, rfl, dk, _, rfl, .inl (SqL.of (PP5.sl D.pool D.dk)), p, s0, _, rfl, PP5.now, (by rw [List.length_map]; omega), (by rw [List.length_map]; omega), fun gk H6 gk0 gk1 P6 => ?_⟩
        rw [List.length_map] at gk1
        obtain ⟨gk, rfl⟩ : ∃ n : Nat, gk = (n : Int) := ⟨gk.toNat, by omega⟩
        have hgk : gk < ks.length := by omega
        have PP6 := PP5.trans P6
        refine ⟨_, _, _, V.str ks[gk], rfl, rfl, SqL.of (PP6.sl D.pool D.dk), atI_nat (by rw [List.getElem?_map, List.getElem?_eq_getElem hgk]; rfl), _, rfl, _, rfl, p, s0, rfl, PP6.now, fun am H7 P7 => ⟨_, rfl, (by show 7 ≤ sizeLine; decide), fun e he => ?_⟩⟩
        refine q e (.row number L[g].1 ks[gk] (arrival - dd) am arrival) (.at_ L[g].1 ks[gk] (arrival - dd) am) _ upd_same ⟨hn, fun _ _ _ _ _ _ z => by
          cases z
          exact ⟨D.LL.nm _ hm, D.kn _ (List.getElem_mem hgk)⟩⟩ (fun _ _ _ _ _ _ z => by cases z; exact List.getElem_mem hgk) rfl ?_ (.inl rfl) ((PP6.trans P7).new he)
        show behind L _ (S number) = _
        rw [hSn]
        show (L.lookup L[g].1).bind _ = _
        rw [hlk, Option.bind_some, if_pos ⟨by omega, by omega⟩]
      · have hne : 0 < ids.length := by
          refine Nat.pos_of_ne_zero fun z => c2 (decide_eq_true ?_)
          rw [List.length_map, z]
          rfl
        refine ⟨_, rfl, _, rfl, _, rfl, q0, _, rfl, .inl (SqL.of hq2), p, s0, _, rfl, PP2.now, (by rw [List.length_map]; omega), (by rw [List.length_map]; omega), fun g H3 g0 g1 P3 => ?_⟩
        rw [List.length_map] at g1
        obtain ⟨g, rfl⟩ : ∃ n : Nat, g = (n : Int) := ⟨g.toNat, by omega⟩
        have hg : g < ids.length := by omega
        have PP3 := PP2.trans P3
        obtain ⟨z, k, m, a0, lt, eS, hlt, hend⟩ := hids _ (List.getElem_mem hg)
        obtain ⟨hzn, hkn, _⟩ := D.ok _ _ _ _ _ eS
        have hpos : 0 ≤ ids[g] := D.pos _ (by rw [eS]; exact fun z => nomatch z)
        have hlo : 0 ≤ lt ∧ lt ≤ 1000000 := by
          have hzm : z ∈ L.map (·.1) := by
            by_cases hz : z ∈ L.map (·.1)
            · exact hz
            · rw [lookup_none hz] at hlt
              cases hlt
          obtain ⟨x, hx, rfl⟩ := List.mem_map.mp hzm
          rw [lookup_mem D.LL.nd hx] at hlt
          cases hlt
          exact ⟨D.LL.lo _ hx, D.LL.hi _ hx⟩
        have sv := (hst3 ids[g]).but (fun t xs e => PP3.tp D.pool e)
        rw [eS] at sv
        obtain ⟨v, hv⟩ : ∃ v, valV kvs (Sum.inl ids[g]) = some v := by
          cases e : valV kvs (Sum.inl ids[g] : Key) with
          | none => rw [e] at sv; exact absurd sv (fun z => z)
          | some v => exact ⟨v, rfl⟩
        rw [hv] at sv
        obtain ⟨t, rfl, ht⟩ := sv
        have hgs := DGet.k (k := Sum.inl ids[g]) (PP3.dk D.pool hst)
        rw [hv] at hgs
        have hgl := DGet.k (k := Sum.inr z) (PP3.dk D.pool D.dl)
        rw [LK_val, hlt] at hgl
        refine ⟨_, _, _, V.int ids[g], rfl, rfl, SqL.of (P3.keep hq2 hqp), atI_nat (by rw [List.getElem?_map, List.getElem?_eq_getElem hg]; rfl), _, rfl, rfl, _, rfl, ?_⟩
        refine ite2 (fun c3 => ?_) (fun c3 => ?_)
        · refine ⟨_, rfl, _, rfl, _, rfl, _, rfl, _, rfl, ds, _, rfl, hgs, _, _, _, _, rfl, rfl, SqT.of ht, rfl, dl, _, rfl, hgl, _, _, rfl, rfl, p, s0, _, rfl, PP3.now, (by omega), (by omega), fun dd H4 d0 d1 P4 => ⟨_, _, rfl, rfl, ?_⟩⟩
          have PP4 := PP3.trans P4
          refine ⟨_, rfl, _, rfl, _, rfl, p, s0, rfl, PP4.now, fun am H5 P5 => ⟨_, rfl, (by show 5 ≤ sizeLine; decide), fun e he => ?_⟩⟩
          refine q e (.fix ids[g] (arrival - dd) am arrival) (.at_ z k (arrival - dd) am) _ upd_same ⟨hpos, fun _ _ _ _ _ _ z => by cases z⟩ (fun _ _ _ _ _ _ z => by cases z) rfl ?_ (.inr (by show S ids[g] ≠ none; rw [eS]; exact fun z => nomatch z)) ((PP4.trans P5).new he)
          show behind L _ (S ids[g]) = _
          rw [eS]
          show (L.lookup z).bind _ = _
          rw [hlt, Option.bind_some, if_pos ⟨hend, by omega, by omega⟩]
        · refine ⟨_, rfl, _, rfl, (by show 3 ≤ sizeLine; decide), fun e he => ?_⟩
          refine q e (.gone ids[g] arrival) .tb _ upd_same ⟨hpos, fun _ _ _ _ _ _ z => by cases z⟩ (fun _ _ _ _ _ _ z => by cases z) rfl ?_ (.inr (by show S ids[g] ≠ none; rw [eS]; exact fun z => nomatch z)) (PP3.new he)
          show behind L _ (S ids[g]) = _
          rw [eS]
          show (L.lookup z).bind _ = _
          rw [hlt, Option.bind_some, if_pos hend]
end
end Ash

set_option Elab.async false
set_option linter.all false
set_option maxRecDepth 100000
set_option maxHeartbeats 4000000
namespace Ash
open PySem PySem.Spec PyProof.Rows L2
open C8 (pss_cut)
/-! ### states that change -/
def TK (H H' : Hp) : Prop := ∀ t xs, H t = some (.tup xs) → H' t = some (.tup xs)
theorem Ents.tk {H H' : Hp} {us : List V} {xs : List Ent} (h : Ents H us xs) (s : TK H H') : Ents H' us xs := ⟨h.1, fun i v x a b => by
  obtain ⟨e, h1, h2, h3⟩ := h.2 i v x a b
  exact ⟨e, h1, s _ _ h2, h3⟩⟩
theorem Pl.tk {H H' : Hp} {p s : Addr} (P : Pl H H' p s) (P0 : PoolAt H p s) : TK H H' := fun t xs h => P.tp P0 h
theorem tk_same {H H' : Hp} (s : Same H H') : TK H H' := fun t xs h => s _ _ h
theorem TK.trans {H H1 H2 : Hp} (a : TK H H1) (b : TK H1 H2) : TK H H2 := fun t xs h => b t xs (a t xs h)
theorem tk_off {H : Hp} {q : Addr} {o u : HO} (h : H q = some u) (hu : ∀ xs, u ≠ .tup xs) : TK H (upd H q o) := fun t xs e => by
  rw [upd_ne (ne_of e h (fun z => hu xs z.symm))]
  exact e
theorem mem_putK {kvs : List (Key × V)} {id : Int} {v : V} (h : ∀ kv ∈ kvs, ∃ id, kv.1 = Sum.inl id) : ∀ kv ∈ putK kvs (Sum.inl id : Key) v, ∃ id, kv.1 = Sum.inl id := by
  intro kv hkv
  unfold putK at hkv
  split at hkv
  · obtain ⟨x, hx, rfl⟩ := List.mem_map.mp hkv
    obtain ⟨j, hj⟩ := h x hx
    split
    · exact ⟨j, hj⟩
    · exact ⟨j, hj⟩
  · rcases List.mem_append.mp hkv with hk | hk
    · exact h kv hk
    · rw [List.mem_singleton.mp hk]
      exact ⟨id, rfl⟩
def setK (S : Kn) (id : Int) (y : RowSt) : Kn := fun j => if j = id then some y else S j
theorem StAt.put {H H1 : Hp} {ds : Addr} {S : Kn} {n : Nat} {kvs : List (Key × V)} {id : Int} {v : V} {y : RowSt} (h1 : H ds = some (.dK kvs)) (h2 : kvs.length ≤ n) (h3 : ∀ kv ∈ kvs, ∃ id, kv.1 = Sum.inl id) (h4 : ∀ id, SV H (valV kvs (Sum.inl id)) (S id))
    (s : Same H H1) (hv : SV H1 (some v) (some y)) : StAt (upd H1 ds (.dK (putK kvs (Sum.inl id) v))) ds (setK S id y) (n + 1) := by
  refine ⟨_, upd_same, Nat.le_trans (pk_len _ _ _) (by omega), mem_putK h3, fun j => ?_⟩
  have tk : TK H1 (upd H1 ds (.dK (putK kvs (Sum.inl id) v))) := tk_off (s _ _ h1) (fun xs z => by cases z)
  rw [valV_put]
  show SV _ _ (if j = id then some y else S j)
  by_cases e : j = id
  · rw [if_pos (by rw [e]), if_pos e]
    exact hv.but tk
  · rw [if_neg (fun q => e (Sum.inl.inj q)), if_neg e]
    exact ((h4 j).but fun t xs z => s _ _ z).but tk
theorem behind_row {L : List (Str × Int)} {id : Int} {s k : Str} {m a r : Int} {o : Option RowSt} {y : RowSt} (h : behind L (.row id s k m a r) o = some y) : y = .at_ s k m a := by
  cases o with
  | some o => cases h
  | none =>
    have h : (L.lookup s).bind _ = _ := h
    cases e : L.lookup s with
    | none => rw [e] at h; cases h
    | some l =>
      rw [e, Option.bind_some] at h
      split at h
      · exact (Option.some.inj h).symm
      · cases h
theorem behind_fix {L : List (Str × Int)} {id m a r : Int} {o : Option RowSt} {y : RowSt} (h : behind L (.fix id m a r) o = some y) : ∃ s k m0 a0, o = some (.at_ s k m0 a0) ∧ y = .at_ s k m a := by
  cases o with
  | none => cases h
  | some o =>
    cases o with
    | tb => cases h
    | at_ s k m0 a0 =>
      have h : (L.lookup s).bind _ = _ := h
      cases e : L.lookup s with
      | none => rw [e] at h; cases h
      | some l =>
        rw [e, Option.bind_some] at h
        split at h
        · exact ⟨s, k, m0, a0, rfl, (Option.some.inj h).symm⟩
        · cases h
theorem behind_gone {L : List (Str × Int)} {id r : Int} {o : Option RowSt} {y : RowSt} (h : behind L (.gone id r) o = some y) : y = .tb := by
  cases o with
  | none => cases h
  | some o =>
    cases o with
    | tb => cases h
    | at_ s k m0 a0 =>
      have h : (L.lookup s).bind _ = _ := h
      cases e : L.lookup s with
      | none => rw [e] at h; cases h
      | some l =>
        rw [e, Option.bind_some] at h
        split at h
        · exact (Option.some.inj h).symm
        · cases h
def spPut : Sp := fun vs H Q _ => ∃ (ds e : Addr) (L : List (Str × Int)) (S : Kn) (n : Nat) (x : Ent) (y : RowSt), vs = [.ref ds, .ref e] ∧ StAt H ds S n ∧ n ≤ 900 ∧ EntAt H e x ∧ behind L x (S x.id) = some y ∧
  ∀ H', StAt H' ds (setK S x.id y) (n + 1) → (∀ c o, H c = some o → c ≠ ds → H' c = some o) → Q .non H'
/-- the latest arrival -/
def lastA : List Ent → Option Int → Option Int
  | [], l => l
  | x :: r, _ => lastA r (some x.arr)
theorem lastA_snoc : ∀ (xs : List Ent) (x : Ent) (l : Option Int), lastA (xs ++ [x]) l = some x.arr
  | [], _, _ => rfl
  | _ :: r, x, _ => lastA_snoc r x _
theorem wk_app {L : List (Str × Int)} {S1 : Kn} (rest : List (Option Ent)) : ∀ {xs : List Ent} {i : Nat} {S : Kn} {l : Option Int}, wk L (xs.map some) i S l = (none, S1) → wk L (xs.map some ++ rest) i S l = wk L rest (i + xs.length) S1 (lastA xs l)
  | [], i, S, l, h => by
    have h : ((none : Option Nat), S) = (none, S1) := h
    cases h
    rfl
  | x :: r, i, S, l, h => by
    have h : wk L (some x :: r.map some) i S l = (none, S1) := h
    show wk L (some x :: (r.map some ++ rest)) i S l = _
    by_cases c : late? l x.arr = true
    · rw [wk_late c] at h
      cases h
    · have c0 : late? l x.arr = false := Bool.eq_false_iff.mpr c
      cases hb : behind L x (S x.id) with
      | none =>
        rw [wk_bad c0 hb] at h
        cases h
      | some z =>
        rw [wk_go c0 hb] at h ⊢
        rw [wk_app rest h]
        show wk L rest (i + 1 + r.length) S1 _ = wk L rest (i + (r.length + 1)) S1 _
        rw [show i + 1 + r.length = i + (r.length + 1) by omega]
        rfl
/-- what is left of the heap when the pool and the states have changed -/
structure Pd (H0 H : Hp) (p s ds : Addr) : Prop where
  now : PoolAt H p s
  op : H0 p ≠ none
  os : H0 s ≠ none
  but : ∀ b o, H0 b = some o → b ≠ p → b ≠ ds → H b = some o
theorem Pd.pl {H0 H H1 : Hp} {p s ds : Addr} (a : Pd H0 H p s ds) (b : Pl H H1 p s) : Pd H0 H1 p s ds := ⟨b.now, a.op, a.os, fun c o h n1 n2 => b.keep (a.but c o h n1 n2) n1⟩
theorem Pd.chg {H0 H H1 : Hp} {p s ds : Addr} {kvs : List (Key × V)} (a : Pd H0 H p s ds) (hd : H ds = some (.dK kvs)) (k : ∀ c o, H c = some o → c ≠ ds → H1 c = some o) : Pd H0 H1 p s ds := by
  refine ⟨?_, a.op, a.os, fun c o h n1 n2 => k _ _ (a.but c o h n1 n2) n2⟩
  obtain ⟨ns, i, c, kk, n, h1, h2, h3, h4⟩ := a.now
  exact ⟨ns, i, c, kk, n, k _ _ h1 (ne_of h1 hd (by intro z; cases z)), k _ _ h2 (ne_of h2 hd (by intro z; cases z)), h3, h4⟩
theorem Pd.at {H0 H : Hp} {p s ds q : Addr} {o : HO} (a : Pd H0 H p s ds) (hq : H0 q = none) : Pd H0 (upd H q o) p s ds :=
  ⟨a.now.off (fun z => a.op (z ▸ hq)) (fun z => a.os (z ▸ hq)), a.op, a.os, fun c o h n1 n2 => by rw [upd_ne (ne_of_none h hq)]; exact a.but c o h n1 n2⟩
theorem Pd.free {H0 H : Hp} {p s ds q : Addr} (a : Pd H0 H p s ds) (hd : H ds ≠ none) (hq : H q = none) : H0 q = none := by
  cases e : H0 q with
  | none => rfl
  | some u =>
    by_cases h1 : q = p
    · exact absurd (h1 ▸ hq) a.now.ne.1
    · by_cases h2 : q = ds
      · exact absurd (h2 ▸ hq) hd
      · rw [a.but q u e h1 h2] at hq
        cases hq
theorem Ents.snoc {H : Hp} {us : List V} {xs : List Ent} {e : Addr} {x : Ent} (h : Ents H us xs) (he : EntAt H e x) (hok : x.ok) : Ents H (us ++ [.ref e]) (xs ++ [x]) := by
  refine ⟨by rw [List.length_append, List.length_append, h.1]; rfl, fun i v y a b => ?_⟩
  by_cases hi : i < us.length
  · rw [List.getElem?_append_left hi] at a
    rw [List.getElem?_append_left (by rw [← h.1]; exact hi)] at b
    exact h.2 i v y a b
  · have hi' : i = us.length := by
      have := (List.getElem?_eq_some_iff.mp a).1
      rw [List.length_append] at this
      have : i < us.length + 1 := this
      omega
    subst hi'
    rw [List.getElem?_append_right (Nat.le_refl _), Nat.sub_self] at a
    rw [h.1, List.getElem?_append_right (Nat.le_refl _), Nat.sub_self] at b
    cases a
    cases b
    exact ⟨e, rfl, he, hok⟩
def spEntries : Sp := fun vs H Q _ => ∃ (p s dl dk ds : Addr) (L : List (Str × Int)) (ks : List Str) (S0 : Kn) (n0 : Nat) (number arrival many : Int), vs = [.ref p, .ref dl, .ref dk, .ref ds, .int number, .int arrival, .int many] ∧ Draw H p s dl dk ds L ks S0 ∧ StAt H ds S0 n0 ∧ 0 ≤ many ∧ many ≤ 100 ∧ (n0 : Int) + many ≤ 500 ∧
  0 ≤ number ∧ (∀ id, S0 id ≠ none → id < number) ∧ ds ≠ dl ∧
  ∀ (q : Addr) us xs S1 H', H q = none → H' q = some (.lst us) → Ents H' us xs → (xs.length : Int) = many → (∀ l, (∀ t, l = some t → t ≤ arrival) → ∀ i, wk L (xs.map some) i S0 l = (none, S1)) → (∀ x ∈ xs, arrival ≤ x.arr) →
    StAt H' ds S1 (n0 + xs.length) → KnOk L S1 → (∀ id, S1 id ≠ none → 0 ≤ id ∧ id < number + 3 * many) → Pd H H' p s ds → Q (.ref q) H'
section
variable {P : Program} {w : World} {K : PySem.W.Frag} {mg : Str → Option Value} {base : Heap}
abbrev s_l_put : Stmt := topS 38
theorem sc_l_put : FnScope ["states", "entry", "old"] ["states", "entry"] (defScope s_l_put) := ⟨rfl, rfl, rfl, by decide +kernel, rfl, by decide +kernel, by decide +kernel⟩
theorem ok_put {f : Addr} {fd : FuncData} (F : Fun K "_law_put" "_law_put" s_l_put f fd) (B : Blt mg) : FnOk P w K mg base CX0 1 f fd ["states", "entry"] spPut := by
  refine F.ok sc_l_put (fun vs H Q E h => ?_) (fun cdv A outer s H vs Q E hr h => ?_)
  · obtain ⟨ds, e, L, S, n, x, y, rfl, _⟩ := h
    rfl
  · obtain ⟨ds, e, L, S, n, x, y, rfl, hst, hn, hx, hb, q⟩ := h
    have hu := hu_of hr
    obtain ⟨kvs, h1, h2, h3, h4⟩ := id hst
    refine ⟨_, (pss_one (ps_if (pt_cmpR op_eq (pe_ix ix_tup (pv 1) pe_int (fun _ _ => rfl)) pe_str (nomark _))
      (pss_one (ps_dput hu (pv 0) (pe_ix ix_tup (pv 1) pe_int (fun _ _ => rfl)) (pe_tup (pa_cons (pe_ix ix_tup (pv 1) pe_int (fun _ _ => rfl)) (pa_cons (pe_ix ix_tup (pv 1) pe_int (fun _ _ => rfl)) (pa_cons (pe_ix ix_tup (pv 1) pe_int (fun _ _ => rfl)) (pa_cons (pe_ix ix_tup (pv 1) pe_int (fun _ _ => rfl)) pa_nil))))) rfl))
      (pss_one (ps_if (pt_cmpR op_eq (pe_ix ix_tup (pv 1) pe_int (fun _ _ => rfl)) pe_str (nomark _))
        (pss_cons (ps_set (i := 2) sc_l_put.nd rfl (Or.inl rfl) (pe_dget hu (pv 0) (pe_ix ix_tup (pv 1) pe_int (fun _ _ => rfl)) (fun _ _ => rfl)))
        (pss_one (ps_dput hu (pv 0) (pe_ix ix_tup (pv 1) pe_int (fun _ _ => rfl)) (pe_tup (pa_cons (pe_ix ix_tup (pv 2) pe_int (fun _ _ => rfl)) (pa_cons (pe_ix ix_tup (pv 2) pe_int (fun _ _ => rfl)) (pa_cons (pe_ix ix_tup (pv 1) pe_int (fun _ _ => rfl)) (pa_cons (pe_ix ix_tup (pv 1) pe_int (fun _ _ => rfl)) pa_nil))))) rfl)))
        (pss_one (ps_dput hu (pv 0) (pe_ix ix_tup (pv 1) pe_int (fun _ _ => rfl)) pe_non rfl)))))), ?_⟩
    cases x with
    | row id z k m a r =>
      obtain rfl := behind_row hb
      refine ⟨_, rfl, _, _, _, _, rfl, rfl, SqT.of hx, rfl, rfl, _, rfl, iteT ?_⟩
      refine ⟨_, rfl, _, _, _, _, rfl, rfl, SqT.of hx, rfl, _, rfl, _, _, _, _, rfl, rfl, SqT.of hx, rfl, _, rfl, _, _, _, _, rfl, rfl, SqT.of hx, rfl, _, rfl, _, _, _, _, rfl, rfl, SqT.of hx, rfl, (by show 4 ≤ sizeLine; decide), fun t ht => ?_⟩
      have s1 := sameAt (Same.refl H) ht (o := .tup [.str z, .str k, .int m, .int a])
      have hx1 : EntAt (upd H t (.tup [.str z, .str k, .int m, .int a])) e (.row id z k m a r) := s1 _ _ hx
      refine ⟨_, rfl, _, rfl, _, _, _, _, rfl, rfl, SqT.of hx1, rfl, ds, _, rfl, DPut.k (k := Sum.inl id) (s1 _ _ h1) (small1000 (by omega)), ?_⟩
      exact q _ (StAt.put h1 h2 h3 h4 s1 ⟨t, rfl, upd_same⟩) fun c o hc hn => by rw [upd_ne hn]; exact s1 _ _ hc
    | fix id m a r =>
      obtain ⟨z, k, m0, a0, eS, rfl⟩ := behind_fix hb
      have sv := h4 id
      have eS : S id = some (.at_ z k m0 a0) := eS
      rw [eS] at sv
      obtain ⟨v, hv⟩ : ∃ v, valV kvs (Sum.inl id) = some v := by
        cases e : valV kvs (Sum.inl id : Key) with
        | none => rw [e] at sv; exact absurd sv (fun z => z)
        | some v => exact ⟨v, rfl⟩
      rw [hv] at sv
      obtain ⟨t0, rfl, ht0⟩ := sv
      have hg := DGet.k (k := Sum.inl id) h1
      rw [hv] at hg
      refine ⟨_, rfl, _, _, _, _, rfl, rfl, SqT.of hx, rfl, rfl, _, rfl, iteF ?_⟩
      refine ⟨_, rfl, _, _, _, _, rfl, rfl, SqT.of hx, rfl, rfl, _, rfl, iteT ?_⟩
      refine ⟨_, rfl, _, rfl, _, _, _, _, rfl, rfl, SqT.of hx, rfl, ds, _, rfl, hg, ?_⟩
      refine ⟨_, rfl, _, _, _, _, rfl, rfl, SqT.of ht0, rfl, _, rfl, _, _, _, _, rfl, rfl, SqT.of ht0, rfl, _, rfl, _, _, _, _, rfl, rfl, SqT.of hx, rfl, _, rfl, _, _, _, _, rfl, rfl, SqT.of hx, rfl, (by show 4 ≤ sizeLine; decide), fun t ht => ?_⟩
      have s1 := sameAt (Same.refl H) ht (o := .tup [.str z, .str k, .int m, .int a])
      have hx1 : EntAt (upd H t (.tup [.str z, .str k, .int m, .int a])) e (.fix id m a r) := s1 _ _ hx
      refine ⟨_, rfl, _, rfl, _, _, _, _, rfl, rfl, SqT.of hx1, rfl, ds, _, rfl, DPut.k (k := Sum.inl id) (s1 _ _ h1) (small1000 (by omega)), ?_⟩
      exact q _ (StAt.put h1 h2 h3 h4 s1 ⟨t, rfl, upd_same⟩) fun c o hc hn => by rw [upd_ne hn]; exact s1 _ _ hc
    | gone id r =>
      obtain rfl := behind_gone hb
      refine ⟨_, rfl, _, _, _, _, rfl, rfl, SqT.of hx, rfl, rfl, _, rfl, iteF ?_⟩
      refine ⟨_, rfl, _, _, _, _, rfl, rfl, SqT.of hx, rfl, rfl, _, rfl, iteF ?_⟩
      refine ⟨_, rfl, _, rfl, _, _, _, _, rfl, rfl, SqT.of hx, rfl, ds, _, rfl, DPut.k (k := Sum.inl id) h1 (small1000 (by omega)), ?_⟩
      exact q _ (StAt.put h1 h2 h3 h4 (Same.refl H) rfl) fun c o hc hn => by rw [upd_ne hn]; exact hc
structure G4 (P : Program) (w : World) (K : PySem.W.Frag) (mg : Str → Option Value) (base : Heap) : Prop extends G3 P w K mg base where
  law_entry : Cal P w K mg base CX0 "_law_entry" 3 ["pool", "lates", "keys", "states", "number", "arrival"] spEntry
  law_put : Cal P w K mg base CX0 "_law_put" 1 ["states", "entry"] spPut
abbrev s_l_entries : Stmt := topS 39
theorem sc_l_entries : FnScope ["pool", "lates", "keys", "states", "number", "arrival", "many", "entries", "k", "entry"] ["pool", "lates", "keys", "states", "number", "arrival", "many"] (defScope s_l_entries) := ⟨rfl, rfl, rfl, by decide +kernel, rfl, by decide +kernel, by decide +kernel⟩
theorem ok_entries {f : Addr} {fd : FuncData} (F : Fun K "_law_entries" "_law_entries" s_l_entries f fd) (B : Blt mg) (G : G4 P w K mg base) : FnOk P w K mg base CX0 4 f fd ["pool", "lates", "keys", "states", "number", "arrival", "many"] spEntries := by
  refine F.ok sc_l_entries (fun vs H Q E h => ?_) (fun cdv A outer s H vs Q E hr h => ?_)
  · obtain ⟨p, s, dl, dk, ds, L, ks, S, n0, number, arrival, many, rfl, _⟩ := h
    rfl
  · obtain ⟨p, s0, dl, dk, ds, L, ks, S0, n0, number, arrival, many, rfl, D, hst, hm0, hm1, hm5, hn0, hids, hdd, q⟩ := h
    refine ⟨_, (pss_cons (ps_set (i := 7) sc_l_entries.nd rfl (Or.inl rfl) (pe_lst pa_nil))
    (pss_cons (ps_for PassesOwn.never rfl (pi_range1 (by rfl) B.range (pa_cons (pv 6) pa_nil)) (pg_name (i := 8) sc_l_entries.nd rfl (Or.inl rfl))
      (pss_cons (ps_set (i := 5) sc_l_entries.nd rfl (Or.inl rfl) (pe_op op_add (pv 5) (pe_ix ix_list (pe_lst (pa_cons pe_int (pa_cons pe_int (pa_cons pe_int (pa_cons pe_int (pa_cons pe_int (pa_cons pe_int (pa_cons pe_int (pa_cons (pe_cal G.law_draw (hr.mono (by decide)) pass0 (pa_cons (pv 0) (pa_cons (pe_op op_pow pe_int pe_int) pa_nil))) pa_nil))))))))) (pe_cal G.law_draw (hr.mono (by decide)) pass0 (pa_cons (pv 0) (pa_cons pe_int pa_nil))) (fun _ _ => rfl))))
      (pss_cons (ps_set (i := 9) sc_l_entries.nd rfl (Or.inl rfl) (pe_cal G.law_entry (hr.mono (by decide)) pass0 (pa_cons (pv 0) (pa_cons (pv 1) (pa_cons (pv 2) (pa_cons (pv 3) (pa_cons (pe_op op_add (pe_op op_add (pv 4) (pe_op op_mul pe_int (pv 8))) (pe_cal G.law_draw (hr.mono (by decide)) pass0 (pa_cons (pv 0) (pa_cons pe_int pa_nil)))) (pa_cons (pv 5) pa_nil))))))))
      (pss_cons (ps_expr (pe_cal G.law_put (hr.mono (by decide)) pass0 (pa_cons (pv 3) (pa_cons (pv 9) pa_nil))))
      (pss_one (ps_expr (pe_bm PySem.F.plainAttrs_list PySem.F.slot_list_append PySem.F.type_list_append mt_append (pv 7) (pa_cons (pv 9) pa_nil))))))))
    (pss_one (ps_ret (pv 7))))), ?_⟩
    refine ⟨(by show 0 ≤ sizeLine; decide), fun q0 hq0 => ?_⟩
    have PD0 : Pd H (upd H q0 (.lst [])) p s0 ds := (⟨D.pool, D.pool.ne.1, D.pool.ne.2, fun b o h _ _ => h⟩ : Pd H H p s0 ds).at hq0
    refine ⟨_, rfl, _, rfl, (by omega), (by omega), for_range (n := many.toNat) (fun k σ H1 => ∃ (us : List V) (xs : List Ent) (S : Kn) (ar : Int), (∃ a b, σ = [some (.ref p), some (.ref dl), some (.ref dk), some (.ref ds), some (.int number), some (.int ar), some (.int many), some (.ref q0), a, b]) ∧ H1 q0 = some (.lst us) ∧ Ents H1 us xs ∧ xs.length = k ∧
      (∀ l, (∀ t, l = some t → t ≤ arrival) → (∀ i, wk L (xs.map some) i S0 l = (none, S)) ∧ ∀ t, lastA xs l = some t → t ≤ ar) ∧ arrival ≤ ar ∧ (∀ x ∈ xs, arrival ≤ x.arr) ∧ StAt H1 ds S (n0 + k) ∧ KnOk L S ∧ (∀ id, S id ≠ none → 0 ≤ id ∧ id < number + 3 * (k : Int)) ∧ Pd H H1 p s0 ds) ?_ ?_ ?_⟩
    · refine ⟨[], [], S0, arrival, ⟨_, _, rfl⟩, upd_same, ⟨rfl, fun i v x a b => by simp at a⟩, rfl, fun l hl => ⟨fun i => rfl, hl⟩, Int.le_refl _, (fun x hx => nomatch hx), hst.same (sameAt (Same.refl H) hq0), D.ok, (fun id h => ⟨D.pos id h, by have := hids id h; omega⟩), PD0⟩
    · rintro k σ H1 hk ⟨us, xs, S, ar, ⟨a, b, rfl⟩, hq1, hE, hlen, hwk, har, harr, hst1, hok, hpos, PD⟩
      have hqp : q0 ≠ p := fun z => D.pool.ne.1 (z ▸ hq0)
      obtain ⟨kvs0, hst0, _⟩ := id hst
      have hqd : q0 ≠ ds := fun z => by rw [z, hst0] at hq0; cases hq0
      obtain ⟨ns, i1, c1, k1, m1, hp1, _⟩ := id D.pool
      have dlp : dl ≠ p := ne_of D.dl hp1 (by intro z; cases z)
      have dkp : dk ≠ p := ne_of D.dk hp1 (strs_ne (ns := ns))
      have dkd : dk ≠ ds := ne_of D.dk hst0 (by intro z; cases z)
      obtain ⟨kvs1, hst1', _⟩ := id hst1
      -- arrival
      refine ⟨_, rfl, _, rfl, _, _, rfl, rfl, ⟨by decide, by decide, by decide⟩, p, s0, _, rfl, PD.now, (by decide), (by decide), fun v H2 v0 v1 P2 => ⟨(by show 8 ≤ sizeLine; decide), fun u hu2 => ?_⟩⟩
      have v1 : v < 1000000 := v1
      have PD2 := PD.pl P2
      have hd2 := P2.dk PD.now hst1'
      have hu0 : H u = none := PD2.free (by rw [hd2]; exact fun z => nomatch z) hu2
      have PD3 : Pd H (upd H2 u (.lst [V.int 0, V.int 0, V.int 1, V.int 1, V.int 2, V.int 3, V.int 7, V.int v])) p s0 ds := PD2.at hu0
      have hup : u ≠ p := fun z => D.pool.ne.1 (z ▸ hu0)
      have hud : u ≠ ds := fun z => by rw [z, hst0] at hu0; cases hu0
      refine ⟨_, rfl, p, s0, 8, rfl, PD3.now, (by decide), (by decide), fun g H4 g0 g1 P4 => ?_⟩
      obtain ⟨inc, hinc, inc0⟩ : ∃ inc : Int, atI ([V.int 0, V.int 0, V.int 1, V.int 1, V.int 2, V.int 3, V.int 7, V.int v]) g = some (V.int inc) ∧ 0 ≤ inc := by
        have : g = 0 ∨ g = 1 ∨ g = 2 ∨ g = 3 ∨ g = 4 ∨ g = 5 ∨ g = 6 ∨ g = 7 := by omega
        rcases this with rfl | rfl | rfl | rfl | rfl | rfl | rfl | rfl
        · exact ⟨0, rfl, by omega⟩
        · exact ⟨0, rfl, by omega⟩
        · exact ⟨1, rfl, by omega⟩
        · exact ⟨1, rfl, by omega⟩
        · exact ⟨2, rfl, by omega⟩
        · exact ⟨3, rfl, by omega⟩
        · exact ⟨7, rfl, by omega⟩
        · exact ⟨v, rfl, v0⟩
      have PD4 := PD3.pl P4
      refine ⟨_, _, _, V.int inc, rfl, rfl, SqL.of (P4.keep upd_same hup), hinc, _, _, rfl, rfl, ?_⟩
      -- entry
      refine ⟨_, rfl, _, rfl, _, rfl, _, rfl, _, rfl, _, rfl, _, _, rfl, rfl, .inl ⟨by decide, by decide⟩, _, _, rfl, rfl, _, rfl, p, s0, 3, rfl, PD4.now, (by decide), (by decide), fun g3 H5 g30 g33 P5 => ⟨_, _, rfl, rfl, _, rfl, ?_⟩⟩
      have PD5 := PD4.pl P5
      have tk15 : TK H1 H5 := (((P2.tk PD.now).trans (tk_same (sameAt (Same.refl H2) hu2))).trans (P4.tk PD3.now)).trans (P5.tk PD4.now)
      have st5 : StAt H5 ds S (n0 + k) := ((((hst1.pl PD.now P2).same (sameAt (Same.refl H2) hu2)).pl PD3.now P4).pl PD4.now P5)
      have D5 : Draw H5 p s0 dl dk ds L ks S := ⟨PD5.now, PD5.but _ _ D.dl dlp (Ne.symm hdd), D.LL, PD5.but _ _ D.dk dkp dkd, D.k1, D.k2, D.kn, by
        obtain ⟨kk, a1, a2, a3, a4⟩ := st5
        exact ⟨kk, a1, by omega, a3, a4⟩, hok, fun id h => (hpos id h).1⟩
      refine ⟨p, s0, dl, dk, ds, L, ks, S, _, _, rfl, D5, (by omega), ?_, fun e x y H6 he hxok _ hxarr hbh hid P6 => ?_⟩
      · cases eS : S (number + 3 * (0 + (k : Int)) + g3) with
        | none => rfl
        | some r =>
          have := (hpos _ (by rw [eS]; exact fun z => nomatch z)).2
          omega
      have PD6 := PD5.pl P6
      have st6 := st5.pl PD5.now P6
      obtain ⟨kvs6, hd6, _⟩ := id st6
      refine ⟨_, rfl, _, rfl, ds, e, L, S, n0 + k, x, y, rfl, st6, (by omega), he, hbh, fun H7 st7 k7 => ?_⟩
      have PD7 := PD6.chg hd6 k7
      have tk67 : TK H6 H7 := fun t zs h => k7 _ _ h (ne_of h hd6 (by intro z; cases z))
      have keepq : H7 q0 = some (.lst us) := by
        have a2 := P2.keep hq1 hqp
        have a3 : (upd H2 u (.lst [V.int 0, V.int 0, V.int 1, V.int 1, V.int 2, V.int 3, V.int 7, V.int v])) q0 = some (.lst us) := by rw [upd_ne (ne_of_none a2 hu2)]; exact a2
        exact k7 _ _ (P6.keep (P5.keep (P4.keep a3 hqp) hqp) hqp) hqd
      refine ⟨_, rfl, .inl ⟨rfl, _, SqL.of keepq⟩, _, rfl, q0, us, _, rfl, rfl, keepq, (by rw [hE.1]; exact small1000 (by omega)), ?_⟩
      have tk78 : TK H7 (upd H7 q0 (.lst (us ++ [.ref e]))) := tk_off keepq (fun xs z => by cases z)
      have tkAll := ((tk15.trans (P6.tk PD5.now)).trans tk67).trans tk78
      refine ⟨us ++ [.ref e], xs ++ [x], setK S x.id y, ar + inc, ⟨_, _, rfl⟩, upd_same, (hE.tk tkAll).snoc ((tk67.trans tk78) _ _ he) hxok, by rw [List.length_append, hlen]; rfl, fun l hl => ⟨fun i => ?_, fun t ht => ?_⟩, by omega, fun z hz => ?_, ?_, ?_, fun id hid' => ?_, PD7.at hq0⟩
      · rw [List.map_append]
        show wk L (xs.map some ++ [some x]) i S0 l = _
        rw [wk_app [some x] ((hwk l hl).1 i)]
        have hlt : late? (lastA xs l) x.arr = false := by
          cases e : lastA xs l with
          | none => rfl
          | some t =>
            have := (hwk l hl).2 t e
            exact decide_eq_false (by omega)
        rw [wk_go hlt hbh]
        rfl
      · rw [lastA_snoc] at ht
        cases ht
        omega
      · rcases List.mem_append.mp hz with hz | hz
        · exact harr z hz
        · rw [List.mem_singleton.mp hz]
          omega
      · obtain ⟨kk, a1, a2, a3, a4⟩ := st7
        exact ⟨kk, by rw [upd_ne (Ne.symm hqd)]; exact a1, by omega, a3, fun id => (a4 id).but tk78⟩
      · intro id z1 kk m a' he'
        have he' : (if id = x.id then some y else S id) = some (.at_ z1 kk m a') := he'
        by_cases ej : id = x.id
        · rw [if_pos ej] at he'
          exact behind_ok hxok (hok x.id) hbh _ _ _ _ (Option.some.inj he')
        · rw [if_neg ej] at he'
          exact hok id _ _ _ _ he'
      · have hid' : (if id = x.id then some y else S id) ≠ none := hid'
        by_cases ej : id = x.id
        · have hx0 : 0 ≤ x.id := hxok.1
          rw [ej]
          refine ⟨hx0, ?_⟩
          rcases hid with h | h
          · omega
          · have := (hpos _ h).2
            omega
        · rw [if_neg ej] at hid'
          have := hpos _ hid'
          omega
    · rintro σ H1 ⟨us, xs, S, ar, ⟨a, b, rfl⟩, hq1, hE, hlen, hwk, har, harr, hst1, hok, hpos, PD⟩
      refine ⟨_, rfl, q q0 us xs S H1 hq0 hq1 hE (by omega) (fun l hl => (hwk l hl).1) harr (by rw [hlen]; exact hst1) hok (fun id h => ⟨(hpos id h).1, by have := (hpos id h).2; omega⟩) PD⟩
end
end Ash

set_option Elab.async false
set_option linter.all false
set_option maxRecDepth 100000
set_option maxHeartbeats 4000000
/-! sorted of triples of ints -/
namespace SrtT
open PySem PyProof.Rows Srt SrtO
abbrev T3 := Int × Int × Int
def lex3 (p q : T3) : Bool := if p.1 = q.1 then (if p.2.1 = q.2.1 then decide (p.2.2 < q.2.2) else decide (p.2.1 < q.2.1)) else decide (p.1 < q.1)
theorem lex3_iff {p q : T3} : lex3 p q = true ↔ p.1 < q.1 ∨ (p.1 = q.1 ∧ (p.2.1 < q.2.1 ∨ (p.2.1 = q.2.1 ∧ p.2.2 < q.2.2))) := by
  unfold lex3
  split
  · split <;> (rw [decide_eq_true_eq]; omega)
  · rw [decide_eq_true_eq]; omega
theorem lex3_no {p q : T3} : lex3 p q = false ↔ ¬ (p.1 < q.1 ∨ (p.1 = q.1 ∧ (p.2.1 < q.2.1 ∨ (p.2.1 = q.2.1 ∧ p.2.2 < q.2.2)))) := by
  rw [← lex3_iff]
  cases lex3 p q <;> simp
theorem swo3 {α : Type} (k : α → T3) : Swo fun v u => lex3 (k v) (k u) := by
  constructor
  · intro x y h
    rw [lex3_no]
    rw [lex3_iff] at h
    omega
  · intro x y z h1 h2
    rw [lex3_no] at h1 h2 ⊢
    omega
/-- v is a tuple of three ints in the heap -/
def Is3 (h : Heap) (v : Value) (p : T3) : Prop := ∃ a o t1 t2 t3 n, v = .ref a ∧ h.get? a = some o ∧ o.cls = .type "tuple" ∧ o.data = .seq #[.int p.1 t1, .int p.2.1 t2, .int p.2.2 t3] n
theorem Is3.stay {h h' : Heap} {v : Value} {p : T3} (i : Is3 h v p) (k : ∀ b o, h.get? b = some o → o.cls = .type "tuple" → h'.get? b = some o) : Is3 h' v p := by
  obtain ⟨a, o, t1, t2, t3, n, e1, e2, e3, e4⟩ := i
  exact ⟨a, o, t1, t2, t3, n, e1, k a o e2 e3, e3, e4⟩
section
variable {prog : Program} {w : World} {A : Around} {E : Value → Shared → Prop} {s : Shared}
theorem cmp3 {vs : List Value} {k : Value → T3} (hp : ∀ v ∈ vs, Is3 s.heap v (k v)) : SrtO.Cmp prog w A s (tuples' true) (fun p => p.1 ∈ vs) (lt2 fun v u => lex3 (k v) (k u)) := by
  intro p q mp mq
  have i1 := hp _ mp
  have i2 := hp _ mq
  show wpAny (model prog w) A (keyLt' (tuples' true) p.1 q.1) (fun r s' => s' = s ∧ r = lex3 (k p.1) (k q.1)) (fun _ _ => False) s
  generalize k p.1 = P at i1 ⊢
  generalize k q.1 = R at i2 ⊢
  obtain ⟨x, y, z⟩ := P
  obtain ⟨x', y', z'⟩ := R
  obtain ⟨a, o, t, u, v, n, e, ho, hc, hd⟩ := i1
  obtain ⟨a', o', t', u', v', n', e', ho', hc', hd'⟩ := i2
  rw [e, e']
  show wpAny _ _ _ (fun r s' => s' = s ∧ r = (if x = x' then (if y = y' then decide (z < z') else decide (y < y')) else decide (x < x'))) _ _
  refine PySem.W.kat_lt ho hd ho' hd' ?_
  show PySem.W.KatLex prog w A true (decide (3 < 3)) _ [(.int x t, .int x' t'), (.int y u, .int y' u'), (.int z v, .int z' v')] 0 s
  refine PySem.W.kat_cons (SeqAt.EqAt.int_int x t x' t' prog w _ _ (PySem.W.kat_go (fun c1 => ?_) fun c1 => ?_))
  · have ex : x = x' := by simpa using c1
    rw [if_pos ex]
    refine PySem.W.kat_yes (PySem.W.kat_cons (SeqAt.EqAt.int_int y u y' u' prog w _ _ (PySem.W.kat_go (fun c2 => ?_) fun c2 => ?_)))
    · have ey : y = y' := by simpa using c2
      rw [if_pos ey]
      refine PySem.W.kat_yes (PySem.W.kat_cons (SeqAt.EqAt.int_int z v z' v' prog w _ _ (PySem.W.kat_go (fun c3 => ?_) fun c3 => ?_)))
      · have ez : z = z' := by simpa using c3
        exact PySem.W.kat_yes (PySem.W.kat_nil ⟨rfl, by rw [ez]; exact (decide_eq_false (Int.lt_irrefl z')).symm⟩)
      · refine PySem.W.kat_no (PySem.W.kat_one _ _ (PyProof.Rows.lt_int ?_))
        exact (⟨rfl, rfl⟩ : s = s ∧ decide (z < z') = decide (z < z'))
    · have ey : ¬ y = y' := by simpa using c2
      rw [if_neg ey]
      refine PySem.W.kat_no (PySem.W.kat_one _ _ (PyProof.Rows.lt_int ?_))
      exact (⟨rfl, rfl⟩ : s = s ∧ decide (y < y') = decide (y < y'))
  · have ex : ¬ x = x' := by simpa using c1
    rw [if_neg ex]
    exact PySem.W.kat_no (oneLt_int ⟨rfl, rfl⟩)
theorem firsts3 {h : Heap} {k : Value → T3} : ∀ {vs : List Value}, (∀ v ∈ vs, Is3 h v (k v)) → ∃ fs : List Value, PySem.W.KatTups h vs fs ∧ fs.length = vs.length ∧ ∀ f ∈ fs, ∃ x t, f = Value.int x t
  | [], _ => ⟨[], PySem.W.KatTups.nil, rfl, fun f hf => nomatch hf⟩
  | v :: vs, hp => by
    obtain ⟨fs, g1, g2, g3⟩ := firsts3 (vs := vs) fun z hz => hp z (List.mem_cons_of_mem v hz)
    obtain ⟨a, o, t1, t2, t3, n, rfl, e2, e3, e4⟩ := hp v List.mem_cons_self
    refine ⟨.int (k (.ref a)).1 t1 :: fs, PySem.W.KatTups.cons e2 e3 e4 rfl g1, congrArg Nat.succ g2, fun f hf => ?_⟩
    rcases List.mem_cons.mp hf with rfl | hf
    · exact ⟨_, _, rfl⟩
    · exact g3 f hf
theorem sortable3 {a : Addr} {vs : List Value} {k : Value → T3} (h0 : 0 < vs.length) (hp : ∀ v ∈ vs, Is3 s.heap v (k v)) (ha : ∀ o, s.heap.get? a = some o → o.cls ≠ .type "tuple") : SortableO prog w A s a vs fun v u => lex3 (k v) (k u) := fun h' keep => by
  have st : ∀ v ∈ vs, Is3 h' v (k v) := fun v hv => (hp v hv).stay fun b o g c => keep b o (fun z => ha o (z ▸ g) c) g
  obtain ⟨fs, g1, g2, g3⟩ := firsts3 st
  refine ⟨tuples' true, fun Q E hq => PySem.W.kat_kind (T := .type "int") g1 (by omega) (fun f hf => ?_) (by rfl) ?_, cmp3 st⟩
  · obtain ⟨x, t, rfl⟩ := g3 f hf
    exact PySem.W.Looks.now
  · rw [show (Value.type "int" != Value.type "tuple") = true from by first | decide +kernel | rfl]
    exact hq
/-- sorted(l) of triples of ints -/
theorem sorted3 {l : Addr} {vs : List Value} {k : Value → T3} {Q : Value → Shared → Prop} (hl : s.heap.IsList l vs.toArray) (hz : vs.length ≤ sizeLine) (hp : ∀ v ∈ vs, Is3 s.heap v (k v))
    (h : ∀ (h' : Heap) (d : Addr) (out : List Value), Srtd (fun v u => lex3 (k v) (k u)) out → Stb (fun v u => lex3 (k v) (k u)) out vs → (∀ b o, s.heap.get? b = some o → h'.get? b = some o) → s.heap.objs.size ≤ d → (∃ n, h'.get? d = some (seqObj "list" out.toArray n)) → Q (.ref d) { s with heap := h' }) :
    wpAny (model prog w) A (call (.builtin "sorted") [.ref l]) Q E s := by
  refine sorted_ord (swo3 k) hl hz (fun h2 h₁ a ha kk => sortable3 (s := { s with heap := h₁ }) (by omega) (fun v hv => (hp v hv).stay fun b o g _ => (kk b o g).2) fun o g c => ?_) fun out hs hb => h _ _ out hs hb (fun b o g => sortedAll_old g) (Nat.le_succ _) (sortedAll_at s.heap vs out.toArray)
  have g' : some o = some (seqObj "list" vs.toArray 0) := g.symm.trans ha
  cases g'
  exact absurd (Value.type.inj c) (by decide)
end
end SrtT
namespace L2
open PySem PySem.Spec PyProof.Rows SrtT
/-- sorted(xs), xs a list of triples of ints (k says which): a new list, sorted -/
def rSorted3 (K : PySem.W.Frag) : List V → Hp → VK → Prop := fun vs H Q => ∃ (a : Addr) (xs : List V) (k : V → T3), vs = [V.ref a] ∧ SqL K H a xs ∧ (∀ x ∈ xs, ∃ t, x = V.ref t ∧ H t = some (.tup [.int (k x).1, .int (k x).2.1, .int (k x).2.2])) ∧
  ∀ ys p, SrtO.Srtd (fun x y => lex3 (k x) (k y)) ys → ys.Perm xs → H p = none → Q (.ref p) (upd H p (.lst ys))
theorem cr_sorted3 {X : Cx} : CallR X (.builtin "sorted") (rSorted3 X.K) := by
  intro pins s σ H vs us Q I r h
  obtain ⟨a, xs, k, rfl, hs, hx, q⟩ := h
  obtain ⟨its, rv, hl, hz⟩ := I.list hs
  rw [Vals.ref1 r]
  obtain ⟨e1, e2⟩ := refs_back rv fun x m => (hx x m).imp fun t ht => ht.1
  refine sorted3 (k := fun u => k (backV u)) hl.isList (by rw [← rv.length]; exact hz) (fun v hv => ?_) fun h' d out g1 g2 kp hd hn => ?_
  · obtain ⟨t, rfl⟩ := e2 v hv
    obtain ⟨t', e, ht⟩ := hx (.ref t) (by rw [e1]; exact List.mem_map.mpr ⟨_, hv, rfl⟩)
    cases e
    obtain ⟨_, its2, r2, o, ho, hc, n, hdt⟩ := I.hok _ _ ht
    cases r2 with
    | cons r2a r2 => cases r2 with
      | cons r2b r2 => cases r2 with
        | cons r2c r2 =>
          cases r2
          obtain ⟨ta, rfl⟩ := r2a
          obtain ⟨tb, rfl⟩ := r2b
          obtain ⟨tc, rfl⟩ := r2c
          exact ⟨t, o, ta, tb, tc, n, rfl, ho, hc, hdt⟩
  · obtain ⟨n, hn⟩ := hn
    have back : ∀ u ∈ out, ∃ a, u = Value.ref a := fun u hu => e2 u (g2.perm.mem_iff.mp hu)
    have pm : (out.map backV).Perm xs := by rw [e1]; exact g2.perm.map backV
    refine ⟨.ref d, upd H d (.lst (out.map backV)), I.laid (t' := s.toks) kp hd ⟨?_, out, n, vals_back back, hn⟩, rfl, q _ d (SrtO.srtd_map g1) pm (I.hok.fresh hd)⟩
    rw [pm.length_eq]
    exact hz
end L2

set_option Elab.async false
set_option linter.all false
set_option maxRecDepth 100000
set_option maxHeartbeats 4000000
namespace Ash
open PySem PySem.Spec PyProof.Rows L2 SrtT
open C8 (pss_cut)
/-! ### the rows that stand -/
/-- a row of this stream and key: its moment, id, amount -/
def pick (S : Kn) (z k : Str) (id : Int) : Option T3 := match S id with
  | some (.at_ z' k' m a) => if z' = z ∧ k' = k then some (m, id, a) else none
  | _ => none
theorem pick_id {S : Kn} {z k : Str} {id : Int} {t : T3} (h : pick S z k id = some t) : t.2.1 = id := by
  unfold pick at h
  split at h
  · split at h
    · cases h
      rfl
    · cases h
  · cases h
def tv (t : T3) : List V := [.int t.1, .int t.2.1, .int t.2.2]
/-- ys are tuples of the triples ts -/
def TrAt (H : Hp) (ys : List V) (ts : List T3) : Prop := ys.length = ts.length ∧ ∀ (i : Nat) v t, ys[i]? = some v → ts[i]? = some t → ∃ e, v = .ref e ∧ H e = some (.tup (tv t))
/-- the triples are those of the rows that stand, ascending -/
structure RowsOf (S : Kn) (z k : Str) (ts : List T3) : Prop where
  all : ∀ t, t ∈ ts ↔ pick S z k t.2.1 = some t
  asc : ts.Pairwise fun a b => lex3 a b = true
theorem TrAt.tk {H H' : Hp} {ys : List V} {ts : List T3} (h : TrAt H ys ts) (s : ∀ t xs, H t = some (.tup xs) → H' t = some (.tup xs)) : TrAt H' ys ts := ⟨h.1, fun i v t a b => by
  obtain ⟨e, h1, h2⟩ := h.2 i v t a b
  exact ⟨e, h1, s _ _ h2⟩⟩
theorem TrAt.snoc {H : Hp} {ys : List V} {ts : List T3} {e : Addr} {t : T3} (h : TrAt H ys ts) (he : H e = some (.tup (tv t))) : TrAt H (ys ++ [.ref e]) (ts ++ [t]) := by
  refine ⟨by rw [List.length_append, List.length_append, h.1]; rfl, fun i v u a b => ?_⟩
  by_cases hi : i < ys.length
  · rw [List.getElem?_append_left hi] at a
    rw [List.getElem?_append_left (by rw [← h.1]; exact hi)] at b
    exact h.2 i v u a b
  · have hi' : i = ys.length := by
      have := (List.getElem?_eq_some_iff.mp a).1
      rw [List.length_append] at this
      have : i < ys.length + 1 := this
      omega
    subst hi'
    rw [List.getElem?_append_right (Nat.le_refl _), Nat.sub_self] at a
    rw [h.1, List.getElem?_append_right (Nat.le_refl _), Nat.sub_self] at b
    cases a
    cases b
    exact ⟨e, rfl, he⟩
/-- the triple of a tuple -/
def triOf (H : Hp) : V → T3
  | .ref e => match H e with
    | some (.tup [.int a, .int b, .int c]) => (a, b, c)
    | _ => (0, 0, 0)
  | _ => (0, 0, 0)
theorem triOf_at {H : Hp} {e : Addr} {t : T3} (h : H e = some (.tup (tv t))) : triOf H (.ref e) = t := by
  show (match H e with
    | some (.tup [.int a, .int b, .int c]) => (a, b, c)
    | _ => (0, 0, 0)) = t
  rw [h]
  rfl
theorem TrAt.map {H : Hp} {ys : List V} {ts : List T3} (h : TrAt H ys ts) : ys.map (triOf H) = ts := by
  apply List.ext_getElem?
  intro i
  rw [List.getElem?_map]
  by_cases hi : i < ys.length
  · have hj : i < ts.length := by rw [← h.1]; exact hi
    obtain ⟨e, h1, h2⟩ := h.2 i _ _ (List.getElem?_eq_getElem hi) (List.getElem?_eq_getElem hj)
    rw [List.getElem?_eq_getElem hi, List.getElem?_eq_getElem hj, h1, Option.map_some, triOf_at h2]
  · rw [List.getElem?_eq_none (by omega), List.getElem?_eq_none (by rw [← h.1]; omega)]
    rfl
def selK (S : Kn) (z k : Str) (kv : Key × V) : Option T3 := match kv.1 with
  | .inl id => pick S z k id
  | .inr _ => none
theorem mem_of_valV {kvs : List (Key × V)} {key : Key} {v : V} (h : valV kvs key = some v) : ∃ kv ∈ kvs, kv.1 = key := by
  have q := valV_any key kvs
  rw [h] at q
  obtain ⟨kv, h1, h2⟩ := List.any_eq_true.mp q
  exact ⟨kv, h1, of_decide_eq_true h2⟩
theorem none_of {H H' : Hp} {q : Addr} (s : Same H H') (h : H' q = none) : H q = none := by
  cases e : H q with
  | none => rfl
  | some o => rw [s _ _ e] at h; cases h
/-- what is found, in the order of the ids that came -/
theorem sel_all {aT : Addr} {H : Hp} {kvs : List (Key × V)} {S : Kn} {z k : Str} {n : Nat} (hk : KLen kvs n) (hr : ∀ id, RowV aT H (valV kvs (Sum.inl id)) (S id)) : ∀ t, t ∈ kvs.filterMap (selK S z k) ↔ pick S z k t.2.1 = some t := by
  intro t
  rw [List.mem_filterMap]
  constructor
  · rintro ⟨kv, h1, h2⟩
    obtain ⟨id, e⟩ := hk.ik kv h1
    unfold selK at h2
    rw [e] at h2
    have := pick_id h2
    rw [this]
    exact h2
  · intro h
    have hS : S t.2.1 ≠ none := fun e => by
      unfold pick at h
      rw [e] at h
      cases h
    have q := hr t.2.1
    cases e : valV kvs (Sum.inl t.2.1 : Key) with
    | none =>
      rw [e] at q
      cases eS : S t.2.1 with
      | none => exact absurd eS hS
      | some r => rw [eS] at q; exact absurd q (fun z => z)
    | some v =>
      obtain ⟨kv, h1, h2⟩ := mem_of_valV e
      refine ⟨kv, h1, ?_⟩
      unfold selK
      rw [h2]
      exact h
theorem sel_nd {kvs : List (Key × V)} {S : Kn} {z k : Str} {n : Nat} (hk : KLen kvs n) : (kvs.filterMap (selK S z k)).Pairwise fun a b => a.2.1 ≠ b.2.1 := by
  rw [List.pairwise_filterMap]
  have nd := hk.nd
  rw [List.nodup_iff_pairwise_ne, List.pairwise_map] at nd
  refine nd.imp_of_mem fun {x y} hx hy hne a ha b hb e => ?_
  obtain ⟨i, ei⟩ := hk.ik x hx
  obtain ⟨j, ej⟩ := hk.ik y hy
  unfold selK at ha hb
  rw [ei] at ha
  rw [ej] at hb
  have h1 := pick_id (Option.mem_def.mp ha)
  have h2 := pick_id (Option.mem_def.mp hb)
  exact hne (by rw [ei, ej, ← h1, ← h2, e])
/-- sorted, they are the rows -/
theorem rows_of {S : Kn} {z k : Str} {ts us : List T3} (ha : ∀ t, t ∈ us ↔ pick S z k t.2.1 = some t) (hn : us.Pairwise fun a b => a.2.1 ≠ b.2.1) (hp : ts.Perm us) (hs : ts.Pairwise fun a b => lex3 b a = false) : RowsOf S z k ts := by
  refine ⟨fun t => (hp.mem_iff).trans (ha t), ?_⟩
  have hn' : ts.Pairwise fun a b => a.2.1 ≠ b.2.1 := (hp.pairwise_iff (fun {a b} h e => h e.symm)).mpr hn
  refine (hs.and hn').imp fun {a b} ⟨h1, h2⟩ => ?_
  rw [lex3_no] at h1
  rw [lex3_iff]
  omega
theorem valV_of : ∀ {kvs : List (Key × V)}, (kvs.map (·.1)).Nodup → ∀ kv ∈ kvs, valV kvs kv.1 = some kv.2
  | [], _, kv, h => nomatch h
  | p :: r, nd, kv, h => by
    rw [List.map_cons, List.nodup_cons] at nd
    rcases List.mem_cons.mp h with rfl | h
    · exact valV_pos rfl
    · rw [valV_neg (fun e => nd.1 (List.mem_map.mpr ⟨kv, h, e.symm⟩))]
      exact valV_of nd.2 kv h
theorem wk_knok {L : List (Str × Int)} : ∀ {xs : List Ent} {i : Nat} {S S1 : Kn} {l : Option Int}, wk L (xs.map some) i S l = (none, S1) → KnOk L S → (∀ x ∈ xs, x.ok) → KnOk L S1
  | [], i, S, S1, l, h, hk, _ => by
    have h : ((none : Option Nat), S) = (none, S1) := h
    cases h
    exact hk
  | x :: r, i, S, S1, l, h, hk, hx => by
    have h : wk L (some x :: r.map some) i S l = (none, S1) := h
    by_cases c : late? l x.arr = true
    · rw [wk_late c] at h
      cases h
    · have c0 : late? l x.arr = false := Bool.eq_false_iff.mpr c
      cases hb : behind L x (S x.id) with
      | none =>
        rw [wk_bad c0 hb] at h
        cases h
      | some y =>
        rw [wk_go c0 hb] at h
        refine wk_knok h (fun id s k m a e => ?_) fun z hz => hx z (List.mem_cons_of_mem _ hz)
        have e : (if id = x.id then some y else S id) = some (.at_ s k m a) := e
        by_cases ej : id = x.id
        · rw [if_pos ej] at e
          exact behind_ok (hx x List.mem_cons_self) (hk x.id) hb _ _ _ _ (Option.some.inj e)
        · rw [if_neg ej] at e
          exact hk id _ _ _ _ e
theorem th_ok {K : PySem.W.Frag} {H : Hp} {us : List V} {xs : List Ent} (l : us.length = xs.length) (h : ∀ (i : Nat) v x, us[i]? = some v → xs[i]? = some x → ThAt K H v (some x)) : ∀ x ∈ xs, x.ok := fun x hx => by
  obtain ⟨i, hi, e⟩ := List.getElem_of_mem hx
  obtain ⟨_, _, _, h3⟩ := h i us[i] x (List.getElem?_eq_getElem (by omega)) (by rw [List.getElem?_eq_getElem hi, e])
  exact h3
def spRows (K : PySem.W.Frag) (aT CJ CB : Addr) : Sp := fun vs H Q _ => ∃ (j b : Addr) (L : List (Str × Int)) (us : List V) (xs : List Ent) (z k : Str), vs = [.ref j, .str z, .str k] ∧ JAt K aT CJ CB H j b L us xs ∧ us.length ≤ 400 ∧ IsNm z ∧ (L.lookup z).isSome ∧ IsNm k ∧
  ∀ p ys ts H', Same H H' → H p = none → H' p = some (.lst ys) → TrAt H' ys ts → ys.length ≤ us.length → RowsOf (wk L (xs.map some) 0 (fun _ => none) none).2 z k ts → Q (.ref p) H'
section
variable {P : Program} {w : World} {K : PySem.W.Frag} {mg : Str → Option Value} {base : Heap}
abbrev s_Journal_rows : Stmt := inClass (topS 30) 9
theorem sc_Journal_rows : FnScope ["self", "stream", "key", "found", "number", "row"] ["self", "stream", "key"] (defScope s_Journal_rows) := ⟨rfl, rfl, rfl, by decide +kernel, rfl, by decide +kernel, by decide +kernel⟩
theorem ok_rows {f fh CJ CB a_TAKEN_BACK : Addr} {fd fdh : FuncData} (F : Fun K "rows" "Journal.rows" s_Journal_rows f fd) (B : Blt mg) (T : Cj P K mg CJ CB) (TB : Cb K mg CB) (Tt : Tb K mg a_TAKEN_BACK) (G : K2 P w K mg base) (M_has : Meth K CB "has" fh) (b_has : Binds K fdh ["self", "stream"] []) (F_has : FnOk P w K mg base CX0 2 fh fdh ["self", "stream"] (spHas CB)) : FnOk P w K mg base CX0 3 f fd ["self", "stream", "key"] (spRows K a_TAKEN_BACK CJ CB) := by
  have g_TAKEN_BACK := Tt.g
  refine F.ok sc_Journal_rows (fun vs H Q E h => ?_) (fun cdv A outer s H vs Q E hr h => ?_)
  · obtain ⟨j, b, L, us, xs, z, k, rfl, _⟩ := h
    rfl
  · obtain ⟨j, b, L, us, xs, z, k, rfl, hJ, h4, hz, hzL, hk, q⟩ := h
    refine ⟨_, (pss_cons (ps_if (pt_not (pt_val (pe_meth (pe_fld (pv 0) rfl) TB.cl M_has F_has (hr.mono (by decide)) b_has .nil pass0 (pa_cons (pv 1) pa_nil))))
      (pss_one ps_never)
      pss_nil)
    (pss_cons (ps_if (pt_not (pt_val (pe_cal G.is_name (hr.mono (by decide)) pass0 (pa_cons (pv 2) pa_nil))))
      (pss_one ps_never)
      pss_nil)
    (pss_cons (ps_set (i := 3) sc_Journal_rows.nd rfl (Or.inl rfl) (pe_lst pa_nil))
    (pss_cons (ps_lock (ps_for PassesOwn.never rfl (pi_items (pe_fld (pv 0) rfl)) (pg_tup (by rfl) (pgs_cons (pg_name (i := 4) sc_Journal_rows.nd rfl (Or.inl rfl)) (pgs_cons (pg_name (i := 5) sc_Journal_rows.nd rfl (Or.inl rfl)) pgs_nil)))
      (pss_one (ps_if (PW.pt (pw_and (pt_cmpR (op_neD hr.units) (pv 5) (pe_glob (v := .ref a_TAKEN_BACK) (by rfl) g_TAKEN_BACK rfl) (nomark _)) (pw_and (pt_cmpR op_eq (pe_ix ix_tup (pv 5) pe_int (fun _ _ => rfl)) (pv 1) (nomark _)) (pw_and1 (pt_cmpR op_eq (pe_ix ix_tup (pv 5) pe_int (fun _ _ => rfl)) (pv 2) (nomark _))))))
        (pss_one (ps_expr (pe_bm PySem.F.plainAttrs_list PySem.F.slot_list_append PySem.F.type_list_append mt_append (pv 3) (pa_cons (pe_tup (pa_cons (pe_ix ix_tup (pv 5) pe_int (fun _ _ => rfl)) (pa_cons (pv 4) (pa_cons (pe_ix ix_tup (pv 5) pe_int (fun _ _ => rfl)) pa_nil)))) pa_nil))))
        pss_nil))))
    (pss_one (ps_ret (pe_callB cr_sorted3 (by rfl) B.sorted (by decide +kernel) (pa_cons (pv 3) pa_nil)))))))), ?_⟩
    obtain ⟨dx, t, kd, h1, h2, h3, hl, h5, h6, kvs, n1, n2, n3⟩ := id hJ
    obtain ⟨bx, bd, L', b1, b2, b3⟩ := id h2
    have hxok := th_ok hl h5
    have hkn : KnOk L (wk L (xs.map some) 0 (fun _ => none) none).2 := wk_knok (S1 := (wk L (xs.map some) 0 (fun _ => none) none).2) (by rw [← h6]) (fun _ _ _ _ _ e => by cases e) hxok
    generalize (wk L (xs.map some) 0 (fun _ => none) none).2 = S at q n3 hkn
    refine ⟨_, rfl, j, CJ, dx, _, _, rfl, h1, T.cl, T.nB, jf_b _ _ _, b, bx, _, rfl, b1, rfl, _, rfl, b, L, z, rfl, h2, hz, fun H1 s1 => ⟨_, rfl, ?_⟩⟩
    rw [hzL]
    refine iteF ⟨_, rfl, _, rfl, .inl ⟨k, rfl, (by have := hk.2.1; rw [sizeLine_eq]; omega), fun H2 s2 => ⟨_, rfl, ?_⟩⟩⟩
    rw [(nmB_iff k).mpr hk]
    refine iteF ⟨(by show 0 ≤ sizeLine; decide), fun q0 hq0 => ?_⟩
    have s12 := s1.trans s2
    have hq0H : H q0 = none := by
      cases e : H q0 with
      | none => rfl
      | some o => rw [s12 _ _ e] at hq0; cases hq0
    have hkd2 : H2 kd = some (.dK kvs) := s12 _ _ n1
    have kq : kd ≠ q0 := ne_of_none hkd2 hq0
    have jk : j ≠ kd := ne_of h1 n1 (by intro z; cases z)
    have jq : j ≠ q0 := ne_of_none (s12 _ _ h1) hq0
    refine ⟨kd, .dK kvs, by rw [upd_ne kq]; exact hkd2, trivial, fun od => ?_⟩
    have sB : Same (upd H2 kd (.frz od (.dK kvs))) (upd (upd H2 q0 (.lst [])) kd (.frz od (.dK kvs))) := fun c o hc => by
      by_cases e : c = kd
      · subst e
        rw [upd_same] at hc ⊢
        exact hc
      · rw [upd_ne e] at hc ⊢
        rw [upd_ne (ne_of_none hc hq0)]
        exact hc
    have hB0 : (upd H2 kd (.frz od (.dK kvs))) q0 = none := by rw [upd_ne (Ne.symm kq)]; exact hq0
    have jB : (upd H2 kd (.frz od (.dK kvs))) j = some (.ins CJ dx (jf b t kd)) := by rw [upd_ne jk]; exact s12 _ _ h1
    have tB : ∀ t xs, H t = some (.tup xs) → (upd H2 kd (.frz od (.dK kvs))) t = some (.tup xs) := fun t xs e => by rw [upd_ne (ne_of e n1 (by intro z; cases z))]; exact s12 _ _ e
    refine ⟨_, rfl, j, CJ, dx, _, _, rfl, sB _ _ jB, T.cl, T.nK, jf_k _ _ _, kd, od, kvs, rfl, upd_same, for_it (walk_items (kvs := kvs)) (fun i σ H1 => ∃ (ys : List V), (∃ a b, σ = [some (.ref j), some (.str z), some (.str k), some (.ref q0), a, b]) ∧ H1 q0 = some (.lst ys) ∧ TrAt H1 ys ((kvs.take i).filterMap (selK S z k)) ∧ ys.length ≤ i ∧ Same (upd H2 kd (.frz od (.dK kvs))) H1) ?_ (fun i σ H1 _ ⟨_, hv⟩ => hv.2.2.2.2 _ _ upd_same) ?_ ?_⟩
    · exact ⟨[], ⟨_, _, rfl⟩, by rw [upd_ne (Ne.symm kq)]; exact upd_same, ⟨rfl, fun i v t a b => by simp at a⟩, Nat.le_refl _, sB⟩
    · rintro i v σ H3 H4 hi ⟨ys, ⟨a, b', rfl⟩, g1, g2, g3, s3⟩ ⟨Tt', x1, x2, rfl, hT, rfl, e1, e2⟩
      obtain ⟨kv, hkv⟩ : ∃ kv, kvs[i]? = some kv := ⟨_, List.getElem?_eq_getElem hi⟩
      have e1 : kvs[i]?.map (fun kv => kV kv.1) = some x1 := e1
      have e2 : kvs[i]?.map Prod.snd = some x2 := e2
      rw [hkv] at e1 e2
      cases e1
      cases e2
      have hm := List.mem_of_getElem? hkv
      obtain ⟨id, hid⟩ := n2.ik kv hm
      have hv := valV_of n2.nd kv hm
      rw [hid] at hv
      have rv := n3 id
      rw [hv] at rv
      have s4 : Same (upd H2 kd (.frz od (.dK kvs))) (upd H3 Tt' (.tup [kV kv.1, kv.2])) := s3.trans (sameAt (Same.refl _) hT)
      have g1' : (upd H3 Tt' (.tup [kV kv.1, kv.2])) q0 = some (.lst ys) := sameAt (Same.refl _) hT _ _ g1
      have g2' : TrAt (upd H3 Tt' (.tup [kV kv.1, kv.2])) ys ((kvs.take i).filterMap (selK S z k)) := g2.tk fun t xs e => sameAt (Same.refl _) hT _ _ e
      have hne : ∀ (o : Option T3), selK S z k kv = o → (kvs.take (i + 1)).filterMap (selK S z k) = (kvs.take i).filterMap (selK S z k) ++ o.toList := fun o ho => by
        rw [list_take hkv, List.filterMap_append]
        congr 1
        rw [List.filterMap_cons, ho]
        cases o <;> rfl
      have hsel : selK S z k kv = pick S z k id := by
        unfold selK
        rw [hid]
      have stay : selK S z k kv = none → TrAt (upd H3 Tt' (.tup [kV kv.1, kv.2])) ys ((kvs.take (i + 1)).filterMap (selK S z k)) := fun e => by
        rw [hne none e, Option.toList_none, List.append_nil]
        exact g2'
      refine ⟨Tt', _, rfl, SqT.of upd_same, rfl, _, _, rfl, _, _, rfl, rfl, ?_⟩
      cases eS : S id with
      | none => rw [eS] at rv; exact absurd rv (fun z => z)
      | some r =>
        rw [eS] at rv
        cases r with
        | tb =>
          have rv : kv.2 = .ref a_TAKEN_BACK := rv
          refine ⟨_, rfl, ?_⟩
          rw [rv]
          refine ⟨.tuple [], .tuple [], .tup (Tt.sq _) .nil, .tup (Tt.sq _) .nil, by decide +kernel, by decide +kernel, _, rfl, ?_⟩
          rw [show (!PyData.eqv (.tuple []) (.tuple [])) = false from by decide +kernel]
          rw [rv] at g1' s4 stay
          refine iteF ⟨ys, ⟨_, _, rfl⟩, g1', stay (by rw [hsel]; unfold pick; rw [eS]), by omega, s4⟩
        | at_ z' k' m am =>
          obtain ⟨tt, e5, htt⟩ := rv
          obtain ⟨hz', hk', _⟩ := hkn _ _ _ _ _ eS
          have ht3 := sameAt (Same.refl _) hT (o := .tup [kV kv.1, kv.2]) _ _ (s3 _ _ (tB _ _ htt))
          have hpk : pick S z k id = if z' = z ∧ k' = k then some (m, id, am) else none := by
            unfold pick
            rw [eS]
          refine ⟨_, rfl, ?_⟩
          rw [e5] at g1' s4 stay ht3 ⊢
          have shp : SeqAt.shaped (.tuple [.str z', .str k', .int m, .int am]) = true := shaped_flat (by simp [flatD, nm_ok hz', nm_ok hk'])
          refine ⟨.tuple [.str z', .str k', .int m, .int am], .tuple [], .tup (SqT.of ht3) (.cons (.str _) (.cons (.str _) (.cons (.int _) (.cons (.int _) .nil)))), .tup (Tt.sq _) .nil, shp, by decide +kernel, _, rfl, ?_⟩
          rw [show (!PyData.eqv (.tuple [.str z', .str k', .int m, .int am]) (.tuple [])) = true from by simp [PyData.eqv, PyData.eqvAll]]
          refine iteT ⟨_, rfl, _, _, _, _, rfl, rfl, SqT.of ht3, rfl, _, rfl, rfl, _, rfl, ?_⟩
          have no : ¬ (z' = z ∧ k' = k) → selK S z k kv = none := fun h => by rw [hsel, hpk, if_neg h]
          have nl := n2.len
          refine ite2 (fun c1 => ?_) (fun c1 => ?_)
          · have ez : z' = z := V.str.inj (of_decide_eq_true c1)
            refine ⟨_, rfl, _, _, _, _, rfl, rfl, SqT.of ht3, rfl, _, rfl, rfl, _, rfl, ?_⟩
            refine ite2 (fun c2 => ?_) (fun c2 => ?_)
            · have ek : k' = k := V.str.inj (of_decide_eq_true c2)
              refine ⟨_, rfl, .inl ⟨rfl, _, SqL.of g1'⟩, _, rfl, _, _, _, _, rfl, rfl, SqT.of ht3, rfl, _, rfl, _, rfl, _, _, _, _, rfl, rfl, SqT.of ht3, rfl, (by show 3 ≤ sizeLine; decide), fun e he => ?_⟩
              have s5 : Same (upd H3 Tt' (.tup [kV kv.1, .ref tt])) (upd (upd H3 Tt' (.tup [kV kv.1, .ref tt])) e (.tup [.int m, kV kv.1, .int am])) := sameAt (Same.refl _) he
              refine ⟨q0, ys, _, rfl, rfl, s5 _ _ g1', small1000 (by omega), ?_⟩
              have off : ∀ t xs, (upd (upd H3 Tt' (.tup [kV kv.1, .ref tt])) e (.tup [.int m, kV kv.1, .int am])) t = some (.tup xs) → (upd (upd (upd H3 Tt' (.tup [kV kv.1, .ref tt])) e (.tup [.int m, kV kv.1, .int am])) q0 (.lst (ys ++ [.ref e]))) t = some (.tup xs) := fun t xs h => by
                rw [upd_ne (ne_of h (s5 _ _ g1') (by intro z; cases z))]
                exact h
              refine ⟨ys ++ [.ref e], ⟨_, _, rfl⟩, upd_same, ?_, by rw [List.length_append]; show ys.length + 1 ≤ i + 1; omega, sameAt (s4.trans s5) hB0⟩
              rw [hne (some (m, id, am)) (by rw [hsel, hpk, if_pos ⟨ez, ek⟩])]
              refine (TrAt.snoc (t := (m, id, am)) ((g2'.tk ?_)) (?_ : (upd (upd H3 Tt' (.tup [kV kv.1, .ref tt])) e (.tup [.int m, kV kv.1, .int am])) e = _)).tk off
              · intro t xs h
                rw [e5] at h
                exact s5 _ _ h
              · rw [upd_same, hid]
                rfl
            · exact ⟨ys, ⟨_, _, rfl⟩, g1', stay (no fun h => c2 (decide_eq_true (by rw [h.2]))), by omega, s4⟩
          · exact ⟨ys, ⟨_, _, rfl⟩, g1', stay (no fun h => c1 (decide_eq_true (by rw [h.1]))), by omega, s4⟩
    · rintro σ H3 ⟨ys, ⟨a, b', rfl⟩, g1, g2, g3, s3⟩
      rw [List.take_length] at g2
      have hk3 := s3 _ _ (show (upd H2 kd (.frz od (.dK kvs))) kd = _ from upd_same)
      have un : ∀ t xs, H3 t = some (.tup xs) → (upd H3 kd (.dK kvs)) t = some (.tup xs) := fun t xs e => by rw [upd_ne (ne_of e hk3 (by intro z; cases z))]; exact e
      have g2u := g2.tk un
      have g1u : (upd H3 kd (.dK kvs)) q0 = some (.lst ys) := by rw [upd_ne (Ne.symm kq)]; exact g1
      have sF : Same H (upd H3 kd (.dK kvs)) := fun c o hc => by
        by_cases e : c = kd
        · subst e
          rw [upd_same, ← n1]
          exact hc
        · rw [upd_ne e]
          exact s3 _ _ (by rw [upd_ne e]; exact s12 _ _ hc)
      refine ⟨hk3, ?_⟩
      have gm := g2u.map
      refine ⟨_, rfl, q0, ys, triOf (upd H3 kd (.dK kvs)), rfl, SqL.of g1u, fun x hx => ?_, fun zs p hs hp hnew => ?_⟩
      · obtain ⟨i, hi, e⟩ := List.getElem_of_mem hx
        obtain ⟨e1, h1, h2⟩ := g2u.2 i _ _ (List.getElem?_eq_getElem hi) (List.getElem?_eq_getElem (by rw [← g2u.1]; exact hi))
        refine ⟨e1, by rw [← e, h1], ?_⟩
        rw [← e, h1, triOf_at h2]
        exact h2
      · have sp : Same (upd H3 kd (.dK kvs)) (upd (upd H3 kd (.dK kvs)) p (.lst zs)) := sameAt (Same.refl _) hnew
        refine q p zs (zs.map (triOf (upd H3 kd (.dK kvs)))) _ (sF.trans sp) (none_of sF hnew) upd_same ⟨by rw [List.length_map], fun i v t a b => ?_⟩ (by have := hp.length_eq; have := n2.len; omega) (rows_of (sel_all n2 n3) (sel_nd n2) (by rw [← gm]; exact hp.map _) (List.pairwise_map.mpr hs))
        rw [List.getElem?_map, a] at b
        cases b
        have hv := hp.mem_iff.mp (List.mem_of_getElem? a)
        obtain ⟨i', hi', e⟩ := List.getElem_of_mem hv
        obtain ⟨e1, h1, h2⟩ := g2u.2 i' _ _ (List.getElem?_eq_getElem hi') (List.getElem?_eq_getElem (by rw [← g2u.1]; exact hi'))
        rw [e] at h1
        subst h1
        exact ⟨e1, rfl, sp _ _ (by rw [triOf_at h2]; exact h2)⟩
end
end Ash

set_option Elab.async false
set_option linter.all false
set_option maxRecDepth 100000
set_option maxHeartbeats 4000000
namespace L2
open PySem PySem.Spec PyProof.Rows
/-! ### an own __eq__ asked by !=, an own __len__, list(d.values()) -/
/-- a name of a written namespace -/
theorem ns_at {K : PySem.W.Frag} {h : Heap} {N : Addr} {mN : Str → Option Value} {n : Str} {v : Value} (X : K.In h) (G : h.Ns N mN) (e : PySem.W.nsIn K N n = some (some v)) : mN n = some v := by
  obtain ⟨o, es, ep, ho, hd, _, hf⟩ := G
  unfold PySem.W.nsIn at e
  split at e
  case h_2 => cases e
  case h_1 c d es' n' sl q =>
    have z := X _ _ q
    rw [ho] at z
    cases z
    cases hd
    split at e
    case h_2 => split at e <;> cases e
    case h_1 en he =>
      cases e
      rw [← hf]
      unfold nsFind findBy
      rw [← Array.find?_toList, he]
      rfl
/-- a plain class with an own __eq__ and no __ne__ -/
structure NeC (K : PySem.W.Frag) (C f : Addr) : Prop where
  ex : ∃ (nm q : Str) (N : Addr) (bs : List Value) (hd : Bool) (sn : List Str) (sub : List Value) (ab : Bool) (col : Option Bool) (dd : Option Addr) (k0 k1 k2 k3 k5 : Option Value) (nid : String) (fo : Obj),
    K.lookup C = some (excClassObj nm q C N bs [.type "object"] hd sn sub ab col dd k0 k1 k2 k3 k5 nid) ∧ PySem.W.nsOkIn K N = true ∧ PySem.W.nsIn K N "__eq__" = some (some (.ref f)) ∧ PySem.W.nsIn K N "__ne__" = some none ∧ K.lookup f = some fo ∧ fo.cls = .type "function"
theorem obj_eq : ∃ y, typeLookup (.type "object") "__eq__" = pure y := ⟨_, PySem.F.cmp_object.eq.lookup⟩
section
variable {X : Cx} {n : Nat} {CX : CXT} {C f : Addr} {fd : FuncData} {ps : List Str} {R : Addr → Addr → Hp → Prop} {E : XK}
theorem op_neG (F : FnOk X.prog X.w X.K X.mg X.base CX n f fd ps (spEq R)) (Z : NeC X.K C f) (hb : Binds X.K fd ps []) (hx : Passes CX X E) (hr : Room (n + 2) X.A) :
    OpR X (compareOp .NotEq) (fun x y H Q => DIns C R x y H ∧ ∀ H', Ext H H' → Q (.bl false) H') := by
  intro pins s σ H x y v u Q I rx ry hq
  obtain ⟨⟨a, b, dx, dy, fs, gs, rfl, rfl, ha, hb', hR⟩, q⟩ := hq
  cases rx
  cases ry
  obtain ⟨mA, J, _⟩ := ins_get I.hok ha
  obtain ⟨mB, J', _⟩ := ins_get I.hok hb'
  obtain ⟨od, J, _⟩ := J.look
  obtain ⟨od', J', _⟩ := J'.look
  obtain ⟨nm, qn, N, bs, hd, sn, sub, ab, col, dd, k0, k1, k2, k3, k5, nid, fo, z1, z2, z3, z4, z5, z6⟩ := Z.ex
  have XK := I.kIn
  have Gn := Heap.Ns.of_isNs (PySem.W.isNs_of_in XK z2)
  obtain ⟨y0, hy0⟩ := obj_eq
  have Y : s.heap.OwnEqNoNe a C f "object" [.type "object"] := ⟨_, fo, nm, qn, N, bs, hd, sn, sub, ab, col, dd, k0, k1, k2, k3, k5, nid, _, y0, J.at_, J.cls, XK _ _ z1, Gn, ns_at XK Gn z3, XK _ _ z5, z6, PySem.F.mro_object, hy0, PySem.W.ns_none_of XK Gn z4⟩
  obtain ⟨hp, gg, dw, tk, os⟩ := s
  refine compareOp_ne_ownEq PySem.F.cmp_object Y J'.at_ J'.cls hr.in1.units0 ?_
  have hsp : spEq R [.ref a, .ref b] H (fun v H' => v = .bl true ∧ Ext H H') E := ⟨a, b, rfl, hR, fun H' e => ⟨rfl, e⟩⟩
  have e0 : Env0 X.prog X.w X.K X.mg X.base X.A.in1 X.stack ⟨hp, gg, dw, tk, os⟩ H := by
    have e := I.env0
    exact ⟨e.frames, e.mod, e.bs, e.bsz, e.funs, e.frf, e.hok, e.bare⟩
  have hl := F.len _ _ _ _ hsp
  have r2 : Vals [V.ref a, V.ref b] [Value.ref a, Value.ref b] := .cons rfl (.cons rfl .nil)
  refine wpAny_call (codeAny_mono (F.run X.A.in1 X.stack _ H ⟨[.ref a, .ref b], []⟩ [.ref a, .ref b] [.ref a, .ref b] _ E (hr.in1.mono (by omega)) e0 (by
    have := hb ⟨hp, gg, dw, tk, os⟩ [.ref a, .ref b] I.kIn (by simpa using hl)
    simpa using this) r2 hsp) fun r s' hq => ?_)
  cases r with
  | error e => exact hx pins σ H _ e s' I hq
  | ok fl =>
    cases fl with
    | ret w =>
      obtain ⟨z, H', I', rz, ez, ex⟩ := I.after hq
      subst ez
      cases rz
      exact ⟨true, rfl, .bl false, H', I', rfl, q H' ex⟩
    | next => exact False.elim hq
    | brk => exact False.elim hq
    | cont => exact False.elim hq
/-- len(o) by an own __len__ -/
theorem call_lenI {sp : Sp} (F : FnOk X.prog X.w X.K X.mg X.base CX n f fd ["self"] sp) (hs : PySem.W.findIn X.K (.ref C) "__len__" = some (some (.ref f))) (hf : PySem.W.isFn X.K (.ref f) = true) (hb : Binds X.K fd ["self"] []) (hx : Passes CX X E) (hr : Room (n + 1) X.A) :
    CallR X (.builtin "len") (fun xs H Q => ∃ a dx fs, xs = [.ref a] ∧ H a = some (.ins C dx fs) ∧ sp [.ref a] H (fun v H' => ∃ m : Nat, v = .int m ∧ m < 2 ^ 62 ∧ Q (.int m) H') E) := by
  intro pins s σ H xs us Q I r h
  obtain ⟨a, dx, fs, rfl, ha, h⟩ := h
  rw [Vals.ref1 r]
  obtain ⟨mA, J, _⟩ := ins_get I.hok ha
  obtain ⟨od, J, _⟩ := J.look
  obtain ⟨m, hF⟩ := I.fr
  refine PySem.W.len_K hF I.ok.mod.kin J hs hf ?_
  have e0 : Env0 X.prog X.w X.K X.mg X.base X.A.in1 X.stack s H := by
    have e := I.env0
    exact ⟨e.frames, e.mod, e.bs, e.bsz, e.funs, e.frf, e.hok, e.bare⟩
  have hl := F.len _ _ _ _ h
  refine wpAny_call (codeAny_mono (F.run X.A.in1 X.stack _ H ⟨[.ref a], []⟩ [.ref a] [.ref a] _ E (hr.in1.mono (by omega)) e0 (by
    have := hb s [.ref a] I.kIn (by simpa using hl)
    simpa using this) (.cons rfl .nil) h) fun r s' hq => ?_)
  cases r with
  | error e => exact hx pins σ H _ e s' I hq
  | ok fl =>
    cases fl with
    | ret w =>
      obtain ⟨z, H', I', rz, m, ez, hm, q⟩ := I.after hq
      subst ez
      obtain ⟨t, rfl⟩ := rz
      exact ⟨⟨Int.natCast_nonneg m, by omega⟩, .int m, H', I'.tok _, ⟨_, rfl⟩, q⟩
    | next => exact False.elim hq
    | brk => exact False.elim hq
    | cont => exact False.elim hq
/-- the same object -/
def DOne : Eqv := fun x y _ => x = y ∧ ∃ a, x = .ref a
theorem mon_one : Mon DOne := fun _ _ _ _ _ d => d
theorem eqG_one : EqG X 0 DOne := by
  intro A pins s σ H x y u v sb I rx ry d
  obtain ⟨rfl, a, rfl⟩ := d
  cases rx
  cases ry
  exact SeqAt.EqAt.same (A := A) (s := s) (.ref a) X.prog X.w X.xe _ ⟨rfl, H, I, Ext.rfl'⟩
end
section
variable {X : Cx} {o : Expr} {p pos apos mpos : Pos} {td : TE}
/-- list(o.values()) of a dict -/
def tListVals (td : TE) : TE := fun σ H Q => td σ H fun x H1 => ∃ a kvs, x = V.ref a ∧ H1 a = some (.dK kvs) ∧ ∀ l, H1 l = none → Q (.ref l) (upd H1 l (.lst (kvs.map (·.2))))
theorem vals_vals {kvs : List (Key × V)} {vs : List (Key × Value)} (r : KV kvs vs) {us : List Value} (hn : us.length = vs.length) (hu : ∀ (j : Nat) v, us[j]? = some v → ∃ k, vs[j]? = some (k, v)) : Vals (kvs.map (·.2)) us := by
  have e : us = vs.map (·.2) := PySem.W.kdl_vals_eq us hn hu
  subst e
  unfold KV at r
  clear hn hu
  induction r with
  | nil => exact .nil
  | cons h t ih => exact .cons h.2 ih
theorem pe_listVals (hcalm : X.calm = true) (hg : Gl X "list") (hm : X.mg "list" = none) (hd : PE X o td) (hbase : attributeBase o "values" X.env (eval o X.env) = eval o X.env := by rfl) (hline : (apos.endLine == mpos.line) = true := by rfl)
    (hse : starEach [Expr.Call (.Attribute o "values" apos) [] [] mpos] X.env = [(false, eval (Expr.Call (.Attribute o "values" apos) [] [] mpos) X.env)] := by rfl) :
    PE X (.Call (.Name "list" p) [.Call (.Attribute o "values" apos) [] [] mpos] [] pos) (tListVals td) := by
  refine ⟨fun pins s σ H Q I h => ?_⟩
  refine wpAny_Call_Name_kw (ld_blt I hg hm (u := .type "list") (by first | rfl | decide +kernel) ?_ (by first | decide +kernel | decide) (by first | decide +kernel | decide))
  rw [hse]
  refine PySem.callWith_type1 (wpAny_Call_method0_late hbase hline (thn (hd.run pins s σ H _ I h) fun v s1 ⟨x, H1, I1, r1, a, kvs, ex, ha, q⟩ => ?_))
  subst ex
  obtain rfl : v = Value.ref a := r1
  obtain ⟨hz, hsys, vs, rel, dof⟩ := dk_of I1.hok ha
  obtain ⟨ep, dat⟩ := dof.dictAt
  obtain ⟨ob, es, ho, ex, _⟩ := id dat
  refine ⟨"dict", "dict.values", F.plainAttrs_dict, F.slot_dict_values, F.type_dict_values, ⟨ob, ho, ex.1⟩, fun b e => ?_, Calls.callWith_builtin rfl (PySem.evalArgs_none ?_)⟩
  · cases e
    exact ⟨ob, ho, ex.2.1⟩
  refine call_meetsIn F.slot_dict_values ⟨ob, ho, ex.1⟩ F.entry_dict_values (F.args_dict_values_1 _) (meets_dict_values (mixKind X.prog X.w) a hsys) ⟨⟨vs, dof⟩, ?_⟩
  have up : ∀ b u, s1.heap.get? b = some u → (s1.heap.push { cls := .type "dict_values", data := .fields #[.ref a] }).get? b = some u := fun b u e => Heap.get?_push_of_some _ e
  have hlen : vs.length = kvs.length := (KV.length rel).symm
  refine PySem.W.kdl_call (PySem.W.kdl_values (knd := mixKind X.prog X.w) (kvs := vs) (ep := ep)) (I1.ok.hd hcalm) ⟨⟨_, Heap.get?_push_size _ rfl, rfl, rfl⟩, dat.keep up⟩ (by rw [hlen]; exact hz) fun h' tk acc c' hk hD hacc => ?_
  have hv : Vals (kvs.map (·.2)) acc.toList := vals_vals rel (by rw [Array.length_toList]; exact hacc.1) fun j v e => hacc.2 j v (by rw [← Array.getElem?_toList]; exact e)
  refine ⟨.ref _, upd H1 _ (.lst (kvs.map (·.2))), I1.laid (t' := tk) (fun b u e => hk b u (up b u e)) (Nat.le_of_lt (Nat.lt_of_lt_of_le (Nat.lt_succ_self _) (by rw [Heap.size_push]; exact Nat.le_refl _)))
    (show ObjOk X.prog X.w _ _ _ (.lst (kvs.map (·.2))) from ⟨by rw [List.length_map]; exact hz, acc.toList, c', hv, by rw [Array.toArray_toList]; exact hD⟩), rfl, q _ (I1.hok.fresh (Nat.le_of_lt (Nat.lt_of_lt_of_le (Nat.lt_succ_self _) (by rw [Heap.size_push]; exact Nat.le_refl _))))⟩
end
end L2

set_option Elab.async false
set_option linter.all false
set_option maxRecDepth 100000
set_option maxHeartbeats 4000000
namespace Ash
open PySem PySem.Spec PyProof.Rows L2 SrtT
/-! ### settled moments -/
theorem pick_iff {S : Kn} {z k : Str} {id : Int} {t : T3} : pick S z k id = some t ↔ S id = some (.at_ z k t.1 t.2.2) ∧ t.2.1 = id := by
  obtain ⟨m, i, a⟩ := t
  constructor
  · intro h
    have hi := pick_id h
    refine ⟨?_, hi⟩
    unfold pick at h
    split at h
    · rename_i z' k' m' a' e
      split at h
      · rename_i c
        cases h
        rw [e, c.1, c.2]
      · cases h
    · cases h
  · rintro ⟨h, e⟩
    have e : i = id := e
    have h : S id = some (.at_ z k m a) := h
    unfold pick
    rw [h, e]
    show (if z = z ∧ k = k then some (m, id, a) else none) = _
    rw [if_pos ⟨rfl, rfl⟩]
theorem lex3_trans {a b c : T3} (h : lex3 a b = true) (g : lex3 b c = true) : lex3 a c = true := by
  rw [lex3_iff] at h g ⊢
  omega
theorem lex3_irr {a : T3} : lex3 a a = false := by
  rw [lex3_no]
  omega
/-- ascending lists of the same triples are one -/
theorem asc_ext : ∀ {a b : List T3}, a.Pairwise (fun x y => lex3 x y = true) → b.Pairwise (fun x y => lex3 x y = true) → (∀ t, t ∈ a ↔ t ∈ b) → a = b
  | [], [], _, _, _ => rfl
  | [], y :: b, _, _, h => nomatch (h y).mpr List.mem_cons_self
  | x :: a, [], _, _, h => nomatch (h x).mp List.mem_cons_self
  | x :: a, y :: b, ha, hb, h => by
    rw [List.pairwise_cons] at ha hb
    have e : x = y := by
      rcases List.mem_cons.mp ((h x).mp List.mem_cons_self) with e | hx
      · exact e
      · rcases List.mem_cons.mp ((h y).mpr List.mem_cons_self) with e | hy
        · exact e.symm
        · have := lex3_trans (ha.1 y hy) (hb.1 x hx)
          rw [lex3_irr] at this
          cases this
    subst e
    congr 1
    refine asc_ext ha.2 hb.2 fun t => ⟨fun ht => ?_, fun ht => ?_⟩
    · rcases List.mem_cons.mp ((h t).mp (List.mem_cons_of_mem _ ht)) with e | hm
      · have := ha.1 t ht
        rw [e, lex3_irr] at this
        cases this
      · exact hm
    · rcases List.mem_cons.mp ((h t).mpr (List.mem_cons_of_mem _ ht)) with e | hm
      · have := hb.1 t ht
        rw [e, lex3_irr] at this
        cases this
      · exact hm
theorem RowsOf.uniq {S : Kn} {z k : Str} {a b : List T3} (ha : RowsOf S z k a) (hb : RowsOf S z k b) : a = b := asc_ext ha.asc hb.asc fun t => (ha.all t).trans (hb.all t).symm
theorem RowsOf.at {S : Kn} {z k : Str} {a : List T3} (h : RowsOf S z k a) {t : T3} : t ∈ a ↔ S t.2.1 = some (.at_ z k t.1 t.2.2) := by
  rw [h.all, pick_iff]
  exact ⟨fun q => q.1, fun q => ⟨q, rfl⟩⟩
/-- one id, one row -/
theorem RowsOf.ids {S : Kn} {z k : Str} {a : List T3} (h : RowsOf S z k a) : a.Pairwise fun x y => x.2.1 ≠ y.2.1 := by
  refine h.asc.imp_of_mem fun {x y} hx hy hxy e => ?_
  have h1 := h.at.mp hx
  have h2 := h.at.mp hy
  rw [e, h2] at h1
  have h3 := Option.some.inj h1
  injection h3 with _ _ e1 e2
  rw [lex3_iff] at hxy
  omega
theorem behind_late {L : List (Str × Int)} {x : Ent} {o : Option RowSt} {y : RowSt} {h : Int} (hb : behind L x o = some y) (hr : h < x.arr) {s k : Str} {m a l : Int} (hl : L.lookup s = some l) (hm : m + l ≤ h) : o ≠ some (.at_ s k m a) ∧ y ≠ .at_ s k m a := by
  cases x with
  | row id s' k' m' a' r =>
    have hr : h < r := hr
    cases o with
    | some o => cases hb
    | none =>
      refine ⟨(fun z => nomatch z), fun z => ?_⟩
      have hb : (L.lookup s').bind _ = _ := hb
      cases e : L.lookup s' with
      | none => rw [e] at hb; cases hb
      | some l' =>
        rw [e, Option.bind_some] at hb
        split at hb
        · rename_i c
          cases hb
          injection z with z1 z2 z3 z4
          subst z1
          rw [hl] at e
          cases e
          omega
        · cases hb
  | fix id m' a' r =>
    have hr : h < r := hr
    cases o with
    | none => cases hb
    | some o =>
      cases o with
      | tb => cases hb
      | at_ s0 k0 m0 a0 =>
        have hb : (L.lookup s0).bind _ = _ := hb
        cases e : L.lookup s0 with
        | none => rw [e] at hb; cases hb
        | some l' =>
          rw [e, Option.bind_some] at hb
          split at hb
          · rename_i c
            cases hb
            refine ⟨fun z => ?_, fun z => ?_⟩
            · have z := Option.some.inj z
              injection z with z1 z2 z3 z4
              subst z1
              rw [hl] at e
              cases e
              omega
            · injection z with z1 z2 z3 z4
              subst z1
              rw [hl] at e
              cases e
              omega
          · cases hb
  | gone id r =>
    have hr : h < r := hr
    cases o with
    | none => cases hb
    | some o =>
      cases o with
      | tb => cases hb
      | at_ s0 k0 m0 a0 =>
        have hb : (L.lookup s0).bind _ = _ := hb
        cases e : L.lookup s0 with
        | none => rw [e] at hb; cases hb
        | some l' =>
          rw [e, Option.bind_some] at hb
          split at hb
          · rename_i c
            cases hb
            refine ⟨fun z => ?_, (fun z => nomatch z)⟩
            have z := Option.some.inj z
            injection z with z1 z2 z3 z4
            subst z1
            rw [hl] at e
            cases e
            omega
          · cases hb
/-- rows at settled moments stand as before -/
theorem wk_settled {L : List (Str × Int)} {h : Int} : ∀ {ys : List Ent} {i : Nat} {S S2 : Kn} {l : Option Int}, wk L (ys.map some) i S l = (none, S2) → (∀ y ∈ ys, h < y.arr) →
    ∀ id s k m a l, L.lookup s = some l → m + l ≤ h → (S2 id = some (.at_ s k m a) ↔ S id = some (.at_ s k m a))
  | [], i, S, S2, l, hw, _, id, s, k, m, a, l', hl, hm => by
    have hw : ((none : Option Nat), S) = (none, S2) := hw
    cases hw
    exact Iff.rfl
  | x :: r, i, S, S2, l, hw, hr, id, s, k, m, a, l', hl, hm => by
    have hw : wk L (some x :: r.map some) i S l = (none, S2) := hw
    by_cases c : late? l x.arr = true
    · rw [wk_late c] at hw
      cases hw
    · have c0 : late? l x.arr = false := Bool.eq_false_iff.mpr c
      cases hb : behind L x (S x.id) with
      | none =>
        rw [wk_bad c0 hb] at hw
        cases hw
      | some y =>
        rw [wk_go c0 hb] at hw
        refine (wk_settled hw (fun z hz => hr z (List.mem_cons_of_mem _ hz)) id s k m a l' hl hm).trans ?_
        show (if id = x.id then some y else S id) = _ ↔ _
        by_cases ej : id = x.id
        · rw [if_pos ej, ej]
          obtain ⟨q1, q2⟩ := behind_late (k := k) (a := a) hb (hr x List.mem_cons_self) hl hm
          exact ⟨fun z => absurd (Option.some.inj z) q2, fun z => absurd z q1⟩
        · rw [if_neg ej]
theorem behind_mom {L : List (Str × Int)} {x : Ent} {o : Option RowSt} {s k : Str} {m a : Int} (hb : behind L x o = some (.at_ s k m a)) : m ≤ x.arr := by
  cases x with
  | row id s' k' m' a' r =>
    cases o with
    | some o => cases hb
    | none =>
      have hb : (L.lookup s').bind _ = _ := hb
      cases e : L.lookup s' with
      | none => rw [e] at hb; cases hb
      | some l' =>
        rw [e, Option.bind_some] at hb
        split at hb
        · rename_i c
          cases hb
          exact c.1
        · cases hb
  | fix id m' a' r =>
    cases o with
    | none => cases hb
    | some o =>
      cases o with
      | tb => cases hb
      | at_ s0 k0 m0 a0 =>
        have hb : (L.lookup s0).bind _ = _ := hb
        cases e : L.lookup s0 with
        | none => rw [e] at hb; cases hb
        | some l' =>
          rw [e, Option.bind_some] at hb
          split at hb
          · rename_i c
            cases hb
            exact c.2.1
          · cases hb
  | gone id r => cases behind_gone hb
theorem wk_mom {L : List (Str × Int)} {h : Int} : ∀ {ys : List Ent} {i : Nat} {S S2 : Kn} {l : Option Int}, wk L (ys.map some) i S l = (none, S2) → (∀ y ∈ ys, y.arr ≤ h) → (∀ id s k m a, S id = some (.at_ s k m a) → m ≤ h) → ∀ id s k m a, S2 id = some (.at_ s k m a) → m ≤ h
  | [], i, S, S2, l, hw, _, h0 => by
    have hw : ((none : Option Nat), S) = (none, S2) := hw
    cases hw
    exact h0
  | x :: r, i, S, S2, l, hw, hr, h0 => by
    have hw : wk L (some x :: r.map some) i S l = (none, S2) := hw
    by_cases c : late? l x.arr = true
    · rw [wk_late c] at hw
      cases hw
    · have c0 : late? l x.arr = false := Bool.eq_false_iff.mpr c
      cases hb : behind L x (S x.id) with
      | none =>
        rw [wk_bad c0 hb] at hw
        cases hw
      | some y =>
        rw [wk_go c0 hb] at hw
        refine wk_mom hw (fun z hz => hr z (List.mem_cons_of_mem _ hz)) fun id s k m a e => ?_
        have e : (if id = x.id then some y else S id) = some (.at_ s k m a) := e
        by_cases ej : id = x.id
        · rw [if_pos ej] at e
          cases e
          have := behind_mom hb
          have := hr x List.mem_cons_self
          omega
        · rw [if_neg ej] at e
          exact h0 _ _ _ _ _ e
/-- the last arrival is the greatest -/
theorem wk_last {L : List (Str × Int)} : ∀ {xs : List Ent} {i : Nat} {S : Kn} {l : Option Int} {t : Int}, (wk L (xs.map some) i S l).1 = none → lastA xs l = some t → ∀ x ∈ xs, x.arr ≤ t
  | [], _, _, _, _, _, _, x, hx => nomatch hx
  | y :: r, i, S, l, t, hw, hl, x, hx => by
    have hw : (wk L (some y :: r.map some) i S l).1 = none := hw
    have hl : lastA r (some y.arr) = some t := hl
    by_cases c : late? l y.arr = true
    · rw [wk_late c] at hw
      cases hw
    · have c0 : late? l y.arr = false := Bool.eq_false_iff.mpr c
      cases hb : behind L y (S y.id) with
      | none =>
        rw [wk_bad c0 hb] at hw
        cases hw
      | some z =>
        rw [wk_go c0 hb] at hw
        have ih := wk_last hw hl
        rcases List.mem_cons.mp hx with rfl | hx
        · cases r with
          | nil =>
            have hl : some x.arr = some t := hl
            cases hl
            exact Int.le_refl _
          | cons u r =>
            have h1 := ih u List.mem_cons_self
            have h2 := wk_ge hw u List.mem_cons_self
            omega
        · exact ih x hx
theorem lastA_some : ∀ {xs : List Ent} {l : Option Int}, xs ≠ [] → ∃ x, xs.getLast? = some x ∧ lastA xs l = some x.arr
  | [], _, h => absurd rfl h
  | [x], l, _ => ⟨x, rfl, rfl⟩
  | x :: y :: r, l, _ => by
    obtain ⟨u, h1, h2⟩ := lastA_some (xs := y :: r) (l := some x.arr) (fun z => nomatch z)
    exact ⟨u, by rw [List.getLast?_cons_cons]; exact h1, h2⟩
/-- the settled rows of two states -/
theorem rows_settled {S S2 : Kn} {z k : Str} {a b : List T3} {l h : Int} (ha : RowsOf S z k a) (hb : RowsOf S2 z k b) (hs : ∀ id m am, m + l ≤ h → (S2 id = some (.at_ z k m am) ↔ S id = some (.at_ z k m am))) :
    b.filter (fun t => decide (t.1 + l ≤ h)) = a.filter (fun t => decide (t.1 + l ≤ h)) := by
  refine asc_ext (hb.asc.filter _) (ha.asc.filter _) fun t => ?_
  rw [List.mem_filter, List.mem_filter, ha.at, hb.at]
  constructor
  · rintro ⟨h1, h2⟩
    exact ⟨(hs _ _ _ (of_decide_eq_true h2)).mp h1, h2⟩
  · rintro ⟨h1, h2⟩
    exact ⟨(hs _ _ _ (of_decide_eq_true h2)).mpr h1, h2⟩
/-- a row is gone -/
theorem rows_gone {S : Kn} {z k : Str} {a : List T3} {t : T3} (ha : RowsOf S z k a) (ht : t ∈ a) : RowsOf (setK S t.2.1 .tb) z k (a.filter fun u => decide (u ≠ t)) := by
  refine ⟨fun u => ?_, ha.asc.filter _⟩
  rw [List.mem_filter, pick_iff, ha.at]
  show _ ↔ (if u.2.1 = t.2.1 then some RowSt.tb else S u.2.1) = _ ∧ _
  have h1 := ha.at.mp ht
  by_cases e : u.2.1 = t.2.1
  · rw [if_pos e]
    refine ⟨fun ⟨q1, q2⟩ => absurd ?_ (of_decide_eq_true q2), fun q => nomatch q.1⟩
    rw [e, h1] at q1
    have q3 := Option.some.inj q1
    injection q3 with _ _ e1 e2
    exact Prod.ext e1.symm (Prod.ext e e2.symm)
  · rw [if_neg e]
    exact ⟨fun q => ⟨q.1, rfl⟩, fun q => ⟨q.1, decide_eq_true fun z => e (by rw [z])⟩⟩
/-- a row has another amount -/
theorem rows_fixed {S : Kn} {z k : Str} {a ts : List T3} {t : T3} {am : Int} (ha : RowsOf S z k a) (ht : t ∈ a) (hp : ts.Perm (a.filter (fun u => decide (u ≠ t)) ++ [(t.1, t.2.1, am)])) (hs : ts.Pairwise fun x y => lex3 y x = false) : RowsOf (setK S t.2.1 (.at_ z k t.1 am)) z k ts := by
  have hg := rows_gone ha ht
  have ho : ∀ u, u ∈ a.filter (fun u => decide (u ≠ t)) → u.2.1 ≠ t.2.1 := fun u hu e => by
    have q := hg.at.mp hu
    have q : (if u.2.1 = t.2.1 then some RowSt.tb else S u.2.1) = _ := q
    rw [if_pos e] at q
    cases q
  refine rows_of (us := a.filter (fun u => decide (u ≠ t)) ++ [(t.1, t.2.1, am)]) (fun u => ?_) ?_ hp hs
  · rw [List.mem_append, hg.at, List.mem_singleton, pick_iff]
    show (if u.2.1 = t.2.1 then some RowSt.tb else S u.2.1) = _ ∨ _ ↔ (if u.2.1 = t.2.1 then some (RowSt.at_ z k t.1 am) else S u.2.1) = _ ∧ _
    by_cases e : u.2.1 = t.2.1
    · rw [if_pos e, if_pos e]
      constructor
      · rintro (q | q)
        · cases q
        · rw [q]
          exact ⟨rfl, rfl⟩
      · rintro ⟨q, _⟩
        have q := Option.some.inj q
        injection q with _ _ e1 e2
        exact .inr (Prod.ext e1.symm (Prod.ext e e2.symm))
    · rw [if_neg e, if_neg e]
      exact ⟨fun q => ⟨q.elim id fun q => absurd (by rw [q]) e, rfl⟩, fun q => .inl q.1⟩
  · refine List.pairwise_append.mpr ⟨hg.ids, List.pairwise_singleton _ _, fun u hu v hv => ?_⟩
    rw [List.mem_singleton.mp hv]
    exact ho u hu
/-- a row more -/
theorem rows_joined {S : Kn} {z k : Str} {a ts : List T3} {t : T3} (ha : RowsOf S z k a) (hf : S t.2.1 = none) (hp : ts.Perm (a ++ [t])) (hs : ts.Pairwise fun x y => lex3 y x = false) : RowsOf (setK S t.2.1 (.at_ z k t.1 t.2.2)) z k ts := by
  have ho : ∀ u, u ∈ a → u.2.1 ≠ t.2.1 := fun u hu e => by
    have q := ha.at.mp hu
    rw [e, hf] at q
    cases q
  refine rows_of (us := a ++ [t]) (fun u => ?_) ?_ hp hs
  · rw [List.mem_append, ha.at, List.mem_singleton, pick_iff]
    show _ ↔ (if u.2.1 = t.2.1 then some (RowSt.at_ z k t.1 t.2.2) else S u.2.1) = _ ∧ _
    by_cases e : u.2.1 = t.2.1
    · rw [if_pos e, e, hf]
      constructor
      · rintro (q | q)
        · cases q
        · rw [q]
          exact ⟨rfl, rfl⟩
      · rintro ⟨q, _⟩
        have q := Option.some.inj q
        injection q with _ _ e1 e2
        exact .inr (Prod.ext e1.symm (Prod.ext e e2.symm))
    · rw [if_neg e]
      exact ⟨fun q => ⟨q.elim id fun q => absurd (by rw [q]) e, rfl⟩, fun q => .inl q.1⟩
  · refine List.pairwise_append.mpr ⟨ha.ids, List.pairwise_singleton _ _, fun u hu v hv => ?_⟩
    rw [List.mem_singleton.mp hv]
    exact ho u hu
/-! ### triples as data -/
def tdat (t : T3) : PyData := .tuple [.int t.1, .int t.2.1, .int t.2.2]
theorem t_dp {K : PySem.W.Frag} {H : Hp} {e : Addr} {t : T3} (h : H e = some (.tup (tv t))) : Dp K H (.ref e) (tdat t) := .tup (SqT.of h) (.cons (.int _) (.cons (.int _) (.cons (.int _) .nil)))
theorem t_shaped (t : T3) : SeqAt.shaped (tdat t) = true := shaped_flat (by simp [flatD])
theorem t_lay (t : T3) : (tdat t).canLay0 = true ∧ (tdat t).depth ≤ 2 := by
  obtain ⟨h1, h2⟩ := flat_lay (ds := [.int t.1, .int t.2.1, .int t.2.2]) (by simp [flatD])
  unfold tdat
  simp [PyData.canLay0, PyData.depth, h1]
  omega
theorem ts_lay : ∀ (ts : List T3), PyData.canLayAll0 (ts.map tdat) = true ∧ PyData.depthAll (ts.map tdat) ≤ 2
  | [] => by simp [PyData.canLayAll0, PyData.depthAll]
  | t :: ts => by
    obtain ⟨h1, h2⟩ := ts_lay ts
    obtain ⟨h3, h4⟩ := t_lay t
    rw [List.map_cons]
    simp only [PyData.canLayAll0, PyData.depthAll, h1, h3, Bool.and_self, true_and]
    exact Nat.max_le.mpr ⟨h4, h2⟩
theorem ts_shaped (ts : List T3) : SeqAt.shaped (.list (ts.map tdat)) = true := by
  obtain ⟨h1, h2⟩ := ts_lay ts
  unfold SeqAt.shaped
  simp [PyData.canLay0, PyData.depth, h1]
  omega
theorem t_eqv (t u : T3) : PyData.eqv (tdat t) (tdat u) = decide (t = u) := by
  obtain ⟨a, b, c⟩ := t
  obtain ⟨a', b', c'⟩ := u
  unfold tdat
  simp only [PyData.eqv, PyData.eqvAll, Prod.mk.injEq]
  by_cases e1 : a = a' <;> by_cases e2 : b = b' <;> by_cases e3 : c = c' <;> simp [e1, e2, e3]
theorem TrAt.dpA {K : PySem.W.Frag} {H : Hp} : ∀ {ys : List V} {ts : List T3}, TrAt H ys ts → DpAll K H ys (ts.map tdat)
  | [], [], _ => .nil
  | [], _ :: _, h => by have := h.1; simp at this
  | _ :: _, [], h => by have := h.1; simp at this
  | v :: ys, t :: ts, h => by
    obtain ⟨e, rfl, h2⟩ := h.2 0 v t rfl rfl
    exact .cons (t_dp h2) (TrAt.dpA ⟨by have := h.1; simpa using this, fun i v t a b => h.2 (i + 1) v t a b⟩)
theorem TrAt.dp {K : PySem.W.Frag} {H : Hp} {q : Addr} {ys : List V} {ts : List T3} (h : TrAt H ys ts) (hq : SqL K H q ys) : Dp K H (.ref q) (.list (ts.map tdat)) := .lst hq h.dpA
end Ash

set_option Elab.async false
set_option linter.all false
set_option maxRecDepth 100000
set_option maxHeartbeats 4000000
namespace L2
open PySem PySem.Spec PyProof.Rows
section
variable {X : Cx} {C fI : Addr} {par fl : Str}
/-- n.f in the suite that caught an own error with the one field fl -/
def tByB (fl : Str) (C a : Addr) (cls : Value) (d : Option Addr) (te : TE) : TE := fun σ H Q => te σ H fun x H1 => x = .ref a ∧ cls = .ref C ∧ ∃ (dd : Addr) (v : V), d = some dd ∧ H1 dd = some (.xd [(fl, v)]) ∧ Q v H1
theorem pe_byB {a : Addr} {oe : Obj} {cls : Value} {d : Option Addr} {pn : List (Addr × Obj)} {e : Expr} {te : TE} {pos : Pos} (T : PySem.BadX.Txt X.prog X.K X.mg par fl C fI) (hz : Zc cls d oe) (hf : ∃ vs, oe.data = .fields vs) (he : PE (X.suite a ((a, oe) :: pn)) e te)
    (hb : attributeBase e fl X.env (eval e X.env) = eval e X.env := by rfl) :
    PE (X.suite a ((a, oe) :: pn)) (.Attribute e fl pos) (tByB fl C a cls d te) := by
  refine ⟨fun pins s σ H Q I h => ?_⟩
  refine attr_of hb (thn (he.run pins s σ H _ I h) fun u s1 hh => ?_)
  obtain ⟨x, H1, I1, rx, ex, ec, dd, v, ed, ea, q⟩ := hh
  subst ex
  obtain rfl : u = Value.ref a := rx
  subst ec
  subst ed
  obtain ⟨ha, _⟩ := I1.pin (a, oe) (List.mem_append_left _ List.mem_cons_self)
  obtain ⟨vs, hd⟩ := hf
  have hx : ObjOk X.prog X.w H1 s1.heap dd (.xd [(fl, v)]) := I1.hok dd _ ea
  obtain ⟨mA, hns, hr⟩ := hx
  obtain ⟨od, ho, hl⟩ := lookIn_ns hns
  have l : List.lookup fl [(fl, v)] = some v := by simp [List.lookup]
  obtain ⟨u, hu, ru⟩ := RelO.some_of (v := v) (o := mA fl) (by rw [← l]; exact hr fl)
  have J : PySem.W.InstAt s1.heap a oe C (some od) := ⟨ha, hz.1, by unfold PySem.W.notCls; rw [hd] <;> rfl, by rw [hz.2]; exact ho⟩
  exact HandSPX.exc_get I1.kIn J T.ga T.gg T.exC (PySem.W.findObj_own T.hdC T.noN rfl (by rw [hl, hu])) (handed_of ru) ⟨v, H1, I1.tok _, ru, q⟩
end
end L2
namespace Ash
open PySem PySem.Spec PyProof.Rows L2
open C8 (pss_cut)
/-- what is wanted of an exception at any n slots -/
def WEn (n : Nat) (W : WX) : XK := fun cls d H => ∀ σ : L2.St, σ.length = n → W cls d σ H
theorem passN {X : Cx} {W : WX} {n : Nat} (hn : X.N.length = n) (tk : Takes X W) : Passes (L2.CX X.prog X.w) X (WEn n W) := fun _ σ _ _ e s' I c => tk e s' (XE.of_call I (fun cls d H' h => h σ (I.len.trans hn)) c)
section
variable {X : Cx} {CX : CXT} {k : Nat} {ps : List Str} {sp : Sp} {E : XK} {o e : Expr} {es : List Expr} {ta : TE} {t : TA} {C : Addr} {m : Str} {apos pos : Pos}
theorem pe_met {pl : Sem Bool} (c : Cls X.K C) (G : Met X.prog X.w X.K X.mg X.base CX C m k ps sp) (hr : Room k X.A) (hx : Passes CX X E) (ho : PE X o ta) (ha : PA X (e :: es) t) 
    (he : starEach (e :: es) X.env = (false, eval e X.env) :: starEach es X.env := by rfl) (hpl : (backTo pos (starEach es X.env)).any (·.1) = false := by rfl)
    (ht : eval (.Call (.Attribute o m apos) (e :: es) [] pos) X.env = (do
      let ov ← eval o X.env
      standAt apos.atName
      let (f, first) ← holding [ov] (getMethod ov m pl)
      callWith pos f first (backTo pos (starEach (e :: es) X.env)) (backToKw pos (keywordEach [] X.env))) := by rfl) :
    PE X (.Call (.Attribute o m apos) (e :: es) [] pos) (tMeth C m sp [] E ta t) := by
  obtain ⟨f, fd, hm, hb, F⟩ := G.ex
  exact pe_meth ho c hm F hr hb .nil hx ha he hpl ht
end
structure J9 (P : Program) (w : World) (K : PySem.W.Frag) (mg : Str → Option Value) (base : Heap) (aT CJ CB CE CM : Addr) : Prop where
  then_ : Met P w K mg base (L2.CX P w) CJ "then" 9 ["self", "entry"] (spThen K aT CJ CB CE)
  heard : Met P w K mg base (L2.CX P w) CJ "heard" 9 ["self", "h"] (spHeard K aT CJ CB CM)
  rows : Met P w K mg base CX0 CJ "rows" 3 ["self", "stream", "key"] (spRows K aT CJ CB)
def spJLen (K : PySem.W.Frag) (aT CJ CB : Addr) : Sp := fun vs H Q _ => ∃ (j b : Addr) (L : List (Str × Int)) (us : List V) (xs : List Ent), vs = [.ref j] ∧ JAt K aT CJ CB H j b L us xs ∧ Q (.int us.length) H
def spLatest (K : PySem.W.Frag) (aT CJ CB : Addr) : Sp := fun vs H Q _ => ∃ (j b : Addr) (L : List (Str × Int)) (us : List V) (xs : List Ent), vs = [.ref j] ∧ JAt K aT CJ CB H j b L us xs ∧ xs ≠ [] ∧ us.length ≤ 400 ∧ ∀ t, lastA xs none = some t → Q (.int t) H
/-- books that are one -/
def EqB (CB : Addr) : Addr → Addr → Hp → Prop := fun a b H => a = b ∧ ∃ L, BookAt CB H a L
/-- journals of the same entries -/
def EqJ (K : PySem.W.Frag) (aT CJ CB : Addr) : Addr → Addr → Hp → Prop := fun i j H => ∃ b L us xs ys, JAt K aT CJ CB H i b L us xs ∧ JAt K aT CJ CB H j b L us ys
section
variable {P : Program} {w : World} {K : PySem.W.Frag} {mg : Str → Option Value} {base : Heap}
abbrev s_Journal_len : Stmt := inClass (topS 30) 2
theorem sc_Journal_len : FnScope ["self"] ["self"] (defScope s_Journal_len) := ⟨rfl, rfl, rfl, by decide +kernel, rfl, by decide +kernel, by decide +kernel⟩
theorem ok_jlen {f CJ CB aT : Addr} {fd : FuncData} (F : Fun K "__len__" "Journal.__len__" s_Journal_len f fd) (B : Blt mg) (T : Cj P K mg CJ CB) : FnOk P w K mg base CX0 1 f fd ["self"] (spJLen K aT CJ CB) := by
  refine F.ok sc_Journal_len (fun vs H Q E h => ?_) (fun cdv A outer s H vs Q E hr h => ?_)
  · obtain ⟨j, b, L, us, xs, rfl, _⟩ := h
    rfl
  · obtain ⟨j, b, L, us, xs, rfl, hJ, q⟩ := h
    refine ⟨_, (pss_one (ps_ret (pe_callB call_len_seq (by rfl) B.len (by decide +kernel) (pa_cons (pe_fld (pv 0) rfl) pa_nil)))), ?_⟩
    obtain ⟨dx, t, kd, h1, h2, h3, hl, h5, h6, h7⟩ := id hJ
    exact ⟨_, rfl, j, CJ, dx, _, _, rfl, h1, T.cl, T.nE, jf_e _ _ _, t, us, rfl, .inr h3, q⟩
abbrev s_Journal_latest : Stmt := inClass (topS 30) 4
theorem sc_Journal_latest : FnScope ["self"] ["self"] (defScope s_Journal_latest) := ⟨rfl, rfl, rfl, by decide +kernel, rfl, by decide +kernel, by decide +kernel⟩
theorem ok_latest {f CJ CB aT : Addr} {fd : FuncData} (F : Fun K "latest" "Journal.latest" s_Journal_latest f fd) (B : Blt mg) (T : Cj P K mg CJ CB) (G : K5 P w K mg base CB) : FnOk P w K mg base CX0 2 f fd ["self"] (spLatest K aT CJ CB) := by
  refine F.ok sc_Journal_latest (fun vs H Q E h => ?_) (fun cdv A outer s H vs Q E hr h => ?_)
  · obtain ⟨j, b, L, us, xs, rfl, _⟩ := h
    rfl
  · obtain ⟨j, b, L, us, xs, rfl, hJ, hne, h4, q⟩ := h
    refine ⟨_, (pss_cons (ps_if (pt_cmpR op_eq (pe_callB call_len_seq (by rfl) B.len (by decide +kernel) (pa_cons (pe_fld (pv 0) rfl) pa_nil)) pe_int (nomark _))
      (pss_one (ps_ret pe_non))
      pss_nil)
    (pss_one (ps_ret (pe_cal G.arrival_of (hr.mono (by decide)) pass0 (pa_cons (pe_ix ix_tup (pe_fld (pv 0) rfl) (pe_un un_neg pe_int) (fun _ _ => rfl)) pa_nil))))), ?_⟩
    obtain ⟨dx, t, kd, h1, h2, h3, hl, h5, h6, h7⟩ := id hJ
    obtain ⟨x, hx1, hx2⟩ := lastA_some (l := none) hne
    have hpos : 0 < xs.length := List.length_pos_iff.mpr hne
    rw [List.getLast?_eq_getElem?] at hx1
    have hu : us[xs.length - 1]? = some us[xs.length - 1] := List.getElem?_eq_getElem (by omega)
    obtain ⟨e, he, hee, hok⟩ := h5 _ _ _ hu hx1
    rw [he] at hu
    refine ⟨_, rfl, j, CJ, dx, _, _, rfl, h1, T.cl, T.nE, jf_e _ _ _, t, us, rfl, .inr h3, rfl, _, rfl, ?_⟩
    rw [decide_eq_false (show ¬ (V.int (us.length : Int) = V.int 0) from fun z => by have := V.int.inj z; omega)]
    refine iteF ⟨_, rfl, j, CJ, dx, _, _, rfl, h1, T.cl, T.nE, jf_e _ _ _, _, rfl, _, _, _, V.ref e, rfl, rfl, h3, ?_, e, x, rfl, hee, q _ hx2⟩
    have e1 : ixN us.length (-1) = some (xs.length - 1) := by
      unfold ixN
      repeat' split
      all_goals first | (congr 1; omega) | omega
    show ((ixN us.length (-1)).bind fun j => us[j]?) = _
    rw [e1]
    exact hu
abbrev s_Book_eq : Stmt := inClass (topS 18) 1
theorem sc_Book_eq : FnScope ["self", "other"] ["self", "other"] (defScope s_Book_eq) := ⟨rfl, rfl, rfl, by decide +kernel, rfl, by decide +kernel, by decide +kernel⟩
theorem ok_book_eq {f CBook : Addr} {fd : FuncData} (F : Fun K "__eq__" "Book.__eq__" s_Book_eq f fd) (B : Blt mg) (T : Cb K mg CBook) (bk : ∀ H b dx fs, H b = some (.ins CBook dx fs) → TyX K H (.ref b) (.ref CBook)) : FnOk P w K mg base CX0 1 f fd ["self", "other"] (spEq (EqB CBook)) := by
  have c_Book := T.c
  refine F.ok sc_Book_eq (fun vs H Q E h => ?_) (fun cdv A outer s H vs Q E hr h => ?_)
  · obtain ⟨a, b, rfl, _⟩ := h
    rfl
  · obtain ⟨a, b, rfl, ⟨rfl, L, hB⟩, q⟩ := h
    have hu := hu_of hr
    have hu0 : (A.deeper (envOfC "Book.__eq__" (defScope s_Book_eq) s.heap.objs.size f cdv)).units < cLine := by omega
    refine ⟨_, (pss_one (ps_ret (pe_and (pe_callB call_isi (by rfl) B.isinstance (by decide +kernel) (pa_cons (pv 1) (pa_cons (pe_glob (v := .ref CBook) (by rfl) c_Book rfl) pa_nil))) (pe_one (pe_cmpR (op_eq_dictA hu0) (pe_fld (pv 0) rfl) (pe_fld (pv 1) rfl) (nomark _)))))), ?_⟩
    obtain ⟨dx, d, L', h1, h2, h3, nd⟩ := id hB
    have nk : ((LK L').map (·.1)).Nodup := by
      unfold LK
      rw [List.map_map]
      have e : (L'.map ((fun x => x.1) ∘ fun x => ((Sum.inr x.1 : Key), V.int x.2))) = (L'.map (·.1)).map (Sum.inr : Str → Key) := by rw [List.map_map]; rfl
      rw [e]
      exact List.Pairwise.map (Sum.inr : Str → Key) (fun a b h z => h (Sum.inr.inj z)) nd
    refine ⟨_, rfl, _, _, _, _, true, rfl, ClsV.own _, bk _ _ _ _ h1, (by show PySem.W.kitOne K _ _ = _; unfold PySem.W.kitOne; rw [if_pos (by simp)]), _, rfl, iteT ?_⟩
    refine ⟨_, rfl, a, CBook, dx, _, _, rfl, h1, T.cl, T.nL, rfl, _, rfl, a, CBook, dx, _, _, rfl, h1, T.cl, T.nL, rfl, d, d, _, _, rfl, rfl, h2, h2, rfl, fun p hp => ⟨valV_of nk p hp, ?_⟩, q H Ext.rfl'⟩
    obtain ⟨x, hx, rfl⟩ := List.mem_map.mp hp
    rfl
abbrev s_Journal_eq : Stmt := inClass (topS 30) 1
theorem sc_Journal_eq : FnScope ["self", "other"] ["self", "other"] (defScope s_Journal_eq) := ⟨rfl, rfl, rfl, by decide +kernel, rfl, by decide +kernel, by decide +kernel⟩
theorem ok_j_eq {f fb CJournal CB aT : Addr} {fd fdb : FuncData} (F : Fun K "__eq__" "Journal.__eq__" s_Journal_eq f fd) (B : Blt mg) (T : Cj P K mg CJournal CB) (jk : ∀ H b dx fs, H b = some (.ins CJournal dx fs) → TyX K H (.ref b) (.ref CJournal))
    (hs : PySem.W.findIn K (.ref CB) "__eq__" = some (some (.ref fb))) (hf : PySem.W.isFn K (.ref fb) = true) (hb : Binds K fdb ["self", "other"] []) (Fb : FnOk P w K mg base CX0 1 fb fdb ["self", "other"] (spEq (EqB CB))) : FnOk P w K mg base CX0 3 f fd ["self", "other"] (spEq (EqJ K aT CJournal CB)) := by
  have c_Journal := T.c
  refine F.ok sc_Journal_eq (fun vs H Q E h => ?_) (fun cdv A outer s H vs Q E hr h => ?_)
  · obtain ⟨a, b, rfl, _⟩ := h
    rfl
  · obtain ⟨i, j, rfl, ⟨b, L, us, xs, ys, hI, hJ⟩, q⟩ := h
    refine ⟨_, (pss_one (ps_ret (pe_and (pe_callB call_isi (by rfl) B.isinstance (by decide +kernel) (pa_cons (pv 1) (pa_cons (pe_glob (v := .ref CJournal) (by rfl) c_Journal rfl) pa_nil))) (pe_and (pe_cmpR (op_eqG (rcG_ins Fb hs hf hb pass0) (hr.mono (by decide))) (pe_fld (pv 0) rfl) (pe_fld (pv 1) rfl) (nomark _)) (pe_one (pe_cmpR (op_eqG (rcG_tup mon_one eqG_one) (hr.mono (by decide))) (pe_fld (pv 0) rfl) (pe_fld (pv 1) rfl) (nomark _))))))), ?_⟩
    obtain ⟨dx, t, kd, h1, h2, h3, hl, h5, h6, h7⟩ := id hI
    obtain ⟨dy, t', kd', g1, g2, g3, gl, g5, g6, g7⟩ := id hJ
    obtain ⟨bx, d, L', b1, b2, b3, nd⟩ := id h2
    refine ⟨_, rfl, _, _, _, _, true, rfl, ClsV.own _, jk _ _ _ _ g1, (by show PySem.W.kitOne K _ _ = _; unfold PySem.W.kitOne; rw [if_pos (by simp)]), _, rfl, iteT ?_⟩
    refine ⟨_, rfl, i, CJournal, dx, _, _, rfl, h1, T.cl, T.nB, jf_b _ _ _, _, rfl, j, CJournal, dy, _, _, rfl, g1, T.cl, T.nB, jf_b _ _ _, ⟨b, b, _, _, _, _, rfl, rfl, b1, b1, rfl, L, h2⟩, fun H1 e1 => ⟨_, rfl, iteT ?_⟩⟩
    refine ⟨_, rfl, i, CJournal, dx, _, _, rfl, e1 _ _ h1, T.cl, T.nE, jf_e _ _ _, _, rfl, j, CJournal, dy, _, _, rfl, e1 _ _ g1, T.cl, T.nE, jf_e _ _ _, ⟨t, t', us, us, rfl, rfl, h3.ext e1, g3.ext e1, rfl, fun n u v a b => ?_⟩, fun H2 e2 => q H2 (e1.trans e2)⟩
    rw [a] at b
    cases b
    have hn := (List.getElem?_eq_some_iff.mp a).1
    obtain ⟨e, he, _⟩ := h5 n u xs[n] a (List.getElem?_eq_getElem (by omega))
    exact ⟨rfl, e, he⟩
end
end Ash

set_option Elab.async false
set_option linter.all false
set_option maxRecDepth 100000
set_option maxHeartbeats 4000000
namespace Ash
open PySem PySem.Spec PyProof.Rows L2
open C8 (pss_cut)
open SrtT (T3 lex3)
theorem Ent.vs_inj : ∀ {x y : Ent}, x.vs = y.vs → x = y
  | .row .., .row .., h => by simp [Ent.vs] at h ⊢; exact h
  | .fix .., .fix .., h => by simp [Ent.vs] at h ⊢; exact h
  | .gone .., .gone .., h => by simp [Ent.vs] at h ⊢; exact h
  | .row .., .fix .., h => by simp [Ent.vs] at h
  | .row .., .gone .., h => by simp [Ent.vs] at h
  | .fix .., .row .., h => by simp [Ent.vs] at h
  | .fix .., .gone .., h => by simp [Ent.vs] at h
  | .gone .., .row .., h => by simp [Ent.vs] at h
  | .gone .., .fix .., h => by simp [Ent.vs] at h
/-- each thing is its entry -/
def ThEs (K : PySem.W.Frag) (H : Hp) (us : List V) (xs : List Ent) : Prop := us.length = xs.length ∧ ∀ (i : Nat) v x, us[i]? = some v → xs[i]? = some x → ThAt K H v (some x)
theorem ThEs.nil {K : PySem.W.Frag} {H : Hp} : ThEs K H [] [] := ⟨rfl, fun i v x h => by simp at h⟩
theorem ThEs.tail {K : PySem.W.Frag} {H : Hp} {u : V} {us : List V} {x : Ent} {xs : List Ent} (h : ThEs K H (u :: us) (x :: xs)) : ThAt K H u (some x) ∧ ThEs K H us xs :=
  ⟨h.2 0 u x rfl rfl, by have := h.1; simp only [List.length_cons] at this; omega, fun i v y a b => h.2 (i + 1) v y a b⟩
theorem ThEs.cons {K : PySem.W.Frag} {H : Hp} {u : V} {us : List V} {x : Ent} {xs : List Ent} (h : ThAt K H u (some x)) (t : ThEs K H us xs) : ThEs K H (u :: us) (x :: xs) :=
  ⟨by rw [List.length_cons, List.length_cons, t.1], fun i v y a b => by
    cases i with
    | zero => cases a; cases b; exact h
    | succ i => exact t.2 i v y a b⟩
theorem ThEs.app {K : PySem.W.Frag} {H : Hp} : ∀ {us vs : List V} {xs ys : List Ent}, ThEs K H us xs → ThEs K H vs ys → ThEs K H (us ++ vs) (xs ++ ys)
  | [], _, [], _, _, g => g
  | u :: us, _, x :: xs, _, h, g => by
    obtain ⟨a, b⟩ := h.tail
    exact ThEs.cons a (b.app g)
  | [], _, _ :: _, _, h, _ => by have := h.1; simp at this
  | _ :: _, _, [], _, h, _ => by have := h.1; simp at this
theorem ThEs.same {K : PySem.W.Frag} {H H' : Hp} {us : List V} {xs : List Ent} (h : ThEs K H us xs) (s : Same H H') : ThEs K H' us xs := ⟨h.1, fun i v x a b => (h.2 i v x a b).same s⟩
/-- the entry that a thing is -/
theorem th_one {K : PySem.W.Frag} {H : Hp} {v : V} {x y : Ent} (h : ThAt K H v (some x)) (g : ThAt K H v (some y)) : x = y := by
  obtain ⟨e, rfl, he, _⟩ := h
  obtain ⟨e', h2, ge, _⟩ := g
  cases h2
  have he : H e = some (.tup x.vs) := he
  have ge : H e = some (.tup y.vs) := ge
  rw [he] at ge
  injection ge with ge
  injection ge with ge
  exact Ent.vs_inj ge
abbrev Asc (l : List Ent) : Prop := l.Pairwise fun a b => a.arr ≤ b.arr
theorem wk_step {L : List (Str × Int)} {x : Ent} {r : List Ent} {i : Nat} {S S1 : Kn} {l : Option Int} (h : wk L ((x :: r).map some) i S l = (none, S1)) : late? l x.arr = false ∧ ∃ y, behind L x (S x.id) = some y ∧ wk L (r.map some) (i + 1) (fun j => if j = x.id then some y else S j) (some x.arr) = (none, S1) := by
  have h : wk L (some x :: r.map some) i S l = (none, S1) := h
  by_cases c : late? l x.arr = true
  · rw [wk_late c] at h
    cases h
  · have c0 : late? l x.arr = false := Bool.eq_false_iff.mpr c
    cases hb : behind L x (S x.id) with
    | none =>
      rw [wk_bad c0 hb] at h
      cases h
    | some y =>
      rw [wk_go c0 hb] at h
      exact ⟨c0, y, rfl, h⟩
/-- a good list's arrivals ascend -/
theorem wk_asc {L : List (Str × Int)} : ∀ {xs : List Ent} {i : Nat} {S : Kn} {l : Option Int}, (wk L (xs.map some) i S l).1 = none → Asc xs
  | [], _, _, _, _ => .nil
  | x :: r, i, S, l, h => by
    have h : (wk L (some x :: r.map some) i S l).1 = none := h
    by_cases c : late? l x.arr = true
    · rw [wk_late c] at h
      cases h
    · have c0 : late? l x.arr = false := Bool.eq_false_iff.mpr c
      cases hb : behind L x (S x.id) with
      | none =>
        rw [wk_bad c0 hb] at h
        cases h
      | some y =>
        rw [wk_go c0 hb] at h
        exact List.pairwise_cons.mpr ⟨fun z hz => wk_ge h z hz, wk_asc h⟩
theorem JAt.es {K : PySem.W.Frag} {aT CJ CB : Addr} {H : Hp} {j b : Addr} {L : List (Str × Int)} {us : List V} {xs : List Ent} (h : JAt K aT CJ CB H j b L us xs) : ThEs K H us xs ∧ Asc xs := by
  obtain ⟨dx, t, kd, h1, h2, h3, h4, h5, h6, h7⟩ := h
  exact ⟨⟨h4, h5⟩, wk_asc h6⟩
theorem list_take' {xs : List Ent} {i : Nat} {x : Ent} (h : xs[i]? = some x) : xs.take (i + 1) = xs.take i ++ [x] := by
  have := (List.getElem?_eq_some_iff.mp h)
  obtain ⟨l, e⟩ := this
  rw [List.take_succ, h]
  rfl
theorem ent_at1 (x : Ent) : atI x.vs 1 = some (.int x.id) := by cases x <;> rfl
end Ash

set_option Elab.async false
set_option linter.all false
set_option maxRecDepth 100000
set_option maxHeartbeats 4000000
namespace Ash
open PySem PySem.Spec PyProof.Rows L2 SrtT
open C8 (pss_cut)
/-! ### states made of entries, their rows -/
/-- StAt, each key once -/
def StK (H : Hp) (d : Addr) (S : Kn) (n : Nat) : Prop := ∃ kvs : List (Key × V), H d = some (.dK kvs) ∧ kvs.length ≤ n ∧ ((∀ kv ∈ kvs, ∃ id, kv.1 = Sum.inl id) ∧ (kvs.map (·.1)).Nodup) ∧ ∀ id, SV H (valV kvs (Sum.inl id)) (S id)
theorem StK.put {H H1 : Hp} {ds : Addr} {S : Kn} {n : Nat} {kvs : List (Key × V)} {id : Int} {v : V} {y : RowSt} (h1 : H ds = some (.dK kvs)) (h2 : kvs.length ≤ n) (h3 : (∀ kv ∈ kvs, ∃ id, kv.1 = Sum.inl id) ∧ (kvs.map (·.1)).Nodup) (h4 : ∀ id, SV H (valV kvs (Sum.inl id)) (S id))
    (s : Same H H1) (hv : SV H1 (some v) (some y)) : StK (upd H1 ds (.dK (putK kvs (Sum.inl id) v))) ds (setK S id y) (n + 1) := by
  obtain ⟨kk, a1, a2, a3, a4⟩ := StAt.put h1 h2 h3.1 h4 s hv
  rw [upd_same] at a1
  cases a1
  have q := (KLen.put (n := n) ⟨h2, h3.2, h3.1⟩ id v)
  exact ⟨_, upd_same, a2, ⟨a3, q.nd⟩, a4⟩
def spPutK : Sp := fun vs H Q _ => ∃ (ds e : Addr) (L : List (Str × Int)) (S : Kn) (n : Nat) (x : Ent) (y : RowSt), vs = [.ref ds, .ref e] ∧ StK H ds S n ∧ n ≤ 900 ∧ EntAt H e x ∧ behind L x (S x.id) = some y ∧
  ∀ H', StK H' ds (setK S x.id y) (n + 1) → (∀ c o, H c = some o → c ≠ ds → H' c = some o) → Q .non H'
def spStates : Sp := fun vs H Q _ => ∃ (a : Addr) (L : List (Str × Int)) (us : List V) (xs : List Ent) (S1 : Kn), vs = [.ref a] ∧ H a = some (.lst us) ∧ Ents H us xs ∧ xs.length ≤ 900 ∧ wk L (xs.map some) 0 (fun _ => none) none = (none, S1) ∧
  ∀ d H', H d = none → StK H' d S1 xs.length → Same H H' → Q (.ref d) H'
theorem wk_pre {L : List (Str × Int)} : ∀ {xs : List Ent} {i : Nat} {S S1 : Kn} {l : Option Int}, wk L (xs.map some) i S l = (none, S1) → ∀ k, ∃ Sk, wk L ((xs.take k).map some) i S l = (none, Sk)
  | [], _, S, _, _, _, k => ⟨S, by rw [List.take_nil]; rfl⟩
  | x :: xs, i, S, S1, l, h, 0 => ⟨S, rfl⟩
  | x :: xs, i, S, S1, l, h, k + 1 => by
    obtain ⟨c, y, h2, h3⟩ := wk_step h
    obtain ⟨Sk, hk⟩ := wk_pre h3 k
    refine ⟨Sk, ?_⟩
    rw [List.take_succ_cons]
    show wk L (some x :: (xs.take k).map some) i S l = _
    rw [wk_go c h2]
    exact hk
theorem wk_nth {L : List (Str × Int)} {xs : List Ent} {S S1 Sk : Kn} {l : Option Int} {k : Nat} {x : Ent} (h : wk L (xs.map some) 0 S l = (none, S1)) (hx : xs[k]? = some x) (hk : wk L ((xs.take k).map some) 0 S l = (none, Sk)) :
    ∃ y, behind L x (Sk x.id) = some y ∧ wk L ((xs.take (k + 1)).map some) 0 S l = (none, setK Sk x.id y) := by
  obtain ⟨S2, h2⟩ := wk_pre h (k + 1)
  have h2' := h2
  rw [list_take' hx, List.map_append] at h2
  have h2 : wk L ((xs.take k).map some ++ [some x]) 0 S l = _ := h2
  rw [wk_app [some x] hk] at h2
  obtain ⟨c, y, b, e⟩ := wk_step (r := []) h2
  refine ⟨y, b, ?_⟩
  rw [h2', ← e]
  rfl
def spLRows : Sp := fun vs H Q _ => ∃ (a : Addr) (L : List (Str × Int)) (us : List V) (xs : List Ent) (S1 : Kn) (z k : Str), vs = [.ref a, .str z, .str k] ∧ H a = some (.lst us) ∧ Ents H us xs ∧ xs.length ≤ 900 ∧ wk L (xs.map some) 0 (fun _ => none) none = (none, S1) ∧
  ∀ p ys ts H', Same H H' → H p = none → H' p = some (.lst ys) → TrAt H' ys ts → ys.length ≤ xs.length → RowsOf S1 z k ts → Q (.ref p) H'
theorem sel_allS {H : Hp} {kvs : List (Key × V)} {S : Kn} {z k : Str} {n : Nat} (hk : KLen kvs n) (hr : ∀ id, SV H (valV kvs (Sum.inl id)) (S id)) (hs : ∀ id, S id ≠ none → valV kvs (Sum.inl id : Key) ≠ none) : ∀ t, t ∈ kvs.filterMap (selK S z k) ↔ pick S z k t.2.1 = some t := by
  intro t
  rw [List.mem_filterMap]
  constructor
  · rintro ⟨kv, h1, h2⟩
    obtain ⟨id, e⟩ := hk.ik kv h1
    unfold selK at h2
    rw [e] at h2
    have := pick_id h2
    rw [this]
    exact h2
  · intro h
    have hS : S t.2.1 ≠ none := fun e => by
      unfold pick at h
      rw [e] at h
      cases h
    cases e : valV kvs (Sum.inl t.2.1 : Key) with
    | none => exact absurd e (hs _ hS)
    | some v =>
      obtain ⟨kv, h1, h2⟩ := mem_of_valV e
      refine ⟨kv, h1, ?_⟩
      unfold selK
      rw [h2]
      exact h
section
variable {P : Program} {w : World} {K : PySem.W.Frag} {mg : Str → Option Value} {base : Heap}
theorem ok_putk {f : Addr} {fd : FuncData} (F : Fun K "_law_put" "_law_put" s_l_put f fd) (B : Blt mg) : FnOk P w K mg base CX0 1 f fd ["states", "entry"] spPutK := by
  refine F.ok sc_l_put (fun vs H Q E h => ?_) (fun cdv A outer s H vs Q E hr h => ?_)
  · obtain ⟨ds, e, L, S, n, x, y, rfl, _⟩ := h
    rfl
  · obtain ⟨ds, e, L, S, n, x, y, rfl, hst, hn, hx, hb, q⟩ := h
    have hu := hu_of hr
    obtain ⟨kvs, h1, h2, h3, h4⟩ := id hst
    refine ⟨_, (pss_one (ps_if (pt_cmpR op_eq (pe_ix ix_tup (pv 1) pe_int (fun _ _ => rfl)) pe_str (nomark _))
      (pss_one (ps_dput hu (pv 0) (pe_ix ix_tup (pv 1) pe_int (fun _ _ => rfl)) (pe_tup (pa_cons (pe_ix ix_tup (pv 1) pe_int (fun _ _ => rfl)) (pa_cons (pe_ix ix_tup (pv 1) pe_int (fun _ _ => rfl)) (pa_cons (pe_ix ix_tup (pv 1) pe_int (fun _ _ => rfl)) (pa_cons (pe_ix ix_tup (pv 1) pe_int (fun _ _ => rfl)) pa_nil))))) rfl))
      (pss_one (ps_if (pt_cmpR op_eq (pe_ix ix_tup (pv 1) pe_int (fun _ _ => rfl)) pe_str (nomark _))
        (pss_cons (ps_set (i := 2) sc_l_put.nd rfl (Or.inl rfl) (pe_dget hu (pv 0) (pe_ix ix_tup (pv 1) pe_int (fun _ _ => rfl)) (fun _ _ => rfl)))
        (pss_one (ps_dput hu (pv 0) (pe_ix ix_tup (pv 1) pe_int (fun _ _ => rfl)) (pe_tup (pa_cons (pe_ix ix_tup (pv 2) pe_int (fun _ _ => rfl)) (pa_cons (pe_ix ix_tup (pv 2) pe_int (fun _ _ => rfl)) (pa_cons (pe_ix ix_tup (pv 1) pe_int (fun _ _ => rfl)) (pa_cons (pe_ix ix_tup (pv 1) pe_int (fun _ _ => rfl)) pa_nil))))) rfl)))
        (pss_one (ps_dput hu (pv 0) (pe_ix ix_tup (pv 1) pe_int (fun _ _ => rfl)) pe_non rfl)))))), ?_⟩
    cases x with
    | row id z k m a r =>
      obtain rfl := behind_row hb
      refine ⟨_, rfl, _, _, _, _, rfl, rfl, SqT.of hx, rfl, rfl, _, rfl, iteT ?_⟩
      refine ⟨_, rfl, _, _, _, _, rfl, rfl, SqT.of hx, rfl, _, rfl, _, _, _, _, rfl, rfl, SqT.of hx, rfl, _, rfl, _, _, _, _, rfl, rfl, SqT.of hx, rfl, _, rfl, _, _, _, _, rfl, rfl, SqT.of hx, rfl, (by show 4 ≤ sizeLine; decide), fun t ht => ?_⟩
      have s1 := sameAt (Same.refl H) ht (o := .tup [.str z, .str k, .int m, .int a])
      have hx1 : EntAt (upd H t (.tup [.str z, .str k, .int m, .int a])) e (.row id z k m a r) := s1 _ _ hx
      refine ⟨_, rfl, _, rfl, _, _, _, _, rfl, rfl, SqT.of hx1, rfl, ds, _, rfl, DPut.k (k := Sum.inl id) (s1 _ _ h1) (small1000 (by omega)), ?_⟩
      exact q _ (StK.put h1 h2 h3 h4 s1 ⟨t, rfl, upd_same⟩) fun c o hc hn => by rw [upd_ne hn]; exact s1 _ _ hc
    | fix id m a r =>
      obtain ⟨z, k, m0, a0, eS, rfl⟩ := behind_fix hb
      have sv := h4 id
      have eS : S id = some (.at_ z k m0 a0) := eS
      rw [eS] at sv
      obtain ⟨v, hv⟩ : ∃ v, valV kvs (Sum.inl id) = some v := by
        cases e : valV kvs (Sum.inl id : Key) with
        | none => rw [e] at sv; exact absurd sv (fun z => z)
        | some v => exact ⟨v, rfl⟩
      rw [hv] at sv
      obtain ⟨t0, rfl, ht0⟩ := sv
      have hg := DGet.k (k := Sum.inl id) h1
      rw [hv] at hg
      refine ⟨_, rfl, _, _, _, _, rfl, rfl, SqT.of hx, rfl, rfl, _, rfl, iteF ?_⟩
      refine ⟨_, rfl, _, _, _, _, rfl, rfl, SqT.of hx, rfl, rfl, _, rfl, iteT ?_⟩
      refine ⟨_, rfl, _, rfl, _, _, _, _, rfl, rfl, SqT.of hx, rfl, ds, _, rfl, hg, ?_⟩
      refine ⟨_, rfl, _, _, _, _, rfl, rfl, SqT.of ht0, rfl, _, rfl, _, _, _, _, rfl, rfl, SqT.of ht0, rfl, _, rfl, _, _, _, _, rfl, rfl, SqT.of hx, rfl, _, rfl, _, _, _, _, rfl, rfl, SqT.of hx, rfl, (by show 4 ≤ sizeLine; decide), fun t ht => ?_⟩
      have s1 := sameAt (Same.refl H) ht (o := .tup [.str z, .str k, .int m, .int a])
      have hx1 : EntAt (upd H t (.tup [.str z, .str k, .int m, .int a])) e (.fix id m a r) := s1 _ _ hx
      refine ⟨_, rfl, _, rfl, _, _, _, _, rfl, rfl, SqT.of hx1, rfl, ds, _, rfl, DPut.k (k := Sum.inl id) (s1 _ _ h1) (small1000 (by omega)), ?_⟩
      exact q _ (StK.put h1 h2 h3 h4 s1 ⟨t, rfl, upd_same⟩) fun c o hc hn => by rw [upd_ne hn]; exact s1 _ _ hc
    | gone id r =>
      obtain rfl := behind_gone hb
      refine ⟨_, rfl, _, _, _, _, rfl, rfl, SqT.of hx, rfl, rfl, _, rfl, iteF ?_⟩
      refine ⟨_, rfl, _, _, _, _, rfl, rfl, SqT.of hx, rfl, rfl, _, rfl, iteF ?_⟩
      refine ⟨_, rfl, _, rfl, _, _, _, _, rfl, rfl, SqT.of hx, rfl, ds, _, rfl, DPut.k (k := Sum.inl id) h1 (small1000 (by omega)), ?_⟩
      exact q _ (StK.put h1 h2 h3 h4 (Same.refl H) rfl) fun c o hc hn => by rw [upd_ne hn]; exact hc
structure G4k (P : Program) (w : World) (K : PySem.W.Frag) (mg : Str → Option Value) (base : Heap) : Prop where
  law_put : Cal P w K mg base CX0 "_law_put" 1 ["states", "entry"] spPutK
abbrev s_l_states : Stmt := topS 41
theorem sc_l_states : FnScope ["entries", "states", "entry"] ["entries"] (defScope s_l_states) := ⟨rfl, rfl, rfl, by decide +kernel, rfl, by decide +kernel, by decide +kernel⟩
theorem ok_states {f : Addr} {fd : FuncData} (F : Fun K "_law_states" "_law_states" s_l_states f fd) (B : Blt mg) (G : G4k P w K mg base) : FnOk P w K mg base CX0 2 f fd ["entries"] spStates := by
  refine F.ok sc_l_states (fun vs H Q E h => ?_) (fun cdv A outer s H vs Q E hr h => ?_)
  · obtain ⟨a, L, us, xs, S1, rfl, _⟩ := h
    rfl
  · obtain ⟨a, L, us, xs, S1, rfl, ha, hE, h9, hw, q⟩ := h
    refine ⟨_, (pss_cons (ps_set (i := 1) sc_l_states.nd rfl (Or.inl rfl) pe_dnewK)
    (pss_cons (ps_for PassesOwn.never rfl (pi_list (pv 0)) (pg_name (i := 2) sc_l_states.nd rfl (Or.inl rfl))
      (pss_one (ps_expr (pe_cal G.law_put (hr.mono (by decide)) pass0 (pa_cons (pv 1) (pa_cons (pv 2) pa_nil))))))
    (pss_one (ps_ret (pv 1))))), ?_⟩
    intro d hd
    have s1 := sameAt (Same.refl H) hd (o := .dK [])
    refine ⟨_, rfl, a, rfl, ⟨_, SqL.of (s1 _ _ ha)⟩, for_list (K := K) (a := a) (xs := us) (fun i σ H1 => (∃ b, σ = [some (.ref a), some (.ref d), b]) ∧ H1 a = some (.lst us) ∧ (∃ Si, wk L ((xs.take i).map some) 0 (fun _ => none) none = (none, Si) ∧ StK H1 d Si i) ∧ Same H H1) ?_ (fun i σ H1 _ hv => SqL.of hv.2.1) ?_ ?_⟩
    · exact ⟨⟨_, rfl⟩, s1 _ _ ha, ⟨_, rfl, [], upd_same, Nat.zero_le _, ⟨(fun _ h => nomatch h), .nil⟩, fun id => True.intro⟩, s1⟩
    · rintro i v σ H1 hi ⟨⟨b, rfl⟩, ha1, ⟨Si, hwi, hst⟩, sH⟩
      have hil := (List.getElem?_eq_some_iff.mp hi).1
      obtain ⟨x, hx⟩ : ∃ x, xs[i]? = some x := ⟨_, List.getElem?_eq_getElem (by rw [← hE.1]; exact hil)⟩
      obtain ⟨e, rfl, he, hok⟩ := hE.2 i v x hi hx
      obtain ⟨y, hb, hw1⟩ := wk_nth hw hx hwi
      have := hE.1
      obtain ⟨kvs, hd1, _⟩ := id hst
      refine ⟨_, rfl, _, rfl, d, e, L, Si, i, x, y, rfl, hst, by omega, sH _ _ he, hb, fun H2 st2 k2 => ?_⟩
      have sd : Same H H2 := fun c o hc => k2 c o (sH _ _ hc) (fun z => by rw [z, hd] at hc; cases hc)
      exact ⟨⟨_, rfl⟩, k2 _ _ ha1 (fun z => by rw [z, hd1] at ha1; cases ha1), ⟨_, hw1, st2⟩, sd⟩
    · rintro σ H1 ⟨⟨b, rfl⟩, ha1, ⟨Si, hwi, hst⟩, sH⟩
      rw [hE.1] at hwi hst
      rw [List.take_length, hw] at hwi
      cases hwi
      exact ⟨_, rfl, q d _ hd hst sH⟩
structure G5k (P : Program) (w : World) (K : PySem.W.Frag) (mg : Str → Option Value) (base : Heap) : Prop extends G4k P w K mg base where
  law_states : Cal P w K mg base CX0 "_law_states" 2 ["entries"] spStates
abbrev s_l_rows : Stmt := topS 42
theorem sc_l_rows : FnScope ["entries", "stream", "key", "states", "found", "number"] ["entries", "stream", "key"] (defScope s_l_rows) := ⟨rfl, rfl, rfl, by decide +kernel, rfl, by decide +kernel, by decide +kernel⟩
theorem ok_lrows {f : Addr} {fd : FuncData} (F : Fun K "_law_rows" "_law_rows" s_l_rows f fd) (B : Blt mg) (G : G5k P w K mg base) : FnOk P w K mg base CX0 3 f fd ["entries", "stream", "key"] spLRows := by
  refine F.ok sc_l_rows (fun vs H Q E h => ?_) (fun cdv A outer s H vs Q E hr h => ?_)
  · obtain ⟨a, L, us, xs, S1, z, k, rfl, _⟩ := h
    rfl
  · obtain ⟨a, L, us, xs, S, z, k, rfl, ha, hE, h9, hw, q⟩ := h
    have hu := hu_of hr
    refine ⟨_, (pss_cons (ps_set (i := 3) sc_l_rows.nd rfl (Or.inl rfl) (pe_cal G.law_states (hr.mono (by decide)) pass0 (pa_cons (pv 0) pa_nil)))
    (pss_cons (ps_set (i := 4) sc_l_rows.nd rfl (Or.inl rfl) (pe_lst pa_nil))
    (pss_cons (ps_for PassesOwn.never rfl (pi_list (pe_callTy (call_listD (by rfl)) (by rfl) B.list (by decide +kernel) (pa_cons (pv 3) pa_nil))) (pg_name (i := 5) sc_l_rows.nd rfl (Or.inl rfl))
      (pss_one (ps_if (PW.pt (pw_and (pt_cmpR op_notN (pe_dget hu (pv 3) (pv 5) (fun _ _ => rfl)) pe_non (nomark _)) (pw_and (pt_cmpR op_eq (pe_ix ix_tup (pe_dget hu (pv 3) (pv 5) (fun _ _ => rfl)) pe_int (fun _ _ => rfl)) (pv 1) (nomark _)) (pw_and1 (pt_cmpR op_eq (pe_ix ix_tup (pe_dget hu (pv 3) (pv 5) (fun _ _ => rfl)) pe_int (fun _ _ => rfl)) (pv 2) (nomark _))))))
        (pss_one (ps_expr (pe_bm PySem.F.plainAttrs_list PySem.F.slot_list_append PySem.F.type_list_append mt_append (pv 4) (pa_cons (pe_tup (pa_cons (pe_ix ix_tup (pe_dget hu (pv 3) (pv 5) (fun _ _ => rfl)) pe_int (fun _ _ => rfl)) (pa_cons (pv 5) (pa_cons (pe_ix ix_tup (pe_dget hu (pv 3) (pv 5) (fun _ _ => rfl)) pe_int (fun _ _ => rfl)) pa_nil)))) pa_nil))))
        pss_nil)))
    (pss_one (ps_ret (pe_callB cr_sorted3 (by rfl) B.sorted (by decide +kernel) (pa_cons (pv 4) pa_nil))))))), ?_⟩
    refine ⟨_, rfl, a, L, us, xs, S, rfl, ha, hE, h9, hw, fun d H1 hd hst s1 => ⟨(by show 0 ≤ sizeLine; decide), fun q0 hq0 => ?_⟩⟩
    obtain ⟨kvs, n1, n2, n3, n4⟩ := id hst
    have n5 : KLen kvs xs.length := ⟨n2, n3.2, n3.1⟩
    have s2 := sameAt (Same.refl H1) hq0 (o := .lst [])
    refine ⟨_, rfl, d, kvs, rfl, .of (s2 _ _ n1), fun l hl => ⟨l, rfl, ⟨_, SqL.of upd_same⟩, ?_⟩⟩
    have hql : q0 ≠ l := fun z => by rw [← z, upd_same] at hl; cases hl
    have s3 : Same H1 (upd (upd H1 q0 (.lst [])) l (.lst (kvs.map fun kv => kV kv.1))) := s2.trans (sameAt (Same.refl _) hl)
    refine for_list (K := K) (a := l) (xs := kvs.map fun kv => kV kv.1) (fun i σ H3 => ∃ (ys : List V), (∃ b, σ = [some (.ref a), some (.str z), some (.str k), some (.ref d), some (.ref q0), b]) ∧ H3 q0 = some (.lst ys) ∧ H3 l = some (.lst (kvs.map fun kv => kV kv.1)) ∧ TrAt H3 ys ((kvs.take i).filterMap (selK S z k)) ∧ ys.length ≤ i ∧ Same H1 H3) ?_ (fun i σ H3 _ ⟨_, hv⟩ => SqL.of hv.2.2.1) ?_ ?_
    · exact ⟨[], ⟨_, rfl⟩, by rw [upd_ne hql]; exact upd_same, upd_same, ⟨rfl, fun i v t a b => by simp at a⟩, Nat.le_refl _, s3⟩
    · rintro i x σ H3 hi ⟨ys, ⟨b, rfl⟩, g1, gl, g2, g3, s4⟩
      obtain ⟨kv, hkv, rfl⟩ : ∃ kv, kvs[i]? = some kv ∧ x = kV kv.1 := by
        rw [List.getElem?_map] at hi
        cases e : kvs[i]? with
        | none => rw [e] at hi; cases hi
        | some z => rw [e] at hi; exact ⟨z, rfl, (Option.some.inj hi).symm⟩
      have hil : i < kvs.length := (List.getElem?_eq_some_iff.mp hkv).1
      have hm := List.mem_of_getElem? hkv
      obtain ⟨id, hid⟩ := n3.1 _ hm
      have hv := valV_of n3.2 kv hm
      rw [hid] at hv ⊢
      have sv := (n4 id).but (fun t xs e => s4 _ _ e)
      rw [hv] at sv
      have hg := DGet.k (k := Sum.inl id) (s4 _ _ n1)
      rw [hv] at hg
      have hne : ∀ (o : Option T3), selK S z k kv = o → (kvs.take (i + 1)).filterMap (selK S z k) = (kvs.take i).filterMap (selK S z k) ++ o.toList := fun o ho => by
        rw [list_take hkv, List.filterMap_append]
        congr 1
        rw [List.filterMap_cons, ho]
        cases o <;> rfl
      have hsel : selK S z k kv = pick S z k id := by
        unfold selK
        rw [hid]
      have stay : selK S z k kv = none → TrAt H3 ys ((kvs.take (i + 1)).filterMap (selK S z k)) := fun e => by
        rw [hne none e, Option.toList_none, List.append_nil]
        exact g2
      cases eS : S id with
      | none => rw [eS] at sv; exact absurd sv (fun z => z)
      | some r =>
        rw [eS] at sv
        cases r with
        | tb =>
          have sv : kv.2 = .non := sv
          rw [sv] at hg
          refine ⟨_, rfl, _, rfl, d, _, rfl, hg, rfl, _, rfl, iteF ?_⟩
          exact ⟨ys, ⟨_, rfl⟩, g1, gl, stay (by rw [hsel]; unfold pick; rw [eS]), by omega, s4⟩
        | at_ z' k' m am =>
          obtain ⟨tt, e5, htt⟩ := sv
          rw [e5] at hg
          have hpk : pick S z k id = if z' = z ∧ k' = k then some (m, id, am) else none := by
            unfold pick
            rw [eS]
          have no : ¬ (z' = z ∧ k' = k) → selK S z k kv = none := fun h => by rw [hsel, hpk, if_neg h]
          refine ⟨_, rfl, _, rfl, d, _, rfl, hg, rfl, _, rfl, iteT ?_⟩
          refine ⟨_, rfl, _, rfl, d, _, rfl, hg, _, _, _, _, rfl, rfl, SqT.of htt, rfl, _, rfl, rfl, _, rfl, ?_⟩
          refine ite2 (fun c1 => ?_) (fun c1 => ?_)
          · have ez : z' = z := V.str.inj (of_decide_eq_true c1)
            refine ⟨_, rfl, _, rfl, d, _, rfl, hg, _, _, _, _, rfl, rfl, SqT.of htt, rfl, _, rfl, rfl, _, rfl, ?_⟩
            refine ite2 (fun c2 => ?_) (fun c2 => ?_)
            · have ek : k' = k := V.str.inj (of_decide_eq_true c2)
              refine ⟨_, rfl, .inl ⟨rfl, _, SqL.of g1⟩, _, rfl, _, rfl, d, _, rfl, hg, _, _, _, _, rfl, rfl, SqT.of htt, rfl, _, rfl, _, rfl, _, rfl, d, _, rfl, hg, _, _, _, _, rfl, rfl, SqT.of htt, rfl, (by show 3 ≤ sizeLine; decide), fun e he => ?_⟩
              have s5 : Same H3 (upd H3 e (.tup [.int m, .int id, .int am])) := sameAt (Same.refl _) he
              refine ⟨q0, ys, _, rfl, rfl, s5 _ _ g1, small1000 (by omega), ?_⟩
              have off : ∀ t xs, (upd H3 e (.tup [.int m, .int id, .int am])) t = some (.tup xs) → (upd (upd H3 e (.tup [.int m, .int id, .int am])) q0 (.lst (ys ++ [.ref e]))) t = some (.tup xs) := fun t xs h => by
                rw [upd_ne (ne_of h (s5 _ _ g1) (by intro z; cases z))]
                exact h
              refine ⟨ys ++ [.ref e], ⟨_, rfl⟩, upd_same, by rw [upd_ne (Ne.symm hql)]; exact s5 _ _ gl, ?_, by rw [List.length_append]; show ys.length + 1 ≤ i + 1; omega, sameAt (s4.trans s5) hq0⟩
              rw [hne (some (m, id, am)) (by rw [hsel, hpk, if_pos ⟨ez, ek⟩])]
              refine (TrAt.snoc (t := (m, id, am)) (g2.tk fun t xs h => s5 _ _ h) (?_ : (upd H3 e (.tup [.int m, .int id, .int am])) e = _)).tk off
              rw [upd_same]
              rfl
            · exact ⟨ys, ⟨_, rfl⟩, g1, gl, stay (no fun h => c2 (decide_eq_true (by rw [h.2]))), by omega, s4⟩
          · exact ⟨ys, ⟨_, rfl⟩, g1, gl, stay (no fun h => c1 (decide_eq_true (by rw [h.1]))), by omega, s4⟩
    · rintro σ H3 ⟨ys, ⟨b, rfl⟩, g1, gl, g2, g3, s4⟩
      rw [List.length_map] at g2 g3
      rw [List.take_length] at g2
      have gm := g2.map
      have hs : ∀ id, S id ≠ none → valV kvs (Sum.inl id : Key) ≠ none := fun id h e => by
        have := n4 id
        rw [e] at this
        cases eS : S id with
        | none => exact h eS
        | some r => rw [eS] at this; exact this
      have sF := s1.trans s4
      refine ⟨_, rfl, q0, ys, triOf H3, rfl, SqL.of g1, fun x hx => ?_, fun zs p hs' hp hnew => ?_⟩
      · obtain ⟨i, hi, e⟩ := List.getElem_of_mem hx
        obtain ⟨e1, h1, h2⟩ := g2.2 i _ _ (List.getElem?_eq_getElem hi) (List.getElem?_eq_getElem (by rw [← g2.1]; exact hi))
        refine ⟨e1, by rw [← e, h1], ?_⟩
        rw [← e, h1, triOf_at h2]
        exact h2
      · have sp : Same H3 (upd H3 p (.lst zs)) := sameAt (Same.refl _) hnew
        refine q p zs (zs.map (triOf H3)) _ (sF.trans sp) (none_of sF hnew) upd_same ⟨by rw [List.length_map], fun i v t a b => ?_⟩ (by have := hp.length_eq; omega) (rows_of (sel_allS n5 n4 hs) (sel_nd n5) (by rw [← gm]; exact hp.map _) (List.pairwise_map.mpr hs'))
        rw [List.getElem?_map, a] at b
        cases b
        have hv := hp.mem_iff.mp (List.mem_of_getElem? a)
        obtain ⟨i', hi', e⟩ := List.getElem_of_mem hv
        obtain ⟨e1, h1, h2⟩ := g2.2 i' _ _ (List.getElem?_eq_getElem hi') (List.getElem?_eq_getElem (by rw [← g2.1]; exact hi'))
        rw [e] at h1
        subst h1
        exact ⟨e1, rfl, sp _ _ (by rw [triOf_at h2]; exact h2)⟩
end
end Ash

set_option Elab.async false
set_option linter.all false
set_option maxRecDepth 100000
set_option maxHeartbeats 4000000
namespace Ash
open PySem PySem.Spec PyProof.Rows L2
open C8 (pss_cut)
/-! ### entries as data -/
def Ent.pd : Ent → PyData
  | .row id s k m a r => .tuple [.str "row", .int id, .str s, .str k, .int m, .int a, .int r]
  | .fix id m a r => .tuple [.str "fix", .int id, .int m, .int a, .int r]
  | .gone id r => .tuple [.str "gone", .int id, .int r]
theorem pd_dp {K : PySem.W.Frag} {H : Hp} {e : Addr} {x : Ent} (h : EntAt H e x) : Dp K H (.ref e) x.pd := by
  cases x with
  | row id s k m a r => exact .tup (SqT.of h) (.cons (.str _) (.cons (.int _) (.cons (.str _) (.cons (.str _) (.cons (.int _) (.cons (.int _) (.cons (.int _) .nil)))))))
  | fix id m a r => exact .tup (SqT.of h) (.cons (.str _) (.cons (.int _) (.cons (.int _) (.cons (.int _) (.cons (.int _) .nil)))))
  | gone id r => exact .tup (SqT.of h) (.cons (.str _) (.cons (.int _) (.cons (.int _) .nil)))
theorem pd_flat {x : Ent} (h : x.ok) : x.pd.canLay0 = true ∧ x.pd.depth ≤ 2 := by
  cases x with
  | row id s k m a r =>
    obtain ⟨hs, hk⟩ := h.2 _ _ _ _ _ _ rfl
    have e1 := nm_ok hs
    have e2 := nm_ok hk
    have e3 : PyData.strOk "row" = true := by decide +kernel
    simp [Ent.pd, PyData.canLay0, PyData.canLayAll0, PyData.depth, PyData.depthAll, e1, e2, e3]
  | fix id m a r =>
    have e3 : PyData.strOk "fix" = true := by decide +kernel
    simp [Ent.pd, PyData.canLay0, PyData.canLayAll0, PyData.depth, PyData.depthAll, e3]
  | gone id r =>
    have e3 : PyData.strOk "gone" = true := by decide +kernel
    simp [Ent.pd, PyData.canLay0, PyData.canLayAll0, PyData.depth, PyData.depthAll, e3]
theorem pds_flat : ∀ {xs : List Ent}, (∀ x ∈ xs, x.ok) → PyData.canLayAll0 (xs.map Ent.pd) = true ∧ PyData.depthAll (xs.map Ent.pd) ≤ 2
  | [], _ => by simp [PyData.canLayAll0, PyData.depthAll]
  | x :: xs, h => by
    obtain ⟨a1, a2⟩ := pd_flat (h x List.mem_cons_self)
    obtain ⟨b1, b2⟩ := pds_flat fun z hz => h z (List.mem_cons_of_mem _ hz)
    rw [List.map_cons]
    simp only [PyData.canLayAll0, PyData.depthAll, a1, b1, Bool.and_self, true_and]
    omega
theorem pds_l {xs : List Ent} (h : ∀ x ∈ xs, x.ok) : SeqAt.shaped (.list (xs.map Ent.pd)) = true := by
  obtain ⟨h1, h2⟩ := pds_flat h
  unfold SeqAt.shaped
  simp [PyData.canLay0, PyData.depth, h1]
  omega
theorem pds_t {xs : List Ent} (h : ∀ x ∈ xs, x.ok) : SeqAt.shaped (.tuple (xs.map Ent.pd)) = true := by
  obtain ⟨h1, h2⟩ := pds_flat h
  unfold SeqAt.shaped
  simp [PyData.canLay0, PyData.depth, h1]
  omega
theorem ThEs.dp {K : PySem.W.Frag} {H : Hp} : ∀ {us : List V} {xs : List Ent}, ThEs K H us xs → DpAll K H us (xs.map Ent.pd)
  | [], [], _ => .nil
  | u :: us, x :: xs, h => by
    obtain ⟨a, b⟩ := h.tail
    obtain ⟨e, rfl, he, _⟩ := a
    exact .cons (pd_dp he) (ThEs.dp b)
  | [], _ :: _, h => by have := h.1; simp at this
  | _ :: _, [], h => by have := h.1; simp at this
theorem ThEs.ok {K : PySem.W.Frag} {H : Hp} {us : List V} {xs : List Ent} (h : ThEs K H us xs) : ∀ x ∈ xs, x.ok := th_ok h.1 h.2
theorem ThEs.of {K : PySem.W.Frag} {H : Hp} {us : List V} {xs : List Ent} (h : Ents H us xs) : ThEs K H us xs := ⟨h.1, fun i v x a b => h.2 i v x a b⟩
theorem ThEs.to {K : PySem.W.Frag} {H : Hp} {us : List V} {xs : List Ent} (h : ThEs K H us xs) : Ents H us xs := ⟨h.1, fun i v x a b => h.2 i v x a b⟩
/-- journals of the same entries, in whatever objects -/
def EqJc (K : PySem.W.Frag) (aT CJ CB : Addr) : Addr → Addr → Hp → Prop := fun i j H => ∃ b L us us' xs, JAt K aT CJ CB H i b L us xs ∧ JAt K aT CJ CB H j b L us' xs
section
variable {P : Program} {w : World} {K : PySem.W.Frag} {mg : Str → Option Value} {base : Heap}
theorem ok_j_eqc {f fb CJournal CB aT : Addr} {fd fdb : FuncData} (F : Fun K "__eq__" "Journal.__eq__" s_Journal_eq f fd) (B : Blt mg) (T : Cj P K mg CJournal CB) (jk : ∀ H b dx fs, H b = some (.ins CJournal dx fs) → TyX K H (.ref b) (.ref CJournal))
    (hs : PySem.W.findIn K (.ref CB) "__eq__" = some (some (.ref fb))) (hf : PySem.W.isFn K (.ref fb) = true) (hb : Binds K fdb ["self", "other"] []) (Fb : FnOk P w K mg base CX0 1 fb fdb ["self", "other"] (spEq (EqB CB))) : FnOk P w K mg base CX0 3 f fd ["self", "other"] (spEq (EqJc K aT CJournal CB)) := by
  have c_Journal := T.c
  refine F.ok sc_Journal_eq (fun vs H Q E h => ?_) (fun cdv A outer s H vs Q E hr h => ?_)
  · obtain ⟨a, b, rfl, _⟩ := h
    rfl
  · obtain ⟨i, j, rfl, ⟨b, L, us, us', xs, hI, hJ⟩, q⟩ := h
    refine ⟨_, (pss_one (ps_ret (pe_and (pe_callB call_isi (by rfl) B.isinstance (by decide +kernel) (pa_cons (pv 1) (pa_cons (pe_glob (v := .ref CJournal) (by rfl) c_Journal rfl) pa_nil))) (pe_and (pe_cmpR (op_eqG (rcG_ins Fb hs hf hb pass0) (hr.mono (by decide))) (pe_fld (pv 0) rfl) (pe_fld (pv 1) rfl) (nomark _)) (pe_one (pe_cmpR (op_eqD hr.units) (pe_fld (pv 0) rfl) (pe_fld (pv 1) rfl) (nomark _))))))), ?_⟩
    obtain ⟨dx, t, kd, h1, h2, h3, hl, h5, h6, h7⟩ := id hI
    obtain ⟨dy, t', kd', g1, g2, g3, gl, g5, g6, g7⟩ := id hJ
    obtain ⟨bx, d, L', b1, b2, b3, nd⟩ := id h2
    have E1 := hI.es.1
    have E2 := hJ.es.1
    refine ⟨_, rfl, _, _, _, _, true, rfl, ClsV.own _, jk _ _ _ _ g1, (by show PySem.W.kitOne K _ _ = _; unfold PySem.W.kitOne; rw [if_pos (by simp)]), _, rfl, iteT ?_⟩
    refine ⟨_, rfl, i, CJournal, dx, _, _, rfl, h1, T.cl, T.nB, jf_b _ _ _, _, rfl, j, CJournal, dy, _, _, rfl, g1, T.cl, T.nB, jf_b _ _ _, ⟨b, b, _, _, _, _, rfl, rfl, b1, b1, rfl, L, h2⟩, fun H1 e1 => ⟨_, rfl, iteT ?_⟩⟩
    refine ⟨_, rfl, i, CJournal, dx, _, _, rfl, e1 _ _ h1, T.cl, T.nE, jf_e _ _ _, _, rfl, j, CJournal, dy, _, _, rfl, e1 _ _ g1, T.cl, T.nE, jf_e _ _ _, .tuple (xs.map Ent.pd), .tuple (xs.map Ent.pd), .tup (h3.ext e1) (E1.same e1).dp, .tup (g3.ext e1) (E2.same e1).dp, pds_t E1.ok, pds_t E1.ok, ?_⟩
    rw [SeqAt.eqv_refl _ (SeqAt.canLay_of_shaped (pds_t E1.ok))]
    exact q H1 e1
end
end Ash

set_option Elab.async false
set_option linter.all false
set_option maxRecDepth 100000
set_option maxHeartbeats 4000000
namespace Ash
open PySem PySem.Spec PyProof.Rows L2
open C8 (pss_cut)
def spEntries5 : Sp := fun vs H Q _ => ∃ (p s dl dk ds : Addr) (L : List (Str × Int)) (ks : List Str) (S0 : Kn) (n0 : Nat) (number arrival many : Int), vs = [.ref p, .ref dl, .ref dk, .ref ds, .int number, .int arrival, .int many] ∧ Draw H p s dl dk ds L ks S0 ∧ StAt H ds S0 n0 ∧ 0 ≤ many ∧ many ≤ 100 ∧ (n0 : Int) + many ≤ 500 ∧
  0 ≤ number ∧ (∀ id, S0 id ≠ none → id < number) ∧ ds ≠ dl ∧
  ∀ (q : Addr) us xs S1 H', H q = none → H' q = some (.lst us) → Ents H' us xs → (xs.length : Int) = many → (∀ l, (∀ t, l = some t → t ≤ arrival) → ∀ i, wk L (xs.map some) i S0 l = (none, S1)) → (∀ x ∈ xs, arrival ≤ x.arr ∧ KIn ks x) →
    StAt H' ds S1 (n0 + xs.length) → KnOk L S1 → (∀ id, S1 id ≠ none → 0 ≤ id ∧ id < number + 3 * many) → (∀ id, S1 id ≠ none → S0 id ≠ none ∨ number ≤ id) → Pd H H' p s ds → Q (.ref q) H'
section
variable {P : Program} {w : World} {K : PySem.W.Frag} {mg : Str → Option Value} {base : Heap}

theorem ok_entries5 {f : Addr} {fd : FuncData} (F : Fun K "_law_entries" "_law_entries" s_l_entries f fd) (B : Blt mg) (G : G4 P w K mg base) : FnOk P w K mg base CX0 4 f fd ["pool", "lates", "keys", "states", "number", "arrival", "many"] spEntries5 := by
  refine F.ok sc_l_entries (fun vs H Q E h => ?_) (fun cdv A outer s H vs Q E hr h => ?_)
  · obtain ⟨p, s, dl, dk, ds, L, ks, S, n0, number, arrival, many, rfl, _⟩ := h
    rfl
  · obtain ⟨p, s0, dl, dk, ds, L, ks, S0, n0, number, arrival, many, rfl, D, hst, hm0, hm1, hm5, hn0, hids, hdd, q⟩ := h
    refine ⟨_, (pss_cons (ps_set (i := 7) sc_l_entries.nd rfl (Or.inl rfl) (pe_lst pa_nil))
    (pss_cons (ps_for PassesOwn.never rfl (pi_range1 (by rfl) B.range (pa_cons (pv 6) pa_nil)) (pg_name (i := 8) sc_l_entries.nd rfl (Or.inl rfl))
      (pss_cons (ps_set (i := 5) sc_l_entries.nd rfl (Or.inl rfl) (pe_op op_add (pv 5) (pe_ix ix_list (pe_lst (pa_cons pe_int (pa_cons pe_int (pa_cons pe_int (pa_cons pe_int (pa_cons pe_int (pa_cons pe_int (pa_cons pe_int (pa_cons (pe_cal G.law_draw (hr.mono (by decide)) pass0 (pa_cons (pv 0) (pa_cons (pe_op op_pow pe_int pe_int) pa_nil))) pa_nil))))))))) (pe_cal G.law_draw (hr.mono (by decide)) pass0 (pa_cons (pv 0) (pa_cons pe_int pa_nil))) (fun _ _ => rfl))))
      (pss_cons (ps_set (i := 9) sc_l_entries.nd rfl (Or.inl rfl) (pe_cal G.law_entry (hr.mono (by decide)) pass0 (pa_cons (pv 0) (pa_cons (pv 1) (pa_cons (pv 2) (pa_cons (pv 3) (pa_cons (pe_op op_add (pe_op op_add (pv 4) (pe_op op_mul pe_int (pv 8))) (pe_cal G.law_draw (hr.mono (by decide)) pass0 (pa_cons (pv 0) (pa_cons pe_int pa_nil)))) (pa_cons (pv 5) pa_nil))))))))
      (pss_cons (ps_expr (pe_cal G.law_put (hr.mono (by decide)) pass0 (pa_cons (pv 3) (pa_cons (pv 9) pa_nil))))
      (pss_one (ps_expr (pe_bm PySem.F.plainAttrs_list PySem.F.slot_list_append PySem.F.type_list_append mt_append (pv 7) (pa_cons (pv 9) pa_nil))))))))
    (pss_one (ps_ret (pv 7))))), ?_⟩
    refine ⟨(by show 0 ≤ sizeLine; decide), fun q0 hq0 => ?_⟩
    have PD0 : Pd H (upd H q0 (.lst [])) p s0 ds := (⟨D.pool, D.pool.ne.1, D.pool.ne.2, fun b o h _ _ => h⟩ : Pd H H p s0 ds).at hq0
    refine ⟨_, rfl, _, rfl, (by omega), (by omega), for_range (n := many.toNat) (fun k σ H1 => ∃ (us : List V) (xs : List Ent) (S : Kn) (ar : Int), (∃ a b, σ = [some (.ref p), some (.ref dl), some (.ref dk), some (.ref ds), some (.int number), some (.int ar), some (.int many), some (.ref q0), a, b]) ∧ H1 q0 = some (.lst us) ∧ Ents H1 us xs ∧ xs.length = k ∧
      (∀ l, (∀ t, l = some t → t ≤ arrival) → (∀ i, wk L (xs.map some) i S0 l = (none, S)) ∧ ∀ t, lastA xs l = some t → t ≤ ar) ∧ arrival ≤ ar ∧ (∀ x ∈ xs, arrival ≤ x.arr ∧ KIn ks x) ∧ StAt H1 ds S (n0 + k) ∧ KnOk L S ∧ (∀ id, S id ≠ none → 0 ≤ id ∧ id < number + 3 * (k : Int)) ∧ (∀ id, S id ≠ none → S0 id ≠ none ∨ number ≤ id) ∧ Pd H H1 p s0 ds) ?_ ?_ ?_⟩
    · refine ⟨[], [], S0, arrival, ⟨_, _, rfl⟩, upd_same, ⟨rfl, fun i v x a b => by simp at a⟩, rfl, fun l hl => ⟨fun i => rfl, hl⟩, Int.le_refl _, (fun x hx => nomatch hx), hst.same (sameAt (Same.refl H) hq0), D.ok, (fun id h => ⟨D.pos id h, by have := hids id h; omega⟩), (fun id h => .inl h), PD0⟩
    · rintro k σ H1 hk ⟨us, xs, S, ar, ⟨a, b, rfl⟩, hq1, hE, hlen, hwk, har, harr, hst1, hok, hpos, hnew, PD⟩
      have hqp : q0 ≠ p := fun z => D.pool.ne.1 (z ▸ hq0)
      obtain ⟨kvs0, hst0, _⟩ := id hst
      have hqd : q0 ≠ ds := fun z => by rw [z, hst0] at hq0; cases hq0
      obtain ⟨ns, i1, c1, k1, m1, hp1, _⟩ := id D.pool
      have dlp : dl ≠ p := ne_of D.dl hp1 (by intro z; cases z)
      have dkp : dk ≠ p := ne_of D.dk hp1 (strs_ne (ns := ns))
      have dkd : dk ≠ ds := ne_of D.dk hst0 (by intro z; cases z)
      obtain ⟨kvs1, hst1', _⟩ := id hst1
      -- arrival
      refine ⟨_, rfl, _, rfl, _, _, rfl, rfl, ⟨by decide, by decide, by decide⟩, p, s0, _, rfl, PD.now, (by decide), (by decide), fun v H2 v0 v1 P2 => ⟨(by show 8 ≤ sizeLine; decide), fun u hu2 => ?_⟩⟩
      have v1 : v < 1000000 := v1
      have PD2 := PD.pl P2
      have hd2 := P2.dk PD.now hst1'
      have hu0 : H u = none := PD2.free (by rw [hd2]; exact fun z => nomatch z) hu2
      have PD3 : Pd H (upd H2 u (.lst [V.int 0, V.int 0, V.int 1, V.int 1, V.int 2, V.int 3, V.int 7, V.int v])) p s0 ds := PD2.at hu0
      have hup : u ≠ p := fun z => D.pool.ne.1 (z ▸ hu0)
      have hud : u ≠ ds := fun z => by rw [z, hst0] at hu0; cases hu0
      refine ⟨_, rfl, p, s0, 8, rfl, PD3.now, (by decide), (by decide), fun g H4 g0 g1 P4 => ?_⟩
      obtain ⟨inc, hinc, inc0⟩ : ∃ inc : Int, atI ([V.int 0, V.int 0, V.int 1, V.int 1, V.int 2, V.int 3, V.int 7, V.int v]) g = some (V.int inc) ∧ 0 ≤ inc := by
        have : g = 0 ∨ g = 1 ∨ g = 2 ∨ g = 3 ∨ g = 4 ∨ g = 5 ∨ g = 6 ∨ g = 7 := by omega
        rcases this with rfl | rfl | rfl | rfl | rfl | rfl | rfl | rfl
        · exact ⟨0, rfl, by omega⟩
        · exact ⟨0, rfl, by omega⟩
        · exact ⟨1, rfl, by omega⟩
        · exact ⟨1, rfl, by omega⟩
        · exact ⟨2, rfl, by omega⟩
        · exact ⟨3, rfl, by omega⟩
        · exact ⟨7, rfl, by omega⟩
        · exact ⟨v, rfl, v0⟩
      have PD4 := PD3.pl P4
      refine ⟨_, _, _, V.int inc, rfl, rfl, SqL.of (P4.keep upd_same hup), hinc, _, _, rfl, rfl, ?_⟩
      -- entry
      refine ⟨_, rfl, _, rfl, _, rfl, _, rfl, _, rfl, _, rfl, _, _, rfl, rfl, .inl ⟨by decide, by decide⟩, _, _, rfl, rfl, _, rfl, p, s0, 3, rfl, PD4.now, (by decide), (by decide), fun g3 H5 g30 g33 P5 => ⟨_, _, rfl, rfl, _, rfl, ?_⟩⟩
      have PD5 := PD4.pl P5
      have tk15 : TK H1 H5 := (((P2.tk PD.now).trans (tk_same (sameAt (Same.refl H2) hu2))).trans (P4.tk PD3.now)).trans (P5.tk PD4.now)
      have st5 : StAt H5 ds S (n0 + k) := ((((hst1.pl PD.now P2).same (sameAt (Same.refl H2) hu2)).pl PD3.now P4).pl PD4.now P5)
      have D5 : Draw H5 p s0 dl dk ds L ks S := ⟨PD5.now, PD5.but _ _ D.dl dlp (Ne.symm hdd), D.LL, PD5.but _ _ D.dk dkp dkd, D.k1, D.k2, D.kn, by
        obtain ⟨kk, a1, a2, a3, a4⟩ := st5
        exact ⟨kk, a1, by omega, a3, a4⟩, hok, fun id h => (hpos id h).1⟩
      refine ⟨p, s0, dl, dk, ds, L, ks, S, _, _, rfl, D5, (by omega), ?_, fun e x y H6 he hxok hkin hxarr hbh hid P6 => ?_⟩
      · cases eS : S (number + 3 * (0 + (k : Int)) + g3) with
        | none => rfl
        | some r =>
          have := (hpos _ (by rw [eS]; exact fun z => nomatch z)).2
          omega
      have PD6 := PD5.pl P6
      have st6 := st5.pl PD5.now P6
      obtain ⟨kvs6, hd6, _⟩ := id st6
      refine ⟨_, rfl, _, rfl, ds, e, L, S, n0 + k, x, y, rfl, st6, (by omega), he, hbh, fun H7 st7 k7 => ?_⟩
      have PD7 := PD6.chg hd6 k7
      have tk67 : TK H6 H7 := fun t zs h => k7 _ _ h (ne_of h hd6 (by intro z; cases z))
      have keepq : H7 q0 = some (.lst us) := by
        have a2 := P2.keep hq1 hqp
        have a3 : (upd H2 u (.lst [V.int 0, V.int 0, V.int 1, V.int 1, V.int 2, V.int 3, V.int 7, V.int v])) q0 = some (.lst us) := by rw [upd_ne (ne_of_none a2 hu2)]; exact a2
        exact k7 _ _ (P6.keep (P5.keep (P4.keep a3 hqp) hqp) hqp) hqd
      refine ⟨_, rfl, .inl ⟨rfl, _, SqL.of keepq⟩, _, rfl, q0, us, _, rfl, rfl, keepq, (by rw [hE.1]; exact small1000 (by omega)), ?_⟩
      have tk78 : TK H7 (upd H7 q0 (.lst (us ++ [.ref e]))) := tk_off keepq (fun xs z => by cases z)
      have tkAll := ((tk15.trans (P6.tk PD5.now)).trans tk67).trans tk78
      refine ⟨us ++ [.ref e], xs ++ [x], setK S x.id y, ar + inc, ⟨_, _, rfl⟩, upd_same, (hE.tk tkAll).snoc ((tk67.trans tk78) _ _ he) hxok, by rw [List.length_append, hlen]; rfl, fun l hl => ⟨fun i => ?_, fun t ht => ?_⟩, by omega, fun z hz => ?_, ?_, ?_, fun id hid' => ?_, fun id hid' => ?_, PD7.at hq0⟩
      · rw [List.map_append]
        show wk L (xs.map some ++ [some x]) i S0 l = _
        rw [wk_app [some x] ((hwk l hl).1 i)]
        have hlt : late? (lastA xs l) x.arr = false := by
          cases e : lastA xs l with
          | none => rfl
          | some t =>
            have := (hwk l hl).2 t e
            exact decide_eq_false (by omega)
        rw [wk_go hlt hbh]
        rfl
      · rw [lastA_snoc] at ht
        cases ht
        omega
      · rcases List.mem_append.mp hz with hz | hz
        · exact harr z hz
        · rw [List.mem_singleton.mp hz]
          exact ⟨by omega, hkin⟩
      · obtain ⟨kk, a1, a2, a3, a4⟩ := st7
        exact ⟨kk, by rw [upd_ne (Ne.symm hqd)]; exact a1, by omega, a3, fun id => (a4 id).but tk78⟩
      · intro id z1 kk m a' he'
        have he' : (if id = x.id then some y else S id) = some (.at_ z1 kk m a') := he'
        by_cases ej : id = x.id
        · rw [if_pos ej] at he'
          exact behind_ok hxok (hok x.id) hbh _ _ _ _ (Option.some.inj he')
        · rw [if_neg ej] at he'
          exact hok id _ _ _ _ he'
      · have hid' : (if id = x.id then some y else S id) ≠ none := hid'
        by_cases ej : id = x.id
        · have hx0 : 0 ≤ x.id := hxok.1
          rw [ej]
          refine ⟨hx0, ?_⟩
          rcases hid with h | h
          · omega
          · have := (hpos _ h).2
            omega
        · rw [if_neg ej] at hid'
          have := hpos _ hid'
          omega
      · have hid' : (if id = x.id then some y else S id) ≠ none := hid'
        by_cases ej : id = x.id
        · rw [ej]
          rcases hid with h | h
          · exact .inr (by omega)
          · exact hnew _ h
        · rw [if_neg ej] at hid'
          exact hnew _ hid'
    · rintro σ H1 ⟨us, xs, S, ar, ⟨a, b, rfl⟩, hq1, hE, hlen, hwk, har, harr, hst1, hok, hpos, hnew, PD⟩
      refine ⟨_, rfl, q q0 us xs S H1 hq0 hq1 hE (by omega) (fun l hl => (hwk l hl).1) harr (by rw [hlen]; exact hst1) hok (fun id h => ⟨(hpos id h).1, by have := (hpos id h).2; omega⟩) hnew PD⟩
end
end Ash

set_option Elab.async false
set_option linter.all false
set_option maxRecDepth 100000
set_option maxHeartbeats 4000000
namespace L2
open PySem PySem.Spec PyProof.Rows
section
variable {X : Cx} {n : Nat} {CX : CXT} {C f : Addr} {fd : FuncData} {ps : List Str} {sp : Sp} {E : XK}
/-- x op y of two instances of one class, with an own method for it -/
def rOwnOp (C : Addr) (sp : Sp) (E : XK) : R2 := fun x y H Q => ∃ a b dx dy fs gs, x = .ref a ∧ y = .ref b ∧ H a = some (.ins C dx fs) ∧ H b = some (.ins C dy gs) ∧ sp [x, y] H Q E
theorem op_own {op : Operator} (hc : PySem.W.selfFirst X.K C = true) (hs : PySem.W.findIn X.K (.ref C) (PySem.dunder op.info.2) = some (some (.ref f))) (hf : PySem.W.isFn X.K (.ref f) = true)
    (F : FnOk X.prog X.w X.K X.mg X.base CX n f fd ps sp) (hb : Binds X.K fd ps []) (hx : Passes CX X E) (hr : Room n X.A) : OpR X (binaryOp op) (rOwnOp C sp E) := by
  intro pins s σ H x y v u Q I rx ry hq
  obtain ⟨a, b, dx, dy, fs, gs, rfl, rfl, ha, hb', hsp⟩ := hq
  cases rx
  cases ry
  obtain ⟨mA, J, _⟩ := ins_get I.hok ha
  obtain ⟨mB, J', _⟩ := ins_get I.hok hb'
  obtain ⟨od, J, _⟩ := J.look
  obtain ⟨od', J', _⟩ := J'.look
  obtain ⟨m, Fm⟩ := I.fr
  refine PySem.W.binop_K Fm I.ok.mod.kin J J'.type hc hs hf (wpAny_mono (run_fn (us := [.ref a, .ref b]) (vs := [.ref a, .ref b]) F hr hb .nil hx I (.cons rfl (.cons rfl .nil)) hsp) (fun z s' hz => ?_) fun _ _ e => e)
  obtain ⟨zv, H', I', rz, q⟩ := hz
  exact SlX.cmpback rz ⟨zv, H', I', rz, q⟩
end
end L2

set_option Elab.async false
set_option linter.all false
set_option maxRecDepth 100000
set_option maxHeartbeats 4000000
namespace L2
open PySem PySem.Spec PyProof.Rows
section
variable {X : Cx} {n : Nat} {CX : CXT} {C f : Addr} {fd : FuncData} {ps : List Str} {sp : Sp} {E : XK}
/-- x == y of two instances of one class by an own __eq__, whatever it says -/
theorem op_eqO (hs : PySem.W.findIn X.K (.ref C) "__eq__" = some (some (.ref f))) (hf : PySem.W.isFn X.K (.ref f) = true)
    (F : FnOk X.prog X.w X.K X.mg X.base CX n f fd ps sp) (hb : Binds X.K fd ps []) (hx : Passes CX X E) (hr : Room n X.A) : OpR X (compareOp .Eq) (rOwnOp C sp E) := by
  intro pins s σ H x y v u Q I rx ry hq
  obtain ⟨a, b, dx, dy, fs, gs, rfl, rfl, ha, hb', hsp⟩ := hq
  cases rx
  cases ry
  obtain ⟨mA, J, _⟩ := ins_get I.hok ha
  obtain ⟨mB, J', _⟩ := ins_get I.hok hb'
  obtain ⟨od, J, _⟩ := J.look
  obtain ⟨od', J', _⟩ := J'.look
  obtain ⟨m, Fm⟩ := I.fr
  refine PySem.W.cmp_K (op := .Eq) (tb := .ref C) hr.units0 Fm I.ok.mod.kin J J'.type (by simp [PySem.W.notFirst]) hs hf (wpAny_mono (run_fn (us := [.ref a, .ref b]) (vs := [.ref a, .ref b]) F hr hb .nil hx I (.cons rfl (.cons rfl .nil)) hsp) (fun z s' hz => ?_) fun _ _ e => e)
  obtain ⟨zv, H', I', rz, q⟩ := hz
  exact SlX.cmpback rz ⟨zv, H', I', rz, q⟩
end
end L2

set_option Elab.async false
set_option linter.all false
set_option maxRecDepth 100000
set_option maxHeartbeats 4000000
namespace Ash
open PySem PySem.Spec PyProof.Rows L2
open C8 (pss_cut)
open SrtT (T3 lex3)
abbrev K0 : Kn := fun _ => none
abbrev knw (L : List (Str × Int)) (xs : List Ent) : Kn := (wk L (xs.map some) 0 K0 none).2
def Good (L : List (Str × Int)) (xs : List Ent) : Prop := (wk L (xs.map some) 0 K0 none).1 = none
theorem Good.w {L : List (Str × Int)} {xs : List Ent} (h : Good L xs) : wk L (xs.map some) 0 K0 none = (none, knw L xs) := by rw [← show (wk L (xs.map some) 0 K0 none).1 = none from h]
theorem Good.of {L : List (Str × Int)} {xs : List Ent} {S : Kn} (h : wk L (xs.map some) 0 K0 none = (none, S)) : Good L xs ∧ knw L xs = S := ⟨by unfold Good; rw [h], by unfold knw; rw [h]⟩
theorem RowsOf.eq_of {S S' : Kn} {z k : Str} {a b : List T3} (ha : RowsOf S z k a) (hb : RowsOf S' z k b) (h : ∀ id, pick S z k id = pick S' z k id) : a = b := asc_ext ha.asc hb.asc fun t => by rw [ha.all, hb.all, h]
theorem JAt.ins {K : PySem.W.Frag} {aT CJ CB : Addr} {H : Hp} {j b : Addr} {L : List (Str × Int)} {us : List V} {xs : List Ent} (h : JAt K aT CJ CB H j b L us xs) : ∃ dx t kd, H j = some (.ins CJ dx (jf b t kd)) := by
  obtain ⟨dx, t, kd, h1, _⟩ := h
  exact ⟨dx, t, kd, h1⟩
theorem JAt.len {K : PySem.W.Frag} {aT CJ CB : Addr} {H : Hp} {j b : Addr} {L : List (Str × Int)} {us : List V} {xs : List Ent} (h : JAt K aT CJ CB H j b L us xs) : us.length = xs.length := h.es.1.1
structure Keys (H : Hp) (dl dk : Addr) (L : List (Str × Int)) (ks : List Str) : Prop where
  dl : H dl = some (.dK (LK L))
  LL : Lates L
  dk : H dk = some (.lst (ks.map V.str))
  k2 : ks.length ≤ 8
  kn : ∀ k ∈ ks, IsNm k
def NL (H H' : Hp) : Prop := ∀ c o, H c = some o → (∀ xs, o ≠ .lst xs) → H' c = some o
theorem NL.trans {H H1 H2 : Hp} (a : NL H H1) (b : NL H1 H2) : NL H H2 := fun c o h n => b c o (a c o h n) n
theorem nl_same {H H' : Hp} (s : Same H H') : NL H H' := fun c o h _ => s c o h
theorem PoolAt.lst' {H : Hp} {p s : Addr} (h : PoolAt H p s) : ∃ xs, H p = some (.lst xs) := by
  obtain ⟨ns, i, c, k, n, h1, _⟩ := h
  exact ⟨_, h1⟩
theorem Pl.nl {H H' : Hp} {p s : Addr} (P : Pl H H' p s) (P0 : PoolAt H p s) : NL H H' := fun c o h n => P.keep h (fun z => by
  obtain ⟨xs, hx⟩ := P0.lst'
  rw [z, hx] at h
  exact n xs (Option.some.inj h).symm)
theorem NL.tk {H H' : Hp} (a : NL H H') : TK H H' := fun t xs h => a _ _ h (fun _ z => nomatch z)
/-- what a journal leans on stands -/
theorem JAt.fr {K : PySem.W.Frag} {aT CJ CB : Addr} {H H' : Hp} {j b : Addr} {L : List (Str × Int)} {us : List V} {xs : List Ent} (h : JAt K aT CJ CB H j b L us xs)
    (n : ∀ c o, H c = some o → (∀ xs, o ≠ .lst xs) → (∀ kvs, o ≠ .dK kvs) → H' c = some o) (hb : ∀ d L', H d = some (.dK (LK L')) → (∃ dx, H b = some (.ins CB dx [("_lates", .ref d)])) → H' d = some (.dK (LK L')))
    (hk : ∀ kd kvs, H kd = some (.dK kvs) → (∃ dx t, H j = some (.ins CJ dx (jf b t kd))) → H' kd = some (.dK kvs)) : JAt K aT CJ CB H' j b L us xs := by
  obtain ⟨dx, t, kd, h1, ⟨bx, d, L', b1, b2, b3⟩, h3, h4, h5, h6, kvs, k1, k2, k3⟩ := h
  have no : ∀ {c o}, H c = some o → (∀ xs, o ≠ .lst xs) → (∀ kvs, o ≠ .dK kvs) → H' c = some o := fun {c o} => n c o
  refine ⟨dx, t, kd, no h1 (fun _ z => nomatch z) (fun _ z => nomatch z), ⟨bx, d, L', no b1 (fun _ z => nomatch z) (fun _ z => nomatch z), hb d L' b2 ⟨bx, b1⟩, b3⟩, ?_, h4, fun i v x p q => ?_, h6, kvs, hk kd kvs k1 ⟨dx, t, h1⟩, k2, fun id => ?_⟩
  · rcases h3 with (h | ⟨o, h⟩) | h
    · exact .inl (.inl (no h (fun _ z => nomatch z) (fun _ z => nomatch z)))
    · exact .inl (.inr ⟨o, no h (fun _ z => nomatch z) (fun _ z => nomatch z)⟩)
    · exact .inr h
  · obtain ⟨e, e1, e2, e3⟩ := h5 i v x p q
    exact ⟨e, e1, no e2 (fun _ z => nomatch z) (fun _ z => nomatch z), e3⟩
  · have q := k3 id
    cases e : valV kvs (Sum.inl id : Key) with
    | none => rw [e] at q; cases eS : (wk L (xs.map some) 0 (fun _ => none) none).2 id <;> (rw [eS] at q; exact q)
    | some v =>
      rw [e] at q
      cases eS : (wk L (xs.map some) 0 (fun _ => none) none).2 id with
      | none => rw [eS] at q; exact q
      | some o =>
        rw [eS] at q
        cases o with
        | tb => exact q
        | at_ z kk m a =>
          obtain ⟨t, e1, e2⟩ := q
          exact ⟨t, e1, no e2 (fun _ z => nomatch z) (fun _ z => nomatch z)⟩
theorem JAt.nl {K : PySem.W.Frag} {aT CJ CB : Addr} {H H' : Hp} {j b : Addr} {L : List (Str × Int)} {us : List V} {xs : List Ent} (h : JAt K aT CJ CB H j b L us xs) (n : NL H H') : JAt K aT CJ CB H' j b L us xs :=
  h.fr (fun c o e n1 _ => n c o e n1) (fun d L' e _ => n d _ e (fun _ z => nomatch z)) (fun d kvs e _ => n d _ e (fun _ z => nomatch z))
theorem BookAt.nl {CB : Addr} {H H' : Hp} {b : Addr} {L : List (Str × Int)} (h : BookAt CB H b L) (n : NL H H') : BookAt CB H' b L := by
  obtain ⟨bx, d, L', b1, b2, b3⟩ := h
  exact ⟨bx, d, L', n _ _ b1 (fun _ z => nomatch z), n _ _ b2 (fun _ z => nomatch z), b3⟩
theorem Keys.pl {H H' : Hp} {p s dl dk : Addr} {L : List (Str × Int)} {ks : List Str} (h : Keys H dl dk L ks) (P0 : PoolAt H p s) (P : Pl H H' p s) : Keys H' dl dk L ks := ⟨P.dk P0 h.dl, h.LL, P.sl P0 h.dk, h.k2, h.kn⟩
theorem Keys.same {H H' : Hp} {dl dk : Addr} {L : List (Str × Int)} {ks : List Str} (h : Keys H dl dk L ks) (P : Same H H') : Keys H' dl dk L ks := ⟨P _ _ h.dl, h.LL, P _ _ h.dk, h.k2, h.kn⟩
theorem Pd.toPl {H H' : Hp} {p s ds : Addr} {o : HO} (h : Pd (upd H ds o) H' p s ds) (P0 : PoolAt H p s) (hd : H ds = none) : Pl H H' p s :=
  ⟨h.now, P0.ne.1, P0.ne.2, fun c u hc n => h.but c u (sameAt (Same.refl H) hd _ _ hc) n (fun z => by rw [z, hd] at hc; cases hc)⟩
theorem JAt.bk {K : PySem.W.Frag} {aT CJ CB : Addr} {H : Hp} {j b : Addr} {L : List (Str × Int)} {us : List V} {xs : List Ent} (h : JAt K aT CJ CB H j b L us xs) : BookAt CB H b L := by
  obtain ⟨dx, t, kd, h1, h2, _⟩ := h
  exact h2
/-- a journal of good entries is made -/
theorem mkJ {K : PySem.W.Frag} {aT CJ CB CE b : Addr} {L : List (Str × Int)} {H' : Hp} {a' : Addr} {us' : List V} {xs : List Ent} {S : Kn} {x dx' : Addr} (hb : BookAt CB H' b L) (ha : H' a' = some (.lst us')) (he : Ents H' us' xs) (hl : xs.length ≤ 400) (hw : wk L (xs.map some) 0 (fun _ => none) none = (none, S)) (nx : H' x = none) (ndx : H' dx' = none) (nex : dx' ≠ x) {Qj : Hp → Prop} (hq : ∀ H2, Same H' H2 → JAt K aT CJ CB H2 x b L us' xs → Qj H2) :
    spJInit K aT CJ CB CE [.ref x, .ref b, .ref a'] (upd (upd H' dx' (.own x)) x (.ins CJ dx' [])) (fun v H2 => v = .non ∧ Qj H2) (fun _ _ _ => False) := by
  have sX : Same H' (upd (upd H' dx' (.own x)) x (.ins CJ dx' [])) := (sameAt (Same.refl _) ndx).trans (sameAt (Same.refl _) (by rw [upd_ne (Ne.symm nex)]; exact nx))
  refine ⟨x, dx', b, a', L, us', xs.map some, rfl, upd_same, hb.same sX, .inl (sX _ _ ha), by rw [he.1]; exact hl, by rw [List.length_map]; exact he.1, fun i v o hi ho => ?_, fun H2 ys hys hw2 hJ _ kk => ⟨rfl, ?_⟩, fun i d H2 hw2 _ _ => ?_⟩
  · rw [List.getElem?_map] at ho
    cases ex : xs[i]? with
    | none => rw [ex] at ho; cases ho
    | some y =>
      rw [ex] at ho
      cases ho
      exact (ThEs.of (K := K) (he.tk (tk_same sX))).2 i v y hi ex
  · have ey : ys = xs := (List.map_inj_right (fun a b h => Option.some.inj h)).mp hys.symm
    subst ey
    exact hq H2 (mk_same nx ndx kk) hJ
  · rw [hw] at hw2
    cases hw2
def rLenS (K : PySem.W.Frag) : List V → Hp → (V → Hp → Prop) → Prop := fun xs H Q => ∃ p ys, xs = [V.ref p] ∧ (SqL K H p ys ∨ SqT K H p ys) ∧ Q (V.int ys.length) H
theorem at_last (x : Ent) : atI x.vs ((x.vs.length : Int) - 1) = some (.int x.arr) := by cases x <;> rfl
theorem pair_same {K : PySem.W.Frag} {H : Hp} {t1 t2 : Addr} {w1 w2 v1 v2 : V} (h1 : H t1 = some (.tup [w1, v1])) (h2 : H t2 = some (.tup [w2, v2])) (a : SameV w1 w2) (b : SameV v1 v2) : SeqS K H (.ref t1) (.ref t2) := by
  refine ⟨t1, t2, _, _, rfl, rfl, SqT.of h1, SqT.of h2, rfl, fun i u v hu hv => ?_⟩
  match i with
  | 0 =>
    cases Option.some.inj hu
    cases Option.some.inj hv
    exact a
  | 1 =>
    cases Option.some.inj hu
    cases Option.some.inj hv
    exact b
  | n + 2 => exact absurd hu (by simp)
theorem same_str (z : Str) : SameV (.str z) (.str z) := .inl ⟨rfl, rfl, by simp [eqV]⟩
theorem same_int {i j : Int} (h : i = j) : SameV (.int i) (.int j) := .inl ⟨rfl, rfl, by simp [eqV, h]⟩
/-- data are as themselves -/
theorem eqv_self {d : PyData} (h : SeqAt.shaped d = true) : PyData.eqv d d = true := SeqAt.eqv_refl d (SeqAt.canLay_of_shaped h)
end Ash

set_option Elab.async false
set_option linter.all false
set_option maxRecDepth 100000
set_option maxHeartbeats 4000000
namespace L2
open PySem PySem.Spec PyProof.Rows
/-! ### sets of keys (ints, texts) that can be walked; sorted(set(xs)) -/
/-- the key that a value is -/
def vK : Value → Key
  | .int k _ => .inl k
  | .str x _ => .inr x
  | _ => .inl 0
theorem vK_of {k : Key} {v : Value} (r : RelV (kV k) v) : vK v = k := by
  cases k with
  | inl i =>
    obtain ⟨t, rfl⟩ := r
    rfl
  | inr x =>
    obtain ⟨t, rfl⟩ := r
    rfl
def GoodM (w : World) (e : Int × Value) : Prop := ∃ k, RelV (kV k) e.2 ∧ e.1 = keyH w k
def eK (e : Int × Value) : Key := vK e.2
/-- among the keys -/
def kIn (ks : List Key) (j : Key) : Bool := ks.any fun x => decide (x = j)
theorem kIn_iff {ks : List Key} {j : Key} : kIn ks j = true ↔ j ∈ ks := by
  unfold kIn
  rw [List.any_eq_true]
  constructor
  · rintro ⟨x, hx, e⟩
    rw [← of_decide_eq_true e]
    exact hx
  · intro h
    exact ⟨j, h, decide_eq_true rfl⟩
theorem kIn_next {ks : List Key} {i : Nat} {z : Key} (hz : ks[i]? = some z) (j : Key) : kIn (ks.take (i + 1)) j = (kIn (ks.take i) j || decide (j = z)) := by
  rw [List.take_add_one, hz]
  unfold kIn
  rw [List.any_append]
  congr 1
  by_cases c : j = z
  · subst c
    simp
  · have c' : ¬ z = j := fun q => c q.symm
    simp [c, c']
/-- the set at a: S its members, n their number; it can be walked -/
def SetM (w : World) (h : Heap) (a : Addr) (S : Key → Bool) (n : Nat) : Prop :=
  ∃ o es ep t, h.get? a = some o ∧ o.ExactSet ∧ o.data = .set es ep t ∧ (∀ e ∈ es.toList, GoodM w e) ∧ (es.toList.map eK).Nodup ∧ (∀ k, S k = true ↔ k ∈ es.toList.map eK) ∧
    es.size < scanBound ∧ t.fits es.size = true ∧ es.size = n ∧ Ris t.place.toList ∧ (w.params.followText "set-order" = true ∨ t.led = true)
section
variable {P : Program} {w : World} {h h' : Heap} {a : Addr} {S : Key → Bool} {n : Nat}
theorem SetM.at (R : SetM w h a S n) (k : ∀ o, h.get? a = some o → h'.get? a = some o) : SetM w h' a S n := by
  obtain ⟨o, es, ep, t, ho, r⟩ := R
  exact ⟨o, es, ep, t, k o ho, r⟩
theorem SetM.congr {S' : Key → Bool} (R : SetM w h a S n) (e : ∀ k, S' k = S k) : SetM w h a S' n := by
  rw [show S' = S from funext e]
  exact R
theorem goodM_elems {l : List (Int × Value)} (g : ∀ e ∈ l, GoodM w e) : ElemsOf (mixKind P w) l := fun e he => by
  obtain ⟨k, h1, h2⟩ := g e he
  exact ⟨⟨k, kV_is h1, h2⟩, key_scan h1⟩
theorem goodM_is {e : Int × Value} (g : GoodM w e) (k : Key) : (mixKind P w).is k e.2 = true ↔ eK e = k := by
  obtain ⟨k0, h1, _⟩ := g
  unfold eK
  rw [vK_of h1]
  constructor
  · intro q
    exact (mixKind P w).inj _ _ _ (kV_is h1) q
  · intro q
    rw [← q]
    exact kV_is h1
theorem goodM_mem {l : List (Int × Value)} (g : ∀ e ∈ l, GoodM w e) (k : Key) : k ∈ l.map eK ↔ ∃ e ∈ l, (mixKind P w).is k e.2 = true := by
  rw [List.mem_map]
  constructor
  · rintro ⟨e, he, q⟩
    exact ⟨e, he, (goodM_is (g e he) k).2 q⟩
  · rintro ⟨e, he, q⟩
    exact ⟨e, he, (goodM_is (g e he) k).1 q⟩
end
section
variable {P : Program} {w : World} {A : Around} {E : Value → Shared → Prop} {s : Shared} {a : Addr} {S : Key → Bool} {n : Nat}
theorem setM_tail {g : Bool → Sem Unit} (hg : ∀ (b : Bool) (s₁ : Shared) (Q' : Unit → Shared → Prop), Q' () s₁ → wpAny (model P w) A (g b) Q' E s₁)
    {o : Obj} {es : Array (Int × Value)} {ep : Nat} {t : SetTable} (ho : s.heap.get? a = some o) (hex : o.ExactSet) (hd : o.data = .set es ep t)
    {fs : Array (Int × Value)} {u : SetTable} {S' : Key → Bool} (gf : ∀ e ∈ fs.toList, GoodM w e) (nf : (fs.toList.map eK).Nodup) (mf : ∀ k, S' k = true ↔ k ∈ fs.toList.map eK)
    (bf : fs.size < scanBound) (ff : u.fits fs.size = true) (rf : Ris u.place.toList) (lf : w.params.followText "set-order" = true ∨ u.led = true) {wasDummy : Bool} {R : Option Bool → Shared → Prop}
    (hR : ∀ h', Heap.SameBut a s.heap h' → SetM w h' a S' fs.size → R (some true) { s with heap := h' }) :
    wpAny (model P w) A (do
        storeSet a fs u
        if (!wasDummy && u.tooFull) = true then do
            g (relayAll u fs (SetTable.grown fs.size)).2.2
            storeSet a (relayAll u fs (SetTable.grown fs.size)).1 (relayAll u fs (SetTable.grown fs.size)).2.1
            pure (some true)
          else pure (some true)) R E s := by
  refine wpAny_bind (wpAny_storeSet_of ho hd ?_ (fits_of_scanBound bf))
  have h1 := store_at (es' := fs) (t' := u) ho hd
  have b1 := Heap.SameBut.update s.heap a (Obj.putSet fs u)
  split
  · have pm := relayAll_perm u fs (SetTable.grown fs.size)
    have f2 := relayAll_fits u fs (SetTable.grown fs.size)
    have r2 := relayAll_ris u fs (SetTable.grown fs.size)
    have l2 := relayAll_led u fs (SetTable.grown fs.size)
    generalize relayAll u fs (SetTable.grown fs.size) = Z at pm f2 r2 l2 ⊢
    obtain ⟨gs, u2, gave⟩ := Z
    dsimp only at pm f2 r2 l2 ⊢
    have sz : gs.size = fs.size := by rw [← Array.length_toList, pm.length_eq, Array.length_toList]
    have bg : gs.size < scanBound := by rw [sz]; exact bf
    refine wpAny_bind (hg _ _ _ ?_)
    refine wpAny_bind (wpAny_storeSet_of h1 rfl ?_ (fits_of_scanBound bg))
    have h2 := store_at (es' := gs) (t' := u2) h1 rfl
    refine wpAny_pure (hR _ (b1.trans (Heap.SameBut.update _ a _)) ?_)
    exact ⟨_, gs, _, u2, h2, hex, rfl, fun e he => gf e (pm.mem_iff.mp he), (pm.map eK).nodup_iff.mpr nf, fun k => (mf k).trans (pm.map eK).mem_iff.symm, bg, f2, sz, r2, lf.imp id fun z => by rw [l2]; exact z⟩
  · exact wpAny_pure (hR _ b1 ⟨_, fs, _, u, h1, hex, rfl, gf, nf, mf, bf, ff, rfl, rf, lf⟩)
theorem setM_add {k : Key} {v : Value} {Q : Bool → Shared → Prop} (rv : RelV (kV k) v) (R : SetM w s.heap a S n) (room : n + 1 < scanBound)
    (hQ : ∀ h', Heap.SameBut a s.heap h' → SetM w h' a (fun j => S j || decide (j = k)) (if S k = true then n else n + 1) → Q (!S k) { s with heap := h' }) :
    wpAny (model P w) A (setAddHashed a v ((mixKind P w).hash k)) Q E s := by
  obtain ⟨o, es, ep, t, ho, hex, hd, g, nd, hm, hb, hf, hn, hr, hl⟩ := R
  have hkey : (mixKind P w).is k v = true := kV_is rv
  have hsc : v.scannable = true := key_scan rv
  have hel : ElemsOf (mixKind P w) es.toList := goodM_elems g
  unfold setAddHashed setAddHashedIn
  refine wpAny_holding (wpAny_bind (wpAny_setState_of ho hd hf ?_))
  dsimp only
  rw [byScan_of hsc hb hel]
  simp only [↓reduceIte]
  unfold setAddByScan
  refine wpAny_bind ?_
  refine wpAny_bind (wpAny_rule ?_)
  refine wpAny_bind (wpAny_setScan_of hkey ho hd hf hel ?_)
  cases hfi : List.findIdx? (fun e => (mixKind P w).is k e.2) es.toList with
  | some j =>
    dsimp only
    obtain ⟨hj, pj, _⟩ := List.findIdx?_eq_some_iff_getElem.mp hfi
    have hSk : S k = true := (hm k).2 ((goodM_mem (P := P) g k).2 ⟨es.toList[j], List.getElem_mem hj, pj⟩)
    refine wpAny_pure (wpAny_pure ?_)
    have q := hQ s.heap (Heap.SameBut.refl a s.heap) ⟨o, es, ep, t, ho, hex, hd, g, nd, fun i => by
      rw [Bool.or_eq_true, decide_eq_true_eq, ← hm i]
      exact ⟨fun z => z.elim id (fun e => e ▸ hSk), .inl⟩, hb, hf, by rw [if_pos hSk]; exact hn, hr, hl⟩
    rw [hSk] at q
    exact q
  | none =>
    dsimp only
    have hnk : k ∉ es.toList.map eK := fun z => by
      obtain ⟨e, he, q⟩ := (goodM_mem (P := P) (w := w) g k).1 z
      have c := List.findIdx?_eq_none_iff.mp hfi e he
      rw [q] at c
      cases c
    have hSk : S k = false := Bool.eq_false_iff.mpr fun q => hnk ((hm k).1 q)
    have hgw : ∀ (b : Bool) {s₁ : Shared} {Q' : Unit → Shared → Prop}, Q' () s₁ → wpAny (model P w) A (match b with | true => rule "set.scan.the-table-gave-way" | false => pure ()) Q' E s₁ :=
      fun b s₁ Q' q => by cases b <;> first | exact wpAny_pure q | exact wpAny_rule q
    have pm := layNew_perm t es ((mixKind P w).hash k) v
    have f1 := layNew_fits t es ((mixKind P w).hash k) v
    have r1 := layNew_ris t es ((mixKind P w).hash k) v hr
    have l1 := layNew_led t es ((mixKind P w).hash k) v
    generalize layNew t es ((mixKind P w).hash k) v = Z at pm f1 r1 l1 ⊢
    obtain ⟨fs, t1, wasDummy, gave⟩ := Z
    dsimp only at pm f1 r1 l1 ⊢
    rw [Array.toList_push] at pm
    have pc : fs.toList.Perm (((mixKind P w).hash k, v) :: es.toList) := pm.trans (List.perm_append_singleton _ _)
    have pk : (fs.toList.map eK).Perm (k :: es.toList.map eK) := by
      have z := pc.map eK
      rw [List.map_cons, show eK ((mixKind P w).hash k, v) = k from vK_of rv] at z
      exact z
    have gf : ∀ e ∈ fs.toList, GoodM w e := fun e he => by
      rcases List.mem_cons.mp (pc.mem_iff.mp he) with z | z
      · rw [z]
        exact ⟨k, rv, rfl⟩
      · exact g e z
    have nf : (fs.toList.map eK).Nodup := pk.nodup_iff.mpr (List.nodup_cons.mpr ⟨hnk, nd⟩)
    have mf : ∀ i, (S i || decide (i = k)) = true ↔ i ∈ fs.toList.map eK := fun i => by
      rw [Bool.or_eq_true, decide_eq_true_eq, hm i, pk.mem_iff, List.mem_cons]
      exact Or.comm
    have sz : fs.size = n + 1 := by rw [← Array.length_toList, pc.length_eq, List.length_cons, Array.length_toList, hn]
    have bf : fs.size < scanBound := by rw [sz]; exact room
    have lf : w.params.followText "set-order" = true ∨ t1.led = true := hl.imp id fun z => by rw [l1]; exact z
    have fin : ∀ h', Heap.SameBut a s.heap h' → SetM w h' a (fun j => S j || decide (j = k)) fs.size → Q true { s with heap := h' } := fun h' sb r => by
      have q := hQ h' sb
      rw [hSk] at q
      rw [sz] at r
      exact q r
    refine wpAny_bind (hgw _ ?_)
    split
    · refine wpAny_bind ?_
      rw [hashByValue_scannable 8 hsc]
      refine wpAny_pure ?_
      refine setM_tail ?_ ho hex hd gf nf mf bf ?_ ?_ ?_ ?_
      · intro b s₁ Q' q; cases b <;> first | exact wpAny_pure q | exact wpAny_rule q
      · first | (split <;> first | exact f1 | exact SetTable.fits_plain_off f1) | exact f1
      · first | (split <;> exact r1) | exact r1
      · first | (split <;> exact lf) | exact lf
      · intro h' sb r; dsimp only; exact wpAny_pure (fin h' sb r)
    · refine wpAny_bind (wpAny_pure ?_)
      simp only [↓reduceIte]
      refine setM_tail ?_ ho hex hd gf nf mf bf f1 r1 lf ?_
      · intro b s₁ Q' q; cases b <;> first | exact wpAny_pure q | exact wpAny_rule q
      · intro h' sb r; dsimp only; exact wpAny_pure (fin h' sb r)
theorem setM_new {h : Heap} {a : Addr} (ho : h.get? a = some { cls := .type "set", dict := none, data := .set #[] 0 (.fresh 0 0 (!w.params.followText "set-order")) }) : SetM w h a (fun _ => false) 0 :=
  ⟨_, #[], 0, _, ho, ⟨rfl, rfl, rfl⟩, rfl, (fun e he => by simp at he), (by simp), (fun k => by simp), (by decide), (by rfl), rfl, List.Pairwise.nil, by
    show _ ∨ (!w.params.followText "set-order") = true
    cases w.params.followText "set-order"
    · exact .inr rfl
    · exact .inl rfl⟩
theorem setM_update {I : Addr} {fp wr : List Addr} {G : Array GenState → Array GenState → Prop} {n : Nat} {Pv : Nat → Value → Prop} {St : Nat → Shared → Prop} {R : Result → Shared → Prop}
    (W : WalksS P w A.in1 I fp wr G n Pv St) (S : Addr) (hSf : S ∉ fp) (ks : List Key) (hn : n = ks.length) (hb : ks.length + 1 < scanBound) (hval : ∀ i v, Pv i v → ∃ k, ks[i]? = some k ∧ RelV (kV k) v) :
    ∀ (m i : Nat) (s : Shared), n - i = m → i ≤ n → St i s → (∃ c, c ≤ i ∧ SetM w s.heap S (kIn (ks.take i)) c) →
      (∀ s' c, Moved (S :: wr) G s s' → c ≤ n → SetM w s'.heap S (kIn ks) c → R (.ok (.ret .none)) s') →
      codeAny (model P w) A (.builtin "set.update.loop" ⟨[.ref S, .ref I], []⟩) R s := by
  have hSw : S ∉ wr := fun h => hSf (W.sub _ h)
  have sub : ∀ b ∈ wr, b ∈ S :: wr := fun b hb => List.mem_cons_of_mem _ hb
  intro m
  induction m with
  | zero =>
    intro i s hm hi hst ⟨c, hc, hS⟩ hR
    obtain rfl : i = n := by omega
    refine codeAny_builtin F.entry_set_update_loop ?_
    rw [Around.under_plainId F.plain_set_update_loop _]
    show wpAny _ A.in1 (pyNext (.ref I) >>= _) _ _ s
    refine wpAny_bind (W.done s _ _ hst fun s' mv => ?_)
    show wpAny _ A.in1 (ret Value.none) _ _ s'
    rw [List.take_of_length_le (show ks.length ≤ i by omega)] at hS
    exact wpAny_pure (hR s' c (mv.mono sub) hc (hS.at fun o e => mv.heap S o hSw e))
  | succ m ih =>
    intro i s hm hi hst ⟨c, hc, hS⟩ hR
    have hlt : i < n := by omega
    refine codeAny_builtin F.entry_set_update_loop ?_
    rw [Around.under_plainId F.plain_set_update_loop _]
    show wpAny _ A.in1 (pyNext (.ref I) >>= _) _ _ s
    refine wpAny_bind (W.item i s _ _ hlt hst fun v s' hP hst' mv => ?_)
    obtain ⟨z, hz, rz⟩ := hval i v hP
    have hS1 : SetM w s'.heap S (kIn (ks.take i)) c := hS.at fun o e => mv.heap S o hSw e
    show wpAny _ A.in1 (holding [v] (setAdd S v) >>= _) _ _ s'
    refine wpAny_bind (wpAny_holding ?_)
    unfold setAdd
    refine wpAny_holding ?_
    refine wpAny_bind ((mixKind P w).pyHash (k := z) (kV_is rz) ?_)
    refine setM_add (s := { s' with toks := s'.toks + 1 }) rz hS1 (by omega) fun h' sb hS2 => ?_
    have hS3 : SetM w h' S (kIn (ks.take (i + 1))) (if kIn (ks.take i) z = true then c else c + 1) := hS2.congr fun j => kIn_next hz j
    have hc3 : (if kIn (ks.take i) z = true then c else c + 1) ≤ i + 1 := by
      split <;> omega
    refine wpAny_pure ⟨plainId_quiet F.plain_set_update_loop _, ih (i + 1) _ (by omega) hlt (W.frame _ s' _ _ hst' (Nat.le_succ _) fun b hb o e => ?_) ⟨_, hc3, hS3⟩ fun s2 c2 mv2 hc2 hS4 => ?_⟩
    · rw [sb.2 b (fun h : b = S => hSf (by rw [← h]; exact hb))]
      exact e
    · refine hR s2 c2 (Moved.trans W.gtrans ((mv.mono sub).then_heap (Nat.le_succ _) fun b o hb e => ?_) mv2) hc2 hS4
      rw [sb.2 b (fun h : b = S => hb (by rw [h]; exact List.mem_cons_self))]
      exact e
end
end L2

set_option Elab.async false
set_option linter.all false
set_option maxRecDepth 100000
set_option maxHeartbeats 4000000
namespace L2
open PySem PySem.Spec PyProof.Rows
section
variable {P : Program} {w : World} {A : Around} {E : Value → Shared → Prop} {s : Shared}
/-- the empty set's object -/
abbrev noSet (w : World) : Obj := { cls := .type "set", dict := none, data := .set #[] 0 (.fresh 0 0 (!w.params.followText "set-order")) }
/-- set(xs) of a list of keys -/
theorem call_setL {l : Addr} {items : Array Value} (ks : List Key) {Q : Value → Shared → Prop} (hh : A.handled = none) (hl : s.heap.IsList l items) (hit : Vals (ks.map kV) items.toList) (hb : ks.length + 1 < scanBound)
    (h : ∀ (h' : Heap) (tk c : Nat), SetM w h' s.heap.objs.size (kIn ks) c → c ≤ ks.length → (∀ b o, s.heap.get? b = some o → h'.get? b = some o) → Q (.ref s.heap.objs.size) { s with heap := h', toks := tk }) :
    wpAny (model P w) A (call (.type "set") [.ref l]) Q E s := by
  have hisz : items.size = ks.length := by
    have q := hit.length
    have q2 : items.toList.length = items.size := Array.length_toList
    rw [List.length_map] at q
    omega
  obtain ⟨c, tl, hmro⟩ := F.called_set.mro
  have hmade := F.called_set.made
  have hsub := F.called_set.sub
  refine wpAny_call (codeAny_of_tree ?_)
  show wpAny _ _ (callAny (.type "set") _) _ _ _
  refine wpAny_pure ⟨Code.quiet_builtin _ (by decide +kernel), codeAny_builtin F.entry_type_call ?_⟩
  rw [Around.under_plain (weight_type_call_type "set" [.ref l] []) rfl]
  have h1 := F.called_set.notType
  have h2 := F.called_set.canCreate
  have hct := F.typeCall_set_1 (.ref l)
  repeat (any_goals (first | assumption | wp_step))
  refine codeAny_mono (code_set_led1 (.ref l) (E := E) (Q₁ := fun obj s₁ => obj = .ref s.heap.objs.size ∧ s₁ = { s with heap := s.heap.push (noSet w) }) ⟨rfl, rfl⟩) fun r s₁ hr => ?_
  cases r with
  | error e => exact hr
  | ok fl =>
    cases fl with
    | ret obj =>
      obtain ⟨rfl, rfl⟩ := hr
      have hS : (s.heap.push (noSet w)).get? s.heap.objs.size = some (noSet w) := Heap.get?_push_size _ rfl
      have hT : Shared.TypeIs { s with heap := s.heap.push (noSet w) } (.ref s.heap.objs.size) "set" := ⟨_, hS, rfl⟩
      have hli := F.called_set.init.lookup
      have hbi := F.called_set.init.bind (.ref s.heap.objs.size)
      repeat (any_goals (first | assumption | wp_step))
      refine codeAny_mono (codeAny_call_builtin (R := wants (fun r s₂ => r = .none ∧ ∃ h' tk c, s₂ = { s with heap := h', toks := tk } ∧ SetM w h' s.heap.objs.size (kIn ks) c ∧ c ≤ ks.length ∧
          (∀ b o, s.heap.get? b = some o → h'.get? b = some o)) E) F.called_set.init.plain F.entry_set_init (check_set_init_1 hT ?_)) fun r₂ s₂ hr₂ => ?_
      · obtain ⟨ol, hol, hcl, nl, hdl⟩ := hl
        obtain ⟨ocls, odict, odata, oslots⟩ := ol
        simp only at hcl hdl
        subst hcl; subst hdl
        have hol' : (s.heap.push (noSet w)).get? l = some { cls := .type "list", dict := odict, data := .seq items nl, slots := oslots } := Heap.get?_push_of_some _ hol
        have hsls := F.sub_list_set
        have hslf := F.sub_list_frozenset
        have hne : (Value.type "list" == Value.type "dict") = false := by decide
        have hl1 : (s.heap.push (noSet w)).IsList l items := ⟨_, hol', rfl, nl, rfl⟩
        unfold Builtin.«set.__init__» noKeywords Builtin.Frozenset.updateFrom
        generalize hPI : pyIter = PI
        wp_walk
        subst hPI
        refine wpAny_pyIter_list hl1 ?_
        refine wpAny_bind (wpAny_runValue ?_)
        have hlS : l < s.heap.objs.size := Heap.lt_size hol
        have hh3 : A.in1.in1.in1.handled = none := by simp [hh]
        have hneI : l ≠ (s.heap.push (noSet w)).objs.size := by
          rw [Heap.size_push]
          exact Nat.ne_of_lt (Nat.lt_succ_of_lt hlS)
        have hSf : s.heap.objs.size ∉ [(s.heap.push (noSet w)).objs.size, l] := by
          rw [Heap.size_push]
          simp only [List.mem_cons, List.mem_singleton, List.not_mem_nil, or_false, not_or]
          exact ⟨Nat.ne_of_lt (Nat.lt_succ_self _), Nat.ne_of_gt hlS⟩
        have hval : ∀ (i : Nat) (v : Value), items[i]? = some v → ∃ k, ks[i]? = some k ∧ RelV (kV k) v := fun i v hv => by
          have hi : i < ks.length := by rw [← hisz]; exact (Array.getElem?_eq_some_iff.mp hv).1
          have e : (ks.map kV)[i]? = some (kV ks[i]) := by rw [List.getElem?_map, List.getElem?_eq_getElem hi]; rfl
          obtain ⟨u, hu, ru⟩ := hit.get e
          rw [Array.getElem?_toList, hv] at hu
          cases hu
          exact ⟨_, List.getElem?_eq_getElem hi, ru⟩
        refine setM_update ((Walks.list hh3 _ l hneI items).toS) s.heap.objs.size hSf ks hisz hb hval (items.size - 0) 0 _ (by omega) (Nat.zero_le _) ⟨⟨_, Heap.get?_push_size _ rfl, rfl, rfl⟩, (hl1.push _)⟩ ?hS0 ?hR
        case hS0 =>
          have hget : ((s.heap.push (noSet w)).push { cls := .type "list_iterator", data := .fields #[.ref l, .int 0 0] }).get? s.heap.objs.size = some (noSet w) := Heap.get?_push_of_some _ hS
          exact ⟨0, Nat.le_refl 0, (setM_new hget).congr fun k => rfl⟩
        case hR =>
          intro s' c' hm hc' hS'
          obtain ⟨h', g2, d', tk', os'⟩ := s'
          have eg : g2 = s.gens := hm.gens
          have ed : d' = s.drawn := hm.drawn
          have eo : os' = s.os := hm.os
          subst eg; subst ed; subst eo
          show wpAny _ _ _ _ _ _
          refine wpAny_pure ?_
          show wpAny _ _ (ret Value.none) _ _ _
          rw [hisz] at hc'
          refine wpAny_pure ⟨rfl, h', tk', c', rfl, hS', hc', fun b o e => ?_⟩
          have hb0 : b < s.heap.objs.size := Heap.lt_size e
          have hb1 : b ≠ s.heap.objs.size := Nat.ne_of_lt hb0
          have hb2 : b ≠ (s.heap.push (noSet w)).objs.size := by
            rw [Heap.size_push]
            exact Nat.ne_of_lt (Nat.lt_succ_of_lt hb0)
          exact hm.heap b o (by simp only [List.mem_cons, List.mem_singleton, List.not_mem_nil, or_false, not_or]; exact ⟨hb1, hb2⟩) (Heap.get?_push_of_some _ (Heap.get?_push_of_some _ e))
      · cases r₂ with
        | error e => exact hr₂
        | ok fl₂ =>
          cases fl₂ with
          | ret r =>
            obtain ⟨rfl, h', tk, c', rfl, hS', hc', hk'⟩ := hr₂
            repeat (any_goals (first | assumption | wp_step))
            exact h _ _ _ hS' hc' hk'
          | _ => exact hr₂.elim
    | _ => exact hr.elim
/-- sorted(set), any kind of keys -/
theorem sorted_setG {κ : PyProof.Rows.KeyKind} (hO : κ.OneLt) {a : Addr} {S : Key → Bool} {n : Nat} {Q : Value → Shared → Prop} (R : SetM w s.heap a S n) (hh : A.handled = none)
    (hK : ∀ vs : List Value, (∀ v ∈ vs, ∃ k, S k = true ∧ RelV (kV k) v) → KeysOf κ (pairsOf vs) ∧ ∀ v₁ v₂ rest, vs = v₁ :: v₂ :: rest → keyKind' (v₁ :: v₂ :: rest).toArray = pure oneType')
    (hQ : ∀ s' p (vs : List Value) (st' : SortSt) (c : Nat), (∀ b o, s.heap.get? b = some o → s'.heap.get? b = some o) → s'.gens = s.gens → s'.os = s.os → s.heap.objs.size ≤ p → s'.heap.get? p = some (seqObj "list" ((arrOf st').map (·.2)) c) →
      (∀ v ∈ vs, ∃ k, S k = true ∧ RelV (kV k) v) → (vs.map vK).Nodup → (∀ k, S k = true ↔ k ∈ vs.map vK) → vs.length = n → (arrOf st').Perm (pairsOf vs) → SortedToK κ (arrOf st') (pairsOf vs).size → Q (.ref p) s') :
    wpAny (model P w) A (call (.builtin "sorted") [.ref a]) Q E s := by
  obtain ⟨o, es, ep, t, ho, hex, hd, g, nd, hm, hb, hf, hn, hr, hl⟩ := R
  refine Calls.call_function_entry kind_sorted plain_sorted entry_sorted (args_sorted1 _) ?_
  unfold Builtin.«sorted»
  refine wpAny_bind (m := checkCount "sorted" 1 1 _) (wpAny_pure ?_)
  refine wpAny_bind (collect_set (A := A.in1) hh ⟨o, ho, hex.1, hd⟩ hf hb hr hl fun s1 vs k1 hz g1 o1 pm => ?_)
  have hvl : vs.length = n := by rw [pm.length_eq, List.length_map, Array.length_toList]; exact hn
  have ev : (es.toList.map (·.2)).map vK = es.toList.map eK := by rw [List.map_map]; rfl
  have pk : (vs.map vK).Perm (es.toList.map eK) := by rw [← ev]; exact pm.map vK
  have hv : ∀ v ∈ vs, ∃ k, S k = true ∧ RelV (kV k) v := fun v hv => by
    obtain ⟨e, he, rfl⟩ := List.mem_map.mp (pm.mem_iff.mp hv)
    obtain ⟨k, h1, _⟩ := g e he
    exact ⟨k, (hm k).2 (List.mem_map.mpr ⟨e, he, vK_of h1⟩), h1⟩
  have hn2 : vs.length ≤ sizeLine := by rw [hvl, ← hn]; exact fits_of_scanBound hb
  refine wpAny_bind (wpAny_newList ?_ hn2)
  have hoL : (s1.heap.push (seqObj "list" vs.toArray 0)).get? s1.heap.objs.size = some (seqObj "list" vs.toArray 0) := Heap.get?_push_size _ rfl
  obtain ⟨q1, q2⟩ := hK vs hv
  refine wpAny_bind (wpAny_holding (wpAny_call_entry slot_list_sort ⟨_, hoL, rfl⟩ entry_list_sort (list_sort_treeKAny hO hoL q1 q2 hn2 fun st' a1 a2 => ⟨_, rfl, ?_⟩) (args_list_sort _)))
  obtain ⟨c, hc⟩ := sortedHeap_at (vs := vs) (out := (arrOf st').map (·.2)) hoL
  refine wpAny_pure ⟨_, rfl, hQ _ s1.heap.objs.size vs st' c (fun b u e => ?_) g1 o1 hz hc hv (pk.nodup_iff.mpr nd) (fun k => by rw [pk.mem_iff, ← hm k]) hvl a1 a2⟩
  have q := k1 b u e
  have hlt := Heap.lt_size q
  show (sortedHeap (s1.heap.push (seqObj "list" vs.toArray 0)) s1.heap.objs.size vs ((arrOf st').map (·.2))).get? b = some u
  rw [sortedHeap_old (Nat.ne_of_lt hlt) (by rw [size_push']; exact Nat.lt_succ_of_lt hlt)]
  exact Heap.get?_push_of_some _ q
end
/-- texts, strictly ascending -/
theorem strs_of_keys : ∀ {vs : List Value}, (∀ v ∈ vs, ∃ x : Str, RelV (.str x) v) → ∃ ss : List Str, StrsAre vs ss ∧ vs.map vK = ss.map Sum.inr
  | [], _ => ⟨[], .nil, rfl⟩
  | v :: vs, h => by
    obtain ⟨ss, h1, h2⟩ := strs_of_keys (vs := vs) fun u hu => h u (List.mem_cons_of_mem _ hu)
    obtain ⟨x, t, rfl⟩ := h v List.mem_cons_self
    exact ⟨x :: ss, .cons x t h1, by rw [List.map_cons, h2]; rfl⟩
theorem ints_of_keys : ∀ {vs : List Value}, (∀ v ∈ vs, ∃ x : Int, RelV (.int x) v) → ∃ ss : List Int, IntsAre vs ss ∧ vs.map vK = ss.map Sum.inl
  | [], _ => ⟨[], .nil, rfl⟩
  | v :: vs, h => by
    obtain ⟨ss, h1, h2⟩ := ints_of_keys (vs := vs) fun u hu => h u (List.mem_cons_of_mem _ hu)
    obtain ⟨x, t, rfl⟩ := h v List.mem_cons_self
    exact ⟨x :: ss, .cons x t h1, by rw [List.map_cons, h2]; rfl⟩
/-- the set of keys at a, that can be walked -/
def SetMO (w : World) (a : Addr) (S : Key → Bool) (n : Nat) : HO := .ext fun h => SetM w h a S n
section
variable {X : Cx}
theorem setMO_new {w : World} {P : Program} {H : Hp} {h : Heap} {a : Addr} {S : Key → Bool} {n : Nat} (R : SetM w h a S n) : ObjOk P w H h a (SetMO w a S n) := by
  have ⟨o, _, _, _, ho, _⟩ := R
  exact ⟨R, ⟨o, ho⟩, fun h1 h2 p k => SetM.at p k⟩
/-- set(xs), xs a list of ints or texts -/
def rSetLs (K : PySem.W.Frag) (w : World) : List V → Hp → VK → Prop := fun xs H Q => ∃ (l : Addr) (ks : List Key), xs = [V.ref l] ∧ SqL K H l (ks.map kV) ∧ ks.length ≤ 1000 ∧ ∀ p n, H p = none → n ≤ ks.length → Q (.ref p) (upd H p (SetMO w p (kIn ks) n))
theorem cr_setL (hc : X.calm = true) : CallR X (.type "set") (rSetLs X.K X.w) := by
  intro pins s σ H xs us Q I r h
  obtain ⟨l, ks, rfl, hl, hk, q⟩ := h
  rw [Vals.ref1 r]
  obtain ⟨its, rv, pl, hz⟩ := I.list hl
  have hn : H s.heap.objs.size = none := I.hok.fresh (Nat.le_refl _)
  refine call_setL (P := X.prog) (w := X.w) ks (I.ok.hd hc) pl.isList (by simpa using rv) (by unfold scanBound; omega) fun h' tk c R hcn k => ?_
  exact ⟨.ref s.heap.objs.size, upd H s.heap.objs.size (SetMO X.w s.heap.objs.size (kIn ks) c), I.laid (t' := tk) k (Nat.le_refl _) (setMO_new R), rfl, q _ c hn hcn⟩
/-- sorted(set) -/
def rSortM (w : World) : List V → Hp → VK → Prop := fun vs H Q => ∃ (a : Addr) (S : Key → Bool) (n : Nat), vs = [V.ref a] ∧ H a = some (SetMO w a S n) ∧
  ((∃ xs : List Str, (∀ k, S k = true ↔ k ∈ xs.map (Sum.inr : Str → Key)) ∧ ∀ (ys : List Str) (p : Addr), H p = none → ys.Nodup → (∀ z, z ∈ ys ↔ z ∈ xs) → sortedS ys = true → ys.length = n → Q (.ref p) (upd H p (.lst (ys.map V.str)))) ∨
   (∃ xs : List Int, (∀ k, S k = true ↔ k ∈ xs.map (Sum.inl : Int → Key)) ∧ ∀ (ys : List Int) (p : Addr), H p = none → ys.Pairwise (· < ·) → (∀ z, z ∈ ys ↔ z ∈ xs) → ys.length = n → Q (.ref p) (upd H p (.lst (ys.map V.int)))))
theorem nodup_inj {α β : Type} {f : α → β} {l : List α} (h : (l.map f).Nodup) : l.Nodup := List.Pairwise.of_map f (fun _ _ hne e => hne (congrArg f e)) h
theorem cr_sortM (hc : X.calm = true) : CallR X (.builtin "sorted") (rSortM X.w) := by
  intro pins s σ H vs us Q I r h
  obtain ⟨a, S, n, rfl, ha, h⟩ := h
  have R : SetM X.w s.heap a S n := (I.hok a _ ha).1
  have nz : n ≤ sizeLine := by
    obtain ⟨o, es, ep, t, _, _, _, _, _, _, hb, _, hn, _⟩ := R
    rw [← hn]
    exact fits_of_scanBound hb
  rw [Vals.ref1 r]
  rcases h with ⟨xs, hx, q⟩ | ⟨xs, hx, q⟩
  · have hstr : ∀ vs : List Value, (∀ v ∈ vs, ∃ k, S k = true ∧ RelV (kV k) v) → ∃ ss : List Str, StrsAre vs ss ∧ vs.map vK = ss.map Sum.inr := fun vs hv => strs_of_keys fun v hm => by
      obtain ⟨k, h1, h2⟩ := hv v hm
      obtain ⟨x, _, rfl⟩ := List.mem_map.mp ((hx k).1 h1)
      exact ⟨x, h2⟩
    refine sorted_setG strKind_oneLt R (I.ok.hd hc) (fun vs hv => ?_) fun s' p vs st' c k g o hp hg hv nd hm hl a1 a2 => ?_
    · obtain ⟨ss, h1, _⟩ := hstr vs hv
      exact ⟨h1.keysOf, fun v₁ v₂ rest e => keyKind_strs (by rw [← e]; exact h1)⟩
    · obtain ⟨ss, h1, h2⟩ := hstr vs hv
      obtain ⟨ys, b1, b2, b3⟩ := sorted_out_str h1 a1 a2
      have ln : ys.length = n := by
        rw [b2.length_eq, ← hl]
        have z := congrArg List.length h2
        rw [List.length_map, List.length_map] at z
        exact z.symm
      have hlen : (ys.map V.str).length ≤ sizeLine := by rw [List.length_map, ln]; exact nz
      have hn : H p = none := I.hok.fresh hp
      have J : Inv X pins σ (upd H p (.lst (ys.map V.str))) { s with heap := s'.heap, gens := s'.gens, drawn := s'.drawn, toks := s'.toks } :=
        I.call (ch := []) (Un.laid k hp hn) (I.hok.laid k hp ⟨hlen, _, c, vals_of_strs b1, hg⟩) (by rw [g]; exact I.bare) (fun _ z => nomatch z)
      have e : s' = { s with heap := s'.heap, gens := s'.gens, drawn := s'.drawn, toks := s'.toks } := by
        cases s'
        cases s
        cases o
        rfl
      rw [e]
      rw [h2] at nd
      refine ⟨.ref p, _, J, rfl, q ys p hn (b2.nodup_iff.mpr (nodup_inj nd)) (fun z => ?_) b3 ln⟩
      have e1 := hm (Sum.inr z)
      rw [h2] at e1
      have e2 := hx (Sum.inr z)
      have inj : ∀ l : List Str, (Sum.inr z : Key) ∈ l.map Sum.inr ↔ z ∈ l := fun l => by simp
      rw [inj] at e1 e2
      rw [b2.mem_iff, ← e1, e2]
  · have hint : ∀ vs : List Value, (∀ v ∈ vs, ∃ k, S k = true ∧ RelV (kV k) v) → ∃ ss : List Int, IntsAre vs ss ∧ vs.map vK = ss.map Sum.inl := fun vs hv => ints_of_keys fun v hm => by
      obtain ⟨k, h1, h2⟩ := hv v hm
      obtain ⟨x, _, rfl⟩ := List.mem_map.mp ((hx k).1 h1)
      exact ⟨x, h2⟩
    refine sorted_setG PyProof.Rows.intKind_oneLt R (I.ok.hd hc) (fun vs hv => ?_) fun s' p vs st' c k g o hp hg hv nd hm hl a1 a2 => ?_
    · obtain ⟨ss, h1, _⟩ := hint vs hv
      exact ⟨h1.keysOfInt, fun v₁ v₂ rest e => keyKind_ints (by rw [← e]; exact h1)⟩
    · obtain ⟨ss, h1, h2⟩ := hint vs hv
      obtain ⟨ys, b1, b2, b3⟩ := sorted_out h1 a1 (sortedTo_of_int a2)
      have ln : ys.length = n := by
        rw [b2.length_eq, ← hl]
        have z := congrArg List.length h2
        rw [List.length_map, List.length_map] at z
        exact z.symm
      have hlen : (ys.map V.int).length ≤ sizeLine := by rw [List.length_map, ln]; exact nz
      have hn : H p = none := I.hok.fresh hp
      have J : Inv X pins σ (upd H p (.lst (ys.map V.int))) { s with heap := s'.heap, gens := s'.gens, drawn := s'.drawn, toks := s'.toks } :=
        I.call (ch := []) (Un.laid k hp hn) (I.hok.laid k hp ⟨hlen, _, c, vals_of_ints b1, hg⟩) (by rw [g]; exact I.bare) (fun _ z => nomatch z)
      have e : s' = { s with heap := s'.heap, gens := s'.gens, drawn := s'.drawn, toks := s'.toks } := by
        cases s'
        cases s
        cases o
        rfl
      rw [e]
      rw [h2] at nd
      refine ⟨.ref p, _, J, rfl, q ys p hn (lt_of_le_nodup ys b3 (b2.nodup_iff.mpr (nodup_inj nd))) (fun z => ?_) ln⟩
      have e1 := hm (Sum.inl z)
      rw [h2] at e1
      have e2 := hx (Sum.inl z)
      have inj : ∀ l : List Int, (Sum.inl z : Key) ∈ l.map Sum.inl ↔ z ∈ l := fun l => by simp
      rw [inj] at e1 e2
      rw [b2.mem_iff, ← e1, e2]
end
end L2

set_option Elab.async false
set_option linter.all false
set_option maxRecDepth 100000
set_option maxHeartbeats 4000000
namespace Ash
open PySem PySem.Spec PyProof.Rows L2
open C8 (pss_cut)
open SrtT (T3 lex3)
/-- no name -/
def NoName (K : PySem.W.Frag) (H : Hp) (v : V) : Prop := (∃ z, v = .str z ∧ z.length ≤ sizeLine ∧ nmB z = false) ∨ NotStr K H v
/-- no stream of the book -/
def NoStr (K : PySem.W.Frag) (H : Hp) (L : List (Str × Int)) (v : V) : Prop := (∃ z, v = .str z ∧ z.length ≤ sizeLine ∧ (nmB z && (L.lookup z).isSome) = false) ∨ NotStr K H v
theorem NotStr.same {K : PySem.W.Frag} {H H' : Hp} {v : V} (h : NotStr K H v) (s : Same H H') : NotStr K H' v := by
  obtain ⟨t, h1, h2⟩ := h
  exact ⟨t, tyx_same h1 s, h2⟩
theorem NoName.same {K : PySem.W.Frag} {H H' : Hp} {v : V} (h : NoName K H v) (s : Same H H') : NoName K H' v := h.imp id fun q => q.same s
theorem NoStr.same {K : PySem.W.Frag} {H H' : Hp} {L : List (Str × Int)} {v : V} (h : NoStr K H L v) (s : Same H H') : NoStr K H' L v := h.imp id fun q => q.same s
def spHasB (K : PySem.W.Frag) (CB : Addr) : Sp := fun vs H Q _ => ∃ (b : Addr) (L : List (Str × Int)) (v : V), vs = [.ref b, v] ∧ BookAt CB H b L ∧
  ((∃ z, v = .str z ∧ IsNm z ∧ ∀ H', Same H H' → Q (.bl (L.lookup z).isSome) H') ∨ (NoStr K H L v ∧ ∀ H', Same H H' → Q (.bl false) H'))
def spRowsX (K : PySem.W.Frag) (aT CJ CB CN : Addr) : Sp := fun vs H _ E => ∃ (j b : Addr) (L : List (Str × Int)) (us : List V) (xs : List Ent) (v w : V), vs = [.ref j, v, w] ∧ JAt K aT CJ CB H j b L us xs ∧
  ((NoStr K H L v ∧ ∀ d H', Same H H' → Xd H' d "value" v → E (.ref CN) (some d) H') ∨
   (∃ z, v = .str z ∧ IsNm z ∧ (L.lookup z).isSome ∧ NoName K H w ∧ ∀ d H', Same H H' → Xd H' d "value" w → E (.ref CN) (some d) H'))
def spLRef (K : PySem.W.Frag) (aT CJ CB : Addr) : Sp := fun vs H Q _ => ∃ (j b : Addr) (L : List (Str × Int)) (us : List V) (xs : List Ent) (v w : V), vs = [.ref j, v, w] ∧ JAt K aT CJ CB H j b L us xs ∧
  ((NoStr K H L v ∧ ∀ t H', Same H H' → H' t = some (.tup [.str "refused", v]) → Q (.ref t) H') ∨
   (∃ z, v = .str z ∧ IsNm z ∧ (L.lookup z).isSome ∧ NoName K H w ∧ ∀ t H', Same H H' → H' t = some (.tup [.str "refused", w]) → Q (.ref t) H'))
def keysOf (xs : List Ent) : List Str := xs.filterMap fun x => match x with
  | .row _ _ k _ _ _ => some k
  | _ => none
def spKeyNames (K : PySem.W.Frag) (aT CJ CB : Addr) : Sp := fun vs H Q _ => ∃ (j b : Addr) (L : List (Str × Int)) (us : List V) (xs : List Ent), vs = [.ref j] ∧ JAt K aT CJ CB H j b L us xs ∧ us.length ≤ 400 ∧
  ∀ p ys H', Same H H' → H p = none → H' p = some (.lst (ys.map V.str)) → ys.Nodup → sortedS ys = true → (∀ z, z ∈ ys ↔ z ∈ keysOf xs) → Q (.ref p) H'
def spLatest2 (K : PySem.W.Frag) (aT CJ CB : Addr) : Sp := fun vs H Q _ => ∃ (j b : Addr) (L : List (Str × Int)) (us : List V) (xs : List Ent), vs = [.ref j] ∧ JAt K aT CJ CB H j b L us xs ∧ us.length ≤ 400 ∧ Q (latV (lastA xs none)) H
section
variable {P : Program} {w : World} {K : PySem.W.Frag} {mg : Str → Option Value} {base : Heap}
theorem ok_hasB {f CB : Addr} {fd : FuncData} (F : Fun K "has" "Book.has" s_Book_has f fd) (B : Blt mg) (T : Cb K mg CB) (G : K2 P w K mg base) : FnOk P w K mg base CX0 2 f fd ["self", "stream"] (spHasB K CB) := by
  refine F.ok sc_Book_has (fun vs H Q E h => ?_) (fun cdv A outer s H vs Q E hr h => ?_)
  · obtain ⟨b, L, z, rfl, _⟩ := h
    rfl
  · obtain ⟨b, L, v, rfl, hB, hv⟩ := h
    have hu := hu_of hr
    refine ⟨_, (pss_one (ps_ret (pe_and (pe_cal G.is_name (hr.mono (by decide)) pass0 (pa_cons (pv 1) pa_nil)) (pe_one (pe_cmp (pc_din hu (pv 1) (pe_fld (pv 0) rfl)) rfl))))), ?_⟩
    rcases hv with ⟨z, rfl, hz, q⟩ | ⟨⟨z, rfl, hz, hn⟩ | hn, q⟩
    · refine ⟨_, rfl, _, rfl, .inl ⟨z, rfl, (by have := hz.2.1; rw [sizeLine_eq]; omega), fun H1 s1 => ⟨_, rfl, ?_⟩⟩⟩
      rw [(nmB_iff z).mpr hz]
      obtain ⟨dx, d, L', h1, h2, h3, _⟩ := hB.same s1
      refine iteT ⟨_, rfl, _, rfl, b, CB, dx, _, _, rfl, h1, T.cl, T.nL, rfl, d, _, rfl, DGet.k (k := Sum.inr z) h2, ?_⟩
      have e : (valV (LK L') (Sum.inr z : Key)).isSome = (L.lookup z).isSome := by rw [LK_val, Option.isSome_map, h3]
      rw [e]
      exact q H1 s1
    · refine ⟨_, rfl, _, rfl, .inl ⟨z, rfl, hz, fun H1 s1 => ⟨_, rfl, ?_⟩⟩⟩
      cases c : nmB z with
      | false => exact iteF (q H1 s1)
      | true =>
        rw [c] at hn
        obtain ⟨dx, d, L', h1, h2, h3, _⟩ := hB.same s1
        refine iteT ⟨_, rfl, _, rfl, b, CB, dx, _, _, rfl, h1, T.cl, T.nL, rfl, d, _, rfl, DGet.k (k := Sum.inr z) h2, ?_⟩
        have e : (valV (LK L') (Sum.inr z : Key)).isSome = (L.lookup z).isSome := by rw [LK_val, Option.isSome_map, h3]
        rw [e, show (L.lookup z).isSome = false from hn]
        exact q H1 s1
    · exact ⟨_, rfl, _, rfl, .inr ⟨hn, _, rfl, iteF (q H (Same.refl H))⟩⟩
theorem ok_rowsX {f fh CJ CB CN fN a_TAKEN_BACK : Addr} {fd fdh : FuncData} (F : Fun K "rows" "Journal.rows" s_Journal_rows f fd) (B : Blt mg) (T : Cj P K mg CJ CB) (TB : Cb K mg CB) (Tt : Tb K mg a_TAKEN_BACK) (TN : PySem.BadX.Txt P K mg "value" "value" CN fN) (c_BadName : mg "BadName" = some (.ref CN)) (G : K2 P w K mg base) (M_has : Meth K CB "has" fh) (b_has : Binds K fdh ["self", "stream"] []) (F_has : FnOk P w K mg base CX0 2 fh fdh ["self", "stream"] (spHasB K CB)) : FnOk P w K mg base (L2.CX P w) 3 f fd ["self", "stream", "key"] (spRowsX K a_TAKEN_BACK CJ CB CN) := by
  have g_TAKEN_BACK := Tt.g
  refine F.okX sc_Journal_rows (fun vs H Q E h => ?_) (fun cdv A outer s H vs Q E hr h => ?_)
  · obtain ⟨j, b, L, us, xs, v, w, rfl, _⟩ := h
    rfl
  · obtain ⟨j, b, L, us, xs, v, w, rfl, hJ, hv⟩ := h
    refine ⟨_, (pss_cons (ps_if (pt_not (pt_val (pe_meth (pe_fld (pv 0) rfl) TB.cl M_has F_has (hr.mono (by decide)) b_has .nil pass0 (pa_cons (pv 1) pa_nil))))
      (pss_one (ps_raiseB rfl TN par_value c_BadName (hr.mono (Nat.zero_le _)) (takes_of rfl rfl rfl rfl) (pa_cons (pv 1) pa_nil) (by rfl)))
      pss_nil)
    (pss_cons (ps_if (pt_not (pt_val (pe_cal G.is_name (hr.mono (by decide)) pass0 (pa_cons (pv 2) pa_nil))))
      (pss_one (ps_raiseB rfl TN par_value c_BadName (hr.mono (Nat.zero_le _)) (takes_of rfl rfl rfl rfl) (pa_cons (pv 2) pa_nil) (by rfl)))
      pss_nil)
    (pss_cons (ps_set (i := 3) sc_Journal_rows.nd rfl (Or.inl rfl) (pe_lst pa_nil))
    (pss_cons (ps_lock (ps_for (passes_of rfl) rfl (pi_items (pe_fld (pv 0) rfl)) (pg_tup (by rfl) (pgs_cons (pg_name (i := 4) sc_Journal_rows.nd rfl (Or.inl rfl)) (pgs_cons (pg_name (i := 5) sc_Journal_rows.nd rfl (Or.inl rfl)) pgs_nil)))
      (pss_one (ps_if (PW.pt (pw_and (pt_cmpR (op_neD hr.units) (pv 5) (pe_glob (v := .ref a_TAKEN_BACK) (by rfl) g_TAKEN_BACK rfl) (nomark _)) (pw_and (pt_cmpR op_eq (pe_ix ix_tup (pv 5) pe_int (fun _ _ => rfl)) (pv 1) (nomark _)) (pw_and1 (pt_cmpR op_eq (pe_ix ix_tup (pv 5) pe_int (fun _ _ => rfl)) (pv 2) (nomark _))))))
        (pss_one (ps_expr (pe_bm PySem.F.plainAttrs_list PySem.F.slot_list_append PySem.F.type_list_append mt_append (pv 3) (pa_cons (pe_tup (pa_cons (pe_ix ix_tup (pv 5) pe_int (fun _ _ => rfl)) (pa_cons (pv 4) (pa_cons (pe_ix ix_tup (pv 5) pe_int (fun _ _ => rfl)) pa_nil)))) pa_nil))))
        pss_nil))))
    (pss_one (ps_ret (pe_callB cr_sorted3 (by rfl) B.sorted (by decide +kernel) (pa_cons (pv 3) pa_nil)))))))), ?_⟩
    obtain ⟨dx, t, kd, h1, h2, h3, hl, h5, h6, h7⟩ := id hJ
    obtain ⟨bx, bd, L', b1, b2, b3⟩ := id h2
    refine ⟨_, rfl, j, CJ, dx, _, _, rfl, h1, T.cl, T.nB, jf_b _ _ _, b, bx, _, rfl, b1, rfl, _, rfl, b, L, v, rfl, h2, ?_⟩
    rcases hv with ⟨hn, q⟩ | ⟨z, rfl, hz, hzL, hn, q⟩
    · exact .inr ⟨hn, fun H1 s1 => ⟨_, rfl, iteT ⟨_, rfl, _, rfl, fun d hd => q d _ (s1.trans (sameAt (Same.refl H1) hd)) upd_same⟩⟩⟩
    · refine .inl ⟨z, rfl, hz, fun H1 s1 => ⟨_, rfl, ?_⟩⟩
      rw [hzL]
      refine iteF ?_
      rcases hn with ⟨y, rfl, hy, hn⟩ | hn
      · refine ⟨_, rfl, _, rfl, .inl ⟨y, rfl, hy, fun H2 s2 => ⟨_, rfl, ?_⟩⟩⟩
        rw [hn]
        exact iteT ⟨_, rfl, _, rfl, fun d hd => q d _ ((s1.trans s2).trans (sameAt (Same.refl H2) hd)) upd_same⟩
      · exact ⟨_, rfl, _, rfl, .inr ⟨hn.same s1, _, rfl, iteT ⟨_, rfl, _, rfl, fun d hd => q d _ (s1.trans (sameAt (Same.refl H1) hd)) upd_same⟩⟩⟩
abbrev s_l_refused : Stmt := topS 43
theorem sc_l_refused : FnScope ["journal", "stream", "key", "e"] ["journal", "stream", "key"] (defScope s_l_refused) := ⟨rfl, rfl, rfl, by decide +kernel, rfl, by decide +kernel, by decide +kernel⟩
theorem ok_lref {f CJ CB CN fN aT : Addr} {fd : FuncData} (F : Fun K "_law_refused" "_law_refused" s_l_refused f fd) (B : Blt mg) (T : Cj P K mg CJ CB) (TN : PySem.BadX.Txt P K mg "value" "value" CN fN) (c_BadName : mg "BadName" = some (.ref CN))
    (G : Met P w K mg base (L2.CX P w) CJ "rows" 3 ["self", "stream", "key"] (spRowsX K aT CJ CB CN)) : FnOk P w K mg base CX0 5 f fd ["journal", "stream", "key"] (spLRef K aT CJ CB) := by
  refine F.ok sc_l_refused (fun vs H Q E h => ?_) (fun cdv A outer s H vs Q E hr h => ?_)
  · obtain ⟨j, b, L, us, xs, v, w, rfl, _⟩ := h
    rfl
  · obtain ⟨j, b, L, us, xs, v, w, rfl, hJ, hv⟩ := h
    refine ⟨_, (pss_one (ps_try_as (i := 3) (tb := fun W => tRet (tTup (tCons (tC (.str "told")) (tCons (tMeth CJ "rows" (spRowsX K aT CJ CB CN) [] (WEn 4 W) (tVar 0) (tCons (tVar 1) (tCons (tVar 2) tNil))) tNil)))) (ts := fun a cls d => tRet (tTup (tCons (tC (.str "refused")) (tCons (tByB "value" CN a cls d (tVar 3)) tNil)))) (Wout := fun _ _ _ _ => False) rfl rfl sc_l_refused.nd rfl rfl ⟨rfl, by decide, .inl c_BadName⟩ takes0 (fun W pn xe tk _ =>
      (pss_one (ps_ret (pe_tup (pa_cons pe_str (pa_cons (pe_met T.cl G (hr.mono (by decide)) (passN (n := 4) rfl tk) (pv 0) (pa_cons (pv 1) (pa_cons (pv 2) pa_nil))) pa_nil))))))
      (fun a oe cls d pn hz hf => (pss_one (ps_ret (pe_tup (pa_cons pe_str (pa_cons (pe_byB TN hz hf (pv 3)) pa_nil)))))))), ?_⟩
    obtain ⟨dx, t0, kd, h1, h2, h3, hl, h5, h6⟩ := id hJ
    refine ⟨_, rfl, j, dx, _, rfl, h1, jf_no _ _ _ (by decide +kernel) (by decide +kernel) (by decide +kernel), _, rfl, _, rfl, j, b, L, us, xs, v, w, rfl, hJ, ?_⟩
    rcases hv with ⟨hn, q⟩ | ⟨z, rfl, hz, hzL, hn, q⟩
    · refine .inl ⟨hn, fun d H1 s1 hx σ hσ => ?_⟩
      refine ⟨true, TN.te, fun _ a ha => ?_, fun q => Bool.noConfusion q⟩
      match σ, hσ with
      | [_, _, _, _], _ => exact ⟨_, rfl, rfl, rfl, d, _, rfl, hx, (by show 2 ≤ sizeLine; decide), fun t ht => q t _ (sameAt s1 (none_of s1 ht)) upd_same⟩
    · refine .inr ⟨z, rfl, hz, hzL, hn, fun d H1 s1 hx σ hσ => ?_⟩
      refine ⟨true, TN.te, fun _ a ha => ?_, fun q => Bool.noConfusion q⟩
      match σ, hσ with
      | [_, _, _, _], _ => exact ⟨_, rfl, rfl, rfl, d, _, rfl, hx, (by show 2 ≤ sizeLine; decide), fun t ht => q t _ (sameAt s1 (none_of s1 ht)) upd_same⟩
abbrev s_Journal_key_names : Stmt := inClass (topS 30) 11
theorem sc_Journal_key_names : FnScope ["self", "entry"] ["self"] (defScope s_Journal_key_names) := ⟨rfl, rfl, rfl, by decide +kernel, rfl, by decide +kernel, by decide +kernel⟩
theorem ok_keynames {f CJ CB aT : Addr} {fd : FuncData} (F : Fun K "key_names" "Journal.key_names" s_Journal_key_names f fd) (B : Blt mg) (T : Cj P K mg CJ CB) : FnOk P w K mg base CX0 1 f fd ["self"] (spKeyNames K aT CJ CB) := by
  refine F.ok sc_Journal_key_names (fun vs H Q E h => ?_) (fun cdv A outer s H vs Q E hr h => ?_)
  · obtain ⟨j, b, L, us, xs, rfl, _⟩ := h
    rfl
  · obtain ⟨j, b, L, us, xs, rfl, hJ, h4, q⟩ := h
    refine ⟨_, (pss_one (ps_ret (pe_callB (cr_sortM rfl) (by rfl) B.sorted (by decide +kernel) (pa_cons (pe_callTy (cr_setL rfl) (by rfl) B.set (by decide +kernel) (pa_cons (pe_lc (own := [("entry", 1)]) (g := gName 1) (by rfl) sc_Journal_key_names.nd (pi_tup (pe_fld (pv 0) rfl)) (blkOk_by (own := [("entry", 1)]) (N := ["self", "entry"]) (sc := defScope s_Journal_key_names) (by decide +kernel)) (fun _ _ _ _ _ => (pg_name (i := 1) sc_Journal_key_names.nd rfl (Or.inl rfl))) (fun _ _ _ _ _ => pts_one (pt_cmpR op_eq (pe_ix (show IxR _ (rIxT K) from ix_tup) (pv 1) pe_int (fun _ _ => rfl)) pe_str (nomark _))) (fun _ _ _ _ _ => (pe_ix (show IxR _ (rIxT K) from ix_tup) (pv 1) pe_int (fun _ _ => rfl)))) pa_nil)) pa_nil)))), ?_⟩
    obtain ⟨dx, t, kd, h1, h2, h3, hl, h5, h6, h7⟩ := id hJ
    refine ⟨_, rfl, j, CJ, dx, _, _, rfl, h1, T.cl, T.nE, jf_e _ _ _, t, rfl, ⟨_, h3⟩, fun D hD => lc_it (walk_tup (xs := us)) (fun i H5 => H5 D = some (.lst ((keysOf (xs.take i)).map V.str)) ∧ Same H H5) ⟨upd_same, sameAt (Same.refl H) hD⟩ (fun i H5 _ hv => seqS h3 hv.2) ?_ ?_⟩
    · rintro i v H5 H6 hi ⟨hD5, s5⟩ ⟨rfl, hvi⟩
      have hix : i < xs.length := by rw [← hl]; exact hi
      obtain ⟨x, hx⟩ : ∃ x, xs[i]? = some x := ⟨_, List.getElem?_eq_getElem hix⟩
      obtain ⟨e, rfl, he, hok⟩ := (h5 i v x hvi hx).same s5
      have lf : (keysOf (xs.take i)).length ≤ 400 := Nat.le_trans (List.length_filterMap_le _ _) (by rw [List.length_take]; omega)
      have st : keysOf (xs.take (i + 1)) = keysOf (xs.take i) ++ keysOf [x] := by
        unfold keysOf
        rw [list_take' hx, List.filterMap_append]
      refine ⟨rfl, ?_⟩
      cases x with
      | row id s k m a r =>
        refine ⟨_, rfl, _, _, _, _, rfl, rfl, SqT.of he, rfl, rfl, _, rfl, iteT ⟨_, rfl, _, _, _, _, rfl, rfl, SqT.of he, rfl, _, hD5, (by rw [List.length_map]; exact small1000 (by omega)), ?_, sameAt s5 hD⟩⟩
        rw [upd_same, st, List.map_append]
        rfl
      | fix id m a r =>
        refine ⟨_, rfl, _, _, _, _, rfl, rfl, SqT.of he, rfl, rfl, _, rfl, iteF ⟨?_, s5⟩⟩
        rw [st]
        exact hD5.trans (by rw [show keysOf [Ent.fix id m a r] = [] from rfl, List.append_nil])
      | gone id r =>
        refine ⟨_, rfl, _, _, _, _, rfl, rfl, SqT.of he, rfl, rfl, _, rfl, iteF ⟨?_, s5⟩⟩
        rw [st]
        exact hD5.trans (by rw [show keysOf [Ent.gone id r] = [] from rfl, List.append_nil])
    · rintro H5 ⟨hD5, s5⟩
      rw [show xs.take us.length = xs by rw [hl, List.take_length]] at hD5
      have lf : (keysOf xs).length ≤ 400 := Nat.le_trans (List.length_filterMap_le _ _) (by omega)
      have ek : ((keysOf xs).map (Sum.inr : Str → Key)).map kV = (keysOf xs).map V.str := by rw [List.map_map]; rfl
      refine ⟨D, (keysOf xs).map Sum.inr, rfl, SqL.of (by rw [ek]; exact hD5), by rw [List.length_map]; omega, fun p n hp hn => ?_⟩
      refine ⟨p, _, n, rfl, upd_same, .inl ⟨keysOf xs, fun k => kIn_iff, fun ys q1 hq1 nd hm hs hln => ?_⟩⟩
      have s7 : Same H5 (upd (upd H5 p (SetMO _ p (kIn ((keysOf xs).map Sum.inr)) n)) q1 (.lst (ys.map V.str))) := (sameAt (Same.refl _) hp).trans (sameAt (Same.refl _) hq1)
      exact q q1 ys _ (s5.trans s7) (none_of (s5.trans (sameAt (Same.refl _) hp)) hq1) upd_same nd hs hm
theorem ok_latest2 {f CJ CB aT : Addr} {fd : FuncData} (F : Fun K "latest" "Journal.latest" s_Journal_latest f fd) (B : Blt mg) (T : Cj P K mg CJ CB) (G : K5 P w K mg base CB) : FnOk P w K mg base CX0 2 f fd ["self"] (spLatest2 K aT CJ CB) := by
  refine F.ok sc_Journal_latest (fun vs H Q E h => ?_) (fun cdv A outer s H vs Q E hr h => ?_)
  · obtain ⟨j, b, L, us, xs, rfl, _⟩ := h
    rfl
  · obtain ⟨j, b, L, us, xs, rfl, hJ, h4, q⟩ := h
    refine ⟨_, (pss_cons (ps_if (pt_cmpR op_eq (pe_callB call_len_seq (by rfl) B.len (by decide +kernel) (pa_cons (pe_fld (pv 0) rfl) pa_nil)) pe_int (nomark _))
      (pss_one (ps_ret pe_non))
      pss_nil)
    (pss_one (ps_ret (pe_cal G.arrival_of (hr.mono (by decide)) pass0 (pa_cons (pe_ix ix_tup (pe_fld (pv 0) rfl) (pe_un un_neg pe_int) (fun _ _ => rfl)) pa_nil))))), ?_⟩
    obtain ⟨dx, t, kd, h1, h2, h3, hl, h5, h6, h7⟩ := id hJ
    by_cases hne : xs = []
    · subst hne
      have hu0 : us = [] := List.length_eq_zero_iff.mp hl
      subst hu0
      exact ⟨_, rfl, j, CJ, dx, _, _, rfl, h1, T.cl, T.nE, jf_e _ _ _, t, _, rfl, .inr h3, rfl, _, rfl, iteT q⟩
    obtain ⟨x, hx1, hx2⟩ := lastA_some (l := none) hne
    have hpos : 0 < xs.length := List.length_pos_iff.mpr hne
    rw [List.getLast?_eq_getElem?] at hx1
    have hu : us[xs.length - 1]? = some us[xs.length - 1] := List.getElem?_eq_getElem (by omega)
    obtain ⟨e, he, hee, hok⟩ := h5 _ _ _ hu hx1
    rw [he] at hu
    refine ⟨_, rfl, j, CJ, dx, _, _, rfl, h1, T.cl, T.nE, jf_e _ _ _, t, us, rfl, .inr h3, rfl, _, rfl, ?_⟩
    rw [decide_eq_false (show ¬ (V.int (us.length : Int) = V.int 0) from fun z => by have := V.int.inj z; omega)]
    rw [hx2] at q
    refine iteF ⟨_, rfl, j, CJ, dx, _, _, rfl, h1, T.cl, T.nE, jf_e _ _ _, _, rfl, _, _, _, V.ref e, rfl, rfl, h3, ?_, e, x, rfl, hee, q⟩
    have e1 : ixN us.length (-1) = some (xs.length - 1) := by
      unfold ixN
      repeat' split
      all_goals first | (congr 1; omega) | omega
    show ((ixN us.length (-1)).bind fun j => us[j]?) = _
    rw [e1]
    exact hu
end
end Ash

set_option Elab.async false
set_option linter.all false
set_option maxRecDepth 100000
set_option maxHeartbeats 4000000
namespace Ash
open PySem PySem.Spec PyProof.Rows L2
open C8 (pss_cut)
open SrtT (T3 lex3)
section
variable {X : Cx} {CX : CXT} {k : Nat} {ps : List Str} {sp : Sp} {E : XK} {o : Expr} {ta : TE} {C : Addr} {m : Str} {apos pos : Pos}
theorem pe_met0 {pl : Sem Bool} (c : Cls X.K C) (G : Met X.prog X.w X.K X.mg X.base CX C m k ps sp) (hr : Room k X.A) (hx : Passes CX X E) (ho : PE X o ta)
    (ht : eval (.Call (.Attribute o m apos) [] [] pos) X.env = (do
      let ov ← eval o X.env
      standAt apos.atName
      let (f, first) ← holding [ov] (getMethod ov m pl)
      callWith pos f first (backTo pos (starEach [] X.env)) (backToKw pos (keywordEach [] X.env))) := by rfl) :
    PE X (.Call (.Attribute o m apos) [] [] pos) (tMeth C m sp [] E ta tNil) := by
  obtain ⟨f, fd, hm, hb, F⟩ := G.ex
  exact pe_meth0 ho c hm F hr hb .nil hx ht
end
theorem ty_tup {K : PySem.W.Frag} {H : Hp} {a : Addr} {xs : List V} (h : SqT K H a xs) : TyX K H (.ref a) (.type "tuple") := by
  rcases h with (h | ⟨o, h⟩) | ⟨o, its, n, h1, h2, h3⟩
  · exact .base (.tup h)
  · exact .fTuple h
  · exact .kTuple h1 h2
theorem str_ext {a b : Str} (h : a.cps.toList = b.cps.toList) : a = b := by
  obtain ⟨x⟩ := a
  obtain ⟨y⟩ := b
  have h : x.toList = y.toList := h
  rw [Array.toList_inj.mp h]
/-- texts in order -/
def LeS (a b : Str) : Prop := decide (b.cps.toList < a.cps.toList) = false
theorem leS_anti {a b : Str} (h : LeS a b) (g : LeS b a) : a = b := str_ext (PyProof.Rows.strKind.total _ _ g h)
theorem leS_trans {a b c : Str} (h : LeS a b) (g : LeS b c) : LeS a c := by
  unfold LeS at *
  cases e : decide (c.cps.toList < a.cps.toList) with
  | false => rfl
  | true =>
    rcases PyProof.Rows.strKind.negTrans _ b.cps.toList _ e with q | q
    · exact absurd (show decide (c.cps.toList < b.cps.toList) = true from q) (by rw [g]; exact Bool.false_ne_true)
    · exact absurd (show decide (b.cps.toList < a.cps.toList) = true from q) (by rw [h]; exact Bool.false_ne_true)
theorem ris_pw : ∀ (l : List Str) (p : Str), risingS p l = true → (p :: l).Pairwise LeS
  | [], p, _ => List.pairwise_singleton _ _
  | x :: r, p, h => by
    have h : (!ltCps x.cps.toList p.cps.toList && risingS x r) = true := h
    rw [Bool.and_eq_true] at h
    have e1 : LeS p x := by
      unfold LeS
      rw [← ltCps_eq]
      simpa using h.1
    have ih := ris_pw r x h.2
    refine List.pairwise_cons.mpr ⟨fun y hy => ?_, ih⟩
    rcases List.mem_cons.mp hy with rfl | hy
    · exact e1
    · exact leS_trans e1 (List.rel_of_pairwise_cons ih hy)
theorem srtS_pw : ∀ {l : List Str}, sortedS l = true → l.Pairwise LeS
  | [], _ => .nil
  | p :: r, h => ris_pw r p h
theorem srt_uniq {α : Type} {le : α → α → Prop} (anti : ∀ a b, le a b → le b a → a = b) : ∀ {l m : List α}, l.Pairwise le → m.Pairwise le → l.Perm m → l = m
  | [], m, _, _, p => (List.nil_perm.mp p).symm
  | a :: l, [], _, _, p => absurd p.symm (by simp)
  | a :: l, b :: m, hl, hm, p => by
    have e : a = b := by
      rcases List.mem_cons.mp (p.mem_iff.mp (List.mem_cons_self (a := a) (l := l))) with h | h
      · exact h
      · rcases List.mem_cons.mp (p.mem_iff.mpr (List.mem_cons_self (a := b) (l := m))) with g | g
        · exact g.symm
        · exact anti _ _ (List.rel_of_pairwise_cons hl g) (List.rel_of_pairwise_cons hm h)
    subst e
    rw [srt_uniq anti (List.pairwise_cons.mp hl).2 (List.pairwise_cons.mp hm).2 ((List.perm_cons a).mp p)]
theorem strs_same {l m : List Str} (hl : sortedS l = true) (hm : sortedS m = true) (nl : l.Nodup) (nm : m.Nodup) (h : ∀ z, z ∈ l ↔ z ∈ m) : l = m :=
  srt_uniq (fun _ _ => leS_anti) (srtS_pw hl) (srtS_pw hm) ((List.perm_ext_iff_of_nodup nl nm).mpr h)
theorem dp_strs {K : PySem.W.Frag} {H : Hp} : ∀ is : List Str, DpAll K H (is.map V.str) (is.map PyData.str)
  | [] => .nil
  | i :: r => .cons (.str i) (dp_strs r)
theorem strs_shaped {is : List Str} (h : ∀ z ∈ is, PyData.strOk z = true) : SeqAt.shaped (.list (is.map PyData.str)) = true := by
  have q : (is.map PyData.str).all flatD = true := by
    rw [List.all_eq_true]
    intro d hd
    obtain ⟨z, hz, rfl⟩ := List.mem_map.mp hd
    exact h z hz
  obtain ⟨h1, h2⟩ := flat_lay q
  unfold SeqAt.shaped
  simp [PyData.canLay0, PyData.depth, h1]
  omega
theorem keysOf_nm {xs : List Ent} (h : ∀ x ∈ xs, x.ok) : ∀ z ∈ keysOf xs, IsNm z := fun z hz => by
  obtain ⟨x, hx, e⟩ := List.mem_filterMap.mp hz
  cases x with
  | row id s k m a r =>
    cases e
    exact ((h _ hx).2 _ _ _ _ _ _ rfl).2
  | fix _ _ _ _ => cases e
  | gone _ _ => cases e
theorem ents_ok {H : Hp} {us : List V} {xs : List Ent} (h : Ents H us xs) : ∀ x ∈ xs, x.ok := fun x hx => by
  obtain ⟨i, hi, e⟩ := List.getElem_of_mem hx
  have l := h.1
  obtain ⟨_, _, _, q⟩ := h.2 i us[i] x (List.getElem?_eq_getElem (by omega)) (by rw [List.getElem?_eq_getElem hi, e])
  exact q
def spRight2 (K : PySem.W.Frag) (aT CJ CB : Addr) : Sp := fun vs H Q _ => ∃ (j b dl dk a : Addr) (L : List (Str × Int)) (us us' : List V) (xs : List Ent) (ks : List Str), vs = [.ref j, .ref dl, .ref dk, .ref a] ∧ JAt K aT CJ CB H j b L us xs ∧ xs.length ≤ 60 ∧ Keys H dl dk L ks ∧ H a = some (.lst us') ∧ Ents H us' xs ∧
  ∀ H', Same H H' → Q (.bl true) H'
structure GR2 (P : Program) (w : World) (K : PySem.W.Frag) (mg : Str → Option Value) (base : Heap) (aT CJ CB : Addr) : Prop where
  law_rows : Cal P w K mg base CX0 "_law_rows" 3 ["entries", "stream", "key"] spLRows
  rows : Met P w K mg base CX0 CJ "rows" 3 ["self", "stream", "key"] (spRows K aT CJ CB)
  latest : Met P w K mg base CX0 CJ "latest" 2 ["self"] (spLatest2 K aT CJ CB)
  key_names : Met P w K mg base CX0 CJ "key_names" 1 ["self"] (spKeyNames K aT CJ CB)
section
variable {P : Program} {w : World} {K : PySem.W.Frag} {mg : Str → Option Value} {base : Heap}
abbrev s_l_right : Stmt := topS 44
theorem sc_l_right : FnScope ["journal", "lates", "keys", "entries", "stream", "key", "told", "latest", "named", "entry"] ["journal", "lates", "keys", "entries"] (defScope s_l_right) := ⟨rfl, rfl, rfl, by decide +kernel, rfl, by decide +kernel, by decide +kernel⟩
theorem ok_right2 {f fl CJ CB aT : Addr} {fd fdl : FuncData} (F : Fun K "_law_right" "_law_right" s_l_right f fd) (B : Blt mg) (T : Cj P K mg CJ CB) (G : GR2 P w K mg base aT CJ CB)
    (hs : PySem.W.findIn K (.ref CJ) "__len__" = some (some (.ref fl))) (hf : PySem.W.isFn K (.ref fl) = true) (hb : Binds K fdl ["self"] []) (Fl : FnOk P w K mg base CX0 1 fl fdl ["self"] (spJLen K aT CJ CB)) : FnOk P w K mg base CX0 4 f fd ["journal", "lates", "keys", "entries"] (spRight2 K aT CJ CB) := by
  refine F.ok sc_l_right (fun vs H Q E h => ?_) (fun cdv A outer s H vs Q E hr h => ?_)
  · obtain ⟨j, b, dl, dk, a, L, us, us', xs, ks, rfl, _⟩ := h
    rfl
  · obtain ⟨j, b, dl, dk, a, L, us, us', xs, ks, rfl, hJ, h6, D, ha, hE, q⟩ := h
    have hu := hu_of hr
    refine ⟨_, (pss_cons (ps_for PassesOwn.never rfl (pi_list (pe_callTy (call_listD (by rfl)) (by rfl) B.list (by decide +kernel) (pa_cons (pv 1) pa_nil))) (pg_name (i := 4) sc_l_right.nd rfl (Or.inl rfl))
      (pss_one (ps_for PassesOwn.never rfl (pi_list (pe_op op_cat (pv 2) (pe_lst (pa_cons pe_str pa_nil)))) (pg_name (i := 5) sc_l_right.nd rfl (Or.inl rfl))
        (pss_cons (ps_set (i := 6) sc_l_right.nd rfl (Or.inl rfl) (pe_met T.cl G.rows (hr.mono (by decide)) pass0 (pv 0) (pa_cons (pv 4) (pa_cons (pv 5) pa_nil))))
        (pss_cons (ps_if (PW.pt (pw_or (pt_not (pt_val (pe_callB call_isi (by rfl) B.isinstance (by decide +kernel) (pa_cons (pv 6) (pa_cons (pe_bltn (v := .ty "list") (by rfl) B.list (by decide +kernel) rfl) pa_nil))))) (pw_or1 (pt_cmpR (op_neD hr.units) (pv 6) (pe_cal G.law_rows (hr.mono (by decide)) pass0 (pa_cons (pv 3) (pa_cons (pv 4) (pa_cons (pv 5) pa_nil)))) (nomark _)))))
          (pss_one (ps_ret pe_bl))
          pss_nil)
        (pss_one (ps_expr (pe_bm PySem.F.plainAttrs_list PySem.F.slot_list_append PySem.F.type_list_append mt_append (pv 6) (pa_cons (pe_tup (pa_cons pe_int (pa_cons pe_int (pa_cons pe_int pa_nil)))) pa_nil)))))))))
    (pss_cons (ps_set (i := 7) sc_l_right.nd rfl (Or.inl rfl) pe_non)
    (pss_cut (ps_if (pt_cmpR op_gt (pe_callB call_len_seq (by rfl) B.len (by decide +kernel) (pa_cons (pv 3) pa_nil)) pe_int (nomark _))
      (pss_one (ps_set (i := 7) sc_l_right.nd rfl (Or.inl rfl) (pe_ix (show IxR _ (rIxT K) from ix_tup) (pe_ix ix_list (pv 3) (pe_op op_sub (pe_callB call_len_seq (by rfl) B.len (by decide +kernel) (pa_cons (pv 3) pa_nil)) pe_int) (fun _ _ => rfl)) (pe_op op_sub (pe_callB call_len_seq (by rfl) B.len (by decide +kernel) (pa_cons (pe_ix ix_list (pv 3) (pe_op op_sub (pe_callB call_len_seq (by rfl) B.len (by decide +kernel) (pa_cons (pv 3) pa_nil)) pe_int) (fun _ _ => rfl)) pa_nil)) pe_int) (fun _ _ => rfl))))
      pss_nil)
    (pss_cons (ps_if (PW.pt (pw_or (pt_cmpR op_ne (pe_met0 T.cl G.latest (hr.mono (by decide)) pass0 (pv 0)) (pv 7) (nomark _)) (pw_or1 (pt_cmpR op_ne (pe_cmpR op_isN (pv 7) pe_non (nomark _)) (pe_cmpR op_isN (pe_met0 T.cl G.latest (hr.mono (by decide)) pass0 (pv 0)) pe_non (nomark _)) (nomark _)))))
      (pss_one (ps_ret pe_bl))
      pss_nil)
    (pss_cons (ps_set (i := 8) sc_l_right.nd rfl (Or.inl rfl) (pe_lst pa_nil))
    (pss_cons (ps_for PassesOwn.never rfl (pi_list (pv 3)) (pg_name (i := 9) sc_l_right.nd rfl (Or.inl rfl))
      (pss_one (ps_if (PW.pt (pw_and (pt_cmpR op_eq (pe_ix (show IxR _ (rIxT K) from ix_tup) (pv 9) pe_int (fun _ _ => rfl)) pe_str (nomark _)) (pw_and1 (pt_cmpR op_notIn_seq (pe_ix (show IxR _ (rIxT K) from ix_tup) (pv 9) pe_int (fun _ _ => rfl)) (pv 8) rfl))))
        (pss_one (ps_expr (pe_bm PySem.F.plainAttrs_list PySem.F.slot_list_append PySem.F.type_list_append mt_append (pv 8) (pa_cons (pe_ix (show IxR _ (rIxT K) from ix_tup) (pv 9) pe_int (fun _ _ => rfl)) pa_nil))))
        pss_nil)))
    (pss_cons (ps_set (i := 6) sc_l_right.nd rfl (Or.inl rfl) (pe_met0 T.cl G.key_names (hr.mono (by decide)) pass0 (pv 0)))
    (pss_cons (ps_if (PW.pt (pw_or (pt_not (pt_val (pe_callB call_isi (by rfl) B.isinstance (by decide +kernel) (pa_cons (pv 6) (pa_cons (pe_bltn (v := .ty "list") (by rfl) B.list (by decide +kernel) rfl) pa_nil))))) (pw_or1 (pt_cmpR (op_neD hr.units) (pv 6) (pe_callB cr_sortedS (by rfl) B.sorted (by decide +kernel) (pa_cons (pv 8) pa_nil)) (nomark _)))))
      (pss_one (ps_ret pe_bl))
      pss_nil)
    (pss_cons (ps_expr (pe_bm PySem.F.plainAttrs_list PySem.F.slot_list_append PySem.F.type_list_append mt_append (pv 6) (pa_cons pe_str pa_nil)))
    (pss_one (ps_ret (pe_and (pe_callB call_isi (by rfl) B.isinstance (by decide +kernel) (pa_cons (pe_fld (pv 0) rfl) (pa_cons (pe_bltn (v := .ty "tuple") (by rfl) B.tuple (by decide +kernel) rfl) pa_nil))) (pe_and (pe_cmpR (op_eqD hr.units) (pe_callTy call_list_of (by rfl) B.list (by decide +kernel) (pa_cons (pe_fld (pv 0) rfl) pa_nil)) (pv 3) (nomark _)) (pe_one (pe_cmpR op_eq (pe_callB (call_lenI Fl hs hf hb pass0 (hr.mono (by decide))) (by rfl) B.len (by decide +kernel) (pa_cons (pv 0) pa_nil)) (pe_callB call_len_seq (by rfl) B.len (by decide +kernel) (pa_cons (pv 3) pa_nil)) (nomark _)))))))))))))))), ?_⟩
    have two : (1 : Nat) ≤ sizeLine := by decide
    obtain ⟨dx, t, kd, h1, h2, h3, hl_, h5, h6', h7⟩ := id hJ
    have E1 := hJ.es.1
    have E2 : ThEs K H us' xs := ThEs.of hE
    have hw : wk L (xs.map some) 0 (fun _ => none) none = (none, (wk L (xs.map some) 0 (fun _ => none) none).2) := by rw [← h6']
    have lu := hE.1
    have okx := ents_ok hE
    refine ⟨_, rfl, dl, _, rfl, .of D.dl, fun l2 hl2 => ⟨l2, rfl, ⟨_, SqL.of upd_same⟩, ?_⟩⟩
    have s2 : Same H (upd H l2 (.lst ((LK L).map fun kv => kV kv.1))) := sameAt (Same.refl H) hl2
    refine for_list (K := K) (a := l2) (xs := (LK L).map fun kv => kV kv.1) (fun i σ H3 => (∃ c d e, σ = [some (.ref j), some (.ref dl), some (.ref dk), some (.ref a), c, d, e, none, none, none]) ∧ Same (upd H l2 (.lst ((LK L).map fun kv => kV kv.1))) H3) ⟨⟨_, _, _, rfl⟩, Same.refl _⟩ (fun i σ H3 _ hv => SqL.of (hv.2 _ _ upd_same)) ?_ ?_
    · rintro i x σ H3 hi ⟨⟨c, d, e, rfl⟩, s3⟩
      obtain ⟨z, lz, hzL, rfl⟩ : ∃ z lz, (z, lz) ∈ L ∧ x = .str z := by
        have hm := List.mem_of_getElem? hi
        unfold LK at hm
        rw [List.map_map] at hm
        obtain ⟨y, hy, rfl⟩ := List.mem_map.mp hm
        exact ⟨y.1, y.2, hy, rfl⟩
      have s23 := s2.trans s3
      refine ⟨_, rfl, two, fun l1 hl1 => ?_⟩
      have s33 : Same H3 (upd H3 l1 (.lst [.str "unheard"])) := sameAt (Same.refl _) hl1
      refine ⟨dk, l1, _, _, rfl, rfl, s33 _ _ (s23 _ _ D.dk), upd_same, Nat.le_of_lt (small1000 (by rw [List.length_map]; have := D.k2; show ks.length + 1 ≤ 1000; omega)), fun lk hlk => ⟨lk, rfl, ⟨_, SqL.of upd_same⟩, ?_⟩⟩
      have ekk : ks.map V.str ++ [V.str "unheard"] = (ks ++ [("unheard" : Str)]).map V.str := by rw [List.map_append]; rfl
      have s34 : Same H3 (upd (upd H3 l1 (.lst [.str "unheard"])) lk (.lst (ks.map V.str ++ [V.str "unheard"]))) := s33.trans (sameAt (Same.refl _) hlk)
      have hkn : ∀ k ∈ ks ++ [("unheard" : Str)], IsNm k := fun k hk => by
        rcases List.mem_append.mp hk with h | h
        · exact D.kn k h
        · rw [List.mem_singleton.mp h]
          exact (nmB_iff _).mp (by decide +kernel)
      have hlk4 : (upd (upd H3 l1 (.lst [.str "unheard"])) lk (.lst (ks.map V.str ++ [V.str "unheard"]))) lk = some (.lst (ks.map V.str ++ [V.str "unheard"])) := upd_same
      rw [ekk] at hlk4 s34 ⊢
      generalize (upd (upd H3 l1 (.lst [.str "unheard"])) lk (.lst ((ks ++ [("unheard" : Str)]).map V.str))) = H4 at s34 hlk4 ⊢
      refine for_list (K := K) (a := lk) (xs := (ks ++ [("unheard" : Str)]).map V.str) (fun i σ H5 => (∃ d e, σ = [some (.ref j), some (.ref dl), some (.ref dk), some (.ref a), some (.str z), d, e, none, none, none]) ∧ Same H4 H5) ⟨⟨_, _, rfl⟩, Same.refl _⟩ (fun i σ H5 _ hv => SqL.of (hv.2 _ _ hlk4)) ?_ ?_
      · rintro i2 x2 σ H5 hi2 ⟨⟨d, e, rfl⟩, s5⟩
        obtain ⟨k, hk, rfl⟩ := List.mem_map.mp (List.mem_of_getElem? hi2)
        have s25 := (s23.trans s34).trans s5
        refine ⟨_, rfl, j, dx, _, rfl, s25 _ _ h1, jf_no _ _ _ (by decide +kernel) (by decide +kernel) (by decide +kernel), _, rfl, _, rfl, j, b, L, us, xs, z, k, rfl, hJ.same s25, by omega, D.LL.nm _ hzL, by rw [lookup_mem D.LL.nd hzL]; rfl, hkn _ hk, fun p ys ts H6 s6 hp6 hD6 hT6 hl6 hR6 => ?_⟩
        have s26 := s25.trans s6
        refine ⟨_, rfl, _, _, _, _, true, rfl, ClsV.ty _, .base (.lst hD6), kit_ty (by decide +kernel), _, rfl, iteF ?_⟩
        refine ⟨_, rfl, _, rfl, _, rfl, _, rfl, a, L, us', xs, _, z, k, rfl, s26 _ _ ha, hE.tk (tk_same s26), by omega, hw, fun p' ys' ts' H7 s7 hp7 hD7 hT7 hl7 hR7 => ?_⟩
        obtain rfl := hR6.uniq hR7
        refine ⟨_, _, (hT6.tk (tk_same s7)).dp (SqL.of (s7 _ _ hD6)), hT7.dp (SqL.of hD7), ts_shaped _, ts_shaped _, _, rfl, ?_⟩
        rw [eqv_self (ts_shaped _)]
        refine iteF ⟨_, rfl, .inl ⟨rfl, _, SqL.of (s7 _ _ hD6)⟩, (by show 3 ≤ sizeLine; decide), fun tt htt => ?_⟩
        have htp : p ≠ tt := fun z => by rw [← z, s7 _ _ hD6] at htt; cases htt
        have lys : ys.length ≤ 60 := by have := hJ.len; omega
        refine ⟨p, _, _, rfl, rfl, by rw [upd_ne htp]; exact s7 _ _ hD6, small1000 (by omega), ⟨_, _, rfl⟩, ?_⟩
        exact s5.trans (sameAt ((s6.trans s7).trans (sameAt (Same.refl _) htt)) hp6)
      · rintro σ H5 ⟨⟨d, e, rfl⟩, s5⟩
        exact ⟨⟨_, _, _, rfl⟩, (s3.trans s34).trans s5⟩
    rintro σ H3 ⟨⟨c, d, e, rfl⟩, s3⟩
    have s23 := s2.trans s3
    generalize (upd H l2 (.lst ((LK L).map fun kv => kV kv.1))) = H2 at s2 s3
    refine ⟨fun σ H' => (∃ c d e, σ = [some (.ref j), some (.ref dl), some (.ref dk), some (.ref a), c, d, e, some (latV (lastA xs none)), none, none]) ∧ Same H H', ?_, ?_⟩
    · refine ⟨_, rfl, a, us', rfl, .inl (SqL.of (s23 _ _ ha)), _, _, rfl, rfl, _, rfl, ?_⟩
      refine ite2 (fun cc => ?_) (fun cc => ?_)
      · have cc : (0 : Int) < us'.length := of_decide_eq_true cc
        have hne : xs ≠ [] := fun z => by rw [z] at lu; have lu : us'.length = 0 := lu; omega
        obtain ⟨x, hx1, hx2⟩ := lastA_some (l := none) hne
        rw [List.getLast?_eq_getElem?] at hx1
        have hv : us'[us'.length - 1]? = some us'[us'.length - 1] := List.getElem?_eq_getElem (by omega)
        obtain ⟨e1, he1, hee, hok⟩ := hE.2 _ _ _ hv (by rw [lu]; exact hx1)
        rw [he1] at hv
        have hat : atI us' ((us'.length : Int) - 1) = some (.ref e1) := by
          rw [show ((us'.length : Int) - 1) = ((us'.length - 1 : Nat) : Int) by omega]
          exact atI_nat hv
        have ha3 := s23 _ _ ha
        refine ⟨_, rfl, _, rfl, a, us', rfl, .inl (SqL.of ha3), _, _, rfl, rfl, _, _, _, V.ref e1, rfl, rfl, SqL.of ha3, hat, ?_⟩
        refine ⟨_, rfl, _, rfl, a, us', rfl, .inl (SqL.of ha3), _, _, rfl, rfl, _, _, _, V.ref e1, rfl, rfl, SqL.of ha3, hat, e1, _, rfl, .inr (SqT.of (s23 _ _ hee)), _, _, rfl, rfl, _, _, _, _, rfl, rfl, SqT.of (s23 _ _ hee), at_last x, ?_⟩
        rw [hx2]
        exact ⟨⟨_, _, _, rfl⟩, s23⟩
      · have cc : ¬ (0 : Int) < us'.length := by simpa using cc
        have hx0 : xs = [] := List.length_eq_zero_iff.mp (by omega)
        subst hx0
        exact ⟨⟨_, _, _, rfl⟩, s23⟩
    rintro σ H4 ⟨⟨c, d, e, rfl⟩, s4⟩
    refine ⟨_, rfl, j, dx, _, rfl, s4 _ _ h1, jf_no _ _ _ (by decide +kernel) (by decide +kernel) (by decide +kernel), j, b, L, us, xs, rfl, hJ.same s4, by have := hJ.len; omega, _, rfl, ?_⟩
    have sc : scal (latV (lastA xs none)) (latV (lastA xs none)) = true := by cases lastA xs none <;> rfl
    refine ⟨sc, _, rfl, ?_⟩
    rw [decide_eq_true rfl]
    refine iteF ⟨_, rfl, rfl, _, rfl, j, dx, _, rfl, s4 _ _ h1, jf_no _ _ _ (by decide +kernel) (by decide +kernel) (by decide +kernel), j, b, L, us, xs, rfl, hJ.same s4, by have := hJ.len; omega, rfl, rfl, _, rfl, ?_⟩
    rw [decide_eq_true (rfl : V.bl (decide (latV (lastA xs none) = V.non)) = V.bl (decide (latV (lastA xs none) = V.non)))]
    refine iteF ⟨(by show 0 ≤ sizeLine; decide), fun ln hln => ?_⟩
    have s5 : Same H4 (upd H4 ln (.lst [])) := sameAt (Same.refl _) hln
    have lnH : H ln = none := none_of s4 hln
    refine ⟨_, rfl, a, rfl, ⟨_, SqL.of ((s4.trans s5) _ _ ha)⟩, for_list (K := K) (a := a) (xs := us') (fun i σ H6 => ∃ ns : List Str, (∃ c d e g, σ = [some (.ref j), some (.ref dl), some (.ref dk), some (.ref a), c, d, e, some (latV (lastA xs none)), some (.ref ln), g]) ∧ H6 ln = some (.lst (ns.map V.str)) ∧ ns.length ≤ i ∧ ns.Nodup ∧ (∀ z, z ∈ ns ↔ z ∈ keysOf (xs.take i)) ∧ Same H H6) ?_ (fun i σ H6 _ hv => by obtain ⟨_, _, _, _, _, _, s⟩ := hv; exact SqL.of (s _ _ ha)) ?_ ?_⟩
    · exact ⟨[], ⟨_, _, _, _, rfl⟩, upd_same, Nat.le_refl _, .nil, fun z => by simp [keysOf], s4.trans s5⟩
    · rintro i v σ H6 hvi ⟨ns, ⟨c, d, e, g, rfl⟩, hn6, hnl, hnd, hm, s6⟩
      have hil := (List.getElem?_eq_some_iff.mp hvi).1
      obtain ⟨x, hx⟩ : ∃ x, xs[i]? = some x := ⟨_, List.getElem?_eq_getElem (by omega)⟩
      obtain ⟨e1, rfl, he, hok⟩ := (hE.tk (tk_same s6)).2 i v x hvi hx
      have st : keysOf (xs.take (i + 1)) = keysOf (xs.take i) ++ keysOf [x] := by
        unfold keysOf
        rw [list_take' hx, List.filterMap_append]
      cases x with
      | row id z k m a' r =>
        refine ⟨_, rfl, _, _, _, _, rfl, rfl, SqT.of he, rfl, rfl, _, rfl, iteT ⟨_, rfl, _, _, _, _, rfl, rfl, SqT.of he, rfl, _, rfl, ln, _, rfl, .inl (SqL.of hn6), rfl, flat_strs ns, _, rfl, ?_⟩⟩
        rw [if_pos rfl, inV_str]
        refine ite2 (fun cc => ?_) (fun cc => ?_)
        · have cc : k ∉ ns := by simpa using cc
          refine ⟨_, rfl, .inl ⟨rfl, _, SqL.of hn6⟩, _, rfl, _, _, _, _, rfl, rfl, SqT.of he, rfl, ln, _, _, rfl, rfl, hn6, (by rw [List.length_map]; exact small1000 (by omega)), ns ++ [k], ⟨_, _, _, _, rfl⟩, ?_, by rw [List.length_append]; show ns.length + 1 ≤ i + 1; omega, ?_, fun z' => ?_, sameAt s6 lnH⟩
          · rw [upd_same, List.map_append]
            rfl
          · rw [List.nodup_append]
            exact ⟨hnd, by simp, fun a1 ha1 b1 hb1 z => cc (by rw [← List.mem_singleton.mp hb1, ← z]; exact ha1)⟩
          · rw [st, List.mem_append, List.mem_append, hm]
            rfl
        · have cc : k ∈ ns := by simpa using cc
          refine ⟨ns, ⟨_, _, _, _, rfl⟩, hn6, by omega, hnd, fun z' => ?_, s6⟩
          rw [st, List.mem_append, ← hm]
          constructor
          · exact .inl
          · rintro (h | h)
            · exact h
            · rw [List.mem_singleton.mp (show z' ∈ [k] from h)]
              exact cc
      | fix id m a' r =>
        refine ⟨_, rfl, _, _, _, _, rfl, rfl, SqT.of he, rfl, rfl, _, rfl, iteF ⟨ns, ⟨_, _, _, _, rfl⟩, hn6, by omega, hnd, fun z' => ?_, s6⟩⟩
        rw [st, hm]
        simp [keysOf]
      | gone id r =>
        refine ⟨_, rfl, _, _, _, _, rfl, rfl, SqT.of he, rfl, rfl, _, rfl, iteF ⟨ns, ⟨_, _, _, _, rfl⟩, hn6, by omega, hnd, fun z' => ?_, s6⟩⟩
        rw [st, hm]
        simp [keysOf]
    rintro σ H6 ⟨ns, ⟨c, d, e, g, rfl⟩, hn6, hnl, hnd, hm, s6⟩
    rw [show xs.take us'.length = xs by rw [lu, List.take_length]] at hm
    refine ⟨_, rfl, j, dx, _, rfl, s6 _ _ h1, jf_no _ _ _ (by decide +kernel) (by decide +kernel) (by decide +kernel), j, b, L, us, xs, rfl, hJ.same s6, by have := hJ.len; omega, fun p ys H7 s7 hp7 hD7 ynd ysr ym => ?_⟩
    refine ⟨_, rfl, _, _, _, _, true, rfl, ClsV.ty _, .base (.lst hD7), kit_ty (by decide +kernel), _, rfl, iteF ?_⟩
    refine ⟨_, rfl, _, rfl, ln, ns, rfl, SqL.of (s7 _ _ hn6), by omega, fun zs p2 hperm hsort hp2 => ?_⟩
    have e12 : zs = ys := strs_same hsort ysr (hperm.nodup_iff.mpr hnd) ynd fun z => by rw [hperm.mem_iff, hm, ym]
    subst e12
    have s8 : Same H7 (upd H7 p2 (.lst (zs.map V.str))) := sameAt (Same.refl _) hp2
    have shp : SeqAt.shaped (.list (zs.map PyData.str)) = true := strs_shaped fun z hz => nm_ok (keysOf_nm okx z ((ym z).mp hz))
    have lzs : zs.length ≤ 60 := by rw [hperm.length_eq]; omega
    refine ⟨_, _, .lst (SqL.of (s8 _ _ hD7)) (dp_strs zs), .lst (SqL.of upd_same) (dp_strs zs), shp, shp, _, rfl, ?_⟩
    rw [eqv_self shp]
    refine iteF ⟨_, rfl, .inl ⟨rfl, _, SqL.of (s8 _ _ hD7)⟩, p, _, _, rfl, rfl, s8 _ _ hD7, (by rw [List.length_map]; exact small1000 (by omega)), ?_⟩
    have s9 : Same H6 (upd (upd H7 p2 (.lst (zs.map V.str))) p (.lst (zs.map V.str ++ [.str "unheard"]))) := sameAt (s7.trans s8) hp7
    have s09 := s6.trans s9
    generalize (upd (upd H7 p2 (.lst (zs.map V.str))) p (.lst (zs.map V.str ++ [.str "unheard"]))) = H9 at s9 s09 ⊢
    have h39 := seqS h3 s09
    refine ⟨_, rfl, j, CJ, dx, _, _, rfl, s09 _ _ h1, T.cl, T.nE, jf_e _ _ _, _, _, _, _, true, rfl, ClsV.ty _, ty_tup h39, kit_ty (by decide +kernel), _, rfl, iteT ?_⟩
    refine ⟨_, rfl, j, CJ, dx, _, _, rfl, s09 _ _ h1, T.cl, T.nE, jf_e _ _ _, t, us, rfl, .inr h39, fun l hl => ⟨_, rfl, _, _, .lst (SqL.of upd_same) (E1.same (s09.trans (sameAt (Same.refl _) hl))).dp, .lst (SqL.of ((s09.trans (sameAt (Same.refl _) hl)) _ _ ha)) (E2.same (s09.trans (sameAt (Same.refl _) hl))).dp, pds_l E1.ok, pds_l E1.ok, _, rfl, ?_⟩⟩
    have s10 := s09.trans (sameAt (Same.refl _) hl (o := .lst us))
    generalize (upd H9 l (.lst us)) = H10 at s10 ⊢
    rw [eqv_self (pds_l E1.ok)]
    refine iteT ⟨_, rfl, j, dx, _, rfl, s10 _ _ h1, j, b, L, us, xs, rfl, hJ.same s10, us.length, rfl, (by have := hJ.len; omega), _, rfl, a, us', rfl, .inl (SqL.of (s10 _ _ ha)), rfl, ?_⟩
    rw [decide_eq_true (show V.int (us.length : Int) = V.int (us'.length : Int) by rw [hl_, hE.1])]
    exact q _ s10
end
end Ash

set_option Elab.async false
set_option linter.all false
set_option maxRecDepth 100000
set_option maxHeartbeats 4000000
set_option pp.maxSteps 900
namespace Ash
open PySem PySem.Spec PyProof.Rows L2
open C8 (pss_cut)
open SrtT (T3 lex3)
/-- == of journals of one book, whatever their entries -/
def spJEqV (K : PySem.W.Frag) (aT CJ CB : Addr) : Sp := fun vs H Q _ => ∃ (i j b : Addr) (L : List (Str × Int)) (us us' : List V) (xs ys : List Ent), vs = [.ref i, .ref j] ∧ JAt K aT CJ CB H i b L us xs ∧ JAt K aT CJ CB H j b L us' ys ∧
  ∀ H', Ext H H' → Q (.bl (PyData.eqv (.tuple (xs.map Ent.pd)) (.tuple (ys.map Ent.pd)))) H'
theorem eqvAll_len : ∀ {as bs : List PyData}, as.length ≠ bs.length → PyData.eqvAll as bs = false
  | [], [], h => absurd rfl h
  | [], _ :: _, _ => by simp [PyData.eqvAll]
  | _ :: _, [], _ => by simp [PyData.eqvAll]
  | a :: as, b :: bs, h => by
    have ih := eqvAll_len (as := as) (bs := bs) (by simpa using h)
    simp [PyData.eqvAll, ih]
theorem eqv_len {as bs : List PyData} (h : as.length ≠ bs.length) : PyData.eqv (.tuple as) (.tuple bs) = false := by
  have := eqvAll_len h
  simp [PyData.eqv, this]
theorem cut_to {xs : List V} {c : Nat} (h : c ≤ xs.length) : cutV xs none (some (c : Int)) = xs.take c := by
  unfold cutV
  rw [HT.sIx_none, HT.sIx_nat, List.drop_zero, Nat.sub_zero, Nat.min_eq_left h]
theorem Ents.take {H : Hp} {us : List V} {xs : List Ent} (h : Ents H us xs) (n : Nat) : Ents H (us.take n) (xs.take n) := by
  refine ⟨by rw [List.length_take, List.length_take, h.1], fun i v x a b => ?_⟩
  rw [List.getElem?_take] at a b
  split at a
  · rename_i c
    rw [if_pos c] at b
    exact h.2 i v x a b
  · cases a
theorem Good.take {L : List (Str × Int)} {xs : List Ent} (h : Good L xs) (n : Nat) : Good L (xs.take n) := by
  obtain ⟨Sk, q⟩ := wk_pre h.w n
  exact (Good.of q).1
/-- a journal of good entries is made of a tuple -/
theorem mkJT {K : PySem.W.Frag} {aT CJ CB CE b : Addr} {L : List (Str × Int)} {H' : Hp} {a' : Addr} {us' : List V} {xs : List Ent} {S : Kn} {x dx' : Addr} (hb : BookAt CB H' b L) (ha : SqT K H' a' us') (he : Ents H' us' xs) (hl : xs.length ≤ 400) (hw : wk L (xs.map some) 0 (fun _ => none) none = (none, S)) (nx : H' x = none) (ndx : H' dx' = none) (nex : dx' ≠ x) {Qj : Hp → Prop} (hq : ∀ H2, Same H' H2 → JAt K aT CJ CB H2 x b L us' xs → Qj H2) :
    spJInit K aT CJ CB CE [.ref x, .ref b, .ref a'] (upd (upd H' dx' (.own x)) x (.ins CJ dx' [])) (fun v H2 => v = .non ∧ Qj H2) (fun _ _ _ => False) := by
  have sX : Same H' (upd (upd H' dx' (.own x)) x (.ins CJ dx' [])) := (sameAt (Same.refl _) ndx).trans (sameAt (Same.refl _) (by rw [upd_ne (Ne.symm nex)]; exact nx))
  refine ⟨x, dx', b, a', L, us', xs.map some, rfl, upd_same, hb.same sX, .inr (seqS ha sX), by rw [he.1]; exact hl, by rw [List.length_map]; exact he.1, fun i v o hi ho => ?_, fun H2 ys hys hw2 hJ _ kk => ⟨rfl, ?_⟩, fun i d H2 hw2 _ _ => ?_⟩
  · rw [List.getElem?_map] at ho
    cases ex : xs[i]? with
    | none => rw [ex] at ho; cases ho
    | some y =>
      rw [ex] at ho
      cases ho
      exact (ThEs.of (K := K) (he.tk (tk_same sX))).2 i v y hi ex
  · have ey : ys = xs := (List.map_inj_right (fun a b h => Option.some.inj h)).mp hys.symm
    subst ey
    exact hq H2 (mk_same nx ndx kk) hJ
  · rw [hw] at hw2
    cases hw2
theorem dinsJ {K : PySem.W.Frag} {aT CJ CB : Addr} {H : Hp} {i j b : Addr} {L : List (Str × Int)} {us us' : List V} {xs : List Ent} (h : JAt K aT CJ CB H i b L us xs) (g : JAt K aT CJ CB H j b L us' xs) : DIns CJ (EqJc K aT CJ CB) (.ref i) (.ref j) H := by
  obtain ⟨dx, t, kd, h1⟩ := h.ins
  obtain ⟨dy, t', kd', g1⟩ := g.ins
  exact ⟨i, j, dx, dy, _, _, rfl, rfl, h1, g1, b, L, us, us', xs, h, g⟩
theorem nine_left {ls : List Str} (hl : ls.length ≤ 8) (h : ∀ z ∈ ([("q" : Str), "zz", "m", "ab", "y", "k", "x", "w", "v"] : List Str), z ∈ ls) : False := by
  have nd : ([("q" : Str), "zz", "m", "ab", "y", "k", "x", "w", "v"] : List Str).Nodup := by decide +kernel
  have := nd.length_le_of_subset h
  have e : ([("q" : Str), "zz", "m", "ab", "y", "k", "x", "w", "v"] : List Str).length = 9 := rfl
  omega
theorem tyx_pl {K : PySem.W.Frag} {H H' : Hp} {p s : Addr} {v : V} {t : Value} (h : TyX K H v t) (P0 : PoolAt H p s) (P : Pl H H' p s) : TyX K H' v t := by
  have n : ∀ {a : Addr} {o : HO}, H a = some o → (∀ xs, o ≠ .lst xs) → H' a = some o := fun e h => P.nl P0 _ _ e h
  cases h with
  | base b =>
    refine .base ?_
    cases b with
    | non => exact .non
    | bl x => exact .bl x
    | int x => exact .int x
    | str x => exact .str x
    | flt x => exact .flt x
    | @lst a xs e =>
      by_cases c : a = p
      · subst c
        obtain ⟨ns, i, cc, k, m, h1, _⟩ := P.now
        exact .lst h1
      · exact .lst (P.keep e c)
    | frz e => exact .frz (n e (fun _ z => nomatch z))
    | tup e => exact .tup (n e (fun _ z => nomatch z))
    | dK e => exact .dK (n e (fun _ z => nomatch z))
    | dT e => exact .dT (n e (fun _ z => nomatch z))
    | ins e c a b d f => exact .ins (n e (fun _ z => nomatch z)) c a b d f
  | byt b => exact .byt b
  | set e => exact .set (n e (fun _ z => nomatch z))
  | kList e c => exact .kList e c
  | kTuple e c => exact .kTuple e c
  | kDict e c => exact .kDict e c
  | fTuple e => exact .fTuple (n e (fun _ z => nomatch z))
  | fDict e => exact .fDict (n e (fun _ z => nomatch z))
structure GL2 (P : Program) (w : World) (K : PySem.W.Frag) (mg : Str → Option Value) (base : Heap) (aT CJ CB CE : Addr) : Prop extends G4 P w K mg base where
  law_pool : Cal P w K mg base CX0 "_law_pool" 1 ["script"] (spPool K)
  law_entries : Cal P w K mg base CX0 "_law_entries" 4 ["pool", "lates", "keys", "states", "number", "arrival", "many"] spEntries5
  law_right : Cal P w K mg base CX0 "_law_right" 4 ["journal", "lates", "keys", "entries"] (spRight2 K aT CJ CB)
  law_refused : Cal P w K mg base CX0 "_law_refused" 5 ["journal", "stream", "key"] (spLRef K aT CJ CB)
  Book : Mak P w K mg base CX0 "Book" CB 4 ["self", "lates"] (spBookInit CB)
  Journal : Mak P w K mg base (L2.CX P w) "Journal" CJ 7 ["self", "book", "entries"] (spJInit K aT CJ CB CE)
/-- what the law keeps -/
structure W2 (K : PySem.W.Frag) (CB : Addr) (H : Hp) (p s0 dl dk b q1 : Addr) (L : List (Str × Int)) (ks : List Str) (us : List V) (xs : List Ent) : Prop where
  pool : PoolAt H p s0
  keys : Keys H dl dk L ks
  bk : BookAt CB H b L
  ls : H q1 = some (.lst us)
  q1p : q1 ≠ p
  es : Ents H us xs
theorem W2.same {K : PySem.W.Frag} {CB : Addr} {H H' : Hp} {p s0 dl dk b q1 : Addr} {L : List (Str × Int)} {ks : List Str} {us : List V} {xs : List Ent} (h : W2 K CB H p s0 dl dk b q1 L ks us xs) (s : Same H H') : W2 K CB H' p s0 dl dk b q1 L ks us xs :=
  ⟨h.pool.same s, h.keys.same s, h.bk.same s, s _ _ h.ls, h.q1p, h.es.tk (tk_same s)⟩
theorem W2.pl {K : PySem.W.Frag} {CB : Addr} {H H' : Hp} {p s0 dl dk b q1 : Addr} {L : List (Str × Int)} {ks : List Str} {us : List V} {xs : List Ent} (h : W2 K CB H p s0 dl dk b q1 L ks us xs) (P : Pl H H' p s0) : W2 K CB H' p s0 dl dk b q1 L ks us xs :=
  ⟨P.now, h.keys.pl h.pool P, h.bk.pl h.pool P, P.keep h.ls h.q1p, h.q1p, h.es.tk (P.tk h.pool)⟩
def spLaw (K : PySem.W.Frag) : Sp := fun vs H Q _ => ∃ (a : Addr) (ns : List Int), vs = [.ref a] ∧ SqL K H a (ns.map V.int) ∧ ns.length ≤ 63 ∧ ∀ H', Q (.bl true) H'
section
variable {P : Program} {w : World} {K : PySem.W.Frag} {mg : Str → Option Value} {base : Heap}
theorem ok_j_eqV {f fb CJournal CB aT : Addr} {fd fdb : FuncData} (F : Fun K "__eq__" "Journal.__eq__" s_Journal_eq f fd) (B : Blt mg) (T : Cj P K mg CJournal CB) (jk : ∀ H b dx fs, H b = some (.ins CJournal dx fs) → TyX K H (.ref b) (.ref CJournal))
    (hs : PySem.W.findIn K (.ref CB) "__eq__" = some (some (.ref fb))) (hf : PySem.W.isFn K (.ref fb) = true) (hb : Binds K fdb ["self", "other"] []) (Fb : FnOk P w K mg base CX0 1 fb fdb ["self", "other"] (spEq (EqB CB))) : FnOk P w K mg base CX0 3 f fd ["self", "other"] (spJEqV K aT CJournal CB) := by
  have c_Journal := T.c
  refine F.ok sc_Journal_eq (fun vs H Q E h => ?_) (fun cdv A outer s H vs Q E hr h => ?_)
  · obtain ⟨i, j, b, L, us, us', xs, ys, rfl, _⟩ := h
    rfl
  · obtain ⟨i, j, b, L, us, us', xs, ys, rfl, hI, hJ, q⟩ := h
    refine ⟨_, (pss_one (ps_ret (pe_and (pe_callB call_isi (by rfl) B.isinstance (by decide +kernel) (pa_cons (pv 1) (pa_cons (pe_glob (v := .ref CJournal) (by rfl) c_Journal rfl) pa_nil))) (pe_and (pe_cmpR (op_eqG (rcG_ins Fb hs hf hb pass0) (hr.mono (by decide))) (pe_fld (pv 0) rfl) (pe_fld (pv 1) rfl) (nomark _)) (pe_one (pe_cmpR (op_eqD hr.units) (pe_fld (pv 0) rfl) (pe_fld (pv 1) rfl) (nomark _))))))), ?_⟩
    obtain ⟨dx, t, kd, h1, h2, h3, hl, h5, h6, h7⟩ := id hI
    obtain ⟨dy, t', kd', g1, g2, g3, gl, g5, g6, g7⟩ := id hJ
    obtain ⟨bx, d, L', b1, b2, b3, nd⟩ := id h2
    have E1 := hI.es.1
    have E2 := hJ.es.1
    refine ⟨_, rfl, _, _, _, _, true, rfl, ClsV.own _, jk _ _ _ _ g1, (by show PySem.W.kitOne K _ _ = _; unfold PySem.W.kitOne; rw [if_pos (by simp)]), _, rfl, iteT ?_⟩
    refine ⟨_, rfl, i, CJournal, dx, _, _, rfl, h1, T.cl, T.nB, jf_b _ _ _, _, rfl, j, CJournal, dy, _, _, rfl, g1, T.cl, T.nB, jf_b _ _ _, ⟨b, b, _, _, _, _, rfl, rfl, b1, b1, rfl, L, h2⟩, fun H1 e1 => ⟨_, rfl, iteT ?_⟩⟩
    exact ⟨_, rfl, i, CJournal, dx, _, _, rfl, e1 _ _ h1, T.cl, T.nE, jf_e _ _ _, _, rfl, j, CJournal, dy, _, _, rfl, e1 _ _ g1, T.cl, T.nE, jf_e _ _ _, .tuple (xs.map Ent.pd), .tuple (ys.map Ent.pd), .tup (h3.ext e1) (E1.same e1).dp, .tup (g3.ext e1) (E2.same e1).dp, pds_t E1.ok, pds_t E2.ok, q H1 e1⟩
abbrev s_law : Stmt := topS 45
theorem sc_law : FnScope ["script", "pool", "lates", "keys", "many", "book", "entries", "steps", "count", "handed", "journal", "odd", "stream", "stranger", "name"] ["script"] (defScope s_law) := ⟨rfl, rfl, rfl, by decide +kernel, rfl, by decide +kernel, by decide +kernel⟩
theorem ok_law {f fb fj CB CJ CE aT : Addr} {fd fdb fdj : FuncData} (F : Fun K "law" "law" s_law f fd) (B : Blt mg) (T : Cj P K mg CJ CB) (TB : Cb K mg CB) (G : GL2 P w K mg base aT CJ CB CE)
    (bs : PySem.W.findIn K (.ref CB) "__eq__" = some (some (.ref fb))) (bf : PySem.W.isFn K (.ref fb) = true) (bb : Binds K fdb ["self", "other"] []) (Fb : FnOk P w K mg base CX0 1 fb fdb ["self", "other"] (spEq (EqB CB)))
    (js : PySem.W.findIn K (.ref CJ) "__eq__" = some (some (.ref fj))) (jf_ : PySem.W.isFn K (.ref fj) = true) (jb : Binds K fdj ["self", "other"] []) (Fj : FnOk P w K mg base CX0 3 fj fdj ["self", "other"] (spEq (EqJc K aT CJ CB))) (FjV : FnOk P w K mg base CX0 3 fj fdj ["self", "other"] (spJEqV K aT CJ CB)) : FnOk P w K mg base CX0 9 f fd ["script"] (spLaw K) := by
  refine F.ok sc_law (fun vs H Q E h => ?_) (fun cdv A outer s H vs Q E hr h => ?_)
  · obtain ⟨a, ns, rfl, _⟩ := h
    rfl
  · obtain ⟨a, ns, rfl, hS, hns, q⟩ := h
    have hu := hu_of hr
    have hu0 : (A.deeper (envOfC "law" (defScope s_law) s.heap.objs.size f cdv)).units < cLine := by omega
    refine ⟨_, (pss_cons (ps_set (i := 1) sc_law.nd rfl (Or.inl rfl) (pe_cal G.law_pool (hr.mono (by decide)) pass0 (pa_cons (pv 0) pa_nil)))
    (pss_cons (ps_set (i := 2) sc_law.nd rfl (Or.inr rfl) (pe_cal G.law_lates (hr.mono (by decide)) pass0 (pa_cons (pv 1) pa_nil)))
    (pss_cons (ps_set (i := 3) sc_law.nd rfl (Or.inl rfl) (pe_cal G.law_names (hr.mono (by decide)) pass0 (pa_cons (pv 1) (pa_cons (pe_op op_add pe_int (pe_cal G.law_draw (hr.mono (by decide)) pass0 (pa_cons (pv 1) (pa_cons pe_int pa_nil)))) pa_nil))))
    (pss_cons (ps_set (i := 4) sc_law.nd rfl (Or.inl rfl) (pe_callB (call_min2 rfl) (by rfl) B.min (by decide +kernel) (pa_cons pe_int (pa_cons (pe_callB (call_max2 rfl) (by rfl) B.max (by decide +kernel) (pa_cons (pe_op op_add pe_int (pe_cal G.law_draw (hr.mono (by decide)) pass0 (pa_cons (pv 1) (pa_cons pe_int pa_nil)))) (pa_cons (pe_callB call_len_seq (by rfl) B.len (by decide +kernel) (pa_cons (pv 0) pa_nil)) pa_nil))) pa_nil))))
    (pss_cut (ps_if (pt_cmpR op_eq (pe_cal G.law_draw (hr.mono (by decide)) pass0 (pa_cons (pv 1) (pa_cons pe_int pa_nil))) pe_int (nomark _))
      (pss_one (ps_set (i := 4) sc_law.nd rfl (Or.inl rfl) pe_int))
      pss_nil)
    (pss_cons (ps_set (i := 5) sc_law.nd rfl (Or.inl rfl) (pe_mak G.Book (hr.mono (by decide)) pass0 (pa_cons (pv 2) pa_nil)))
    (pss_cons (ps_set (i := 6) sc_law.nd rfl (Or.inl rfl) (pe_cal G.law_entries (hr.mono (by decide)) pass0 (pa_cons (pv 1) (pa_cons (pv 2) (pa_cons (pv 3) (pa_cons pe_dnewK (pa_cons (pe_cal G.law_draw (hr.mono (by decide)) pass0 (pa_cons (pv 1) (pa_cons (pe_op op_pow pe_int pe_int) pa_nil))) (pa_cons (pe_cal G.law_begin (hr.mono (by decide)) pass0 (pa_cons (pv 1) pa_nil)) (pa_cons (pv 4) pa_nil)))))))))
    (pss_cons (ps_set (i := 7) sc_law.nd rfl (Or.inl rfl) (pe_lst (pa_cons (pe_callB call_len_seq (by rfl) B.len (by decide +kernel) (pa_cons (pv 6) pa_nil)) (pa_cons (pe_cal G.law_draw (hr.mono (by decide)) pass0 (pa_cons (pv 1) (pa_cons (pe_op op_add (pe_callB call_len_seq (by rfl) B.len (by decide +kernel) (pa_cons (pv 6) pa_nil)) pe_int) pa_nil))) (pa_cons (pe_cal G.law_draw (hr.mono (by decide)) pass0 (pa_cons (pv 1) (pa_cons (pe_op op_add (pe_callB call_len_seq (by rfl) B.len (by decide +kernel) (pa_cons (pv 6) pa_nil)) pe_int) pa_nil))) (pa_cons pe_int pa_nil))))))
    (pss_cons (ps_for PassesOwn.never rfl (pi_list (pv 7)) (pg_name (i := 8) sc_law.nd rfl (Or.inl rfl))
      (pss_cons (ps_set (i := 9) sc_law.nd rfl (Or.inl rfl) (pe_slice sl_list (pv 6) po_none (po_some (pv 8))))
      (pss_cons (ps_set (i := 10) sc_law.nd rfl (Or.inl rfl) (pe_mak G.Journal (hr.mono (by decide)) (passE takes0) (pa_cons (pv 5) (pa_cons (pv 9) pa_nil))))
      (pss_cons (ps_expr (pe_bm PySem.F.plainAttrs_list PySem.F.slot_list_append PySem.F.type_list_append mt_append (pv 9) (pa_cons pe_non pa_nil)))
      (pss_cons (ps_if (PW.pt (pw_or (pt_not (pt_val (pe_cal G.law_right (hr.mono (by decide)) pass0 (pa_cons (pv 10) (pa_cons (pv 2) (pa_cons (pv 3) (pa_cons (pe_slice sl_list (pv 6) po_none (po_some (pv 8))) pa_nil))))))) (pw_or1 (pt_not (pt_val (pe_cal G.law_right (hr.mono (by decide)) pass0 (pa_cons (pv 10) (pa_cons (pv 2) (pa_cons (pv 3) (pa_cons (pe_slice sl_list (pv 6) po_none (po_some (pv 8))) pa_nil))))))))))
        (pss_one (ps_ret pe_bl))
        pss_nil)
      (pss_cons (ps_expr (pe_bm0 PySem.F.plainAttrs_list PySem.F.slot_list_pop PySem.F.type_list_pop mt_pop (pv 9)))
      (pss_one (ps_if (PW.pt (pw_or (pt_cmpR (op_neD hr.units) (pv 9) (pe_slice sl_list (pv 6) po_none (po_some (pv 8))) (nomark _)) (pw_or (pt_not (pt_cmpR (op_eqG (rcG_ins Fb bs bf bb pass0) (hr.mono (by decide))) (pe_fld (pv 10) rfl) (pv 5) (nomark _))) (pw_or1 (pt_not (pt_cmpR (op_eqG (rcG_ins Fj js jf_ jb pass0) (hr.mono (by decide))) (pv 10) (pe_mak G.Journal (hr.mono (by decide)) (passE takes0) (pa_cons (pv 5) (pa_cons (pe_callTy call_tuple_of (by rfl) B.tuple (by decide +kernel) (pa_cons (pv 9) pa_nil)) pa_nil))) (nomark _)))))))
        (pss_one (ps_ret pe_bl))
        pss_nil))))))))
    (pss_cons (ps_set (i := 10) sc_law.nd rfl (Or.inl rfl) (pe_mak G.Journal (hr.mono (by decide)) (passE takes0) (pa_cons (pv 5) (pa_cons (pv 6) pa_nil))))
    (pss_cons (ps_if (PW.pt (pw_and (pt_cmpR op_gt (pe_callB call_len_seq (by rfl) B.len (by decide +kernel) (pa_cons (pv 6) pa_nil)) pe_int (nomark _)) (pw_and1 (pt_cmpR (op_eqO js jf_ FjV jb pass0 (hr.mono (by decide))) (pv 10) (pe_mak G.Journal (hr.mono (by decide)) (passE takes0) (pa_cons (pv 5) (pa_cons (pe_slice sl_list (pv 6) po_none (po_some (pe_op op_sub (pe_callB call_len_seq (by rfl) B.len (by decide +kernel) (pa_cons (pv 6) pa_nil)) pe_int))) pa_nil))) (nomark _)))))
      (pss_one (ps_ret pe_bl))
      pss_nil)
    (pss_cons (ps_set (i := 11) sc_law.nd rfl (Or.inl rfl) (pe_ix ix_list (pe_lst (pa_cons pe_non (pa_cons pe_bl (pa_cons pe_int (pa_cons pe_str (pa_cons pe_str (pa_cons pe_str (pa_cons (pe_tup pa_nil) (pa_cons (pe_tup (pa_cons pe_str pa_nil)) (pa_cons (pe_op op_pow pe_int pe_int) (pa_cons (pe_lst pa_nil) (pa_cons pe_dnewK pa_nil)))))))))))) (pe_cal G.law_draw (hr.mono (by decide)) pass0 (pa_cons (pv 1) (pa_cons pe_int pa_nil))) (fun _ _ => rfl)))
    (pss_cons (ps_if (pt_cmpR (op_neS hu0) (pe_cal G.law_refused (hr.mono (by decide)) pass0 (pa_cons (pv 10) (pa_cons (pv 11) (pa_cons (pv 11) pa_nil)))) (pe_tup (pa_cons pe_str (pa_cons (pv 11) pa_nil))) (nomark _))
      (pss_one (ps_ret pe_bl))
      pss_nil)
    (pss_cons (ps_set (i := 12) sc_law.nd rfl (Or.inl rfl) (pe_ix ix_list (pe_callTy (call_listD (by rfl)) (by rfl) B.list (by decide +kernel) (pa_cons (pv 2) pa_nil)) (pe_cal G.law_draw (hr.mono (by decide)) pass0 (pa_cons (pv 1) (pa_cons (pe_callB call_lenD (by rfl) B.len (by decide +kernel) (pa_cons (pv 2) pa_nil)) pa_nil))) (fun _ _ => rfl)))
    (pss_cons (ps_if (pt_cmpR (op_neS hu0) (pe_cal G.law_refused (hr.mono (by decide)) pass0 (pa_cons (pv 10) (pa_cons (pv 12) (pa_cons (pv 11) pa_nil)))) (pe_tup (pa_cons pe_str (pa_cons (pv 11) pa_nil))) (nomark _))
      (pss_one (ps_ret pe_bl))
      pss_nil)
    (pss_cons (ps_set (i := 13) sc_law.nd rfl (Or.inl rfl) (pe_ix ix_list (pe_lc (own := [("name", 14)]) (g := gName 14) (by rfl) sc_law.nd (pi_list (pe_lst (pa_cons pe_str (pa_cons pe_str (pa_cons pe_str (pa_cons pe_str (pa_cons pe_str (pa_cons pe_str (pa_cons pe_str (pa_cons pe_str (pa_cons pe_str pa_nil))))))))))) (blkOk_by (own := [("name", 14)]) (N := ["script", "pool", "lates", "keys", "many", "book", "entries", "steps", "count", "handed", "journal", "odd", "stream", "stranger", "name"]) (sc := defScope s_law) (by decide +kernel)) (fun _ _ _ _ _ => (pg_name (i := 14) sc_law.nd rfl (Or.inl rfl))) (fun _ _ _ _ _ => pts_one (pt_cmp (pc_dnotin hu (pv 14) (pv 2)) rfl)) (fun _ _ _ _ _ => (pv 14))) pe_int (fun _ _ => rfl)))
    (pss_one (ps_ret (pe_cmpR (op_eqD hr.units) (pe_cal G.law_refused (hr.mono (by decide)) pass0 (pa_cons (pv 10) (pa_cons (pv 13) (pa_cons (pv 11) pa_nil)))) (pe_tup (pa_cons pe_str (pa_cons (pv 13) pa_nil))) (nomark _)))))))))))))))))))), ?_⟩
    have two : (2 : Nat) ≤ sizeLine := by decide
    refine ⟨_, rfl, a, ns, rfl, hS, fun p s0 H1 hp hP1 s1 => ?_⟩
    refine ⟨_, rfl, p, s0, rfl, hP1, fun dl L H2 hdl0 hdl LL P2 => ?_⟩
    refine ⟨_, rfl, _, rfl, p, s0, 2, rfl, P2.now, (by decide), (by decide), fun d H3 d0 d1 P3 => ⟨_, _, rfl, rfl, p, s0, _, rfl, P3.now, (by omega), (by omega), fun dk ks H4 hdk0 hdk hkl knd knm P4 => ?_⟩⟩
    have P24 : Pl H2 H4 p s0 := P3.trans P4
    have K4 : Keys H4 dl dk L ks := ⟨P24.dk P2.now hdl, LL, hdk, by omega, knm⟩
    have P14 : Pl H1 H4 p s0 := P2.trans P24
    have aSq : ∀ {H' : Hp}, Pl H1 H' p s0 → SqL K H' a (ns.map V.int) := fun {H'} PP => by
      rcases hS with (h | ⟨o, h⟩) | h
      · exact .inl (.inl (PP.keep (s1 _ _ h) (fun z => by rw [z, hp] at h; cases h)))
      · exact .inl (.inr ⟨o, PP.keep (s1 _ _ h) (fun z => by rw [z, hp] at h; cases h)⟩)
      · exact .inr h
    refine ⟨_, rfl, p, s0, 8, rfl, P4.now, (by decide), (by decide), fun m H5 m0 m1 P5 => ⟨_, _, rfl, rfl, _, rfl, a, _, rfl, .inl (aSq (P14.trans P5)), _, _, rfl, _, _, rfl, ?_⟩⟩
    obtain ⟨many0, hmany, m1', m12⟩ : ∃ many : Int, (if (if ((ns.map V.int).length : Int) > 1 + m then ((ns.map V.int).length : Int) else 1 + m) < 24 then (if ((ns.map V.int).length : Int) > 1 + m then ((ns.map V.int).length : Int) else 1 + m) else 24) = many ∧ 1 ≤ many ∧ many ≤ 24 := by
      refine ⟨_, rfl, ?_, ?_⟩ <;> (repeat' split) <;> omega
    refine ⟨fun σ H' => ∃ many : Int, σ = [some (.ref a), some (.ref p), some (.ref dl), some (.ref dk), some (.int many)] ++ List.replicate 10 none ∧ 1 ≤ many ∧ many ≤ 60 ∧ Pl H4 H' p s0, ?_, ?_⟩
    · refine ⟨_, rfl, p, s0, 10, rfl, P5.now, (by decide), (by decide), fun g H6 g0 g1 P6 => ⟨rfl, _, rfl, ?_⟩⟩
      refine ite2 (fun c => ?_) (fun c => ?_)
      · exact ⟨60, rfl, by decide, by decide, P5.trans P6⟩
      · exact ⟨many0, by rw [← hmany]; rfl, m1', by omega, P5.trans P6⟩
    rintro σ H6 ⟨many, rfl, n1, n2, P46⟩
    have K6 := K4.pl P4.now P46
    have P16 := P14.trans P46
    clear P46 P5 hmany m1' m12 m0 m1 K4 P24 P3 P4 hdk hdk0 hdl0 hdl P14
    refine ⟨_, rfl, fun b dxb nb ndb neb => ⟨b, dxb, dl, L, rfl, upd_same, ?_, LL, fun H7 hB kB => ⟨rfl, ?_⟩⟩⟩
    · exact (mk_same nb ndb (fun c o h n => h)) _ _ K6.dl
    have s67 : Same H6 H7 := mk_same nb ndb kB
    have PQ7 : PoolAt H7 p s0 := P16.now.same s67
    have K7 := K6.same s67
    refine ⟨_, rfl, _, rfl, _, rfl, fun ds hds => ⟨_, rfl, _, _, rfl, rfl, ⟨by decide, by decide, by decide⟩, p, s0, _, rfl, ((Pl.refl PQ7).new hds).now, (by decide), (by decide), fun number H8 n0 n1' P8 => ?_⟩⟩
    refine ⟨_, rfl, p, s0, rfl, P8.now, fun begin_ H9 P9 => ?_⟩
    have PA : Pl H7 H9 p s0 := (((Pl.refl PQ7).new hds).trans P8).trans P9
    have K9 := K7.pl PQ7 PA
    have hds9 : H9 ds = some (.dK []) := (P8.trans P9).dk ((Pl.refl PQ7).new hds).now upd_same
    have st : ∀ n, StAt H9 ds (fun _ => none) n := fun n => ⟨[], hds9, Nat.zero_le _, (fun _ h => nomatch h), fun id => True.intro⟩
    refine ⟨_, rfl, p, s0, dl, dk, ds, L, ks, fun _ => none, 0, number, begin_, many, rfl, ⟨PA.now, K9.dl, K9.LL, K9.dk, by omega, by omega, K9.kn, st _, (fun _ _ _ _ _ e => by cases e), fun id h => absurd rfl h⟩, st _, by omega, by omega, by omega, n0, (fun id h => absurd rfl h), (fun z => by rw [z, K7.dl] at hds; cases hds), fun q1 us xs S1 H10 hq10 hq1 hE hlen hwk harr hst hkn5 hids hnew PD => ?_⟩
    have P7A : Pl H7 H10 p s0 := ⟨PD.now, PQ7.ne.1, PQ7.ne.2, fun c o hc n => PD.but c o (PA.keep hc n) n (fun z => by rw [z, hds] at hc; cases hc)⟩
    have GX : Good L xs := (Good.of (hwk none (fun _ z => nomatch z) 0)).1
    have q1p : q1 ≠ p := fun z => PA.now.ne.1 (z ▸ hq10)
    have W : W2 K CB H10 p s0 dl dk b q1 L ks us xs := ⟨PD.now, K7.pl PQ7 P7A, hB.pl PQ7 P7A, hq1, q1p, hE⟩
    have lx1 : 1 ≤ xs.length := by omega
    have lx2 : xs.length ≤ 60 := by omega
    have lu : us.length = xs.length := hE.1
    have P1A : Pl H1 H10 p s0 := (P16.same s67).trans P7A
    clear hwk harr hst hids hnew st hds9 hkn5 PD PA hq10 K6 K7 K9 hB hq1 hE P7A P8 P9 PQ7 s67 kB nb ndb neb hds P16
    -- steps
    refine ⟨_, rfl, q1, _, rfl, .inl (SqL.of W.ls), _, rfl, _, rfl, q1, _, rfl, .inl (SqL.of W.ls), _, _, rfl, rfl, p, s0, _, rfl, W.pool, (by omega), (by omega), fun g1 H11 g10 g11 P11 => ?_⟩
    have W11 := W.pl P11
    refine ⟨_, rfl, _, rfl, q1, _, rfl, .inl (SqL.of W11.ls), _, _, rfl, rfl, p, s0, _, rfl, W11.pool, (by omega), (by omega), fun g2 H12 g20 g21 P12 => ⟨(by show 4 ≤ sizeLine; decide), fun l hl => ?_⟩⟩
    have W12 := W11.pl P12
    have s13 : Same H12 (upd H12 l (.lst [.int us.length, .int g1, .int g2, .int 0])) := sameAt (Same.refl _) hl
    have W13 := W12.same s13
    have hl13 : (upd H12 l (.lst [.int us.length, .int g1, .int g2, .int 0])) l = some (.lst ([(us.length : Int), g1, g2, 0].map V.int)) := upd_same
    have lp : l ≠ p := fun z => W12.pool.ne.1 (z ▸ hl)
    have P1D : Pl H1 (upd H12 l (.lst [.int us.length, .int g1, .int g2, .int 0])) p s0 := ((P1A.trans P11).trans P12).same s13
    generalize (upd H12 l (.lst [.int us.length, .int g1, .int g2, .int 0])) = H13 at s13 W13 hl13 P1D ⊢
    have hsteps : ∀ c ∈ [(us.length : Int), g1, g2, 0], 0 ≤ c ∧ c ≤ us.length := fun c hc => by
      simp only [List.mem_cons, List.not_mem_nil, or_false] at hc
      rcases hc with rfl | rfl | rfl | rfl <;> omega
    clear W W11 W12 P1A P11 P12 s13
    refine ⟨_, rfl, l, rfl, ⟨_, SqL.of hl13⟩, for_list (K := K) (a := l) (xs := [(us.length : Int), g1, g2, 0].map V.int) (fun i σ H' => (∃ c8 c9 c10, σ = [some (.ref a), some (.ref p), some (.ref dl), some (.ref dk), some (.int many), some (.ref b), some (.ref q1), some (.ref l), c8, c9, c10] ++ List.replicate 4 none) ∧ Same H13 H') ⟨⟨_, _, _, rfl⟩, Same.refl _⟩ (fun i σ H' _ hv => SqL.of (hv.2 _ _ hl13)) ?_ ?_⟩
    · rintro i v σ H14 hvi ⟨⟨c8, c9, c10, rfl⟩, s14⟩
      obtain ⟨c, hc, rfl⟩ := List.mem_map.mp (List.mem_of_getElem? hvi)
      obtain ⟨c0, c1⟩ := hsteps c hc
      obtain ⟨n, rfl⟩ : ∃ n : Nat, c = (n : Int) := ⟨c.toNat, by omega⟩
      have hn : n ≤ us.length := by omega
      have W14 := W13.same s14
      refine ⟨_, rfl, _, rfl, _, rfl, q1, us, rfl, SqL.of W14.ls, fun h1 hh1 => ?_⟩
      rw [cut_to hn]
      have lt : (us.take n).length ≤ 60 := by rw [List.length_take]; omega
      have ltx : (xs.take n).length ≤ 60 := by rw [List.length_take]; omega
      have GT := GX.take n
      have s15 : Same H14 (upd H14 h1 (.lst (us.take n))) := sameAt (Same.refl _) hh1
      have hh15 : (upd H14 h1 (.lst (us.take n))) h1 = some (.lst (us.take n)) := upd_same
      have hh13 : H13 h1 = none := none_of s14 hh1
      generalize (upd H14 h1 (.lst (us.take n))) = H15 at s15 hh15 ⊢
      have W15 := W14.same s15
      refine ⟨_, rfl, _, rfl, fun j dx' nx ndx nex => mkJ W15.bk hh15 (W15.es.take n) (by omega) GT.w nx ndx nex fun H16 s16 hJ => ?_⟩
      have hh16 := s16 _ _ hh15
      refine ⟨_, rfl, .inl ⟨rfl, _, SqL.of hh16⟩, h1, _, _, rfl, rfl, hh16, small1000 (by omega), ?_⟩
      have s1316 : Same H13 H16 := (s14.trans s15).trans s16
      have s17 : Same H13 (upd H16 h1 (.lst (us.take n ++ [.non]))) := sameAt s1316 hh13
      have hJ17 : JAt K aT CJ CB (upd H16 h1 (.lst (us.take n ++ [.non]))) j b L (us.take n) (xs.take n) := hJ.nl fun c o hc hno => by rw [upd_ne (fun z => by rw [z, hh16] at hc; exact hno _ (Option.some.inj hc).symm)]; exact hc
      have hh17 : (upd H16 h1 (.lst (us.take n ++ [.non]))) h1 = some (.lst (us.take n ++ [.non])) := upd_same
      generalize (upd H16 h1 (.lst (us.take n ++ [.non]))) = H17 at s17 hJ17 hh17 ⊢
      have W17 := W13.same s17
      -- right, twice
      refine ⟨_, rfl, _, rfl, _, rfl, _, rfl, _, rfl, _, rfl, q1, us, rfl, SqL.of W17.ls, fun e1 he1 => ?_⟩
      rw [cut_to hn]
      have s18 : Same H17 (upd H17 e1 (.lst (us.take n))) := sameAt (Same.refl _) he1
      have he18 : (upd H17 e1 (.lst (us.take n))) e1 = some (.lst (us.take n)) := upd_same
      generalize (upd H17 e1 (.lst (us.take n))) = H18 at s18 he18 ⊢
      have W18 := W17.same s18
      refine ⟨j, b, dl, dk, e1, L, _, _, xs.take n, ks, rfl, hJ17.same s18, ltx, W18.keys, he18, W18.es.take n, fun H19 s19 => ⟨_, rfl, iteF ?_⟩⟩
      have W19 := W18.same s19
      refine ⟨_, rfl, _, rfl, _, rfl, _, rfl, _, rfl, _, rfl, q1, us, rfl, SqL.of W19.ls, fun e2 he2 => ?_⟩
      rw [cut_to hn]
      have s20 : Same H19 (upd H19 e2 (.lst (us.take n))) := sameAt (Same.refl _) he2
      have he20 : (upd H19 e2 (.lst (us.take n))) e2 = some (.lst (us.take n)) := upd_same
      generalize (upd H19 e2 (.lst (us.take n))) = H20 at s20 he20 ⊢
      have s1720 := (s18.trans s19).trans s20
      have W20 := W19.same s20
      refine ⟨j, b, dl, dk, e2, L, _, _, xs.take n, ks, rfl, hJ17.same s1720, ltx, W20.keys, he20, W20.es.take n, fun H21 s21 => ⟨_, rfl, iteF ?_⟩⟩
      have s1721 := s1720.trans s21
      have hh21 := s1721 _ _ hh17
      have hJ21 := hJ17.same s1721
      -- handed.pop()
      refine ⟨_, rfl, .inl ⟨rfl, _, SqL.of hh21⟩, h1, _, .non, rfl, rfl, hh21, ?_, ?_⟩
      · rw [List.length_append, List.length_singleton, Nat.add_sub_cancel, List.getElem?_append_right (Nat.le_refl _), Nat.sub_self]
        rfl
      rw [List.dropLast_concat]
      have s22 : Same H13 (upd H21 h1 (.lst (us.take n))) := sameAt (s17.trans s1721) hh13
      have hJ22 : JAt K aT CJ CB (upd H21 h1 (.lst (us.take n))) j b L (us.take n) (xs.take n) := hJ21.nl fun c o hc hno => by rw [upd_ne (fun z => by rw [z, hh21] at hc; exact hno _ (Option.some.inj hc).symm)]; exact hc
      have hh22 : (upd H21 h1 (.lst (us.take n))) h1 = some (.lst (us.take n)) := upd_same
      generalize (upd H21 h1 (.lst (us.take n))) = H22 at s22 hJ22 hh22 ⊢
      have W22 := W13.same s22
      refine ⟨_, rfl, _, rfl, _, rfl, _, rfl, q1, us, rfl, SqL.of W22.ls, fun e3 he3 => ?_⟩
      rw [cut_to hn]
      have s23 : Same H22 (upd H22 e3 (.lst (us.take n))) := sameAt (Same.refl _) he3
      have he23 : (upd H22 e3 (.lst (us.take n))) e3 = some (.lst (us.take n)) := upd_same
      generalize (upd H22 e3 (.lst (us.take n))) = H23 at s23 he23 ⊢
      have W23 := W22.same s23
      have E23 := ThEs.of (K := K) (W23.es.take n)
      have hJ23 := hJ22.same s23
      refine ⟨_, _, .lst (SqL.of (s23 _ _ hh22)) E23.dp, .lst (SqL.of he23) E23.dp, pds_l E23.ok, pds_l E23.ok, _, rfl, ?_⟩
      rw [eqv_self (pds_l E23.ok)]
      obtain ⟨dj, tj, kj, ej⟩ := hJ23.ins
      obtain ⟨bx, bd, L', b1, b2, b3⟩ := id W23.bk
      refine iteF ⟨_, rfl, j, CJ, dj, _, _, rfl, ej, T.cl, T.nB, jf_b _ _ _, _, rfl, ⟨b, b, _, _, _, _, rfl, rfl, b1, b1, rfl, L, W23.bk⟩, fun H24 e24 => ⟨_, rfl, iteF ?_⟩⟩
      have s24 : Same H23 H24 := e24
      have W24 := W23.same s24
      refine ⟨_, rfl, _, rfl, _, rfl, h1, _, rfl, .inl ⟨SqL.of (s24 _ _ (s23 _ _ hh22)), fun tt htt => ?_⟩⟩
      have s25 : Same H24 (upd H24 tt (.tup (us.take n))) := sameAt (Same.refl _) htt
      have ht25 : (upd H24 tt (.tup (us.take n))) tt = some (.tup (us.take n)) := upd_same
      generalize (upd H24 tt (.tup (us.take n))) = H25 at s25 ht25 ⊢
      have W25 := W24.same s25
      refine fun j2 dx2 nx2 ndx2 nex2 => mkJT W25.bk (SqT.of ht25) (W25.es.take n) (by omega) GT.w nx2 ndx2 nex2 fun H26 s26 hJ26 => ?_
      refine ⟨dinsJ (hJ23.same ((s24.trans s25).trans s26)) hJ26, fun H27 e27 => ⟨_, rfl, iteF ?_⟩⟩
      have s27 : Same H26 H27 := e27
      exact ⟨⟨_, _, _, rfl⟩, s22.trans (s23.trans ((s24.trans s25).trans (s26.trans s27)))⟩
    rintro σ H14 ⟨⟨c8, c9, c10, rfl⟩, s14⟩
    have W14 := W13.same s14
    have P1E := P1D.same s14
    clear W13 P1D hsteps hl13 lp s14
    refine ⟨_, rfl, _, rfl, fun j dx' nx ndx nex => mkJ W14.bk W14.ls W14.es (by omega) GX.w nx ndx nex fun H15 s15 hJ => ?_⟩
    have W15 := W14.same s15
    have P1F := P1E.same s15
    refine ⟨_, rfl, q1, us, rfl, .inl (SqL.of W15.ls), _, _, rfl, rfl, _, rfl, ?_⟩
    rw [decide_eq_true (show (0 : Int) < (us.length : Int) by omega)]
    refine iteT ⟨_, rfl, _, rfl, _, rfl, _, rfl, q1, us, rfl, .inl (SqL.of W15.ls), _, _, rfl, rfl, _, rfl, q1, us, rfl, SqL.of W15.ls, fun e1 he1 => ?_⟩
    have ecut : cutV us none (some ((us.length : Int) - 1)) = us.take (us.length - 1) := by
      rw [show ((us.length : Int) - 1) = ((us.length - 1 : Nat) : Int) by omega]
      exact cut_to (by omega)
    rw [ecut]
    have s16 : Same H15 (upd H15 e1 (.lst (us.take (us.length - 1)))) := sameAt (Same.refl _) he1
    have he16 : (upd H15 e1 (.lst (us.take (us.length - 1)))) e1 = some (.lst (us.take (us.length - 1))) := upd_same
    generalize (upd H15 e1 (.lst (us.take (us.length - 1)))) = H16 at s16 he16 ⊢
    have W16 := W15.same s16
    refine fun j2 dx2 nx2 ndx2 nex2 => mkJ W16.bk he16 (W16.es.take _) (by rw [List.length_take]; omega) (GX.take _).w nx2 ndx2 nex2 fun H17 s17 hJ17 => ?_
    have hJ7 := hJ.same (s16.trans s17)
    have W17 := W16.same s17
    obtain ⟨dj, tj, kj, ej⟩ := hJ7.ins
    obtain ⟨dj2, tj2, kj2, ej2⟩ := hJ17.ins
    refine ⟨j, j2, dj, dj2, _, _, rfl, rfl, ej, ej2, j, j2, b, L, _, _, _, _, rfl, hJ7, hJ17, fun H18 e18 => ⟨_, rfl, ?_⟩⟩
    have s18 : Same H17 H18 := e18
    rw [eqv_len (by rw [List.length_map, List.length_map, List.length_take]; omega)]
    have W18 := W17.same s18
    have hJ18 := hJ7.same s18
    have P1G := ((P1F.same s16).same s17).same s18
    clear hJ hJ7 hJ17 W14 W15 W16 W17 P1E P1F ej ej2 s15 s16 s17 s18 e18 he16 nx ndx nex nx2 ndx2 nex2
    -- odd
    refine iteF ⟨(by show 0 ≤ sizeLine; decide), fun t0 ht0 => ⟨(by show 1 ≤ sizeLine; decide), fun t1 ht1 => ⟨_, _, rfl, rfl, ⟨by decide, by decide, by decide⟩, (by show 0 ≤ sizeLine; decide), fun l1 hl1 d0 hd0 => ?_⟩⟩⟩
    obtain ⟨ten, hten⟩ : ∃ ten : Int, (10 : Int) ^ (20 : Int).toNat = ten := ⟨_, rfl⟩
    have w0 : Same H18 (upd H18 t0 (.tup [])) := sameAt (Same.refl _) ht0
    have w1 : Same _ (upd (upd H18 t0 (.tup [])) t1 (.tup [.str "a"])) := sameAt (Same.refl _) ht1
    have w2 : Same _ (upd (upd (upd H18 t0 (.tup [])) t1 (.tup [.str "a"])) l1 (.lst [])) := sameAt (Same.refl _) hl1
    have w3 : Same _ (upd (upd (upd (upd H18 t0 (.tup [])) t1 (.tup [.str "a"])) l1 (.lst [])) d0 (.dK [])) := sameAt (Same.refl _) hd0
    have k0 := (w1.trans (w2.trans w3)) _ _ (upd_same (H := H18) (a := t0) (o := .tup []))
    have k1 := (w2.trans w3) _ _ upd_same
    have k2 := w3 _ _ upd_same
    have k3 : (upd (upd (upd (upd H18 t0 (.tup [])) t1 (.tup [.str "a"])) l1 (.lst [])) d0 (.dK [])) d0 = some (.dK []) := upd_same
    have w03 := w0.trans (w1.trans (w2.trans w3))
    have l1p : l1 ≠ p := fun z => (W18.pool.same (w0.trans w1)).ne.1 (z ▸ hl1)
    have t0p : t0 ≠ p := fun z => W18.pool.ne.1 (z ▸ ht0)
    have t1p : t1 ≠ p := fun z => (W18.pool.same w0).ne.1 (z ▸ ht1)
    have d0p : d0 ≠ p := fun z => ((W18.pool.same (w0.trans w1)).same w2).ne.1 (z ▸ hd0)
    generalize (upd (upd (upd (upd H18 t0 (.tup [])) t1 (.tup [.str "a"])) l1 (.lst [])) d0 (.dK [])) = H19 at w03 k0 k1 k2 k3 ⊢
    have W19 := W18.same w03
    refine ⟨(by show 11 ≤ sizeLine; decide), fun lo hlo => ?_⟩
    have s20 : Same H19 (upd H19 lo (.lst [.non, .bl true, .int 0, .str "", .str "A", .str "abcdefghi", .ref t0, .ref t1, .int ((10 : Int) ^ (20 : Int).toNat), .ref l1, .ref d0])) := sameAt (Same.refl _) hlo
    have hlo20 : (upd H19 lo (.lst [.non, .bl true, .int 0, .str "", .str "A", .str "abcdefghi", .ref t0, .ref t1, .int ((10 : Int) ^ (20 : Int).toNat), .ref l1, .ref d0])) lo = some (.lst [.non, .bl true, .int 0, .str "", .str "A", .str "abcdefghi", .ref t0, .ref t1, .int ((10 : Int) ^ (20 : Int).toNat), .ref l1, .ref d0]) := upd_same
    have lop : lo ≠ p := fun z => W19.pool.ne.1 (z ▸ hlo)
    have W20 := W19.same s20
    have hJ20 := (hJ18.same w03).same s20
    refine ⟨_, rfl, p, s0, 11, rfl, W20.pool, (by decide), (by decide), fun g H21 g0 g1' P21 => ?_⟩
    have P21 : Pl (upd H19 lo (.lst [.non, .bl true, .int 0, .str "", .str "A", .str "abcdefghi", .ref t0, .ref t1, .int ((10 : Int) ^ (20 : Int).toNat), .ref l1, .ref d0])) H21 p s0 := P21
    rw [hten] at P21 s20 hlo20 W20 hJ20
    generalize (upd H19 lo (.lst [.non, .bl true, .int 0, .str "", .str "A", .str "abcdefghi", .ref t0, .ref t1, .int ten, .ref l1, .ref d0])) = H20 at s20 hlo20 W20 hJ20 P21
    have W21 := W20.pl P21
    have hJ21 := hJ20.nl (P21.nl W20.pool)
    have hlo21 := P21.keep hlo20 lop
    have e0 : H21 t0 = some (.tup []) := P21.keep (s20 _ _ k0) t0p
    have e1' : H21 t1 = some (.tup [.str "a"]) := P21.keep (s20 _ _ k1) t1p
    have e2 : H21 l1 = some (.lst []) := P21.keep (s20 _ _ k2) l1p
    have e3 : H21 d0 = some (.dK []) := P21.keep (s20 _ _ k3) d0p
    obtain ⟨v, hv, hNN, hSv⟩ : ∃ v, atI [V.non, V.bl true, V.int 0, V.str "", V.str "A", V.str "abcdefghi", V.ref t0, V.ref t1, V.int ten, V.ref l1, V.ref d0] g = some v ∧ NoName K H21 v ∧ SameV v v := by
      have : g = 0 ∨ g = 1 ∨ g = 2 ∨ g = 3 ∨ g = 4 ∨ g = 5 ∨ g = 6 ∨ g = 7 ∨ g = 8 ∨ g = 9 ∨ g = 10 := by omega
      rcases this with rfl | rfl | rfl | rfl | rfl | rfl | rfl | rfl | rfl | rfl | rfl
      · exact ⟨_, rfl, .inr ⟨_, .base .non, kit_ty (by decide +kernel)⟩, .inl ⟨rfl, rfl, rfl⟩⟩
      · exact ⟨_, rfl, .inr ⟨_, .base (.bl _), kit_ty (by decide +kernel)⟩, .inl ⟨rfl, rfl, rfl⟩⟩
      · exact ⟨_, rfl, .inr ⟨_, .base (.int _), kit_ty (by decide +kernel)⟩, same_int rfl⟩
      · exact ⟨_, rfl, .inl ⟨_, rfl, (by decide +kernel), (by decide +kernel)⟩, same_str _⟩
      · exact ⟨_, rfl, .inl ⟨_, rfl, (by decide +kernel), (by decide +kernel)⟩, same_str _⟩
      · exact ⟨_, rfl, .inl ⟨_, rfl, (by decide +kernel), (by decide +kernel)⟩, same_str _⟩
      · exact ⟨_, rfl, .inr ⟨_, .base (.tup e0), kit_ty (by decide +kernel)⟩, .inr ⟨rfl, _, rfl⟩⟩
      · exact ⟨_, rfl, .inr ⟨_, .base (.tup e1'), kit_ty (by decide +kernel)⟩, .inr ⟨rfl, _, rfl⟩⟩
      · exact ⟨_, rfl, .inr ⟨_, .base (.int _), kit_ty (by decide +kernel)⟩, same_int rfl⟩
      · exact ⟨_, rfl, .inr ⟨_, .base (.lst e2), kit_ty (by decide +kernel)⟩, .inr ⟨rfl, _, rfl⟩⟩
      · exact ⟨_, rfl, .inr ⟨_, .base (.dK e3), kit_ty (by decide +kernel)⟩, .inr ⟨rfl, _, rfl⟩⟩
    refine ⟨_, _, _, v, rfl, rfl, SqL.of hlo21, hv, ?_⟩
    have P1H := ((P1G.same w03).same s20).trans P21
    clear e0 e1' e2 e3 hlo20 hlo21 hJ18 hJ20 W18 W19 W20 P1G P21 w03 w0 w1 w2 w3 k0 k1 k2 k3 ht0 ht1 hl1 hd0 hlo hv
    have hNS : NoStr K H21 L v := hNN.imp (fun ⟨z, e, h1, h2⟩ => ⟨z, e, h1, by rw [h2]; rfl⟩) id
    refine ⟨_, rfl, _, rfl, _, rfl, j, b, L, us, xs, v, v, rfl, hJ21, .inl ⟨hNS, fun t H22 s22 ht => ⟨_, rfl, two, fun t2 ht2 => ?_⟩⟩⟩
    have s23 : Same H22 (upd H22 t2 (.tup [.str "refused", v])) := sameAt (Same.refl _) ht2
    refine ⟨pair_same (s23 _ _ ht) upd_same (same_str _) hSv, _, rfl, iteF ?_⟩
    have s2123 := s22.trans s23
    generalize (upd H22 t2 (.tup [.str "refused", v])) = H23 at s23 s2123 ⊢
    have W23 := W21.same s2123
    have hJ23 := hJ21.same s2123
    have hN23 := hNN.same s2123
    have P1I := P1H.same s2123
    -- a stream of the book
    refine ⟨_, rfl, dl, _, rfl, .of W23.keys.dl, fun l5 hl5 => ?_⟩
    have s24 : Same H23 (upd H23 l5 (.lst ((LK L).map fun kv => kV kv.1))) := sameAt (Same.refl _) hl5
    have hl24 : (upd H23 l5 (.lst ((LK L).map fun kv => kV kv.1))) l5 = some (.lst ((LK L).map fun kv => kV kv.1)) := upd_same
    have l5p : l5 ≠ p := fun z => W23.pool.ne.1 (z ▸ hl5)
    generalize (upd H23 l5 (.lst ((LK L).map fun kv => kV kv.1))) = H24 at s24 hl24 ⊢
    have W24 := W23.same s24
    have lL := LL.few
    have lL1 := LL.some_
    refine ⟨_, rfl, _, rfl, dl, _, rfl, W24.keys.dl, p, s0, _, rfl, W24.pool, (by rw [LK_len]; omega), (by rw [LK_len]; omega), fun g5 H25 g50 g51 P25 => ?_⟩
    rw [LK_len] at g51
    obtain ⟨g5, rfl⟩ : ∃ n : Nat, g5 = (n : Int) := ⟨g5.toNat, by omega⟩
    have hg5 : g5 < L.length := by omega
    have hgk : ((LK L).map fun kv => kV kv.1)[g5]? = some (.str (L[g5]).1) := by
      unfold LK
      rw [List.map_map, List.getElem?_map, List.getElem?_eq_getElem hg5]
      rfl
    have hzm : L[g5] ∈ L := List.getElem_mem hg5
    have nmz := LL.nm _ hzm
    have isz : (L.lookup L[g5].1).isSome := by rw [lookup_mem LL.nd hzm]; rfl
    generalize L[g5].1 = zs at hgk nmz isz
    have hJ24 := hJ23.same s24
    have W25 := W24.pl P25
    have hJ25 := hJ24.nl (P25.nl W24.pool)
    refine ⟨_, _, _, _, rfl, rfl, SqL.of (P25.keep hl24 l5p), atI_nat hgk, ?_⟩
    have hN25 : NoName K H25 v := by
      rcases hN23 with h | ⟨t, h1, h2⟩
      · exact .inl h
      · refine .inr ⟨t, ?_, h2⟩
        exact tyx_pl (tyx_same h1 s24) W24.pool P25
    refine ⟨_, rfl, _, rfl, _, rfl, j, b, L, us, xs, .str zs, v, rfl, hJ25, .inr ⟨zs, rfl, nmz, isz, hN25, fun t H26 s26 ht => ⟨_, rfl, two, fun t2 ht2 => ?_⟩⟩⟩
    have s27 : Same H26 (upd H26 t2 (.tup [.str "refused", v])) := sameAt (Same.refl _) ht2
    refine ⟨pair_same (s27 _ _ ht) upd_same (same_str _) hSv, _, rfl, iteF ?_⟩
    have s2527 := s26.trans s27
    generalize (upd H26 t2 (.tup [.str "refused", v])) = H27 at s27 s2527 ⊢
    have W27 := W25.same s2527
    have hJ27 := hJ25.same s2527
    have hN27 := hN25.same s2527
    clear hN25 hN23 W21 W23 W24 W25 hJ21 hJ23 hJ24 hJ25
    -- a stranger
    refine ⟨(by show 9 ≤ sizeLine; decide), fun lq hlq => ?_⟩
    obtain ⟨nms, hnms⟩ : ∃ nms : List Str, nms = [("q" : Str), "zz", "m", "ab", "y", "k", "x", "w", "v"] := ⟨_, rfl⟩
    have nmn : ∀ z ∈ nms, IsNm z := fun z hz => by
      have q : ∀ z ∈ ([("q" : Str), "zz", "m", "ab", "y", "k", "x", "w", "v"] : List Str), nmB z = true := by decide +kernel
      rw [hnms] at hz
      exact (nmB_iff z).mp (q z hz)
    have nml : nms.length = 9 := by rw [hnms]; rfl
    have s28 : Same H27 (upd H27 lq (.lst [.str "q", .str "zz", .str "m", .str "ab", .str "y", .str "k", .str "x", .str "w", .str "v"])) := sameAt (Same.refl _) hlq
    have hlq28 : (upd H27 lq (.lst [.str "q", .str "zz", .str "m", .str "ab", .str "y", .str "k", .str "x", .str "w", .str "v"])) lq = some (.lst (nms.map V.str)) := by rw [hnms]; exact upd_same
    generalize (upd H27 lq (.lst [.str "q", .str "zz", .str "m", .str "ab", .str "y", .str "k", .str "x", .str "w", .str "v"])) = H28 at s28 hlq28 ⊢
    have W28 := W27.same s28
    refine ⟨lq, rfl, ⟨_, SqL.of hlq28⟩, fun D hD => lc_list (a := lq) (xs := nms.map V.str) (fun i H29 => H29 D = some (.lst (((nms.take i).filter fun k => !(L.lookup k).isSome).map V.str)) ∧ Same H28 H29) ⟨upd_same, sameAt (Same.refl _) hD⟩ (fun i H29 _ hv => SqL.of (hv.2 _ _ hlq28)) ?_ ?_⟩
    · rintro i v4 H29 hvi ⟨hD29, s29⟩
      obtain ⟨k5, hk5, rfl⟩ : ∃ k5, nms[i]? = some k5 ∧ v4 = .str k5 := by
        rw [List.getElem?_map] at hvi
        cases e : nms[i]? with
        | none => rw [e] at hvi; cases hvi
        | some z => rw [e] at hvi; exact ⟨z, rfl, (Option.some.inj hvi).symm⟩
      have lf5 : ((nms.take i).filter fun k => !(L.lookup k).isSome).length ≤ 30 := Nat.le_trans (List.length_filter_le _ _) (by rw [List.length_take]; omega)
      have ef : (nms.take (i + 1)).filter (fun k => !(L.lookup k).isSome) = (nms.take i).filter (fun k => !(L.lookup k).isSome) ++ [k5].filter (fun k => !(L.lookup k).isSome) := by rw [List.take_add_one, hk5, List.filter_append]; rfl
      refine ⟨rfl, _, rfl, _, rfl, dl, _, rfl, DGet.k (k := Sum.inr k5) ((W28.same s29).keys.dl), _, rfl, ?_⟩
      have e : (valV (LK L) (Sum.inr k5 : Key)).isSome = (L.lookup k5).isSome := by rw [LK_val, Option.isSome_map]
      rw [e]
      refine ite2 (fun c => ?_) (fun c => ?_)
      · refine ⟨_, rfl, _, hD29, (by rw [List.length_map]; exact small1000 (by omega)), ?_, sameAt s29 hD⟩
        rw [upd_same, ef, show [k5].filter (fun k => !(L.lookup k).isSome) = [k5] from by rw [List.filter_cons, if_pos c]; rfl, List.map_append]
        rfl
      · refine ⟨?_, s29⟩
        rw [ef, show [k5].filter (fun k => !(L.lookup k).isSome) = [] from by rw [List.filter_cons, if_neg c]; rfl, List.append_nil]
        exact hD29
    rintro H29 ⟨hD29, s29⟩
    rw [List.length_map, List.take_length] at hD29
    obtain ⟨nm, r, enm⟩ : ∃ nm r, (nms.filter fun k => !(L.lookup k).isSome) = nm :: r := by
      cases e : (nms.filter fun k => !(L.lookup k).isSome) with
      | cons y r => exact ⟨y, r, rfl⟩
      | nil =>
        exfalso
        refine nine_left (ls := L.map (·.1)) (by rw [List.length_map]; exact lL) fun z hz => ?_
        have q := List.filter_eq_nil_iff.mp e z (by rw [hnms]; exact hz)
        by_cases c : z ∈ L.map (·.1)
        · exact c
        · exact absurd (show (!(L.lookup z).isSome) = true by rw [lookup_none c]; rfl) q
    have hmem : nm ∈ nms.filter fun k => !(L.lookup k).isSome := by rw [enm]; exact List.mem_cons_self
    obtain ⟨hm1, hm2⟩ := List.mem_filter.mp hmem
    have hno : (L.lookup nm).isSome = false := by simpa using hm2
    rw [enm] at hD29
    have nmm := nmn _ hm1
    have s2729 := s28.trans s29
    have hJ29 := hJ27.same s2729
    refine ⟨_, _, _, .str nm, rfl, rfl, SqL.of hD29, (show atI ((nm :: r).map V.str) ((0 : Nat) : Int) = some (.str nm) from atI_nat rfl), ?_⟩
    refine ⟨_, rfl, _, rfl, _, rfl, j, b, L, us, xs, .str nm, v, rfl, hJ29, .inl ⟨.inl ⟨nm, rfl, (by have := nmm.2.1; rw [sizeLine_eq]; omega), by rw [hno, Bool.and_false]⟩, fun t H30 s30 ht => ⟨_, rfl, two, fun t2 ht2 => ?_⟩⟩⟩
    have s31 : Same H30 (upd H30 t2 (.tup [.str "refused", .str nm])) := sameAt (Same.refl _) ht2
    have dt : ∀ t : Addr, (upd H30 t2 (.tup [.str "refused", .str nm])) t = some (.tup [.str "refused", .str nm]) → Dp K (upd H30 t2 (.tup [.str "refused", .str nm])) (.ref t) (.tuple [.str "refused", .str nm]) := fun t h => .tup (SqT.of h) (.cons (.str _) (.cons (.str _) .nil))
    have shp : SeqAt.shaped (.tuple [.str "refused", .str nm]) = true := shaped_flat (by simp [flatD, nm_ok nmm, (by decide +kernel : PyData.strOk "refused" = true)])
    refine ⟨_, _, dt t (s31 _ _ ht), dt t2 upd_same, shp, shp, ?_⟩
    refine (congrArg (fun z => Q (.bl z) _) (eqv_self shp)).mpr ?_
    exact q _
end
end Ash

set_option Elab.async false
set_option linter.all false
set_option maxRecDepth 100000
set_option maxHeartbeats 4000000
namespace Ash
open PySem PySem.Spec PyProof.Rows L2
/-! ### what the top has written -/
/-- a def of the top -/
structure D1 (K : PySem.W.Frag) (mg : Str → Option Value) (x : Str) (st : Stmt) : Prop where
  ex : ∃ (f : Addr) (fd : FuncData), mg x = some (.ref f) ∧ Fun K x x st f fd
/-- a method -/
structure DM (K : PySem.W.Frag) (C : Addr) (m qual : Str) (st : Stmt) : Prop where
  ex : ∃ (f : Addr) (fd : FuncData), Meth K C m f ∧ Fun K m qual st f fd
/-- a method at a known place -/
structure DQ (K : PySem.W.Frag) (C f : Addr) (m qual : Str) (st : Stmt) : Prop where
  ex : ∃ fd : FuncData, Meth K C m f ∧ Fun K m qual st f fd
/-- an __init__ with one default -/
structure DD (K : PySem.W.Frag) (C a : Addr) (qual : Str) (st : Stmt) : Prop where
  ex : ∃ (f : Addr) (fd : FuncData), Mk K C f ∧ FunD K "__init__" qual (defArgs st) (defBody st) (defScope st) [.ref a] [] f fd
section
variable {K : PySem.W.Frag} {h : Heap} {mg : Str → Option Value} {x qual : Str} {st : Stmt} {f C : Addr} {oc kV dc pm cdv ct : Value} {od an : Option Addr} {sl : Array (Option Value)}
theorem d1 (X : K.In h) (G : h.Ns mainGlobals mg) (a : PySem.W.nsIn K mainGlobals x = some (some (.ref f))) (l : K.lookup f = some ⟨oc, od, .func (PySem.W.fnOf x x (defArgs st) (defBody st) (defScope st) .none kV dc pm an cdv ct), sl⟩) (c : PySem.W.codeIn K cdv x = true) (k : PySem.W.keepIn K (.ref f) = true) : D1 K mg x st :=
  ⟨f, _, PySem.W.mg_of X G a, fun_mk l c k⟩
theorem dm (a : PySem.W.findIn K (.ref C) x = some (some (.ref f))) (i : PySem.W.isFn K (.ref f) = true) (l : K.lookup f = some ⟨oc, od, .func (PySem.W.fnOf x qual (defArgs st) (defBody st) (defScope st) .none kV dc pm an cdv ct), sl⟩) (c : PySem.W.codeIn K cdv qual = true) (k : PySem.W.keepIn K (.ref f) = true) : DM K C x qual st :=
  ⟨f, _, ⟨a, i, k⟩, fun_mk l c k⟩
theorem dq (a : PySem.W.findIn K (.ref C) x = some (some (.ref f))) (i : PySem.W.isFn K (.ref f) = true) (l : K.lookup f = some ⟨oc, od, .func (PySem.W.fnOf x qual (defArgs st) (defBody st) (defScope st) .none kV dc pm an cdv ct), sl⟩) (c : PySem.W.codeIn K cdv qual = true) (k : PySem.W.keepIn K (.ref f) = true) : DQ K C f x qual st :=
  ⟨_, ⟨a, i, k⟩, fun_mk l c k⟩
theorem dd {a T : Addr} {oT : Value} {dT : Option Addr} {slT : Array (Option Value)} {n : Nat} (m1 : PySem.W.makesIn K C = true) (m2 : PySem.W.findIn K (.ref C) "__init__" = some (some (.ref f))) (m3 : PySem.W.isFn K (.ref f) = true) (m4 : PySem.W.keepIn K (.ref C) = true)
    (l : K.lookup f = some ⟨oc, od, .func (PySem.W.fnOf "__init__" qual (defArgs st) (defBody st) (defScope st) (.ref T) kV dc pm an cdv ct), sl⟩) (lT : K.lookup T = some ⟨oT, dT, .seq #[.ref a] n, slT⟩) (c : PySem.W.codeIn K cdv qual = true) (k : PySem.W.keepIn K (.ref f) = true) : DD K C a qual st :=
  ⟨f, _, ⟨m1, m2, m3, m4⟩, ⟨⟨oc, od, .ref T, kV, dc, pm, an, cdv, ct, sl, rfl, l, c, .inr ⟨by simp, T, _, [.ref a], n, rfl, lT, rfl, .cons rfl .nil⟩, .inl rfl⟩, k⟩⟩
theorem sq_of {a : Addr} {d : Option Addr} {n : Nat} (l : K.lookup a = some ⟨.type "tuple", d, .seq #[] n, sl⟩) (H : Hp) : SqT K H a [] := .inr ⟨_, #[], n, l, rfl, rfl, Nat.zero_le _, .nil⟩
theorem tt_mk {a : Addr} {d : Option Addr} {n : Nat} (l : K.lookup a = some ⟨.type "tuple", d, .seq #[] n, sl⟩) : ∃ (o : Obj) (n : Nat), K.lookup a = some o ∧ o.cls = .type "tuple" ∧ o.data = .seq #[] n := ⟨_, n, l, rfl, rfl⟩
end
section
variable {P : Program} {w : World} {K : PySem.W.Frag} {mg : Str → Option Value} {base : Heap} {CX : CXT} {x : Str} {st : Stmt} {ps : List Str} {k : Nat} {sp : Sp}
theorem cal_of (D : D1 K mg x st) (hb : ∀ (kV doc pm : Value) (an : Option Addr) (cdv ct : Value) (us : List Value), us.length = ps.length → bindArgs (PySem.W.fnOf x x (defArgs st) (defBody st) (defScope st) .none kV doc pm an cdv ct) ⟨us, []⟩ = pure (ps.zip us))
    (ok : ∀ f fd, Fun K x x st f fd → FnOk P w K mg base CX k f fd ps sp) : Cal P w K mg base CX x k ps sp := by
  obtain ⟨f, fd, hm, F⟩ := D.ex
  exact ⟨f, fd, hm, F.kp, F.binds hb, ok f fd F⟩
end
/-- a class is what its instances are -/
structure BkI (K : PySem.W.Frag) (CB : Addr) : Prop where
  ha : PySem.W.findIn K (.ref CB) "__class__" = some (some (.builtin "object.__class__"))
  hn : PySem.W.specialIn K (.builtin "object.__class__") "__get__" = some (some (.builtin "getset_descriptor.__get__"))
  ht : PySem.W.takesIn K (.builtin "object.__class__") = some true
  hm : PySem.W.mroIn K CB (.type "object") = some true
theorem ne_mk {K : PySem.W.Frag} {C f N : Addr} {nm q : Str} {bs : List Value} {hd ab : Bool} {sn : List Str} {sub : List Value} {col : Option Bool} {dd : Option Addr} {k0 k1 k2 k3 k5 : Option Value} {nid : String} {fo : Obj} (h1 : K.lookup C = some (excClassObj nm q C N bs [.type "object"] hd sn sub ab col dd k0 k1 k2 k3 k5 nid)) {oN : Value} {dN : Option Addr} {es : Array DictEntry} {nn : Nat} {slN : Array (Option Value)} (h2 : K.lookup N = some ⟨oN, dN, .dict es nn, slN⟩) (h7 : (es.toList.all fun e => match e.key with | .str _ _ => true | _ => false) = true) (h3 : PySem.W.nsIn K N "__eq__" = some (some (.ref f))) (h4 : PySem.W.nsIn K N "__ne__" = some none) (h5 : K.lookup f = some fo) (h6 : fo.cls = .type "function") : NeC K C f :=
  ⟨⟨nm, q, N, bs, hd, sn, sub, ab, col, dd, k0, k1, k2, k3, k5, nid, fo, h1, by unfold PySem.W.nsOkIn; rw [h2]; exact (Array.all_toList ..).symm.trans h7, h3, h4, h5, h6⟩⟩
theorem kit_ref {K : PySem.W.Frag} {C : Addr} {T : String} {b : Bool} (hm : PySem.W.kitMeta T = true) (h : PySem.W.subIn K (.ref C) (.type T) = some b) : PySem.W.kitOne K (.ref C) (.type T) = some b := by
  have e : (Value.ref C == Value.type T) = false := rfl
  unfold PySem.W.kitOne PySem.W.kitCls
  rw [e, if_neg Bool.false_ne_true]
  show (if PySem.W.kitMeta T = true then _ else _) = _
  rw [if_pos hm]
  exact h
theorem exm_me {K : PySem.W.Frag} {C : Addr} (h1 : PySem.W.subIn K (.ref C) (.type "BaseException") = some true) (h2 : PySem.W.isClsIn K C = true) (h3 : PySem.W.typeIn K (.ref C) = some (.type "type")) (h4 : PySem.W.subIn K (.ref C) (.ref C) = some true) : PySem.W.exmOne K (.ref C) (.ref C) = some true := by
  have h2' : (PySem.W.clsIn K C).isSome = true := h2
  simp [PySem.W.exmOne, PySem.W.kitCls, h1, h2', h3, h4]
theorem exm_no {K : PySem.W.Frag} {C D : Addr} (h1 : PySem.W.subIn K (.ref D) (.type "BaseException") = some true) (h2 : PySem.W.isClsIn K D = true) (h3 : PySem.W.typeIn K (.ref D) = some (.type "type")) (h4 : PySem.W.subIn K (.ref C) (.ref D) = some false) : PySem.W.exmOne K (.ref C) (.ref D) = some false := by
  have h2' : (PySem.W.clsIn K D).isSome = true := h2
  simp [PySem.W.exmOne, PySem.W.kitCls, h1, h2', h3, h4]
open PySem.W PySem.Calls PySem.HandSPX in
/-- the facts of an own error's class -/
theorem txt_mk {P : Program} {K : PySem.W.Frag} {h : Heap} {mg : Str → Option Value} {par fl : Str} {C fI N cda cc : Addr} {nm q qual tx file : Str} {bs bm sub : List Value} {sn : List Str} {ab : Bool} {col : Option Bool} {dd : Option Addr} {m0 m1 m2 m3 m5 : Option Value}
    {oc doc pm ct ccl cl : Value} {od an cdd cld : Option Addr} {osl ccs csl : Array (Option Value)} {vs : Array Value} {pa : Arguments} {p0 p1 p2 p3 p4 p5 p6 p7 p8 p9 : Pos} {j : Nat} {a0 : Arg} {tf : Nat} (X : K.In h) (G : h.Ns mainGlobals mg)
    (cls : K.lookup C = some (excClassObj nm q C N bs bm true sn sub ab col dd m0 m1 m2 m3 m5 "ValueError.__new__")) (ref : PySem.HandSPX.refsVE bm = true)
    (sa : PySem.W.findIn K (.ref C) "__setattr__" = some (some (.builtin "object.__setattr__"))) (ga : PySem.W.findIn K (.ref C) "__getattribute__" = some (some (.builtin "BaseException.__getattribute__"))) (gg : PySem.W.findIn K (.ref C) "__getattr__" = some none) (noN : PySem.W.findIn K (.ref C) fl = some none)
    (iC : PySem.W.findIn K (.ref C) "__init__" = some (some (.ref fI))) (tC : PySem.W.typeIn K (.ref fI) = some (.type "function")) (kC : PySem.W.keepIn K (.ref C) = true) (exC : PySem.W.subIn K (.ref C) (.type "BaseException") = some true) (veC : PySem.W.subIn K (.ref C) (.type "ValueError") = some true)
    (slf : PySem.W.mroIn K C (.ref C) = some true) (tyC : PySem.W.typeIn K (.ref C) = some (.type "type")) (hdC : PySem.W.hasDictIn K C = true) (isC : PySem.W.isClsIn K C = true) (sC : PySem.W.subIn K (.ref C) (.ref C) = some true)
    (along : PySem.W.ks_superIn K C C "__init__" = some (some (.builtin "ValueError.__init__"))) (opq : PySem.W.nsIn K cStatics "thirdparty.any" = some none) (sup : PySem.W.nsIn K mainGlobals "super" = some none) (top : (P.main.scope.names.lookup ("super" : Str)).isSome = false)
    (lf : K.lookup fI = some ⟨oc, od, .func (PySem.W.ksFn "__init__" qual pa (PySem.BadX.shape tx par fl p0 p1 p2 p3 p4 p5 p6 p7 p8 p9 j) (PySem.BadX.sco par) .none .none doc pm an (.ref cda) ct cc), osl⟩) (cd : PySem.W.codeIn K (.ref cda) qual = true) (ha0 : (pa.posonlyargs ++ pa.args).head? = some a0) (ha1 : a0.arg = "self")
    (bd : ∀ (s : Shared) (u v : Value), BindsTo s (PySem.W.ksFn "__init__" qual pa (PySem.BadX.shape tx par fl p0 p1 p2 p3 p4 p5 p6 p7 p8 p9 j) (PySem.BadX.sco par) .none .none doc pm an (.ref cda) ct cc) ⟨[u, v], []⟩ [("self", u), (par, v)])
    (lc : K.lookup cda = some ⟨ccl, cdd, .fields vs, ccs⟩) (hvs : vs[2]? = some (.str file tf)) (hfile : ((P.main.file : Str) == file) = true) (hpe : (p2.endLine == p4.line) = true) (lcc : K.lookup cc = some ⟨cl, cld, .cell (some (.ref C)), csl⟩) : PySem.BadX.Txt P K mg par fl C fI :=
  { cls := ⟨nm, q, N, bs, bm, sn, sub, ab, col, dd, m0, m1, m2, m3, m5, cls, ref⟩, sa := sa, ga := ga, gg := gg, noN := noN, iC := iC, tC := tC, kC := kC, exC := exC, veC := veC, slf := slf, tyC := tyC, hdC := hdC, te := exm_me exC isC tyC sC, along := along, opq := opq, sup := PySem.W.mg_none_of X G sup, top := top,
    fn := ⟨oc, od, qual, tx, doc, pm, an, cda, cc, ct, osl, pa, p0, p1, p2, p3, p4, p5, p6, p7, p8, p9, j, a0, lf, cd, ha0, ha1, bd, ⟨ccl, cdd, vs, ccs, file, tf, lc, hvs, hfile⟩, hpe, ⟨cl, cld, csl, lcc⟩⟩ }
theorem ex_int {K : PySem.W.Frag} {h : Heap} {mg : Str → Option Value} {x : Str} {n : Int} {t : Tok} (X : K.In h) (G : h.Ns mainGlobals mg) (a : PySem.W.nsIn K mainGlobals x = some (some (.int n t))) : ∃ t, mg x = some (.int n t) := ⟨_, PySem.W.mg_of X G a⟩
theorem ex_str {K : PySem.W.Frag} {h : Heap} {mg : Str → Option Value} {x z : Str} {t : Tok} (X : K.In h) (G : h.Ns mainGlobals mg) (a : PySem.W.nsIn K mainGlobals x = some (some (.str z t))) : ∃ t, mg x = some (.str z t) := ⟨_, PySem.W.mg_of X G a⟩
end Ash

set_option Elab.async false
set_option linter.all false
set_option maxRecDepth 100000
set_option maxHeartbeats 4000000
namespace Ash
open PySem PySem.Spec PyProof.Rows L2
section
variable {P : Program} {w : World} {K : PySem.W.Frag} {mg : Str → Option Value} {base : Heap}
theorem all_ok {CB CJ CE CN fE fN aT aE : Addr}
    (B : Blt mg)
    (Cs : Cst mg)
    (TB : Cb K mg CB)
    (T : Cj P K mg CJ CB)
    (Tt : Tb K mg aT)
    (cE : mg "BadEntry" = some (.ref CE))
    (TE : PySem.BadX.Txt P K mg "at" "at" CE fE)
    (bi : BkI K CB)
    (ji : BkI K CJ)
    (mkB : PySem.W.makesIn K CB = true)
    (kB : PySem.W.keepIn K (.ref CB) = true)
    (cN : mg "BadName" = some (.ref CN))
    (TN : PySem.BadX.Txt P K mg "value" "value" CN fN)
    (d_is_integer : D1 K mg "is_integer" s_is_integer)
    (d_is_natural : D1 K mg "is_natural" s_is_natural)
    (d_is_name : D1 K mg "is_name" s_is_name)
    (d_are_integers : D1 K mg "are_integers" s_are_integers)
    (d_is_late : D1 K mg "is_late" s_is_late)
    (d_is_lates : D1 K mg "is_lates" s_is_lates)
    (d_is_entry : D1 K mg "is_entry" s_is_entry)
    (d_arrival_of : D1 K mg "arrival_of" s_arrival_of)
    (d_placed : D1 K mg "placed" s_placed)
    (d_row_behind : D1 K mg "row_behind" s_row_behind)
    (d_walked : D1 K mg "walked" s_walked)
    (d_is_row : D1 K mg "is_row" s_is_row)
    (d__law_pool : D1 K mg "_law_pool" s_l_pool)
    (d__law_draw : D1 K mg "_law_draw" s_l_draw)
    (d__law_names : D1 K mg "_law_names" s_l_names)
    (d__law_lates : D1 K mg "_law_lates" s_l_lates)
    (d__law_amount : D1 K mg "_law_amount" s_l_amount)
    (d__law_begin : D1 K mg "_law_begin" s_l_begin)
    (d__law_entry : D1 K mg "_law_entry" s_l_entry)
    (d__law_put : D1 K mg "_law_put" s_l_put)
    (d__law_entries : D1 K mg "_law_entries" s_l_entries)
    (d__law_states : D1 K mg "_law_states" s_l_states)
    (d__law_rows : D1 K mg "_law_rows" s_l_rows)
    (d__law_refused : D1 K mg "_law_refused" s_l_refused)
    (d__law_right : D1 K mg "_law_right" s_l_right)
    (m_Init : DM K CB "__init__" "Book.__init__" s_Book_init)
    (m_Has : DM K CB "has" "Book.has" s_Book_has)
    (m_Late : DM K CB "late" "Book.late" s_Book_late)
    (m_J : DD K CJ aE "Journal.__init__" s_Journal_init)
    (m_Rows : DM K CJ "rows" "Journal.rows" s_Journal_rows)
    (m_Latest : DM K CJ "latest" "Journal.latest" s_Journal_latest)
    (m_Names : DM K CJ "key_names" "Journal.key_names" s_Journal_key_names)
    (m_Len : DM K CJ "__len__" "Journal.__len__" s_Journal_len)
    (m_Beq : DM K CB "__eq__" "Book.__eq__" s_Book_eq)
    (m_Jeq : DM K CJ "__eq__" "Journal.__eq__" s_Journal_eq)
    {f : Addr} {fd : FuncData} (F_law : Fun K "law" "law" s_law f fd) : FnOk P w K mg base CX0 9 f fd ["script"] (spLaw K) := by
  have bk : ∀ H b dx fs, H b = some (.ins CB dx fs) → TyX K H (.ref b) (.ref CB) := fun H b dx fs h => .base (.ins h TB.cl bi.ha bi.hn bi.ht bi.hm)
  have jk : ∀ H b dx fs, H b = some (.ins CJ dx fs) → TyX K H (.ref b) (.ref CJ) := fun H b dx fs h => .base (.ins h T.cl ji.ha ji.hn ji.ht ji.hm)
  have c_is_integer := cal_of (P := P) (w := w) (base := base) (ps := ["thing"]) d_is_integer (fun _ _ _ _ _ _ us hl => match us, hl with | [_], _ => rfl) fun f fd F => ok_is_integer F B
  have k1 : K1 P w K mg base := ⟨c_is_integer⟩
  have c_is_natural := cal_of (P := P) (w := w) (base := base) (ps := ["thing"]) d_is_natural (fun _ _ _ _ _ _ us hl => match us, hl with | [_], _ => rfl) fun f fd F => ok_is_natural F B k1
  have c_is_name := cal_of (P := P) (w := w) (base := base) (ps := ["thing"]) d_is_name (fun _ _ _ _ _ _ us hl => match us, hl with | [_], _ => rfl) fun f fd F => ok_is_name F B Cs
  have k2 : K2 P w K mg base := ⟨k1, c_is_natural, c_is_name⟩
  have c_are_integers := cal_of (P := P) (w := w) (base := base) (ps := ["things"]) d_are_integers (fun _ _ _ _ _ _ us hl => match us, hl with | [_], _ => rfl) fun f fd F => ok_are_integers F B k2
  have c_is_late := cal_of (P := P) (w := w) (base := base) (ps := ["thing"]) d_is_late (fun _ _ _ _ _ _ us hl => match us, hl with | [_], _ => rfl) fun f fd F => ok_is_late F B Cs k2
  have k3 : K3 P w K mg base := ⟨k2, c_are_integers, c_is_late⟩
  have c_is_lates := cal_of (P := P) (w := w) (base := base) (ps := ["thing"]) d_is_lates (fun _ _ _ _ _ _ us hl => match us, hl with | [_], _ => rfl) fun f fd F => ok_is_lates F B Cs k3
  have k4 : K4 P w K mg base := ⟨k3, c_is_lates⟩
  obtain ⟨fInit, fdInit, mInit, FInit⟩ := m_Init.ex
  have bInit : Binds K fdInit ["self", "lates"] [] := FInit.binds (ps := ["self", "lates"]) fun _ _ _ _ _ _ us hl => match us, hl with | [_, _], _ => rfl
  have oInit := ok_book_init (P := P) (w := w) (base := base) FInit B TB k4
  obtain ⟨fHas, fdHas, mHas, FHas⟩ := m_Has.ex
  have bHas : Binds K fdHas ["self", "stream"] [] := FHas.binds (ps := ["self", "stream"]) fun _ _ _ _ _ _ us hl => match us, hl with | [_, _], _ => rfl
  have oHas := ok_book_has (P := P) (w := w) (base := base) FHas B TB k4
  obtain ⟨fLate, fdLate, mLate, FLate⟩ := m_Late.ex
  have bLate : Binds K fdLate ["self", "stream"] [] := FLate.binds (ps := ["self", "stream"]) fun _ _ _ _ _ _ us hl => match us, hl with | [_, _], _ => rfl
  have oLate := ok_book_late (P := P) (w := w) (base := base) FLate B TB mHas bHas oHas
  have c_is_entry := cal_of (P := P) (w := w) (base := base) (ps := ["thing"]) d_is_entry (fun _ _ _ _ _ _ us hl => match us, hl with | [_], _ => rfl) fun f fd F => ok_is_entry F B k4.toK3
  have c_arrival_of := cal_of (P := P) (w := w) (base := base) (ps := ["entry"]) d_arrival_of (fun _ _ _ _ _ _ us hl => match us, hl with | [_], _ => rfl) fun f fd F => ok_arrival_of F B
  have c_placed := cal_of (P := P) (w := w) (base := base) (ps := ["book", "row", "arrival"]) d_placed (fun _ _ _ _ _ _ us hl => match us, hl with | [_, _, _], _ => rfl) fun f fd F => ok_placed F B TB mLate bLate oLate
  have k5 : K5 P w K mg base CB := ⟨k4, c_is_entry, c_arrival_of, c_placed⟩
  have c_row_behind := cal_of (P := P) (w := w) (base := base) (ps := ["book", "entry", "old"]) d_row_behind (fun _ _ _ _ _ _ us hl => match us, hl with | [_, _, _], _ => rfl) fun f fd F => ok_row_behind F B TB Tt k5 mHas bHas oHas mLate bLate oLate
  have k6 : K6 P w K mg base CB aT := ⟨k5, c_row_behind⟩
  have c_walked := cal_of (P := P) (w := w) (base := base) (ps := ["book", "things"]) d_walked (fun _ _ _ _ _ _ us hl => match us, hl with | [_, _], _ => rfl) fun f fd F => ok_walked F B k6
  have c_is_row := cal_of (P := P) (w := w) (base := base) (ps := ["thing"]) d_is_row (fun _ _ _ _ _ _ us hl => match us, hl with | [_], _ => rfl) fun f fd F => ok_is_row F B
  have k7 : K7 P w K mg base CB aT := ⟨k6, c_walked, c_is_row⟩
  obtain ⟨fJ, fdJ, mJ, FJ⟩ := m_J.ex
  have oJ := ok_j_init (P := P) (w := w) (base := base) FJ B Cs T TB TE cE bk k7
  obtain ⟨ds3, v3, bJ3⟩ := FJ.binds1 (ps := ["self", "book", "entries"]) 3 1 (by simp) rfl fun T kV doc pm an cdv ct us its h1 h2 => match us, its, h1, h2 with | [_, _, _], [_], _, _ => ⟨_, rfl, rfl⟩
  cases v3
  have k8 : K8 P w K mg base CB aT CJ CE := ⟨k7, ⟨fJ, fdJ, mJ, T.c, bJ3, oJ⟩⟩
  have oHasB := ok_hasB (P := P) (w := w) (base := base) FHas B TB k2
  obtain ⟨fRows, fdRows, mRows, FRows⟩ := m_Rows.ex
  have bRows : Binds K fdRows ["self", "stream", "key"] [] := FRows.binds (ps := ["self", "stream", "key"]) fun _ _ _ _ _ _ us hl => match us, hl with | [_, _, _], _ => rfl
  have oRows := ok_rows (P := P) (w := w) (base := base) FRows B T TB Tt k2 mHas bHas oHas
  have oRowsX := ok_rowsX (P := P) (w := w) (base := base) FRows B T TB Tt TN cN k2 mHas bHas oHasB
  obtain ⟨fLatest, fdLatest, mLatest, FLatest⟩ := m_Latest.ex
  have bLatest : Binds K fdLatest ["self"] [] := FLatest.binds (ps := ["self"]) fun _ _ _ _ _ _ us hl => match us, hl with | [_], _ => rfl
  have oLatest := ok_latest2 (P := P) (w := w) (base := base) (aT := aT) FLatest B T k5
  obtain ⟨fNames, fdNames, mNames, FNames⟩ := m_Names.ex
  have bNames : Binds K fdNames ["self"] [] := FNames.binds (ps := ["self"]) fun _ _ _ _ _ _ us hl => match us, hl with | [_], _ => rfl
  have oNames := ok_keynames (P := P) (w := w) (base := base) (aT := aT) FNames B T
  obtain ⟨fLen, fdLen, mLen, FLen⟩ := m_Len.ex
  have bLen : Binds K fdLen ["self"] [] := FLen.binds (ps := ["self"]) fun _ _ _ _ _ _ us hl => match us, hl with | [_], _ => rfl
  have oLen := ok_jlen (P := P) (w := w) (base := base) (aT := aT) FLen B T
  obtain ⟨fBeq, fdBeq, mBeq, FBeq⟩ := m_Beq.ex
  have bBeq : Binds K fdBeq ["self", "other"] [] := FBeq.binds (ps := ["self", "other"]) fun _ _ _ _ _ _ us hl => match us, hl with | [_, _], _ => rfl
  have oBeq := ok_book_eq (P := P) (w := w) (base := base) FBeq B TB bk
  obtain ⟨fJeq, fdJeq, mJeq, FJeq⟩ := m_Jeq.ex
  have bJeq : Binds K fdJeq ["self", "other"] [] := FJeq.binds (ps := ["self", "other"]) fun _ _ _ _ _ _ us hl => match us, hl with | [_, _], _ => rfl
  have oJeq := ok_j_eqc (P := P) (w := w) (base := base) (aT := aT) FJeq B T jk mBeq.at_ mBeq.fn bBeq oBeq
  have oJeqV := ok_j_eqV (P := P) (w := w) (base := base) (aT := aT) FJeq B T jk mBeq.at_ mBeq.fn bBeq oBeq
  have c__law_pool := cal_of (P := P) (w := w) (base := base) (ps := ["script"]) d__law_pool (fun _ _ _ _ _ _ us hl => match us, hl with | [_], _ => rfl) fun f fd F => ok_pool F B
  have c__law_draw := cal_of (P := P) (w := w) (base := base) (ps := ["pool", "many"]) d__law_draw (fun _ _ _ _ _ _ us hl => match us, hl with | [_, _], _ => rfl) fun f fd F => ok_draw F B
  have g1 : G1 P w K mg base := ⟨c__law_draw⟩
  have c__law_names := cal_of (P := P) (w := w) (base := base) (ps := ["pool", "many"]) d__law_names (fun _ _ _ _ _ _ us hl => match us, hl with | [_, _], _ => rfl) fun f fd F => ok_names F B g1
  have g2 : G2 P w K mg base := ⟨g1, c__law_names⟩
  have c__law_lates := cal_of (P := P) (w := w) (base := base) (ps := ["pool"]) d__law_lates (fun _ _ _ _ _ _ us hl => match us, hl with | [_], _ => rfl) fun f fd F => ok_lates F B g2
  have c__law_amount := cal_of (P := P) (w := w) (base := base) (ps := ["pool"]) d__law_amount (fun _ _ _ _ _ _ us hl => match us, hl with | [_], _ => rfl) fun f fd F => ok_amount F B g2
  have c__law_begin := cal_of (P := P) (w := w) (base := base) (ps := ["pool"]) d__law_begin (fun _ _ _ _ _ _ us hl => match us, hl with | [_], _ => rfl) fun f fd F => ok_begin F B g2
  have g3 : G3 P w K mg base := ⟨g2, c__law_lates, c__law_amount, c__law_begin⟩
  have c__law_entry := cal_of (P := P) (w := w) (base := base) (ps := ["pool", "lates", "keys", "states", "number", "arrival"]) d__law_entry (fun _ _ _ _ _ _ us hl => match us, hl with | [_, _, _, _, _, _], _ => rfl) fun f fd F => ok_entry F B g3
  have c__law_put := cal_of (P := P) (w := w) (base := base) (ps := ["states", "entry"]) d__law_put (fun _ _ _ _ _ _ us hl => match us, hl with | [_, _], _ => rfl) fun f fd F => ok_put F B
  have g4 : G4 P w K mg base := ⟨g3, c__law_entry, c__law_put⟩
  have c_putk := cal_of (P := P) (w := w) (base := base) (ps := ["states", "entry"]) d__law_put (fun _ _ _ _ _ _ us hl => match us, hl with | [_, _], _ => rfl) fun f fd F => ok_putk F B
  have g4k : G4k P w K mg base := ⟨c_putk⟩
  have c__law_entries := cal_of (P := P) (w := w) (base := base) (ps := ["pool", "lates", "keys", "states", "number", "arrival", "many"]) d__law_entries (fun _ _ _ _ _ _ us hl => match us, hl with | [_, _, _, _, _, _, _], _ => rfl) fun f fd F => ok_entries5 F B g4
  have c__law_states := cal_of (P := P) (w := w) (base := base) (ps := ["entries"]) d__law_states (fun _ _ _ _ _ _ us hl => match us, hl with | [_], _ => rfl) fun f fd F => ok_states F B g4k
  have g5k : G5k P w K mg base := ⟨g4k, c__law_states⟩
  have c__law_rows := cal_of (P := P) (w := w) (base := base) (ps := ["entries", "stream", "key"]) d__law_rows (fun _ _ _ _ _ _ us hl => match us, hl with | [_, _, _], _ => rfl) fun f fd F => ok_lrows F B g5k
  have c__law_refused := cal_of (P := P) (w := w) (base := base) (ps := ["journal", "stream", "key"]) d__law_refused (fun _ _ _ _ _ _ us hl => match us, hl with | [_, _, _], _ => rfl) fun f fd F => ok_lref F B T TN cN ⟨fRows, fdRows, mRows, bRows, oRowsX⟩
  have c__law_right := cal_of (P := P) (w := w) (base := base) (ps := ["journal", "lates", "keys", "entries"]) d__law_right (fun _ _ _ _ _ _ us hl => match us, hl with | [_, _, _, _], _ => rfl) fun f fd F => ok_right2 F B T ⟨c__law_rows, ⟨fRows, fdRows, mRows, bRows, oRows⟩, ⟨fLatest, fdLatest, mLatest, bLatest, oLatest⟩, ⟨fNames, fdNames, mNames, bNames, oNames⟩⟩ mLen.at_ mLen.fn bLen oLen
  have gl : GL2 P w K mg base aT CJ CB CE := ⟨g4, c__law_pool, c__law_entries, c__law_right, c__law_refused, ⟨fInit, fdInit, ⟨mkB, mInit.at_, mInit.fn, kB⟩, TB.c, bInit, oInit⟩, ⟨fJ, fdJ, mJ, T.c, bJ3, oJ⟩⟩
  exact ok_law F_law B T TB gl mBeq.at_ mBeq.fn bBeq oBeq mJeq.at_ mJeq.fn bJeq oJeq oJeqV
end
theorem all_mk {P : Program} {w : World} {K : PySem.W.Frag} {h : Heap} {mg : Str → Option Value} {fa CB CJ CE CN fE fN aT aE f4 : Addr} {oc4 kV4 dc4 pm4 cd4 ct4 : Value} {od4 an4 : Option Addr} {sl4 : Array (Option Value)} (X : K.In h) (G : h.Ns mainGlobals mg) (hfa : mg "law" = some (.ref fa))
    (a4 : PySem.W.nsIn K mainGlobals "law" = some (some (.ref f4))) (l4 : K.lookup f4 = some ⟨oc4, od4, .func (PySem.W.fnOf "law" "law" (defArgs s_law) (defBody s_law) (defScope s_law) .none kV4 dc4 pm4 an4 cd4 ct4), sl4⟩) (c4 : PySem.W.codeIn K cd4 "law" = true) (k4 : PySem.W.keepIn K (.ref f4) = true)
    (B : Blt mg)
    (Cs : Cst mg)
    (TB : Cb K mg CB)
    (T : Cj P K mg CJ CB)
    (Tt : Tb K mg aT)
    (cE : mg "BadEntry" = some (.ref CE))
    (TE : PySem.BadX.Txt P K mg "at" "at" CE fE)
    (bi : BkI K CB)
    (ji : BkI K CJ)
    (mkB : PySem.W.makesIn K CB = true)
    (kB : PySem.W.keepIn K (.ref CB) = true)
    (cN : mg "BadName" = some (.ref CN))
    (TN : PySem.BadX.Txt P K mg "value" "value" CN fN)
    (d_is_integer : D1 K mg "is_integer" s_is_integer)
    (d_is_natural : D1 K mg "is_natural" s_is_natural)
    (d_is_name : D1 K mg "is_name" s_is_name)
    (d_are_integers : D1 K mg "are_integers" s_are_integers)
    (d_is_late : D1 K mg "is_late" s_is_late)
    (d_is_lates : D1 K mg "is_lates" s_is_lates)
    (d_is_entry : D1 K mg "is_entry" s_is_entry)
    (d_arrival_of : D1 K mg "arrival_of" s_arrival_of)
    (d_placed : D1 K mg "placed" s_placed)
    (d_row_behind : D1 K mg "row_behind" s_row_behind)
    (d_walked : D1 K mg "walked" s_walked)
    (d_is_row : D1 K mg "is_row" s_is_row)
    (d__law_pool : D1 K mg "_law_pool" s_l_pool)
    (d__law_draw : D1 K mg "_law_draw" s_l_draw)
    (d__law_names : D1 K mg "_law_names" s_l_names)
    (d__law_lates : D1 K mg "_law_lates" s_l_lates)
    (d__law_amount : D1 K mg "_law_amount" s_l_amount)
    (d__law_begin : D1 K mg "_law_begin" s_l_begin)
    (d__law_entry : D1 K mg "_law_entry" s_l_entry)
    (d__law_put : D1 K mg "_law_put" s_l_put)
    (d__law_entries : D1 K mg "_law_entries" s_l_entries)
    (d__law_states : D1 K mg "_law_states" s_l_states)
    (d__law_rows : D1 K mg "_law_rows" s_l_rows)
    (d__law_refused : D1 K mg "_law_refused" s_l_refused)
    (d__law_right : D1 K mg "_law_right" s_l_right)
    (m_Init : DM K CB "__init__" "Book.__init__" s_Book_init)
    (m_Has : DM K CB "has" "Book.has" s_Book_has)
    (m_Late : DM K CB "late" "Book.late" s_Book_late)
    (m_J : DD K CJ aE "Journal.__init__" s_Journal_init)
    (m_Rows : DM K CJ "rows" "Journal.rows" s_Journal_rows)
    (m_Latest : DM K CJ "latest" "Journal.latest" s_Journal_latest)
    (m_Names : DM K CJ "key_names" "Journal.key_names" s_Journal_key_names)
    (m_Len : DM K CJ "__len__" "Journal.__len__" s_Journal_len)
    (m_Beq : DM K CB "__eq__" "Book.__eq__" s_Book_eq)
    (m_Jeq : DM K CJ "__eq__" "Journal.__eq__" s_Journal_eq)
    : ∃ fd : FuncData, (∀ (s : Shared) (v : Value), BindsTo s fd ⟨[v], []⟩ [("script", v)]) ∧ ∀ base : Heap, K.In base → base.Ns mainGlobals mg → FnOk P w K mg base CX0 9 fa fd ["script"] (spLaw K) := by
  have e := hfa.symm.trans (PySem.W.mg_of X G a4)
  cases e
  exact ⟨PySem.W.fnOf "law" "law" (defArgs s_law) (defBody s_law) (defScope s_law) .none kV4 dc4 pm4 an4 cd4 ct4, fun s v => .of_eq rfl, fun base _ _ => all_ok B Cs TB T Tt cE TE bi ji mkB kB cN TN d_is_integer d_is_natural d_is_name d_are_integers d_is_late d_is_lates d_is_entry d_arrival_of d_placed d_row_behind d_walked d_is_row d__law_pool d__law_draw d__law_names d__law_lates d__law_amount d__law_begin d__law_entry d__law_put d__law_entries d__law_states d__law_rows d__law_refused d__law_right m_Init m_Has m_Late m_J m_Rows m_Latest m_Names m_Len m_Beq m_Jeq (fun_mk l4 c4 k4)⟩
theorem walk {l : PySem.W.OpenLaw} {q : Program} {loose : List Str} {XP : (Str → Option Value) → Heap → Prop} {YP : World → Heap → Prop} {d : DefRec} {K : Params → PySem.W.Frag} (hn : l.most = some 63) (hdf : d.params.defaults = [])
    (hY : ∀ (w : World) (h : Heap), YP w h → (K w.params).In h)
    (F : ∀ (w : World) (mg : Str → Option Value) (fa : Addr) (h : Heap), (K w.params).In h → h.Ns mainGlobals mg → mg d.name = some (.ref fa) →
      ∃ fd : FuncData, (∀ (s : Shared) (u : Value), BindsTo s fd ⟨[u], []⟩ [("script", u)]) ∧ ∀ base : Heap, (K w.params).In base → base.Ns mainGlobals mg → FnOk l.prog w (K w.params) mg base CX0 9 fa fd ["script"] (spLaw (K w.params))) :
    PySem.W.WalkO q loose XP YP l.row.toRowW d [] (fun f vs => PySem.call f vs) :=
  L2.walk_of (n := 63) (k := 9) (x := "script") (CX := fun _ => CX0) (sp := fun w => spLaw (K w.params)) hn (by decide) hdf ⟨rfl, by decide, by decide⟩ hY F (fun _ _ a ns hl _ hS => ⟨a, ns, rfl, hS, hl, fun _ => rfl⟩) fun _ _ _ _ _ z => z
end Ash

set_option Elab.async false
open PySem PySem.W PyProof.Rows
set_option maxRecDepth 100000 in
set_option maxHeartbeats 0 in
theorem PySem.Challenge.cw_asofhall_k02_whole_rows_that_stand_holds : PySem.Challenge.rw_asofhall_k02_whole_rows_that_stand.Holds := by
  w_on; o_law; k_head; (case hw => w_witness2)
  k_fill
  refine Ash.walk (l := PySem.Challenge.rw_asofhall_k02_whole_rows_that_stand) rfl rfl (fun w h Y => PySem.W.kIn_of Y) ?F
  case F =>
    intro w mg fa h KX G hmg
    refine' Ash.all_mk KX G hmg ?law0 ?law1 ?law2 ?law3
      { len := (PySem.W.mg_none_of KX G ?h_B_len), int := (PySem.W.mg_none_of KX G ?h_B_int), bool := (PySem.W.mg_none_of KX G ?h_B_bool), str := (PySem.W.mg_none_of KX G ?h_B_str), list := (PySem.W.mg_none_of KX G ?h_B_list), tuple := (PySem.W.mg_none_of KX G ?h_B_tuple), dict := (PySem.W.mg_none_of KX G ?h_B_dict), isinstance := (PySem.W.mg_none_of KX G ?h_B_isinstance), all := (PySem.W.mg_none_of KX G ?h_B_all), range := (PySem.W.mg_none_of KX G ?h_B_range), enumerate := (PySem.W.mg_none_of KX G ?h_B_enumerate), sorted := (PySem.W.mg_none_of KX G ?h_B_sorted), min := (PySem.W.mg_none_of KX G ?h_B_min), max := (PySem.W.mg_none_of KX G ?h_B_max), set := (PySem.W.mg_none_of KX G ?h_B_set) }
      ⟨(Ash.ex_str KX G ?h_Cs_0), (Ash.ex_int KX G ?h_Cs_1), (Ash.ex_int KX G ?h_Cs_2), (Ash.ex_int KX G ?h_Cs_3), (Ash.ex_int KX G ?h_Cs_4)⟩
      ⟨⟨?h_TB_0_0, ?h_TB_0_1, ?h_TB_0_2, ?h_TB_0_3⟩, ?h_TB_1, (PySem.W.mg_of KX G ?h_TB_2)⟩
      ⟨⟨?h_T_0_0, ?h_T_0_1, ?h_T_0_2, ?h_T_0_3⟩, ?h_T_1, ?h_T_2, ?h_T_3, (PySem.W.mg_of KX G ?h_T_4)⟩
      ⟨(PySem.W.mg_of KX G ?h_Tt_0), (Ash.tt_mk ?h_Tt_1_0)⟩
      (PySem.W.mg_of KX G ?h_cE)
      (Ash.txt_mk KX G ?h_TE_0 ?h_TE_1 ?h_TE_2 ?h_TE_3 ?h_TE_4 ?h_TE_5 ?h_TE_6 ?h_TE_7 ?h_TE_8 ?h_TE_9 ?h_TE_10 ?h_TE_11 ?h_TE_12 ?h_TE_13 ?h_TE_14 ?h_TE_15 ?h_TE_16 ?h_TE_17 ?h_TE_18 ?h_TE_19 ?h_TE_20 ?h_TE_21 ?h_TE_22 ?h_TE_23 ?h_TE_24 ?h_TE_25 ?h_TE_26 ?h_TE_27 ?h_TE_28 ?h_TE_29)
      ⟨?h_bi_0, ?h_bi_1, ?h_bi_2, ?h_bi_3⟩
      ⟨?h_ji_0, ?h_ji_1, ?h_ji_2, ?h_ji_3⟩
      ?h_mkB
      ?h_kB
      (PySem.W.mg_of KX G ?h_cN)
      (Ash.txt_mk KX G ?h_TN_0 ?h_TN_1 ?h_TN_2 ?h_TN_3 ?h_TN_4 ?h_TN_5 ?h_TN_6 ?h_TN_7 ?h_TN_8 ?h_TN_9 ?h_TN_10 ?h_TN_11 ?h_TN_12 ?h_TN_13 ?h_TN_14 ?h_TN_15 ?h_TN_16 ?h_TN_17 ?h_TN_18 ?h_TN_19 ?h_TN_20 ?h_TN_21 ?h_TN_22 ?h_TN_23 ?h_TN_24 ?h_TN_25 ?h_TN_26 ?h_TN_27 ?h_TN_28 ?h_TN_29)
      (Ash.d1 KX G ?h_d_is_integer_0 ?h_d_is_integer_1 ?h_d_is_integer_2 ?h_d_is_integer_3)
      (Ash.d1 KX G ?h_d_is_natural_0 ?h_d_is_natural_1 ?h_d_is_natural_2 ?h_d_is_natural_3)
      (Ash.d1 KX G ?h_d_is_name_0 ?h_d_is_name_1 ?h_d_is_name_2 ?h_d_is_name_3)
      (Ash.d1 KX G ?h_d_are_integers_0 ?h_d_are_integers_1 ?h_d_are_integers_2 ?h_d_are_integers_3)
      (Ash.d1 KX G ?h_d_is_late_0 ?h_d_is_late_1 ?h_d_is_late_2 ?h_d_is_late_3)
      (Ash.d1 KX G ?h_d_is_lates_0 ?h_d_is_lates_1 ?h_d_is_lates_2 ?h_d_is_lates_3)
      (Ash.d1 KX G ?h_d_is_entry_0 ?h_d_is_entry_1 ?h_d_is_entry_2 ?h_d_is_entry_3)
      (Ash.d1 KX G ?h_d_arrival_of_0 ?h_d_arrival_of_1 ?h_d_arrival_of_2 ?h_d_arrival_of_3)
      (Ash.d1 KX G ?h_d_placed_0 ?h_d_placed_1 ?h_d_placed_2 ?h_d_placed_3)
      (Ash.d1 KX G ?h_d_row_behind_0 ?h_d_row_behind_1 ?h_d_row_behind_2 ?h_d_row_behind_3)
      (Ash.d1 KX G ?h_d_walked_0 ?h_d_walked_1 ?h_d_walked_2 ?h_d_walked_3)
      (Ash.d1 KX G ?h_d_is_row_0 ?h_d_is_row_1 ?h_d_is_row_2 ?h_d_is_row_3)
      (Ash.d1 KX G ?h_d__law_pool_0 ?h_d__law_pool_1 ?h_d__law_pool_2 ?h_d__law_pool_3)
      (Ash.d1 KX G ?h_d__law_draw_0 ?h_d__law_draw_1 ?h_d__law_draw_2 ?h_d__law_draw_3)
      (Ash.d1 KX G ?h_d__law_names_0 ?h_d__law_names_1 ?h_d__law_names_2 ?h_d__law_names_3)
      (Ash.d1 KX G ?h_d__law_lates_0 ?h_d__law_lates_1 ?h_d__law_lates_2 ?h_d__law_lates_3)
      (Ash.d1 KX G ?h_d__law_amount_0 ?h_d__law_amount_1 ?h_d__law_amount_2 ?h_d__law_amount_3)
      (Ash.d1 KX G ?h_d__law_begin_0 ?h_d__law_begin_1 ?h_d__law_begin_2 ?h_d__law_begin_3)
      (Ash.d1 KX G ?h_d__law_entry_0 ?h_d__law_entry_1 ?h_d__law_entry_2 ?h_d__law_entry_3)
      (Ash.d1 KX G ?h_d__law_put_0 ?h_d__law_put_1 ?h_d__law_put_2 ?h_d__law_put_3)
      (Ash.d1 KX G ?h_d__law_entries_0 ?h_d__law_entries_1 ?h_d__law_entries_2 ?h_d__law_entries_3)
      (Ash.d1 KX G ?h_d__law_states_0 ?h_d__law_states_1 ?h_d__law_states_2 ?h_d__law_states_3)
      (Ash.d1 KX G ?h_d__law_rows_0 ?h_d__law_rows_1 ?h_d__law_rows_2 ?h_d__law_rows_3)
      (Ash.d1 KX G ?h_d__law_refused_0 ?h_d__law_refused_1 ?h_d__law_refused_2 ?h_d__law_refused_3)
      (Ash.d1 KX G ?h_d__law_right_0 ?h_d__law_right_1 ?h_d__law_right_2 ?h_d__law_right_3)
      (Ash.dm ?h_m_Init_0 ?h_m_Init_1 ?h_m_Init_2 ?h_m_Init_3 ?h_m_Init_4)
      (Ash.dm ?h_m_Has_0 ?h_m_Has_1 ?h_m_Has_2 ?h_m_Has_3 ?h_m_Has_4)
      (Ash.dm ?h_m_Late_0 ?h_m_Late_1 ?h_m_Late_2 ?h_m_Late_3 ?h_m_Late_4)
      (Ash.dd ?h_m_J_0 ?h_m_J_1 ?h_m_J_2 ?h_m_J_3 ?h_m_J_4 ?h_m_J_5 ?h_m_J_6 ?h_m_J_7)
      (Ash.dm ?h_m_Rows_0 ?h_m_Rows_1 ?h_m_Rows_2 ?h_m_Rows_3 ?h_m_Rows_4)
      (Ash.dm ?h_m_Latest_0 ?h_m_Latest_1 ?h_m_Latest_2 ?h_m_Latest_3 ?h_m_Latest_4)
      (Ash.dm ?h_m_Names_0 ?h_m_Names_1 ?h_m_Names_2 ?h_m_Names_3 ?h_m_Names_4)
      (Ash.dm ?h_m_Len_0 ?h_m_Len_1 ?h_m_Len_2 ?h_m_Len_3 ?h_m_Len_4)
      (Ash.dm ?h_m_Beq_0 ?h_m_Beq_1 ?h_m_Beq_2 ?h_m_Beq_3 ?h_m_Beq_4)
      (Ash.dm ?h_m_Jeq_0 ?h_m_Jeq_1 ?h_m_Jeq_2 ?h_m_Jeq_3 ?h_m_Jeq_4)
    (case h_Cs_0 => k_is)
    (case h_Cs_1 => k_is)
    (case h_Cs_2 => k_is)
    (case h_Cs_3 => k_is)
    (case h_Cs_4 => k_is)
    (case h_TB_2 => k_is)
    (case h_T_4 => k_is)
    (case h_Tt_0 => k_is)
    (case h_cE => k_is)
    (case h_cN => k_is)
    (case law0 => k_is)
    (case law1 => k_is)
    (case law2 => k_is)
    (case law3 => k_is)
    (case h_B_len => k_is)
    (case h_B_int => k_is)
    (case h_B_bool => k_is)
    (case h_B_str => k_is)
    (case h_B_list => k_is)
    (case h_B_tuple => k_is)
    (case h_B_dict => k_is)
    (case h_B_isinstance => k_is)
    (case h_B_all => k_is)
    (case h_B_range => k_is)
    (case h_B_enumerate => k_is)
    (case h_B_sorted => k_is)
    (case h_B_min => k_is)
    (case h_B_max => k_is)
    (case h_B_set => k_is)
    (case h_TB_0_0 => k_is)
    (case h_TB_0_1 => k_is)
    (case h_TB_0_2 => k_is)
    (case h_TB_0_3 => k_is)
    (case h_TB_1 => delta L2.NoAttr; k_is)
    (case h_T_0_0 => k_is)
    (case h_T_0_1 => k_is)
    (case h_T_0_2 => k_is)
    (case h_T_0_3 => k_is)
    (case h_T_1 => delta L2.NoAttr; k_is)
    (case h_T_2 => delta L2.NoAttr; k_is)
    (case h_T_3 => delta L2.NoAttr; k_is)
    (case h_Tt_1_0 => k_is)
    (case h_TE_0 => k_is)
    (case h_TE_2 => k_is)
    (case h_TE_3 => k_is)
    (case h_TE_4 => k_is)
    (case h_TE_5 => k_is)
    (case h_TE_6 => k_is)
    (case h_TE_7 => k_is)
    (case h_TE_8 => k_is)
    (case h_TE_9 => k_is)
    (case h_TE_10 => k_is)
    (case h_TE_11 => k_is)
    (case h_TE_12 => k_is)
    (case h_TE_13 => k_is)
    (case h_TE_14 => k_is)
    (case h_TE_15 => k_is)
    (case h_TE_17 => k_is)
    (case h_TE_18 => k_is)
    (case h_TE_20 => k_is)
    (case h_TE_21 => k_is)
    (case h_TE_25 => k_is)
    (case h_TE_29 => k_is)
    (case h_bi_0 => k_is)
    (case h_bi_1 => k_is)
    (case h_bi_2 => k_is)
    (case h_bi_3 => k_is)
    (case h_ji_0 => k_is)
    (case h_ji_1 => k_is)
    (case h_ji_2 => k_is)
    (case h_ji_3 => k_is)
    (case h_mkB => k_is)
    (case h_kB => k_is)
    (case h_TN_0 => k_is)
    (case h_TN_2 => k_is)
    (case h_TN_3 => k_is)
    (case h_TN_4 => k_is)
    (case h_TN_5 => k_is)
    (case h_TN_6 => k_is)
    (case h_TN_7 => k_is)
    (case h_TN_8 => k_is)
    (case h_TN_9 => k_is)
    (case h_TN_10 => k_is)
    (case h_TN_11 => k_is)
    (case h_TN_12 => k_is)
    (case h_TN_13 => k_is)
    (case h_TN_14 => k_is)
    (case h_TN_15 => k_is)
    (case h_TN_17 => k_is)
    (case h_TN_18 => k_is)
    (case h_TN_20 => k_is)
    (case h_TN_21 => k_is)
    (case h_TN_25 => k_is)
    (case h_TN_29 => k_is)
    (case h_d_is_integer_0 => k_is)
    (case h_d_is_integer_1 => k_is)
    (case h_d_is_integer_2 => k_is)
    (case h_d_is_integer_3 => k_is)
    (case h_d_is_natural_0 => k_is)
    (case h_d_is_natural_1 => k_is)
    (case h_d_is_natural_2 => k_is)
    (case h_d_is_natural_3 => k_is)
    (case h_d_is_name_0 => k_is)
    (case h_d_is_name_1 => k_is)
    (case h_d_is_name_2 => k_is)
    (case h_d_is_name_3 => k_is)
    (case h_d_are_integers_0 => k_is)
    (case h_d_are_integers_1 => k_is)
    (case h_d_are_integers_2 => k_is)
    (case h_d_are_integers_3 => k_is)
    (case h_d_is_late_0 => k_is)
    (case h_d_is_late_1 => k_is)
    (case h_d_is_late_2 => k_is)
    (case h_d_is_late_3 => k_is)
    (case h_d_is_lates_0 => k_is)
    (case h_d_is_lates_1 => k_is)
    (case h_d_is_lates_2 => k_is)
    (case h_d_is_lates_3 => k_is)
    (case h_d_is_entry_0 => k_is)
    (case h_d_is_entry_1 => k_is)
    (case h_d_is_entry_2 => k_is)
    (case h_d_is_entry_3 => k_is)
    (case h_d_arrival_of_0 => k_is)
    (case h_d_arrival_of_1 => k_is)
    (case h_d_arrival_of_2 => k_is)
    (case h_d_arrival_of_3 => k_is)
    (case h_d_placed_0 => k_is)
    (case h_d_placed_1 => k_is)
    (case h_d_placed_2 => k_is)
    (case h_d_placed_3 => k_is)
    (case h_d_row_behind_0 => k_is)
    (case h_d_row_behind_1 => k_is)
    (case h_d_row_behind_2 => k_is)
    (case h_d_row_behind_3 => k_is)
    (case h_d_walked_0 => k_is)
    (case h_d_walked_1 => k_is)
    (case h_d_walked_2 => k_is)
    (case h_d_walked_3 => k_is)
    (case h_d_is_row_0 => k_is)
    (case h_d_is_row_1 => k_is)
    (case h_d_is_row_2 => k_is)
    (case h_d_is_row_3 => k_is)
    (case h_d__law_pool_0 => k_is)
    (case h_d__law_pool_1 => k_is)
    (case h_d__law_pool_2 => k_is)
    (case h_d__law_pool_3 => k_is)
    (case h_d__law_draw_0 => k_is)
    (case h_d__law_draw_1 => k_is)
    (case h_d__law_draw_2 => k_is)
    (case h_d__law_draw_3 => k_is)
    (case h_d__law_names_0 => k_is)
    (case h_d__law_names_1 => k_is)
    (case h_d__law_names_2 => k_is)
    (case h_d__law_names_3 => k_is)
    (case h_d__law_lates_0 => k_is)
    (case h_d__law_lates_1 => k_is)
    (case h_d__law_lates_2 => k_is)
    (case h_d__law_lates_3 => k_is)
    (case h_d__law_amount_0 => k_is)
    (case h_d__law_amount_1 => k_is)
    (case h_d__law_amount_2 => k_is)
    (case h_d__law_amount_3 => k_is)
    (case h_d__law_begin_0 => k_is)
    (case h_d__law_begin_1 => k_is)
    (case h_d__law_begin_2 => k_is)
    (case h_d__law_begin_3 => k_is)
    (case h_d__law_entry_0 => k_is)
    (case h_d__law_entry_1 => k_is)
    (case h_d__law_entry_2 => k_is)
    (case h_d__law_entry_3 => k_is)
    (case h_d__law_put_0 => k_is)
    (case h_d__law_put_1 => k_is)
    (case h_d__law_put_2 => k_is)
    (case h_d__law_put_3 => k_is)
    (case h_d__law_entries_0 => k_is)
    (case h_d__law_entries_1 => k_is)
    (case h_d__law_entries_2 => k_is)
    (case h_d__law_entries_3 => k_is)
    (case h_d__law_states_0 => k_is)
    (case h_d__law_states_1 => k_is)
    (case h_d__law_states_2 => k_is)
    (case h_d__law_states_3 => k_is)
    (case h_d__law_rows_0 => k_is)
    (case h_d__law_rows_1 => k_is)
    (case h_d__law_rows_2 => k_is)
    (case h_d__law_rows_3 => k_is)
    (case h_d__law_refused_0 => k_is)
    (case h_d__law_refused_1 => k_is)
    (case h_d__law_refused_2 => k_is)
    (case h_d__law_refused_3 => k_is)
    (case h_d__law_right_0 => k_is)
    (case h_d__law_right_1 => k_is)
    (case h_d__law_right_2 => k_is)
    (case h_d__law_right_3 => k_is)
    (case h_m_Init_0 => k_is)
    (case h_m_Init_1 => k_is)
    (case h_m_Init_2 => k_is)
    (case h_m_Init_3 => k_is)
    (case h_m_Init_4 => k_is)
    (case h_m_Has_0 => k_is)
    (case h_m_Has_1 => k_is)
    (case h_m_Has_2 => k_is)
    (case h_m_Has_3 => k_is)
    (case h_m_Has_4 => k_is)
    (case h_m_Late_0 => k_is)
    (case h_m_Late_1 => k_is)
    (case h_m_Late_2 => k_is)
    (case h_m_Late_3 => k_is)
    (case h_m_Late_4 => k_is)
    (case h_m_J_0 => k_is)
    (case h_m_J_1 => k_is)
    (case h_m_J_2 => k_is)
    (case h_m_J_3 => k_is)
    (case h_m_J_4 => k_is)
    (case h_m_J_5 => k_is)
    (case h_m_J_6 => k_is)
    (case h_m_J_7 => k_is)
    (case h_m_Rows_0 => k_is)
    (case h_m_Rows_1 => k_is)
    (case h_m_Rows_2 => k_is)
    (case h_m_Rows_3 => k_is)
    (case h_m_Rows_4 => k_is)
    (case h_m_Latest_0 => k_is)
    (case h_m_Latest_1 => k_is)
    (case h_m_Latest_2 => k_is)
    (case h_m_Latest_3 => k_is)
    (case h_m_Latest_4 => k_is)
    (case h_m_Names_0 => k_is)
    (case h_m_Names_1 => k_is)
    (case h_m_Names_2 => k_is)
    (case h_m_Names_3 => k_is)
    (case h_m_Names_4 => k_is)
    (case h_m_Len_0 => k_is)
    (case h_m_Len_1 => k_is)
    (case h_m_Len_2 => k_is)
    (case h_m_Len_3 => k_is)
    (case h_m_Len_4 => k_is)
    (case h_m_Beq_0 => k_is)
    (case h_m_Beq_1 => k_is)
    (case h_m_Beq_2 => k_is)
    (case h_m_Beq_3 => k_is)
    (case h_m_Beq_4 => k_is)
    (case h_m_Jeq_0 => k_is)
    (case h_m_Jeq_1 => k_is)
    (case h_m_Jeq_2 => k_is)
    (case h_m_Jeq_3 => k_is)
    (case h_m_Jeq_4 => k_is)
    (case h_TE_1 => decide +kernel)
    (case h_TE_16 => ks_is)
    (case h_TE_19 => decide +kernel)
    (case h_TE_22 => exact rfl)
    (case h_TE_23 => exact rfl)
    (case h_TE_24 => exact fun s u v => .of_eq rfl)
    (case h_TE_26 => exact rfl)
    (case h_TE_27 => decide +kernel)
    (case h_TE_28 => decide +kernel)
    (case h_TN_1 => decide +kernel)
    (case h_TN_16 => ks_is)
    (case h_TN_19 => decide +kernel)
    (case h_TN_22 => exact rfl)
    (case h_TN_23 => exact rfl)
    (case h_TN_24 => exact fun s u v => .of_eq rfl)
    (case h_TN_26 => exact rfl)
    (case h_TN_27 => decide +kernel)
    (case h_TN_28 => decide +kernel)

