import PyProof.Rows.All
import Wide.All
import OpenK.AllK
import Wide.FinOn
import PyProof.EqAt
import PyProof.EqKinds
import PyProof.TupleCall
import KE.KExcSuper
import HandS.ForMost
import HandS.ForExc
import HandS.ExcInit
import HandS.IsInst
import HandS.Wide
import HandS.Star
import HandS.CallSlots
import HandS.DictComp
import HandS.OwnEq
import HandS.Codes
import HandS.Defaults
import HandS.Walk
import PySem.Challenge.RW_asofhall_k77_lines_written
import HandS.More
import HandS.TupAny
import HandS.SortOrd
import HandS.SetFor
import PyProof.SeqRoads2
import PyProof.Rows.JoinGen
import KE.KExcIs
import HandS.ExcIs
import HandS.ExcOwn
import KE.KEqDict
import KE.KIntText
import KE.KUnpackStar
import PyProof.Rows.StrOr
import HandS.Text
import HandS.Zip
import HandS.RaiseMore
import HandS.Exc
import HandS.TryMany
set_option Elab.async false
set_option linter.all false
set_option maxRecDepth 100000
set_option maxHeartbeats 4000000
namespace PySem
namespace BadX
open PySem.W PySem.Calls PyProof.Rows PySem.HandSPX
/-- super().__init__(text); self.fl = par -/
def shape (tx par fl : Str) (p0 p1 p2 p3 p4 p5 p6 p7 p8 p9 : Pos) (j : Nat) : List Stmt :=
  [.Expr (.Call (.Attribute (.Call (.Name "super" p0) [] [] p1) "__init__" p2) [.Constant (.str tx) j p3] [] p4) p5,
   .Assign [.Attribute (.Name "self" p6) fl p7] (.Name par p8) p9]
def sco (par : Str) : Scope := { kind := .function, names := [(PySem.Str.ofString "self", .local), (par, .local), (PySem.Str.ofString "__class__", .free), (PySem.Str.ofString "super", .globalImplicit)], isGenerator := false, isCoroutine := false, more := [] }
/-- what the written part says of an own error's class at C, its __init__ at fI, whose one field is fl -/
structure Txt (P : Program) (K : Frag) (mg : Str → Option Value) (par fl : Str) (C fI : Addr) : Prop where
  cls : ∃ nm q N bs bm sn sub ab col dd k0 k1 k2 k3 k5, K.lookup C = some (excClassObj nm q C N bs bm true sn sub ab col dd k0 k1 k2 k3 k5 "ValueError.__new__") ∧ refsVE bm = true
  sa : findIn K (.ref C) "__setattr__" = some (some (.builtin "object.__setattr__"))
  ga : findIn K (.ref C) "__getattribute__" = some (some (.builtin "BaseException.__getattribute__"))
  gg : findIn K (.ref C) "__getattr__" = some none
  noN : findIn K (.ref C) fl = some none
  iC : findIn K (.ref C) "__init__" = some (some (.ref fI))
  tC : typeIn K (.ref fI) = some (.type "function")
  kC : keepIn K (.ref C) = true
  exC : subIn K (.ref C) (.type "BaseException") = some true
  veC : subIn K (.ref C) (.type "ValueError") = some true
  slf : mroIn K C (.ref C) = some true
  tyC : typeIn K (.ref C) = some (.type "type")
  hdC : hasDictIn K C = true
  te : exmOne K (.ref C) (.ref C) = some true
  along : ks_superIn K C C "__init__" = some (some (.builtin "ValueError.__init__"))
  opq : nsIn K cStatics "thirdparty.any" = some none
  sup : mg "super" = none
  top : (P.main.scope.names.lookup ("super" : Str)).isSome = false
  fn : ∃ (oc : Value) (od : Option Addr) (qual tx : Str) (doc pm : Value) (an : Option Addr) (cda cc : Addr) (ct : Value) (osl : Array (Option Value)) (pa : Arguments) (p0 p1 p2 p3 p4 p5 p6 p7 p8 p9 : Pos) (j : Nat) (a0 : Arg),
    K.lookup fI = some ⟨oc, od, .func (ksFn "__init__" qual pa (shape tx par fl p0 p1 p2 p3 p4 p5 p6 p7 p8 p9 j) (sco par) .none .none doc pm an (.ref cda) ct cc), osl⟩ ∧ codeIn K (.ref cda) qual = true ∧
    (pa.posonlyargs ++ pa.args).head? = some a0 ∧ a0.arg = "self" ∧
    (∀ (s : Shared) (u v : Value), BindsTo s (ksFn "__init__" qual pa (shape tx par fl p0 p1 p2 p3 p4 p5 p6 p7 p8 p9 j) (sco par) .none .none doc pm an (.ref cda) ct cc) ⟨[u, v], []⟩ [("self", u), (par, v)]) ∧
    (∃ ccl cdd vs ccs file tf, K.lookup cda = some ⟨ccl, cdd, .fields vs, ccs⟩ ∧ vs[2]? = some (.str file tf) ∧ ((P.main.file : Str) == file) = true) ∧
    (p2.endLine == p4.line) = true ∧
    (∃ cl cld csl, K.lookup cc = some ⟨cl, cld, .cell (some (.ref C)), csl⟩)
/-- what __init__ leaves of a fresh exception at x -/
structure Left (fl : Str) (h h' : Heap) (x C dx t1 : Addr) (v : Value) : Prop where
  keep : ∀ b o, b ≠ x → h.get? b = some o → h'.get? b = some o
  obj : h'.get? x = some { cls := .ref C, dict := some dx, data := .fields #[.ref t1, .none, .none, .none, .bool false, .none] }
  dbig : h.objs.size ≤ dx
  dne : dx ≠ x
  ns : h'.Ns1 dx (fun y => if y = fl then some v else none)
section
variable {prog : Program} {w : World} {A : Around} {E : Value → Shared → Prop} {R : Result → Shared → Prop} {s : Shared} {K : Frag} {mg mb : Str → Option Value} {C fI : Addr} {par fl : Str}
/-- the wrapper of ValueError.__init__, bound to x, called -/
theorem call_bound {h : Heap} {g : Array GenState} {d : Drawn} {t : Nat} {os : OsState} {u x t0 : Addr} {rest : List Value} {Q : Value → Shared → Prop} {nm q : Str} {N : Addr} {bs bm : List Value} {sn : List Str} {sub : List Value} {ab : Bool} {col : Option Bool} {dd : Option Addr} {k0 k1 k2 k3 k5 : Option Value}
    (hC : h.get? C = some (excClassObj nm q C N bs bm true sn sub ab col dd k0 k1 k2 k3 k5 "ValueError.__new__")) (hx : h.get? x = some (excO C t0)) (hu : h.get? u = some (kxs_mw "ValueError.__init__" x)) (hr : rest.length ≤ sizeLine)
    (hq : ∀ h', (∀ b o, b ≠ x → h.get? b = some o → h'.get? b = some o) → h'.get? x = some (excO C h.objs.size) → Q .none ⟨h', g, d, t, os⟩) :
    wpAny (model prog w) A (call (.ref u) rest) Q E ⟨h, g, d, t, os⟩ := by
  have FB := F.excBase_ValueError
  refine wpAny_call (codeAny_of_tree ?_)
  show wpAny _ A.in1 (callAny (.ref u) ⟨rest, []⟩) _ _ _
  simp only [callAny]
  refine wpAny_bind (wpAny_load hu ?_)
  have c1 : (Value.type "method-wrapper" == Value.type "method" || Value.type "method-wrapper" == Value.type "builtin_function_or_method" || Value.type "method-wrapper" == Value.type "method-wrapper") = true := by decide
  simp only [kxs_mw, c1, if_true]
  refine KFB.if_so (by decide) (wpAny_bind (check_bound_init FB.toExcCallFacts hC hx rfl (wpAny_bind (wpAny_pure (wpAny_pure ⟨plainId_quiet FB.init.plain _, codeAny_builtin FB.initEntry ?_⟩)))))
  exact exc_init_tree (cls := .ref C) (t0 := t0) (dv := none) (c2 := .none) (c3 := .none) (b4 := .bool false) hx hr fun h' k e' _ => hq h' k e'
theorem init_ok {x t0 : Addr} {v : Value} (T : Txt prog K mg par fl C fI) (X : K.In s.heap) (G : s.heap.Ns mainGlobals mg) (B : s.heap.Ns builtinsNs mb) (hb : mb "super" = some (.type "super")) (hlim : s.heap.NoLimit)
    (hx : s.heap.get? x = some (excO C t0)) (hnx : K.lookup x = none) (hroom : A.depth < recursionLimit) (hp1 : (par == ("__debug__" : Str)) = false) (hp2 : ¬ par = "self")
    (hloc : (sco par).names.lookup par = some .local) (hks : (sco par).names.lookup ("super" : Str) = some .globalImplicit) (hkc : (sco par).names.lookup ("__class__" : Str) = some .free)
    (hq : ∀ h' tk t1 dx, Left fl s.heap h' x C dx t1 v → R (.ok (.ret .none)) { s with heap := h', toks := tk }) :
    codeAny (model prog w) A (.call (.ref fI) ⟨[.ref x, v], []⟩) R s := by
  obtain ⟨oc, od, qual, tx, doc, pm, an, cda, cc, ct, osl, pa, p0, p1, p2, p3, p4, p5, p6, p7, p8, p9, j, a0, ho, hcd, ha0, ha1, hbd, ⟨ccl, cdd, vs, ccs, file, tf, hcode, hvs, hfile⟩, hpe, ⟨cl, cld, csl, hcell⟩⟩ := T.fn
  obtain ⟨nm, q, N, bs, bm, sn, sub, ab, col, dd, k0, k1, k2, k3, k5, hC, hbm⟩ := T.cls
  have hcl : clsIn K C = some { name := nm, bases := bs, mro := .ref C :: bm, ns := N, qualname := q, hasDict := true, slotNames := sn, subclasses := sub, abstract := ab, collection := col, hasDel := false } := by unfold clsIn; rw [hC] <;> rfl
  refine ks_codeAny_call_defAt (binds := [("self", .ref x), (par, v)]) hroom (X _ _ ho) rfl hlim (codeRec_of X hcd) rfl (hbd s (.ref x) v) ?_ ?_ (fun h₁ hns hk₁ => ?_)
  · intro y hy
    have : y ∈ [(PySem.Str.ofString "self", NameKind.local), (par, .local), (PySem.Str.ofString "__class__", .free), (PySem.Str.ofString "super", .globalImplicit)] := hy
    simp only [List.mem_cons, List.not_mem_nil, or_false] at this
    rcases this with rfl | rfl | rfl | rfl <;> (intro z; cases z)
  · intro y hy
    simp only [List.mem_cons, List.not_mem_nil, or_false] at hy
    rcases hy with rfl | rfl
    · exact (by rfl : (sco par).names.lookup ("self" : Str) = some .local)
    · exact hloc
  have hself : ([(("self" : Str), Value.ref x), (par, v)] : List (Str × Value)).reverse.lookup ("self" : Str) = some (Value.ref x) := by
    show List.lookup ("self" : Str) [(par, v), (("self" : Str), Value.ref x)] = _
    have e1 : (("self" : Str) == par) = false := by simpa using fun z => hp2 z.symm
    simp [List.lookup, e1]
  have hpar : ([(("self" : Str), Value.ref x), (par, v)] : List (Str × Value)).reverse.lookup par = some v := by
    show List.lookup par [(par, v), (("self" : Str), Value.ref x)] = _
    simp [List.lookup]
  have X₁ : K.In h₁ := X.keeps hk₁
  have hx₁ := hk₁ _ _ hx
  refine ks_wpAt_execs_cons (ks_wpAt_Expr_any (ks_wpAt_MethodCall (pl := ?pl) ?_ ?he))
  case he =>
    rw [arm_eval_Call]
    unfold methodCall methodCallPos
    rw [hpe]
    with_unfolding_all rfl
  refine ks_wpAt_super_base (hks := hks) (hkc := hkc) (by decide +kernel) rfl (X₁ _ _ ho) rfl ha0 rfl (X₁ _ _ hcode) rfl hvs hfile T.top ?_
  refine ks_loadName_global rfl hks (loadGlobal_builtin (G.keeps hk₁) T.sup (B.keeps hk₁) hb ⟨rfl, ?_⟩)
  refine wpAny_loadName_free rfl hkc rfl ⟨_, X₁ _ _ hcell, rfl⟩ ?_
  rw [ha1]
  refine wpAny_loadName_local rfl rfl hns hself ?_
  refine ks_wpAny_isType_cls (X₁ _ _ hC) rfl ⟨rfl, ?_⟩
  refine ks_wpAny_call_super (X₁ _ _ hC) rfl hx₁ rfl (fun c e => by cases e) (looks_mroIn X₁ T.slf) (fun h₂ e₂ k₂ => ?_)
  have X₂ : K.In h₂ := X₁.keeps k₂
  have hx₂ := k₂ _ _ hx₁
  have I₂ : InstAt h₂ x (excO C t0) C none := ⟨hx₂, rfl, rfl, trivial⟩
  have hal := T.along
  unfold ks_superIn at hal
  rw [hcl] at hal
  refine kxs_getMethod kxs_ValueError e₂ (looks_opaque X₂ T.opq) (l₀ := .ref C :: bm) ?_ rfl X₂ hal (I₂.type.andThen (looks_subIn X₂ T.veC)) (ks_ne X₂ I₂ hcl) (by decide +kernel) ?_
  · exact fun A Q E s k q => wpAny_bind ((looks_clsIn X₂ hcl) A _ E s k (wpAny_pure q))
  have hu : (h₂.push (kxs_mw "ValueError.__init__" x)).get? h₂.objs.size = some (kxs_mw "ValueError.__init__" x) := Heap.get?_push_at rfl rfl
  have k₃ : ∀ b o, h₂.get? b = some o → (h₂.push (kxs_mw "ValueError.__init__" x)).get? b = some o := fun b o e => Heap.get?_push_of_some _ e
  let H₃ := h₂.push (kxs_mw "ValueError.__init__" x)
  refine kxs_callWith1 (i := "ValueError.__init__") (x := x) (u := h₂.objs.size) (h₀ := Att.noObjs H₃) (L := h₂.objs.size + 7) (news := [(h₂.objs.size, kxs_mw "ValueError.__init__" x)]) (fun q hq => ?_) (List.Mem.head _) ?_
  · rcases List.mem_cons.mp hq with rfl | hq
    · exact ⟨hu, by show h₂.objs.size ≠ h₂.objs.size + 7; omega, Att.noObjs_get _ _⟩
    · cases hq
  refine wpAny_items_cons (Constant_str ?_)
  refine wpAny_items_nil ⟨hu, ?_⟩
  have X₃ : K.In (h₂.push (kxs_mw "ValueError.__init__" x)) := X₂.keeps k₃
  refine call_bound (X₃ _ _ hC) (k₃ _ _ hx₂) hu (by rw [sizeLine_eq]; exact (by decide : 1 ≤ 16777216)) fun h₄ k₄ e₄ => ?_
  -- self.fl = par
  have k14 : ∀ b o, b ≠ x → h₁.get? b = some o → h₄.get? b = some o := fun b o hb e => k₄ b o hb (k₃ b o (k₂ b o e))
  have xL : s.heap.objs.size ≠ x := Nat.ne_of_gt (Heap.lt_size hx)
  obtain ⟨oL, es, ep, hL, hr⟩ := hns
  have hns₄ : h₄.Ns s.heap.objs.size (fun y => ([(("self" : Str), Value.ref x), (par, v)] : List (Str × Value)).reverse.lookup y) := ⟨oL, es, ep, k14 _ _ xL hL, hr⟩
  have X₄ : K.In h₄ := fun a o e => k₄ a o (fun z => by rw [z, hnx] at e; cases e) (X₃ a o e)
  refine wpAt_of_wpAny (wpAny_execs_cons (plainObj_wpAny_Assign_Attribute ?_))
  refine wpAny_Name (wpAny_loadName_local rfl hloc hns₄ hpar ?_) hp1
  refine wpAny_Name (wpAny_loadName_local rfl rfl hns₄ hself ?_) (by decide)
  refine set_plain X₄ (ox := excO C h₂.objs.size.succ) (od := none) ⟨?_, rfl, rfl, trivial⟩ T.sa ?_
  · show h₄.get? x = some (excO C h₂.objs.size.succ)
    rw [e₄, Heap.size_push]
  have e₄' : h₄.get? x = some (excO C h₂.objs.size.succ) := by
    rw [e₄, Heap.size_push]
  refine exc_osa X₄ e₄' hcl (show refsVE (.ref C :: bm) = true from hbm) rfl T.noN (fun h₅ tk₅ dx k₅ dn dne hx₅ hn₅ => ?_)
  have z1 : s.heap.objs.size < h₄.objs.size := Heap.lt_size (k14 _ _ xL hL)
  refine wpAny_execs_nil (hq h₅ tk₅ _ dx ⟨fun b o hb e => k₅ b o hb (k14 b o hb (hk₁ b o e)), hx₅, Nat.le_of_lt (Nat.lt_of_lt_of_le z1 dn), dne, hn₅⟩)
theorem one_le (v : Value) : [v].length ≤ sizeLine := by
  rw [sizeLine_eq]
  exact (by decide : 1 ≤ 16777216)
/-- a made error -/
structure Made (fl : Str) (h h' : Heap) (e C d : Addr) (v : Value) : Prop where
  keep : ∀ b o, h.get? b = some o → h'.get? b = some o
  new : h.objs.size ≤ e
  obj : ∃ oe vs, h'.get? e = some oe ∧ oe.cls = .ref C ∧ oe.dict = some d ∧ oe.data = .fields vs ∧ vs[1]? = some .none ∧ vs[2]? = some .none ∧ 4 < vs.size
  dbig : h.objs.size ≤ d
  dne : d ≠ e
  ns : h'.Ns1 d (fun y => if y = fl then some v else none)
/-- the names of such an __init__ -/
structure Par (par : Str) : Prop where
  p1 : (par == ("__debug__" : Str)) = false
  p2 : ¬ par = "self"
  p3 : (sco par).names.lookup par = some .local
  p4 : (sco par).names.lookup ("super" : Str) = some .globalImplicit
  p5 : (sco par).names.lookup ("__class__" : Str) = some .free
theorem made_ok {v : Value} (T : Txt prog K mg par fl C fI) (p : Par par) (X : K.In s.heap) (G : s.heap.Ns mainGlobals mg) (B : s.heap.Ns builtinsNs mb) (hb : mb "super" = some (.type "super")) (hlim : s.heap.NoLimit) (hroom : A.depth + 1 < recursionLimit)
    (hq : ∀ h' tk e d, Made fl s.heap h' e C d v → R (.ok (.ret (.ref e))) { s with heap := h', toks := tk }) :
    codeAny (model prog w) A (.call (.ref C) ⟨[v], []⟩) R s := by
  obtain ⟨nm, q, N, bs, bm, sn, sub, ab, col, dd, k0, k1, k2, k3, k5, hC, hbm⟩ := T.cls
  obtain ⟨hp, g, dr, tk, os⟩ := s
  let hp2 := (hp.push (kdv_tup [v])).push (excO C hp.objs.size)
  have k : ∀ b o, hp.get? b = some o → hp2.get? b = some o := fun b o e => Heap.get?_push_of_some _ (Heap.get?_push_of_some _ e)
  have hget : hp2.get? (hp.objs.size + 1) = some (excO C hp.objs.size) := by
    show ((hp.push (kdv_tup [v])).push (excO C hp.objs.size)).get? (hp.objs.size + 1) = _
    heap_get
  have hsz : hp2.objs.size = hp.objs.size + 2 := by
    show ((hp.push (kdv_tup [v])).push (excO C hp.objs.size)).objs.size = _
    rw [Heap.size_push, Heap.size_push]
  have hnx : K.lookup (hp.objs.size + 1) = none := by
    cases e : K.lookup (hp.objs.size + 1) with
    | none => rfl
    | some o => exact absurd (Nat.lt_of_succ_lt (Heap.lt_size (show hp.get? _ = some o from X _ _ e))) (Nat.lt_irrefl _)
  refine call_own F.excBase_ValueError (fun Y => refsVE_contains Y bm hbm) (X _ _ hC) (looks_findIn X T.iC) (fun self => bind_fn X self T.tC) (one_le v) ?_
  refine init_ok (s := ⟨hp2, g, dr, tk, os⟩) T (X.keeps k) (G.keeps k) (B.keeps k) hb (hlim.keeps k) hget hnx (show A.depth + 1 < recursionLimit from hroom) p.p1 p.p2 p.p3 p.p4 p.p5 fun h' tk' t1 dx ⟨k', hx, dn, dne, hns⟩ => ?_
  have old : ∀ b o, hp.get? b = some o → h'.get? b = some o := fun b o e => k' b o (Nat.ne_of_lt (Nat.lt_succ_of_lt (Heap.lt_size e))) (k b o e)
  have dn' : hp2.objs.size ≤ dx := dn
  rw [hsz] at dn'
  exact ⟨rfl, hq h' tk' (hp.objs.size + 1) dx ⟨old, Nat.le_succ _, ⟨_, _, hx, rfl, rfl, rfl, rfl, rfl, (show 4 < 6 by decide)⟩, (by show hp.objs.size ≤ dx; omega), dne, hns⟩⟩
end
end BadX
end PySem
namespace L2
open PySem PySem.Spec PyProof.Rows
theorem relO_one {v : V} {v' : Value} (r : RelV v v') (fl f : Str) : RelO (List.lookup f [(fl, v)]) (if f = fl then some v' else none) := by
  by_cases hw : f = fl
  · subst hw
    rw [if_pos rfl]
    have q : List.lookup f [(f, v)] = some v := by simp [List.lookup]
    rw [q]
    exact r
  · rw [if_neg hw]
    have qw : (f == fl) = false := by simpa using hw
    have q2 : List.lookup f [(fl, v)] = none := by simp [List.lookup, qw]
    rw [q2]
    trivial
section
variable {X : Cx} {C fI : Addr}
/-- Cls(e), an own error with the one field fl -/
def tMkB (fl : Str) (C : Addr) (ta : TA) : St → Hp → XK → Prop := fun σ H Q => ta σ H fun vs H1 => ∃ v, vs = [v] ∧ ∀ d, H1 d = none → Q (.ref C) (some d) (upd H1 d (.xd [(fl, v)]))
theorem pmk_bad {x par fl : Str} {a : Expr} {ta : TA} {p pos : Pos} {k : Nat} (T : PySem.BadX.Txt X.prog X.K X.mg par fl C fI) (pr : PySem.BadX.Par par) (hm : X.mg x = some (.ref C)) (hr : Room k X.A) (ha : PA X [a] ta) (hg : Gl X x)
    (hdb : (x == ("__debug__" : Str)) = false := by decide)
    (he : starEach (a :: []) X.env = (false, eval a X.env) :: starEach [] X.env := by rfl) (hpl : (backTo pos (starEach [] X.env)).any (·.1) = false := by rfl) :
    PMk X (.Call (.Name x p) [a] [] pos) (tMkB fl C ta) := by
  intro pins s σ H Q I h
  refine wpAny_Call_Name_kw (ld_glob I hg hm ?_ hdb)
  refine PySem.W.callWith_K (h₀ := X.base) I.ok.mod.kin T.kC (thn (ha.run pos pins s σ H _ I h) fun us s1 hh => ?_) he hpl
  obtain ⟨vs, H1, I1, r1, v, ev, q1⟩ := hh
  subst ev
  refine ⟨I1.kIn, ?_⟩
  cases r1 with
  | cons rv rn =>
    rename_i v' us'
    cases rn
    show wpAny _ _ (call (.ref C) [v']) _ _ _
    have hlim := I1.nolimit
    obtain ⟨mb, hb1, hb2⟩ := I1.mod.blt
    have Gn : s1.heap.Ns mainGlobals X.mg := I1.mod.glob.keeps I1.bk
    have Bn : s1.heap.Ns builtinsNs mb := hb1.keeps I1.bk
    have hbs : mb "super" = some (.type "super") := (hb2 _ (by decide +kernel)).trans (by first | boot_by_name | rfl | kernel_rfl)
    obtain ⟨hp, g, dr, tk, os⟩ := s1
    refine wpAny_call (PySem.BadX.made_ok T pr I1.kIn Gn Bn hbs hlim (by have := hr.dp; omega) fun h' tk' e d M => ?_)
    show MkP X pins σ Q (.ref e) ⟨h', g, dr, tk', os⟩
    obtain ⟨oe, fv, hoe, hc, hd, hdat, h1, _⟩ := M.obj
    have hns := M.ns
    obtain ⟨G', g1, g2⟩ := restrict h' fun b => decide (b ≠ e)
    have gk : ∀ b, b ≠ e → G'.get? b = h'.get? b := fun b hb => g1 b (decide_eq_true hb)
    have ge : G'.get? e = none := g2 e (by simp)
    have old : ∀ b o, hp.get? b = some o → G'.get? b = some o := fun b o q => (gk b (Nat.ne_of_lt (Nat.lt_of_lt_of_le (Heap.lt_size q) M.new))).trans (M.keep b o q)
    have ob : ObjOk X.prog X.w (upd H1 d (.xd [(fl, v)])) G' d (.xd [(fl, v)]) :=
      ⟨_, hns.at (fun o q => (gk d M.dne).trans q), fun f => relO_one rv fl f⟩
    have J : Inv X pins σ (upd H1 d (.xd [(fl, v)])) ⟨G', g, dr, tk', os⟩ := I1.laid (t' := tk') old M.dbig ob
    refine ⟨e, oe, fv, ⟨G', g, dr, tk', os⟩, _, .ref C, some d, rfl, J, fun b o q => ?_, ge, hoe, ⟨hc, hd⟩, hdat, h1, ?_, rfl, I1.bare, raises_own T.exC T.tyC, q1 d (I1.hok.fresh M.dbig)⟩
    · by_cases hb : b = e
      · have q' : G'.get? b = some o := q
        rw [hb, ge] at q'; cases q'
      · exact (gk b hb).symm.trans q
    · rw [upd_ne (Ne.symm M.dne)]
      exact I1.hok.fresh M.new
/-- raise Cls(e) -/
def tRaiseB (fl : Str) (C : Addr) (W : WX) (ta : TA) : TS := fun _ σ H => tMkB fl C ta σ H fun cls d H' => W cls d σ H'
theorem ps_raiseB {x par fl : Str} {a : Expr} {ta : TA} {W : WX} {p pos pos2 : Pos} {k : Nat} (hc : X.calm = true) (T : PySem.BadX.Txt X.prog X.K X.mg par fl C fI) (pr : PySem.BadX.Par par) (hm : X.mg x = some (.ref C)) (hr : Room k X.A) (tk : Takes X W) (ha : PA X [a] ta) (hg : Gl X x)
    (hdb : (x == ("__debug__" : Str)) = false := by decide)
    (he : starEach (a :: []) X.env = (false, eval a X.env) :: starEach [] X.env := by rfl) (hpl : (backTo pos (starEach [] X.env)).any (·.1) = false := by rfl) :
    PS X (.Raise (some (.Call (.Name x p) [a] [] pos)) none pos2) (tRaiseB fl C W ta) := ps_raise hc tk (pmk_bad T pr hm hr ha hg hdb he hpl)
end
end L2

set_option Elab.async false
set_option linter.all false
set_option maxRecDepth 100000
set_option maxHeartbeats 4000000
namespace Ash
open PySem PySem.Spec PyProof.Rows L2
abbrev topS (i : Nat) : Stmt := PySem.Challenge.pw_asofhall_k77_lines_written.main.body.getD i (.Pass ⟨0, 0, 0, 0⟩)
/-- a def of the top by its name, with its promise -/
structure Cal (P : Program) (w : World) (K : PySem.W.Frag) (mg : Str → Option Value) (base : Heap) (CX : CXT) (x : Str) (k : Nat) (ps : List Str) (sp : Sp) : Prop where
  ex : ∃ f fd, mg x = some (.ref f) ∧ PySem.W.keepIn K (.ref f) = true ∧ Binds K fd ps [] ∧ FnOk P w K mg base CX k f fd ps sp
section
variable {X : Cx} {CX : CXT} {k j : Nat} {ps : List Str} {sp : Sp} {E : XK} {x : Str} {p pos : Pos} {e : Expr} {es : List Expr} {t : TA}
theorem pe_cal (G : Cal X.prog X.w X.K X.mg X.base CX x k ps sp) (hr : Room k X.A) (hx : Passes CX X E) (ha : PA X (e :: es) t) (hg : Gl X x := by rfl)
    (hdb : (x == ("__debug__" : Str)) = false := by decide) (he : starEach (e :: es) X.env = (false, eval e X.env) :: starEach es X.env := by rfl) (hpl : (backTo pos (starEach es X.env)).any (·.1) = false := by rfl) :
    PE X (.Call (.Name x p) (e :: es) [] pos) (tCall sp [] E t) := by
  obtain ⟨f, fd, hm, hk, hb, F⟩ := G.ex
  exact pe_call F hr hg hm hk hb .nil hx ha hdb he hpl
theorem pe_calS {E : L2.St → XK} (G : Cal X.prog X.w X.K X.mg X.base CX x k ps sp) (hr : Room k X.A) (hx : ∀ σ, PassesAt CX X σ (E σ)) (ha : PA X (e :: es) t) (hg : Gl X x := by rfl)
    (hdb : (x == ("__debug__" : Str)) = false := by decide) (he : starEach (e :: es) X.env = (false, eval e X.env) :: starEach es X.env := by rfl) (hpl : (backTo pos (starEach es X.env)).any (·.1) = false := by rfl) :
    PE X (.Call (.Name x p) (e :: es) [] pos) (tCallSD sp [] E t) := by
  obtain ⟨f, fd, hm, hk, hb, F⟩ := G.ex
  exact pe_callSD F hr hg hm hk hb .nil hx ha hdb he hpl
/-- a class by its name, with its __init__'s promise -/
structure Mak (P : Program) (w : World) (K : PySem.W.Frag) (mg : Str → Option Value) (base : Heap) (CX : CXT) (x : Str) (C : Addr) (k : Nat) (ps : List Str) (sp : Sp) : Prop where
  ex : ∃ f fd, Mk K C f ∧ mg x = some (.ref C) ∧ Binds K fd ps [] ∧ FnOk P w K mg base CX k f fd ps sp
theorem pe_mak {C : Addr} (G : Mak X.prog X.w X.K X.mg X.base CX x C k ps sp) (hr : Room (k + 1) X.A) (hx : Passes CX X E) (ha : PA X (e :: es) t) (hg : Gl X x := by rfl)
    (hdb : (x == ("__debug__" : Str)) = false := by decide) (he : starEach (e :: es) X.env = (false, eval e X.env) :: starEach es X.env := by rfl) (hpl : (backTo pos (starEach es X.env)).any (·.1) = false := by rfl) :
    PE X (.Call (.Name x p) (e :: es) [] pos) (tMake C sp [] E t) := by
  obtain ⟨f, fd, M, hm, hb, F⟩ := G.ex
  exact pe_make M F hr hg hm hb .nil hx ha hdb he hpl
/-- int(n) of an int -/
theorem call_intI : CallR X (.type "int") (fun xs H Q => ∃ i, xs = [.int i] ∧ Q (.int i) H) := by
  intro pins s σ H xs us Q I r h
  exact call_int1 pins s σ H xs us Q I r (.inl h)
end
/-- what is wanted of an exception at any slots of the def -/
def WEl (X : Cx) (W : WX) : XK := fun cls d H => ∀ σ : L2.St, σ.length = X.N.length → W cls d σ H
theorem passW {X : Cx} {W : WX} (tk : Takes X W) : Passes (L2.CX X.prog X.w) X (WEl X W) := fun _ σ _ _ e s' I c => tk e s' (XE.of_call I (fun cls d H' h => h σ I.len) c)
theorem passE {X : Cx} {E : XK} (tk : Takes X (fun cls d _ H => E cls d H)) : Passes (L2.CX X.prog X.w) X E := passes_call tk fun _ _ _ _ h => h
/-- a method of a class, with its promise -/
structure Met (P : Program) (w : World) (K : PySem.W.Frag) (mg : Str → Option Value) (base : Heap) (CX : CXT) (C : Addr) (m : Str) (k : Nat) (ps : List Str) (sp : Sp) : Prop where
  ex : ∃ f fd, Meth K C m f ∧ Binds K fd ps [] ∧ FnOk P w K mg base CX k f fd ps sp
/-- a dict comprehension over a walk: as lc_it -/
theorem dc_it {J : It} {n : Nat} {W0 : Hp → Prop} {Y : Nat → Hp → V → Hp → Prop} (wk : Walk J n W0 Y) {g : TG} {tt : TT} {tk tv : TE} {vs : List Nat} {σ : L2.St} {H1 : Hp} {D : Addr} {Qd : Hp → Prop} (Pv : Nat → Hp → Prop) (h0 : Pv 0 (upd H1 D (.dK []))) (hG : ∀ i H, i ≤ n → Pv i H → W0 H)
    (hs : ∀ i x H H', i < n → Pv i H → Y i H x H' → g x (wipe σ vs) H' fun σ2 H2 => wipe σ2 vs = wipe σ vs ∧ tt σ2 H2 fun b H3 =>
      if b = true then tk σ2 H3 fun y H4 => tv σ2 H4 fun z H5 => ∃ kvs k, y = kV k ∧ H5 D = some (.dK kvs) ∧ kvs.length < sizeLine ∧ Pv (i + 1) (upd H5 D (.dK (putK kvs k z))) else Pv (i + 1) H3) (hd : ∀ H, Pv n H → Qd H) :
    ∃ W : Nat → Nat → Hp → Prop, (∃ m, W 0 m (upd H1 D (.dK []))) ∧ ∀ i m H, W i m H →
      (J.stop i H ∧ Qd H) ∨ (J.go i H ∧ ∃ Nx : Hp → Prop, (∀ H', Nx H' → ∃ m', m' < m ∧ W (i + 1) m' H') ∧ ∀ x H', J.yld i H x H' → g x (wipe σ vs) H' fun σ2 H2 => wipe σ2 vs = wipe σ vs ∧ tt σ2 H2 fun b H3 =>
        if b = true then tk σ2 H3 fun y H4 => tv σ2 H4 fun z H5 => ∃ kvs k, y = kV k ∧ H5 D = some (.dK kvs) ∧ kvs.length < sizeLine ∧ Nx (upd H5 D (.dK (putK kvs k z))) else Nx H3) := by
  refine ⟨fun i m H => (m + i = n) ∧ Pv i H, ⟨n, rfl, h0⟩, ?_⟩
  rintro i m H ⟨hm, pv⟩
  by_cases c : i < n
  · refine .inr ⟨wk.goes i H c (hG i H (by omega) pv), Pv (i + 1), fun H' pv' => ⟨m - 1, by omega, by omega, pv'⟩, fun x H' y => ?_⟩
    exact hs i x H H' c pv (wk.yields i H x H' c (hG i H (by omega) pv) y)
  · have : i = n := by omega
    subst this
    exact .inl ⟨wk.stops H (hG _ H (Nat.le_refl _) pv), hd H pv⟩
/-- the built-in names that the top leaves alone -/
structure Blt (mg : Str → Option Value) : Prop where
  len : mg "len" = none
  int : mg "int" = none
  bool : mg "bool" = none
  str : mg "str" = none
  list : mg "list" = none
  tuple : mg "tuple" = none
  dict : mg "dict" = none
  isinstance : mg "isinstance" = none
  all : mg "all" = none
  range : mg "range" = none
  enumerate : mg "enumerate" = none
  sorted : mg "sorted" = none
  min : mg "min" = none
  max : mg "max" = none
  set : mg "set" = none
  sum : mg "sum" = none
  abs : mg "abs" = none
/-- data without depth -/
def flatD : PyData → Bool
  | .none => true
  | .bool _ => true
  | .int _ => true
  | .str x => PyData.strOk x
  | _ => false
theorem flat_lay : ∀ {ds : List PyData}, ds.all flatD = true → PyData.canLayAll0 ds = true ∧ PyData.depthAll ds ≤ 1
  | [], _ => by simp [PyData.canLayAll0, PyData.depthAll]
  | d :: ds, h => by
    rw [List.all_cons, Bool.and_eq_true] at h
    obtain ⟨h1, h2⟩ := flat_lay h.2
    cases d with
    | none => simp [PyData.canLayAll0, PyData.depthAll, PyData.canLay0, PyData.depth, h1, h2]
    | bool b => simp [PyData.canLayAll0, PyData.depthAll, PyData.canLay0, PyData.depth, h1, h2]
    | int b => simp [PyData.canLayAll0, PyData.depthAll, PyData.canLay0, PyData.depth, h1, h2]
    | str b =>
      have hb : PyData.strOk b = true := h.1
      simp [PyData.canLayAll0, PyData.depthAll, PyData.canLay0, PyData.depth, h1, h2, hb]
    | _ => exact absurd h.1 (by simp [flatD])
theorem shaped_flat {ds : List PyData} (h : ds.all flatD = true) : SeqAt.shaped (.tuple ds) = true := by
  obtain ⟨h1, h2⟩ := flat_lay h
  unfold SeqAt.shaped
  simp [PyData.canLay0, PyData.depth, h1]
  omega
/-- all but p stands -/
def But (p : Addr) (H H' : Hp) : Prop := ∀ b o, H b = some o → b ≠ p → H' b = some o
theorem But.refl (p : Addr) (H : Hp) : But p H H := fun _ _ h _ => h
theorem But.trans {p : Addr} {H H1 H2 : Hp} (a : But p H H1) (b : But p H1 H2) : But p H H2 := fun c o h n => b c o (a c o h n) n
theorem But.upd {p : Addr} {H H' : Hp} {o : HO} (a : But p H H') : But p H (L2.upd H' p o) := fun c u h n => by rw [upd_ne n]; exact a c u h n
theorem But.new {p q : Addr} {H H' : Hp} {o : HO} (a : But p H H') (h : H' q = none) (hp : H q = none ∨ q ≠ p := by first | exact .inl ‹_› | exact .inr ‹_›) : But p H (L2.upd H' q o) := fun c u hc n => by
  rw [upd_ne]
  · exact a c u hc n
  · intro z
    subst z
    rw [a c u hc n] at h
    cases h
theorem But.at {p q : Addr} {H H' : Hp} {o : HO} (a : But p H H') (h : H q = none) : But p H (L2.upd H' q o) := fun c u hc n => by
  rw [upd_ne (ne_of_none hc h)]
  exact a c u hc n
theorem sameAt {q : Addr} {H H' : Hp} {o : HO} (a : Same H H') (h : H q = none) : Same H (L2.upd H' q o) := fun c u hc => by
  rw [upd_ne (ne_of_none hc h)]
  exact a c u hc
theorem But.same {p : Addr} {H H' : Hp} (a : Same H H') : But p H H' := fun c o h _ => a c o h
theorem Same.new {q : Addr} {H H' : Hp} {o : HO} (a : Same H H') (h : H' q = none) : Same H (upd H' q o) := fun c u hc => by
  rw [upd_ne (ne_of_none (a c u hc) h)]
  exact a c u hc
theorem But.seq {K : PySem.W.Frag} {p a : Addr} {H H' : Hp} {xs : List V} (e : But p H H') (hn : ∀ o, H p = some o → ∀ ys, o ≠ .lst ys → True) (h : H a = some (.lst xs)) (n : a ≠ p) : SqL K H' a xs := .of (e _ _ h n)
end Ash

set_option Elab.async false
set_option linter.all false
set_option maxRecDepth 100000
set_option maxHeartbeats 4000000
namespace Ash
open PySem PySem.Spec PyProof.Rows L2
open C8 (pss_cut)
/-- a stream of drawn numbers -/
def StAt (H : Hp) (p : Addr) : Prop := ∃ (c f n : Int), H p = some (.lst [.int c, .int f, .int n]) ∧ 0 ≤ c
theorem StAt.same {H H' : Hp} {p : Addr} (h : StAt H p) (e : Same H H') : StAt H' p := by
  obtain ⟨c, f, n, h1, h2⟩ := h
  exact ⟨c, f, n, e _ _ h1, h2⟩
theorem StAt.off {H : Hp} {p q : Addr} {o : HO} (h : StAt H p) (hp : q ≠ p) : StAt (L2.upd H q o) p := by
  obtain ⟨c, f, n, h1, h2⟩ := h
  exact ⟨c, f, n, by rw [upd_ne hp.symm]; exact h1, h2⟩
/-- from H0 to H nothing that was tracked has changed but the stream -/
structure Pl (H0 H : Hp) (p : Addr) : Prop where
  now : StAt H p
  op : H0 p ≠ none
  but : But p H0 H
section
variable {H0 H H1 : Hp} {p q : Addr} {o : HO}
theorem StAt.ne (h : StAt H p) : H p ≠ none := by
  obtain ⟨c, f, n, h1, h2⟩ := h
  rw [h1]
  exact Option.some_ne_none _
theorem Pl.refl (h : StAt H p) : Pl H H p := ⟨h, h.ne, But.refl p H⟩
theorem Pl.at (h : Pl H0 H p) (hq : H0 q = none) : Pl H0 (L2.upd H q o) p :=
  ⟨h.now.off (fun z => h.op (z ▸ hq)), h.op, h.but.at hq⟩
theorem Pl.keep (h : Pl H0 H p) {b : Addr} {u : HO} (e : H0 b = some u) (n : b ≠ p) : H b = some u := h.but b u e n
theorem Pl.free (h : Pl H0 H p) (hq : H q = none) : H0 q = none := by
  cases e : H0 q with
  | none => rfl
  | some u =>
    by_cases hp : q = p
    · exact absurd (hp ▸ hq) h.now.ne
    · rw [h.but q u e hp] at hq
      cases hq
theorem Pl.trans (a : Pl H0 H p) (b : Pl H H1 p) : Pl H0 H1 p := ⟨b.now, a.op, a.but.trans b.but⟩
/-- a new thing -/
theorem Pl.new (h : Pl H0 H p) (hq : H q = none) : Pl H0 (L2.upd H q o) p := h.at (h.free hq)
theorem Pl.same (h : Pl H0 H p) (e : Same H H1) : Pl H0 H1 p := ⟨h.now.same e, h.op, fun b u hb n => e b u (h.but b u hb n)⟩
end
theorem none_of {H H' : Hp} {q : Addr} (s : Same H H') (h : H' q = none) : H q = none := by
  cases e : H q with
  | none => rfl
  | some o => rw [s _ _ e] at h; cases h
theorem list_take {α : Type} {l : List α} {i : Nat} {x : α} (h : l[i]? = some x) : l.take (i + 1) = l.take i ++ [x] := by
  rw [List.take_add_one, h]
  rfl
theorem iteP {P Q : Prop} {b : Bool} (h : b = true) (p : P) : if b = true then P else Q := by
  rw [if_pos h]
  exact p
theorem iteN {P Q : Prop} {b : Bool} (h : b = false) (q : Q) : if b = true then P else Q := by
  rw [if_neg (by rw [h]; exact Bool.false_ne_true)]
  exact q
def spStream (K : PySem.W.Frag) : Sp := fun vs H Q _ => ∃ (a : Addr) (ns : List Int) (k : Nat), vs = [.ref a, .int k] ∧ k ≤ 20 ∧ SqL K H a (ns.map V.int) ∧ ns.length ≤ 63 ∧ ∀ p H', H p = none → StAt H' p → Same H H' → Q (.ref p) H'
def spDraw : Sp := fun vs H Q _ => ∃ (p : Addr) (many : Int), vs = [.ref p, .int many] ∧ StAt H p ∧ 0 < many ∧ many < 2 ^ 300 ∧ ∀ (d : Int) H', 0 ≤ d → d < many → Pl H H' p → Q (.int d) H'
section
variable {P : Program} {w : World} {K : PySem.W.Frag} {mg : Str → Option Value} {base : Heap}
abbrev s_l_stream : Stmt := topS 26
theorem sc_l_stream : FnScope ["script", "k", "cell"] ["script", "k"] (defScope s_l_stream) := ⟨rfl, rfl, rfl, by decide +kernel, rfl, by decide +kernel, by decide +kernel⟩
theorem ok_stream {f : Addr} {fd : FuncData} (F : Fun K "_law_stream" "_law_stream" s_l_stream f fd) (B : Blt mg) : FnOk P w K mg base CX0 1 f fd ["script", "k"] (spStream K) := by
  refine F.ok sc_l_stream (fun vs H Q E h => ?_) (fun cdv A outer s H vs Q E hr h => ?_)
  · obtain ⟨a, ns, k, rfl, _⟩ := h
    rfl
  · obtain ⟨a, ns, k, rfl, hk, hS, hn, q⟩ := h
    refine ⟨_, (pss_cons (ps_set (i := 2) sc_l_stream.nd rfl (Or.inl rfl) pe_int)
    (pss_cut (ps_if (pt_cmpR op_lt (pv 1) (pe_callB call_len_seq (by rfl) B.len (by decide +kernel) (pa_cons (pv 0) pa_nil)) (nomark _))
      (pss_one (ps_set (i := 2) sc_l_stream.nd rfl (Or.inl rfl) (pe_callB call_abs (by rfl) B.abs (by decide +kernel) (pa_cons (pe_ix ix_list (pv 0) (pv 1) (fun _ _ => rfl)) pa_nil))))
      pss_nil)
    (pss_one (ps_ret (pe_lst (pa_cons (pv 2) (pa_cons (pe_callTy call_int1 (by rfl) B.int (by decide +kernel) (pa_cons (pe_cmpR op_ge (pv 2) (pe_op op_pow pe_int pe_int) (nomark _)) pa_nil)) (pa_cons (pe_op op_mul pe_int (pv 1)) pa_nil)))))))), ?_⟩
    refine ⟨fun σ H1 => H1 = H ∧ ∃ c : Int, σ = [some (.ref a), some (.int k), some (.int c)] ∧ 0 ≤ c, ?_, ?_⟩
    · refine ⟨_, rfl, _, rfl, _, _, rfl, .inl hS, _, _, rfl, rfl, _, rfl, ?_⟩
      refine ite2 (fun c => ?_) (fun c => ⟨rfl, 0, rfl, by decide⟩)
      have c' : (k : Int) < (ns.map V.int).length := of_decide_eq_true c
      have hj : k < ns.length := by rw [List.length_map] at c'; omega
      refine ⟨_, rfl, _, rfl, _, _, _, V.int ns[k], rfl, rfl, hS, atI_nat (by rw [List.getElem?_map, List.getElem?_eq_getElem hj]; rfl), _, rfl, rfl, _, rfl, ?_⟩
      split <;> omega
    · rintro σ H1 ⟨rfl, c, rfl, hc⟩
      refine ⟨_, rfl, _, rfl, _, _, rfl, rfl, ⟨by decide, by decide, by decide⟩, _, _, rfl, rfl, .inr ⟨_, rfl, _, rfl, _, _, rfl, rfl, .inl ⟨by decide, by decide⟩, (by show 3 ≤ sizeLine; decide), fun p hp => ?_⟩⟩
      exact q p _ hp ⟨_, _, _, upd_same, hc⟩ (sameAt (Same.refl _) hp)
abbrev s_l_draw : Stmt := topS 27
theorem sc_l_draw : FnScope ["stream", "many", "digit", "mixed"] ["stream", "many"] (defScope s_l_draw) := ⟨rfl, rfl, rfl, by decide +kernel, rfl, by decide +kernel, by decide +kernel⟩
theorem ok_draw {f : Addr} {fd : FuncData} (F : Fun K "_law_draw" "_law_draw" s_l_draw f fd) (B : Blt mg) : FnOk P w K mg base CX0 1 f fd ["stream", "many"] spDraw := by
  refine F.ok sc_l_draw (fun vs H Q E h => ?_) (fun cdv A outer s H vs Q E hr h => ?_)
  · obtain ⟨p, many, rfl, _⟩ := h
    rfl
  · obtain ⟨p, many, rfl, hPP, hm, hm2, kk⟩ := h
    obtain ⟨c, fl, n, hp, hc⟩ := id hPP
    refine ⟨_, (pss_cons (ps_asg (pe_op op_add (pe_ix ix_list (pv 0) pe_int (fun _ _ => rfl)) pe_int) (pg_sub (pv 0) pe_int set_list))
    (pss_cons (ps_if (PW.pt (pw_and (pt_cmpR op_eq (pe_ix ix_list (pv 0) pe_int (fun _ _ => rfl)) pe_int (nomark _)) (pw_and1 (pt_cmpR op_gt (pe_ix ix_list (pv 0) pe_int (fun _ _ => rfl)) pe_int (nomark _)))))
      (pss_cons (ps_set (i := 2) sc_l_draw.nd rfl (Or.inl rfl) (pe_op op_mod (pe_callTy call_intI (by rfl) B.int (by decide +kernel) (pa_cons (pe_ix ix_list (pv 0) pe_int (fun _ _ => rfl)) pa_nil)) (pv 1)))
      (pss_cons (ps_asg (pe_op op_fdivW (pe_callTy call_intI (by rfl) B.int (by decide +kernel) (pa_cons (pe_ix ix_list (pv 0) pe_int (fun _ _ => rfl)) pa_nil)) (pv 1)) (pg_sub (pv 0) pe_int set_list))
      (pss_one (ps_ret (pv 2)))))
      pss_nil)
    (pss_cons (ps_set (i := 3) sc_l_draw.nd rfl (Or.inl rfl) (pe_op op_mod (pe_callTy call_intI (by rfl) B.int (by decide +kernel) (pa_cons (pe_op op_mul (pe_op op_add (pe_op op_add (pe_ix ix_list (pv 0) pe_int (fun _ _ => rfl)) (pe_op op_mul pe_int (pe_ix ix_list (pv 0) pe_int (fun _ _ => rfl)))) pe_int) pe_int) pa_nil)) pe_int))
    (pss_cons (ps_set (i := 3) sc_l_draw.nd rfl (Or.inl rfl) (pe_op op_mod (pe_callTy call_intI (by rfl) B.int (by decide +kernel) (pa_cons (pe_op op_mul (pv 3) (pe_op op_add (pe_op op_fdiv (pv 3) pe_int) pe_int)) pa_nil)) pe_int))
    (pss_cons (ps_set (i := 3) sc_l_draw.nd rfl (Or.inl rfl) (pe_op op_mod (pe_callTy call_intI (by rfl) B.int (by decide +kernel) (pa_cons (pe_op op_mul (pv 3) (pe_op op_add (pe_op op_fdiv (pv 3) pe_int) pe_int)) pa_nil)) pe_int))
    (pss_one (ps_ret (pe_op op_mod (pe_callTy call_intI (by rfl) B.int (by decide +kernel) (pa_cons (pe_op op_fdiv (pv 3) pe_int) pa_nil)) (pv 1))))))))), ?_⟩
    refine ⟨_, rfl, _, _, _, _, rfl, rfl, SqL.of hp, rfl, _, _, rfl, rfl, _, rfl, _, _, _, _, rfl, rfl, hp, rfl, ?_⟩
    generalize eH : upd H p (.lst _) = H1
    have hp1 : H1 p = some (.lst [.int c, .int fl, .int (n + 1)]) := by rw [← eH]; exact upd_same
    have hb1 : But p H H1 := by rw [← eH]; exact (But.refl p H).upd
    clear eH
    refine ⟨_, rfl, _, _, _, _, rfl, rfl, SqL.of hp1, rfl, rfl, _, rfl, ?_⟩
    refine ite2 (fun c1 => ⟨_, rfl, _, _, _, _, rfl, rfl, SqL.of hp1, rfl, _, _, rfl, rfl, _, rfl, ?_⟩) (fun c1 => iteF ?_)
    · refine ite2 (fun c2 => ?_) (fun c2 => ?_)
      · refine ⟨_, rfl, _, _, _, _, rfl, rfl, SqL.of hp1, rfl, _, rfl, _, rfl, _, _, rfl, rfl, hm, _, rfl, _, _, _, _, rfl, rfl, SqL.of hp1, rfl, _, rfl, _, rfl, _, _, rfl, rfl, wide_div (b := 300) hm (by omega) (by decide) (by decide), _, rfl, _, _, _, _, rfl, rfl, hp1, rfl, _, rfl, ?_⟩
        exact kk _ _ (Int.emod_nonneg _ (by omega)) (Int.emod_lt_of_pos _ hm) ⟨⟨_, _, _, upd_same, Int.ediv_nonneg hc (Int.le_of_lt hm)⟩, hPP.ne, hb1.upd⟩
      · skip
        refine ⟨_, rfl, _, _, _, _, rfl, rfl, SqL.of hp1, rfl, _, rfl, _, _, _, _, rfl, rfl, SqL.of hp1, rfl, _, _, rfl, rfl, .inl ⟨by decide, by decide⟩, _, _, rfl, rfl, _, _, rfl, rfl, _, _, rfl, rfl, .inr ⟨by decide, by decide⟩, _, rfl, _, _, rfl, rfl, (by show (0 : Int) < 2147483647; decide), ?_⟩
        generalize ea : (c + 7919 * (n + 1) + 1) * 48271 % 2147483647 = a
        have a0 : 0 ≤ a := by rw [← ea]; exact Int.emod_nonneg _ (by decide)
        have a1 : a < 2147483647 := by rw [← ea]; exact Int.emod_lt_of_pos _ (by decide)
        refine ⟨_, rfl, _, rfl, _, _, rfl, rfl, ⟨by decide, by decide⟩, _, _, rfl, rfl, _, _, rfl, rfl, .inl ⟨by omega, by omega⟩, _, rfl, _, _, rfl, rfl, (by show (0 : Int) < 2147483647; decide), ?_⟩
        generalize eb : a * (a / 1009 + 69621) % 2147483647 = b
        have b0 : 0 ≤ b := by rw [← eb]; exact Int.emod_nonneg _ (by decide)
        have b1 : b < 2147483647 := by rw [← eb]; exact Int.emod_lt_of_pos _ (by decide)
        refine ⟨_, rfl, _, rfl, _, _, rfl, rfl, ⟨by decide, by decide⟩, _, _, rfl, rfl, _, _, rfl, rfl, .inl ⟨by omega, by omega⟩, _, rfl, _, _, rfl, rfl, (by show (0 : Int) < 2147483399; decide), ?_⟩
        refine ⟨_, rfl, _, _, rfl, rfl, ⟨by decide, by decide⟩, _, rfl, _, rfl, _, _, rfl, rfl, hm, ?_⟩
        exact kk _ _ (Int.emod_nonneg _ (by omega)) (Int.emod_lt_of_pos _ hm) ⟨⟨_, _, _, hp1, hc⟩, hPP.ne, hb1⟩
    · skip
      refine ⟨_, rfl, _, _, _, _, rfl, rfl, SqL.of hp1, rfl, _, rfl, _, _, _, _, rfl, rfl, SqL.of hp1, rfl, _, _, rfl, rfl, .inl ⟨by decide, by decide⟩, _, _, rfl, rfl, _, _, rfl, rfl, _, _, rfl, rfl, .inr ⟨by decide, by decide⟩, _, rfl, _, _, rfl, rfl, (by show (0 : Int) < 2147483647; decide), ?_⟩
      generalize ea : (c + 7919 * (n + 1) + 1) * 48271 % 2147483647 = a
      have a0 : 0 ≤ a := by rw [← ea]; exact Int.emod_nonneg _ (by decide)
      have a1 : a < 2147483647 := by rw [← ea]; exact Int.emod_lt_of_pos _ (by decide)
      refine ⟨_, rfl, _, rfl, _, _, rfl, rfl, ⟨by decide, by decide⟩, _, _, rfl, rfl, _, _, rfl, rfl, .inl ⟨by omega, by omega⟩, _, rfl, _, _, rfl, rfl, (by show (0 : Int) < 2147483647; decide), ?_⟩
      generalize eb : a * (a / 1009 + 69621) % 2147483647 = b
      have b0 : 0 ≤ b := by rw [← eb]; exact Int.emod_nonneg _ (by decide)
      have b1 : b < 2147483647 := by rw [← eb]; exact Int.emod_lt_of_pos _ (by decide)
      refine ⟨_, rfl, _, rfl, _, _, rfl, rfl, ⟨by decide, by decide⟩, _, _, rfl, rfl, _, _, rfl, rfl, .inl ⟨by omega, by omega⟩, _, rfl, _, _, rfl, rfl, (by show (0 : Int) < 2147483399; decide), ?_⟩
      refine ⟨_, rfl, _, _, rfl, rfl, ⟨by decide, by decide⟩, _, rfl, _, rfl, _, _, rfl, rfl, hm, ?_⟩
      exact kk _ _ (Int.emod_nonneg _ (by omega)) (Int.emod_lt_of_pos _ hm) ⟨⟨_, _, _, hp1, hc⟩, hPP.ne, hb1⟩
end
end Ash

set_option Elab.async false
set_option linter.all false
set_option maxRecDepth 100000
set_option maxHeartbeats 4000000
set_option pp.maxSteps 1500
namespace Ash
open PySem PySem.Spec PyProof.Rows L2
open C8 (pss_cut)
/-! ### the law's draws -/
def flds (w : Str) : List Str := if w = "row" then ["id", "stream", "key", "moment", "amount", "arrival"] else if w = "fix" then ["id", "moment", "amount", "arrival"] else ["id", "arrival"]
theorem flds_len (w : Str) : (flds w).length ≤ 6 := by unfold flds; split; · decide
                                                       split <;> decide
def spFields : Sp := fun vs H Q _ => ∃ w : Str, vs = [.str w] ∧ ∀ l H', H l = none → H' l = some (.lst ((flds w).map V.str)) → Same H H' → Q (.ref l) H'
def spOrder : Sp := fun vs H Q _ => ∃ (p a : Addr) (xs : List Str), vs = [.ref p, .ref a] ∧ StAt H p ∧ a ≠ p ∧ H a = some (.lst (xs.map V.str)) ∧ xs.length ≤ 6 ∧
  ∀ l (ys : List Str) H', H l = none → H' l = some (.lst (ys.map V.str)) → ys.Perm xs → Pl H H' p → Q (.ref l) H'
/-- the signs of a text -/
def okC (c : Nat) : Bool := decide (32 ≤ c) && decide (c ≤ 126)
def okS (z : Str) : Bool := z.cps.toList.all okC
section
variable {P : Program} {w : World} {K : PySem.W.Frag} {mg : Str → Option Value} {base : Heap}
abbrev s_l_fields : Stmt := topS 29
theorem sc_l_fields : FnScope ["word"] ["word"] (defScope s_l_fields) := ⟨rfl, rfl, rfl, by decide +kernel, rfl, by decide +kernel, by decide +kernel⟩
theorem ok_fields {f : Addr} {fd : FuncData} (F : Fun K "_law_fields" "_law_fields" s_l_fields f fd) (B : Blt mg) : FnOk P w K mg base CX0 1 f fd ["word"] spFields := by
  refine F.ok sc_l_fields (fun vs H Q E h => ?_) (fun cdv A outer s H vs Q E hr h => ?_)
  · obtain ⟨w, rfl, _⟩ := h
    rfl
  · obtain ⟨z, rfl, q⟩ := h
    refine ⟨_, (pss_cons (ps_if (pt_cmpR op_eq (pv 0) pe_str (nomark _))
      (pss_one (ps_ret (pe_lst (pa_cons pe_str (pa_cons pe_str (pa_cons pe_str (pa_cons pe_str (pa_cons pe_str (pa_cons pe_str pa_nil)))))))))
      pss_nil)
    (pss_cons (ps_if (pt_cmpR op_eq (pv 0) pe_str (nomark _))
      (pss_one (ps_ret (pe_lst (pa_cons pe_str (pa_cons pe_str (pa_cons pe_str (pa_cons pe_str pa_nil)))))))
      pss_nil)
    (pss_one (ps_ret (pe_lst (pa_cons pe_str (pa_cons pe_str pa_nil))))))), ?_⟩
    refine ⟨_, rfl, rfl, _, rfl, ?_⟩
    refine ite2 (fun c => ?_) (fun c => ?_)
    · have e : z = "row" := V.str.inj (of_decide_eq_true c)
      subst e
      exact ⟨(by show 6 ≤ sizeLine; decide), fun l hl => q l _ hl upd_same (sameAt (Same.refl _) hl)⟩
    · have e1 : ¬ z = "row" := fun e => c (by rw [e]; exact decide_eq_true rfl)
      refine ⟨_, rfl, rfl, _, rfl, ?_⟩
      refine ite2 (fun c => ?_) (fun c => ?_)
      · have e : z = "fix" := V.str.inj (of_decide_eq_true c)
        subst e
        exact ⟨(by show 4 ≤ sizeLine; decide), fun l hl => q l _ hl upd_same (sameAt (Same.refl _) hl)⟩
      · have e2 : ¬ z = "fix" := fun e => c (by rw [e]; exact decide_eq_true rfl)
        refine ⟨(by show 2 ≤ sizeLine; decide), fun l hl => q l _ hl ?_ (sameAt (Same.refl _) hl)⟩
        rw [upd_same]
        unfold flds
        rw [if_neg e1, if_neg e2]
        rfl
def CDraw (P : Program) (w : World) (K : PySem.W.Frag) (mg : Str → Option Value) (base : Heap) : Prop := Cal P w K mg base CX0 "_law_draw" 1 ["stream", "many"] spDraw
structure G1 (P : Program) (w : World) (K : PySem.W.Frag) (mg : Str → Option Value) (base : Heap) : Prop where
  law_draw : CDraw P w K mg base
abbrev s_l_order : Stmt := topS 30
theorem sc_l_order : FnScope ["stream", "items", "found", "item"] ["stream", "items"] (defScope s_l_order) := ⟨rfl, rfl, rfl, by decide +kernel, rfl, by decide +kernel, by decide +kernel⟩
theorem ok_order {f : Addr} {fd : FuncData} (F : Fun K "_law_order" "_law_order" s_l_order f fd) (B : Blt mg) (G : G1 P w K mg base) : FnOk P w K mg base CX0 2 f fd ["stream", "items"] spOrder := by
  refine F.ok sc_l_order (fun vs H Q E h => ?_) (fun cdv A outer s H vs Q E hr h => ?_)
  · obtain ⟨p, a, xs, rfl, _⟩ := h
    rfl
  · obtain ⟨p, a, xs, rfl, hP, hap, ha, hx, q⟩ := h
    refine ⟨_, (pss_cons (ps_set (i := 2) sc_l_order.nd rfl (Or.inl rfl) (pe_lst pa_nil))
    (pss_cons (ps_for PassesOwn.never rfl (pi_list (pv 1)) (pg_name (i := 3) sc_l_order.nd rfl (Or.inl rfl))
      (pss_one (ps_expr (pe_bm PySem.F.plainAttrs_list PySem.F.slot_list_insert PySem.F.type_list_insert mt_insert (pv 2) (pa_cons (pe_cal G.law_draw (hr.mono (by decide)) pass0 (pa_cons (pv 0) (pa_cons (pe_op op_add (pe_callB call_len (by rfl) B.len (by decide +kernel) (pa_cons (pv 2) pa_nil)) pe_int) pa_nil))) (pa_cons (pv 3) pa_nil))))))
    (pss_one (ps_ret (pv 2))))), ?_⟩
    refine ⟨(by show 0 ≤ sizeLine; decide), fun l hl => ?_⟩
    have hlp : l ≠ p := fun z => hP.ne (z ▸ hl)
    have hla : l ≠ a := fun z => by rw [z, ha] at hl; cases hl
    have P0 := (Pl.refl hP).new (o := .lst []) hl
    have ha0 : upd H l (.lst []) a = some (.lst (xs.map V.str)) := by rw [upd_ne hla.symm]; exact ha
    refine ⟨_, rfl, a, rfl, ⟨_, SqL.of ha0⟩, ?_⟩
    refine for_it (walk_list (K := K) (a := a) (xs := xs.map V.str)) (fun i σ H1 => (∃ x3, σ = [some (.ref p), some (.ref a), some (.ref l), x3]) ∧ Pl H H1 p ∧ ∃ ys : List Str, H1 l = some (.lst (ys.map V.str)) ∧ ys.Perm (xs.take i)) ⟨⟨_, rfl⟩, P0, [], upd_same, .nil⟩ (fun i σ H1 _ hv => SqL.of (hv.2.1.keep ha hap)) ?_ ?_
    · rintro i y σ H1 _ hi ⟨⟨x3, rfl⟩, P1, ys, hl1, hp⟩ ⟨rfl, hy⟩
      rw [List.getElem?_map] at hy
      obtain ⟨z, hz, rfl⟩ := Option.map_eq_some_iff.mp hy
      have yl : ys.length ≤ 6 := by
        have := hp.length_eq
        rw [List.length_take] at this
        omega
      refine ⟨_, rfl, .inl ⟨rfl, _, SqL.of hl1⟩, _, rfl, _, rfl, _, _, rfl, .inl ⟨_, SqL.of hl1, rfl⟩, _, _, rfl, rfl, p, _, rfl, P1.now, (by omega), Int.lt_of_le_of_lt (show ((ys.map V.str).length : Int) + 1 ≤ 7 by rw [List.length_map]; omega) (by decide), fun d H2 d0 d1 P2 => ?_⟩
      rw [List.length_map] at d1
      have hl2 := P2.keep hl1 hlp
      refine ⟨_, rfl, l, _, d, _, rfl, rfl, hl2, (by rw [List.length_map]; exact small1000 (by omega)), d0, Int.lt_of_lt_of_le d1 (by omega), ⟨_, rfl⟩, (P1.trans P2).at hl, ys.take d.toNat ++ [z] ++ ys.drop d.toNat, ?_, ?_⟩
      · rw [upd_same, List.map_append, List.map_append, List.map_take, List.map_drop]
        rfl
      · rw [list_take hz, List.append_assoc]
        refine List.perm_middle.trans ?_
        show (z :: (ys.take d.toNat ++ ys.drop d.toNat)).Perm _
        rw [List.take_append_drop]
        exact (List.Perm.cons z hp).trans (List.perm_append_singleton z _).symm
    · rintro σ H1 ⟨⟨x3, rfl⟩, P1, ys, hl1, hp⟩
      rw [List.length_map, List.take_length] at hp
      exact ⟨_, rfl, q l ys H1 hl hl1 hp P1⟩
def spMark : Sp := fun vs H Q _ => ∃ (p : Addr) (sg : Str) (most : Int), vs = [.ref p, .str sg, .int most] ∧ StAt H p ∧ okS sg = true ∧ 1 ≤ sg.length ∧ sg.length ≤ 200 ∧ 1 ≤ most ∧ most ≤ 6 ∧
  ∀ (z : Str) H', 1 ≤ z.length → z.length ≤ 6 → okS z = true → Pl H H' p → Q (.str z) H'
def spSigns : Sp := fun vs H Q _ => vs = [] ∧ ∀ sg : Str, okS sg = true → 1 ≤ sg.length → sg.length ≤ 200 → Q (.str sg) H
theorem okS_app {a b : Str} : okS (a ++ b) = (okS a && okS b) := by
  show ((a ++ b).cps.toList.all okC) = _
  rw [show (a ++ b).cps.toList = a.cps.toList ++ b.cps.toList from Array.toList_append .., List.all_append]
  rfl
theorem len_app (a b : Str) : (a ++ b).length = a.length + b.length := by
  show (a.cps ++ b.cps).size = _
  rw [Array.size_append]
  rfl
abbrev s_l_mark : Stmt := topS 31
theorem sc_l_mark : FnScope ["stream", "signs", "most", "text", "k"] ["stream", "signs", "most"] (defScope s_l_mark) := ⟨rfl, rfl, rfl, by decide +kernel, rfl, by decide +kernel, by decide +kernel⟩
theorem ok_mark {f : Addr} {fd : FuncData} (F : Fun K "_law_mark" "_law_mark" s_l_mark f fd) (B : Blt mg) (G : G1 P w K mg base) : FnOk P w K mg base CX0 2 f fd ["stream", "signs", "most"] spMark := by
  refine F.ok sc_l_mark (fun vs H Q E h => ?_) (fun cdv A outer s H vs Q E hr h => ?_)
  · obtain ⟨p, sg, most, rfl, _⟩ := h
    rfl
  · obtain ⟨p, sg, most, rfl, hP, ok, s1, s2, m1, m6, q⟩ := h
    refine ⟨_, (pss_cons (ps_set (i := 3) sc_l_mark.nd rfl (Or.inl rfl) pe_str)
    (pss_cons (ps_for PassesOwn.never rfl (pi_range1 (by rfl) B.range (pa_cons (pe_op op_add pe_int (pe_cal G.law_draw (hr.mono (by decide)) pass0 (pa_cons (pv 0) (pa_cons (pv 2) pa_nil)))) pa_nil)) (pg_name (i := 4) sc_l_mark.nd rfl (Or.inl rfl))
      (pss_one (ps_set (i := 3) sc_l_mark.nd rfl (Or.inl rfl) (pe_op op_add_str (pv 3) (pe_ix ix_str (pv 1) (pe_cal G.law_draw (hr.mono (by decide)) pass0 (pa_cons (pv 0) (pa_cons (pe_callB call_len_str (by rfl) B.len (by decide +kernel) (pa_cons (pv 1) pa_nil)) pa_nil))) (fun _ _ => rfl))))))
    (pss_one (ps_ret (pv 3))))), ?_⟩
    have sl : sg.length ≤ sizeLine := by rw [sizeLine_eq]; omega
    refine ⟨_, rfl, _, rfl, p, most, rfl, hP, (by omega), Int.lt_of_le_of_lt m6 (by decide), fun d H1 d0 d1 P1 => ?_⟩
    refine ⟨_, _, rfl, rfl, _, rfl, (by omega), (by omega), for_range (n := (1 + d).toNat) (fun i σ H2 => (∃ (z : Str) (x4 : Option V), σ = [some (.ref p), some (.str sg), some (.int most), some (.str z), x4] ∧ z.length = i ∧ okS z = true) ∧ Pl H H2 p) ⟨⟨_, _, rfl, rfl, rfl⟩, P1⟩ ?_ ?_⟩
    · rintro i σ H2 hi ⟨⟨z, x4, rfl, zl, zo⟩, P2⟩
      refine ⟨_, rfl, _, rfl, _, rfl, _, rfl, _, rfl, sl, p, _, rfl, P2.now, (by omega), Int.lt_of_le_of_lt (show (sg.length : Int) ≤ 200 by omega) (by decide), fun e H3 e0 e1 P3 => ?_⟩
      obtain ⟨j, rfl⟩ : ∃ j : Nat, e = (j : Int) := ⟨e.toNat, by omega⟩
      have hj : j < sg.cps.size := by have : j < sg.length := by omega
                                      exact this
      have hc : sg.cps.toList[j]? = some sg.cps[j] := by rw [Array.getElem?_toList]; exact Array.getElem?_eq_getElem hj
      have oc : okC sg.cps[j] = true := List.all_eq_true.mp ok _ (List.mem_of_getElem? hc)
      refine ⟨sg, j, sg.cps[j], rfl, rfl, sl, atI_nat hc, z, _, rfl, rfl, (by rw [sizeLine_eq, zl]; show i + 1 ≤ _; omega), ⟨_, _, rfl, (by rw [len_app, zl]; rfl), ?_⟩, P2.trans P3⟩
      rw [okS_app, zo]
      show (okC sg.cps[j] && true) = true
      rw [oc]
      rfl
    · rintro σ H2 ⟨⟨z, x4, rfl, zl, zo⟩, P2⟩
      exact ⟨_, rfl, q z H2 (by omega) (by omega) zo P2⟩
abbrev s_l_signs : Stmt := topS 32
theorem sc_l_signs : FnScope ["low"] [] (defScope s_l_signs) := ⟨rfl, rfl, rfl, by decide +kernel, rfl, by decide +kernel, by decide +kernel⟩
theorem ok_signs {f : Addr} {fd : FuncData} (F : Fun K "_law_signs" "_law_signs" s_l_signs f fd) (B : Blt mg) : FnOk P w K mg base CX0 1 f fd [] spSigns := by
  refine F.ok sc_l_signs (fun vs H Q E h => ?_) (fun cdv A outer s H vs Q E hr h => ?_)
  · obtain ⟨rfl, _⟩ := h
    rfl
  · obtain ⟨rfl, q⟩ := h
    refine ⟨_, (pss_cons (ps_set (i := 0) sc_l_signs.nd rfl (Or.inl rfl) pe_str)
    (pss_one (ps_ret (pe_op op_add_str (pv 0) pe_str)))), ?_⟩
    exact ⟨_, rfl, _, _, rfl, rfl, (by decide +kernel), q _ (by decide +kernel) (by decide +kernel) (by decide +kernel)⟩
end
end Ash

set_option Elab.async false
set_option linter.all false
set_option maxRecDepth 100000
set_option maxHeartbeats 4000000
set_option pp.maxSteps 1500
namespace Ash
open PySem PySem.Spec PyProof.Rows L2
open C8 (pss_cut)
/-! ### pieces of shapes, good ones and odd ones -/
/-- all stands, but lists and dicts, which stay what they are -/
def Ev (H H' : Hp) : Prop := ∀ b o, H b = some o → H' b = some o ∨ (∃ xs ys, o = .lst xs ∧ H' b = some (.lst ys)) ∨ ∃ ks ls, o = .dK ks ∧ H' b = some (.dK ls)
theorem Ev.refl (H : Hp) : Ev H H := fun _ _ h => .inl h
theorem Ev.trans {H H1 H2 : Hp} (a : Ev H H1) (b : Ev H1 H2) : Ev H H2 := fun c o h => by
  rcases a c o h with h1 | ⟨xs, ys, e, h1⟩ | ⟨xs, ys, e, h1⟩
  · exact b c o h1
  · rcases b c _ h1 with h2 | ⟨_, zs, _, h2⟩ | ⟨_, _, q, _⟩
    · exact .inr (.inl ⟨xs, ys, e, h2⟩)
    · exact .inr (.inl ⟨xs, zs, e, h2⟩)
    · cases q
  · rcases b c _ h1 with h2 | ⟨_, _, q, _⟩ | ⟨_, zs, _, h2⟩
    · exact .inr (.inr ⟨xs, ys, e, h2⟩)
    · cases q
    · exact .inr (.inr ⟨xs, zs, e, h2⟩)
theorem Ev.same {H H' : Hp} (s : Same H H') : Ev H H' := fun b o h => .inl (s b o h)
theorem Ev.updL {H H' : Hp} {a : Addr} {xs ys : List V} (e : Ev H H') (h : H' a = some (.lst xs)) : Ev H (upd H' a (.lst ys)) := e.trans fun b o hb => by
  by_cases q : b = a
  · rw [q, h] at hb
    exact .inr (.inl ⟨xs, ys, (Option.some.inj hb).symm, by rw [q, upd_same]⟩)
  · exact .inl (by rw [upd_ne q]; exact hb)
theorem Ev.updD {H H' : Hp} {a : Addr} {xs ys : List (Key × V)} (e : Ev H H') (h : H' a = some (.dK xs)) : Ev H (upd H' a (.dK ys)) := e.trans fun b o hb => by
  by_cases q : b = a
  · rw [q, h] at hb
    exact .inr (.inr ⟨xs, ys, (Option.some.inj hb).symm, by rw [q, upd_same]⟩)
  · exact .inl (by rw [upd_ne q]; exact hb)
theorem Ev.new {H H' : Hp} {a : Addr} {o : HO} (e : Ev H H') (h : H' a = none) : Ev H (upd H' a o) := e.trans (Ev.same fun b u hb => by rw [upd_ne (ne_of_none hb h)]; exact hb)
theorem Ev.ne {H H' : Hp} {a : Addr} (e : Ev H H') (h : H' a = none) : H a = none := by
  cases q : H a with
  | none => rfl
  | some o =>
    rcases e a o q with h1 | ⟨_, _, _, h1⟩ | ⟨_, _, _, h1⟩ <;> rw [h1] at h <;> cases h
theorem Ev.tup {H H' : Hp} {a : Addr} {xs : List V} (e : Ev H H') (h : H a = some (.tup xs)) : H' a = some (.tup xs) := by
  rcases e a _ h with h1 | ⟨_, _, q, _⟩ | ⟨_, _, q, _⟩
  · exact h1
  · cases q
  · cases q
theorem Ev.pl {H H' : Hp} {p : Addr} (h0 : StAt H p) (h : Pl H H' p) : Ev H H' := fun b o hb => by
  by_cases q : b = p
  · obtain ⟨c, f, n, h1, _⟩ := h0
    obtain ⟨c', f', n', h2, _⟩ := h.now
    rw [q, h1] at hb
    exact .inr (.inl ⟨_, _, (Option.some.inj hb).symm, by rw [q, h2]⟩)
  · exact .inl (h.keep hb q)
theorem tyx_ev {K : PySem.W.Frag} {H H' : Hp} {v : V} {t : Value} (h : TyX K H v t) (s : Ev H H') : TyX K H' v t := by
  have k : ∀ {b o}, H b = some o → (∀ xs, o ≠ .lst xs) → (∀ xs, o ≠ .dK xs) → H' b = some o := fun {b o} hb n m => by
    rcases s b o hb with h1 | ⟨xs, _, q, _⟩ | ⟨xs, _, q, _⟩
    · exact h1
    · exact absurd q (n xs)
    · exact absurd q (m xs)
  cases h with
  | base b =>
    refine .base ?_
    cases b with
    | non => exact .non
    | bl x => exact .bl x
    | int x => exact .int x
    | str x => exact .str x
    | flt x => exact .flt x
    | lst e =>
      rcases s _ _ e with h1 | ⟨_, _, _, h1⟩ | ⟨_, _, q, _⟩
      · exact .lst h1
      · exact .lst h1
      · cases q
    | frz e => exact .frz (k e (fun _ z => by cases z) (fun _ z => by cases z))
    | tup e => exact .tup (k e (fun _ z => by cases z) (fun _ z => by cases z))
    | dK e =>
      rcases s _ _ e with h1 | ⟨_, _, q, _⟩ | ⟨_, _, _, h1⟩
      · exact .dK h1
      · cases q
      · exact .dK h1
    | dT e => exact .dT (k e (fun _ z => by cases z) (fun _ z => by cases z))
    | ins e c a b d f => exact .ins (k e (fun _ z => by cases z) (fun _ z => by cases z)) c a b d f
  | byt b => exact .byt b
  | set e => exact .set (k e (fun _ z => by cases z) (fun _ z => by cases z))
  | kList e c => exact .kList e c
  | kTuple e c => exact .kTuple e c
  | kDict e c => exact .kDict e c
  | fTuple e => exact .fTuple (k e (fun _ z => by cases z) (fun _ z => by cases z))
  | fDict e => exact .fDict (k e (fun _ z => by cases z) (fun _ z => by cases z))
/-- a piece: no tuple; a tuple of another length; a pair whose second is no string; a pair of None and a string; a pair of strings -/
inductive Pc
  | no | len | snd (w : Str) | fst (s : Str) | pr (w s : Str)
/-- a text that may be compared -/
def okT (s : Str) : Prop := s.length ≤ 100 ∧ PyData.strOk s = true
def PcAt (K : PySem.W.Frag) (H : Hp) (v : V) : Pc → Prop
  | .no => ∃ t, TyX K H v t ∧ PySem.W.kitOne K t (.type "tuple") = some false
  | .len => ∃ a xs, v = .ref a ∧ H a = some (.tup xs) ∧ xs.length ≠ 2
  | .snd w => ∃ a y t, v = .ref a ∧ H a = some (.tup [.str w, y]) ∧ TyX K H y t ∧ PySem.W.kitOne K t (.type "str") = some false
  | .fst s => ∃ a, v = .ref a ∧ H a = some (.tup [.non, .str s])
  | .pr w s => ∃ a, v = .ref a ∧ H a = some (.tup [.str w, .str s]) ∧ okT s
theorem PcAt.ev {K : PySem.W.Frag} {H H' : Hp} {v : V} {p : Pc} (h : PcAt K H v p) (e : Ev H H') : PcAt K H' v p := by
  cases p with
  | no => obtain ⟨t, h1, h2⟩ := h; exact ⟨t, tyx_ev h1 e, h2⟩
  | len => obtain ⟨a, xs, h1, h2, h3⟩ := h; exact ⟨a, xs, h1, e.tup h2, h3⟩
  | snd w => obtain ⟨a, y, t, h1, h2, h3, h4⟩ := h; exact ⟨a, y, t, h1, e.tup h2, tyx_ev h3 e, h4⟩
  | fst s => obtain ⟨a, h1, h2⟩ := h; exact ⟨a, h1, e.tup h2⟩
  | pr w s => obtain ⟨a, h1, h2, h3⟩ := h; exact ⟨a, h1, e.tup h2, h3⟩
/-- pieces in a row -/
inductive PcsAt (K : PySem.W.Frag) (H : Hp) : List V → List Pc → Prop
  | nil : PcsAt K H [] []
  | cons {v : V} {p : Pc} {us : List V} {ps : List Pc} : PcAt K H v p → PcsAt K H us ps → PcsAt K H (v :: us) (p :: ps)
namespace PcsAt
variable {K : PySem.W.Frag} {H H' : Hp}
theorem ev : ∀ {us : List V} {ps : List Pc}, PcsAt K H us ps → Ev H H' → PcsAt K H' us ps
  | _, _, .nil, _ => .nil
  | _, _, .cons h t, e => .cons (h.ev e) (t.ev e)
theorem len : ∀ {us : List V} {ps : List Pc}, PcsAt K H us ps → us.length = ps.length
  | _, _, .nil => rfl
  | _, _, .cons _ t => by rw [List.length_cons, List.length_cons, t.len]
theorem app : ∀ {us vs : List V} {ps qs : List Pc}, PcsAt K H us ps → PcsAt K H vs qs → PcsAt K H (us ++ vs) (ps ++ qs)
  | _, _, _, _, .nil, b => b
  | _, _, _, _, .cons h t, b => .cons h (t.app b)
theorem take : ∀ {us : List V} {ps : List Pc} (n : Nat), PcsAt K H us ps → PcsAt K H (us.take n) (ps.take n)
  | _, _, 0, _ => .nil
  | _, _, _ + 1, .nil => .nil
  | _, _, n + 1, .cons h t => .cons h (t.take n)
theorem drop : ∀ {us : List V} {ps : List Pc} (n : Nat), PcsAt K H us ps → PcsAt K H (us.drop n) (ps.drop n)
  | _, _, 0, h => h
  | _, _, _ + 1, .nil => .nil
  | _, _, n + 1, .cons _ t => t.drop n
theorem get : ∀ {us : List V} {ps : List Pc} {i : Nat} {v : V}, PcsAt K H us ps → us[i]? = some v → ∃ p, ps[i]? = some p ∧ PcAt K H v p
  | _, _, _, _, .nil, h => by simp at h
  | _, _, 0, _, .cons h _, e => by
    cases Option.some.inj (show some _ = some _ from e)
    exact ⟨_, rfl, h⟩
  | _, _, i + 1, _, .cons _ t, e => t.get (i := i) e
theorem one {v : V} {p : Pc} (h : PcAt K H v p) : PcsAt K H [v] [p] := .cons h .nil
theorem rep {v : V} {p : Pc} (h : PcAt K H v p) : ∀ n : Nat, PcsAt K H (List.replicate n v) (List.replicate n p)
  | 0 => .nil
  | n + 1 => .cons h (rep h n)
end PcsAt
/-- a text of a mark -/
def mkB (z : Str) : Bool := decide (1 ≤ z.length) && decide (z.length ≤ 6) && okS z
/-- the fields of pieces that are all good -/
def pcF : Pc → Option (List Str)
  | .pr w s => if w = "field" then some [s] else if w = "mark" ∧ mkB s = true then some [] else none
  | _ => none
def pcsF : List Pc → Option (List Str)
  | [] => some []
  | p :: ps => match pcF p, pcsF ps with
    | some a, some b => some (a ++ b)
    | _, _ => none
/-- a shape: a row of pieces, or something else -/
inductive Sh
  | row (ps : List Pc) | no
def Sh.good (w : Str) : Sh → Prop
  | .row ps => 1 ≤ ps.length ∧ ps.length ≤ 15 ∧ ∃ fs, pcsF ps = some fs ∧ fs.Perm (flds w)
  | .no => False
def ShAt (K : PySem.W.Frag) (H : Hp) (v : V) : Sh → Prop
  | .row ps => ∃ a us, v = .ref a ∧ (H a = some (.lst us) ∨ H a = some (.tup us)) ∧ PcsAt K H us ps ∧ ps.length ≤ 20
  | .no => ∃ t, TyX K H v t ∧ PySem.W.kitAny K t [.type "list", .type "tuple"] = some false
end Ash

set_option Elab.async false
set_option linter.all false
set_option maxRecDepth 100000
set_option maxHeartbeats 4000000
set_option pp.maxSteps 1500
namespace Ash
open PySem PySem.Spec PyProof.Rows L2
open C8 (pss_cut)
theorem pcsF_app : ∀ {ps qs : List Pc} {a b : List Str}, pcsF ps = some a → pcsF qs = some b → pcsF (ps ++ qs) = some (a ++ b)
  | [], qs, a, b, h, g => by
    cases Option.some.inj (show some [] = some a from h)
    exact g
  | p :: ps, qs, a, b, h, g => by
    unfold pcsF at h
    show pcsF (p :: (ps ++ qs)) = _
    unfold pcsF
    cases e1 : pcF p with
    | none => rw [e1] at h; cases h
    | some x =>
      rw [e1] at h
      cases e2 : pcsF ps with
      | none => rw [e2] at h; cases h
      | some y =>
        rw [e2] at h
        cases h
        rw [pcsF_app e2 g, List.append_assoc]
theorem pcsF_mark {z : Str} (h1 : 1 ≤ z.length) (h2 : z.length ≤ 6) (h3 : okS z = true) : pcsF [.pr "mark" z] = some [] := by
  have h : mkB z = true := by
    unfold mkB
    rw [h3, decide_eq_true h1, decide_eq_true h2]
    rfl
  have e : pcF (.pr "mark" z) = some [] := by
    show (if ("mark" : Str) = "field" then some [z] else if ("mark" : Str) = "mark" ∧ mkB z = true then some [] else none) = some []
    rw [if_neg (by decide), if_pos ⟨rfl, h⟩]
  unfold pcsF
  rw [e]
  rfl
theorem pcsF_field (s : Str) : pcsF [.pr "field" s] = some [s] := by
  have e : pcF (.pr "field" s) = some [s] := by
    show (if ("field" : Str) = "field" then some [s] else if ("field" : Str) = "mark" ∧ mkB s = true then some [] else none) = some [s]
    rw [if_pos rfl]
  unfold pcsF
  rw [e]
  rfl
theorem okS_ok {z : Str} (h : okS z = true) : PyData.strOk z = true := by
  unfold PyData.strOk
  rw [← Array.all_toList, List.all_eq_true]
  intro c hc
  have := List.all_eq_true.mp h c hc
  unfold okC at this
  simp only [Bool.and_eq_true, decide_eq_true_eq] at this ⊢
  omega
theorem put_pc {K : PySem.W.Frag} {H H1 : Hp} {p l t : Addr} {us : List V} {ps : List Pc} {w s : Str} (hP : Pl H H1 p) (hl0 : H l = none) (hl : H1 l = some (.lst us)) (hs : PcsAt K H1 us ps) (ht : H1 t = none) (h100 : okT s) :
    upd (upd H1 t (.tup [.str w, .str s])) l (.lst (us ++ [.ref t])) l = some (.lst (us ++ [.ref t])) ∧ PcsAt K (upd (upd H1 t (.tup [.str w, .str s])) l (.lst (us ++ [.ref t]))) (us ++ [.ref t]) (ps ++ [.pr w s]) ∧ Pl H (upd (upd H1 t (.tup [.str w, .str s])) l (.lst (us ++ [.ref t]))) p := by
  have tl : t ≠ l := fun z => by rw [z, hl] at ht; cases ht
  have e : Ev H1 (upd (upd H1 t (.tup [.str w, .str s])) l (.lst (us ++ [.ref t]))) := ((Ev.refl H1).new ht).updL (xs := us) (by rw [upd_ne tl.symm]; exact hl)
  exact ⟨upd_same, (hs.ev e).app (.one ⟨t, rfl, by rw [upd_ne tl]; exact upd_same, h100⟩), (hP.new ht).at hl0⟩
theorem fl8 {w : Str} : ∀ z : Str, z ∈ flds w → okT z := fun z hz => by
  unfold flds at hz
  split at hz
  · simp only [List.mem_cons, List.not_mem_nil, or_false] at hz
    rcases hz with rfl | rfl | rfl | rfl | rfl | rfl <;> exact ⟨by decide +kernel, by decide +kernel⟩
  · split at hz <;> simp only [List.mem_cons, List.not_mem_nil, or_false] at hz
    · rcases hz with rfl | rfl | rfl | rfl <;> exact ⟨by decide +kernel, by decide +kernel⟩
    · rcases hz with rfl | rfl <;> exact ⟨by decide +kernel, by decide +kernel⟩
def spShape (K : PySem.W.Frag) : Sp := fun vs H Q _ => ∃ (p : Addr) (w sg : Str) (often most : Int), vs = [.ref p, .str w, .str sg, .int often, .int most] ∧ StAt H p ∧ okS sg = true ∧ 1 ≤ sg.length ∧ sg.length ≤ 200 ∧ 1 ≤ most ∧ most ≤ 6 ∧
  ∀ l (us : List V) (ps : List Pc) H', H l = none → H' l = some (.lst us) → PcsAt K H' us ps → ps.length ≤ 13 → (∃ fs, pcsF ps = some fs ∧ fs.Perm (flds w)) → Pl H H' p → Q (.ref l) H'
section
variable {P : Program} {w : World} {K : PySem.W.Frag} {mg : Str → Option Value} {base : Heap}
structure G2 (P : Program) (w : World) (K : PySem.W.Frag) (mg : Str → Option Value) (base : Heap) : Prop extends G1 P w K mg base where
  law_fields : Cal P w K mg base CX0 "_law_fields" 1 ["word"] spFields
  law_order : Cal P w K mg base CX0 "_law_order" 2 ["stream", "items"] spOrder
  law_mark : Cal P w K mg base CX0 "_law_mark" 2 ["stream", "signs", "most"] spMark
abbrev s_l_shape : Stmt := topS 33
theorem sc_l_shape : FnScope ["stream", "word", "signs", "often", "most", "pieces", "field"] ["stream", "word", "signs", "often", "most"] (defScope s_l_shape) := ⟨rfl, rfl, rfl, by decide +kernel, rfl, by decide +kernel, by decide +kernel⟩
theorem ok_lshape {f : Addr} {fd : FuncData} (F : Fun K "_law_shape" "_law_shape" s_l_shape f fd) (B : Blt mg) (G : G2 P w K mg base) : FnOk P w K mg base CX0 3 f fd ["stream", "word", "signs", "often", "most"] (spShape K) := by
  refine F.ok sc_l_shape (fun vs H Q E h => ?_) (fun cdv A outer s H vs Q E hr h => ?_)
  · obtain ⟨p, z, sg, often, most, rfl, _⟩ := h
    rfl
  · obtain ⟨p, z, sg, often, most, rfl, hP, ok, s1, s2, m1, m6, q⟩ := h
    refine ⟨_, (pss_cons (ps_set (i := 5) sc_l_shape.nd rfl (Or.inl rfl) (pe_lst pa_nil))
    (pss_cons (ps_for PassesOwn.never rfl (pi_list (pe_cal G.law_order (hr.mono (by decide)) pass0 (pa_cons (pv 0) (pa_cons (pe_cal G.law_fields (hr.mono (by decide)) pass0 (pa_cons (pv 1) pa_nil)) pa_nil)))) (pg_name (i := 6) sc_l_shape.nd rfl (Or.inl rfl))
      (pss_cut (ps_if (pt_cmpR op_lt (pe_cal G.law_draw (hr.mono (by decide)) pass0 (pa_cons (pv 0) (pa_cons pe_int pa_nil))) (pv 3) (nomark _))
        (pss_one (ps_expr (pe_bm PySem.F.plainAttrs_list PySem.F.slot_list_append PySem.F.type_list_append mt_append (pv 5) (pa_cons (pe_tup (pa_cons pe_str (pa_cons (pe_cal G.law_mark (hr.mono (by decide)) pass0 (pa_cons (pv 0) (pa_cons (pv 2) (pa_cons (pv 4) pa_nil)))) pa_nil))) pa_nil))))
        pss_nil)
      (pss_one (ps_expr (pe_bm PySem.F.plainAttrs_list PySem.F.slot_list_append PySem.F.type_list_append mt_append (pv 5) (pa_cons (pe_tup (pa_cons pe_str (pa_cons (pv 6) pa_nil))) pa_nil))))))
    (pss_cut (ps_if (pt_cmpR op_lt (pe_cal G.law_draw (hr.mono (by decide)) pass0 (pa_cons (pv 0) (pa_cons pe_int pa_nil))) (pv 3) (nomark _))
      (pss_one (ps_expr (pe_bm PySem.F.plainAttrs_list PySem.F.slot_list_append PySem.F.type_list_append mt_append (pv 5) (pa_cons (pe_tup (pa_cons pe_str (pa_cons (pe_cal G.law_mark (hr.mono (by decide)) pass0 (pa_cons (pv 0) (pa_cons (pv 2) (pa_cons (pv 4) pa_nil)))) pa_nil))) pa_nil))))
      pss_nil)
    (pss_one (ps_ret (pv 5)))))), ?_⟩
    refine ⟨(by show 0 ≤ sizeLine; decide), fun l hl => ?_⟩
    have P0 := (Pl.refl hP).new (o := .lst []) hl
    refine ⟨_, rfl, _, rfl, z, rfl, fun a H1 ha0 ha s1 => ⟨p, a, flds z, rfl, P0.now.same s1, fun e => (P0.now.ne (e ▸ ha0)), ha, flds_len z, fun o ys H2 ho0 ho hp P2 => ⟨o, rfl, ⟨_, SqL.of ho⟩, ?_⟩⟩⟩
    have hlp : l ≠ p := fun e => hP.ne (e ▸ hl)
    have hop : o ≠ p := fun e => (P0.now.same s1).ne (e ▸ ho0)
    have P02 : Pl H H2 p := (P0.same s1).trans P2
    have hl2 : H2 l = some (.lst []) := P2.keep (s1 _ _ upd_same) hlp
    have yl : ys.length ≤ 6 := by rw [hp.length_eq]; exact flds_len z
    refine for_it (walk_list (K := K) (a := o) (xs := ys.map V.str)) (fun i σ H3 => (∃ x6, σ = [some (.ref p), some (.str z), some (.str sg), some (.int often), some (.int most), some (.ref l), x6]) ∧ Pl H H3 p ∧ H3 o = some (.lst (ys.map V.str)) ∧ ∃ us ps, H3 l = some (.lst us) ∧ PcsAt K H3 us ps ∧ pcsF ps = some (ys.take i) ∧ ps.length ≤ 2 * i) ⟨⟨_, rfl⟩, P02, ho, [], [], hl2, .nil, rfl, by decide⟩ (fun i σ H3 _ hv => SqL.of hv.2.2.1) ?_ ?_
    · rintro i y σ H3 _ hi ⟨⟨x6, rfl⟩, P3, ho3, us, ps, hl3, hps, hf, hn⟩ ⟨rfl, hy⟩
      rw [List.length_map] at hi
      rw [List.getElem?_map] at hy
      obtain ⟨fl, hz, rfl⟩ := Option.map_eq_some_iff.mp hy
      have hol : o ≠ l := fun e => by rw [e] at ho0; rw [s1 _ _ upd_same] at ho0; cases ho0
      refine ⟨fun σ H4 => σ = [some (.ref p), some (.str z), some (.str sg), some (.int often), some (.int most), some (.ref l), some (.str fl)] ∧ Pl H H4 p ∧ H4 o = some (.lst (ys.map V.str)) ∧ ∃ us ps, H4 l = some (.lst us) ∧ PcsAt K H4 us ps ∧ pcsF ps = some (ys.take i) ∧ ps.length ≤ 2 * i + 1, ?_, ?_⟩
      · refine ⟨_, rfl, p, 4, rfl, P3.now, (by decide), (by decide), fun d H4 d0 d4 P4 => ?_⟩
        have hps4 := hps.ev (Ev.pl P3.now P4)
        have hl4 := P4.keep hl3 hlp
        refine ⟨_, rfl, _, _, rfl, rfl, _, rfl, ite2 (fun c => ?_) (fun c => ⟨rfl, P3.trans P4, P4.keep ho3 hop, us, ps, hl4, hps4, hf, by omega⟩)⟩
        refine ⟨_, rfl, .inl ⟨rfl, _, SqL.of hl4⟩, _, rfl, _, rfl, _, rfl, p, sg, most, rfl, P4.now, ok, by omega, s2, m1, m6, fun mz H5 z1 z6 zo P5 => ⟨(by show 2 ≤ sizeLine; decide), fun t ht => ?_⟩⟩
        have hl5 := P5.keep hl4 hlp
        obtain ⟨e1, e2, e3⟩ := put_pc (w := "mark") (s := mz) ((P3.trans P4).trans P5) hl hl5 (hps4.ev (Ev.pl P4.now P5)) ht ⟨by omega, okS_ok zo⟩
        have tl : t ≠ l := fun e => by rw [e, hl5] at ht; cases ht
        have to : t ≠ o := fun e => by rw [e, (P4.trans P5).keep ho3 hop] at ht; cases ht
        refine ⟨l, us, _, rfl, rfl, by rw [upd_ne tl.symm]; exact hl5, by rw [hps4.len]; exact small1000 (by omega), rfl, e3, by rw [upd_ne hol, upd_ne to.symm]; exact (P4.trans P5).keep ho3 hop, _, _, e1, e2, ?_, by rw [List.length_append]; show _ + 1 ≤ _; omega⟩
        have := pcsF_app hf (pcsF_mark z1 z6 zo)
        rw [List.append_nil] at this
        exact this
      · rintro σ H4 ⟨rfl, P4, ho4, us, ps, hl4, hps4, hf, hn⟩
        refine ⟨_, rfl, .inl ⟨rfl, _, SqL.of hl4⟩, _, rfl, (by show 2 ≤ sizeLine; decide), fun t ht => ?_⟩
        obtain ⟨e1, e2, e3⟩ := put_pc (w := "field") (s := fl) P4 hl hl4 hps4 ht (fl8 fl (hp.mem_iff.mp (List.mem_of_getElem? hz)))
        have tl : t ≠ l := fun e => by rw [e, hl4] at ht; cases ht
        have to : t ≠ o := fun e => by rw [e, ho4] at ht; cases ht
        refine ⟨l, us, _, rfl, rfl, by rw [upd_ne tl.symm]; exact hl4, by rw [hps4.len]; exact small1000 (by omega), ⟨_, rfl⟩, e3, by rw [upd_ne hol, upd_ne to.symm]; exact ho4, _, _, e1, e2, ?_, by rw [List.length_append]; show _ + 1 ≤ _; omega⟩
        rw [list_take hz]
        exact pcsF_app hf (pcsF_field fl)
    · rintro σ H3 ⟨⟨x6, rfl⟩, P3, ho3, us, ps, hl3, hps, hf, hn⟩
      rw [List.length_map] at hn
      rw [List.length_map, List.take_length] at hf
      refine ⟨fun σ H4 => (∃ x6, σ = [some (.ref p), some (.str z), some (.str sg), some (.int often), some (.int most), some (.ref l), x6]) ∧ Pl H H4 p ∧ ∃ us ps, H4 l = some (.lst us) ∧ PcsAt K H4 us ps ∧ pcsF ps = some ys ∧ ps.length ≤ 13, ?_, ?_⟩
      · refine ⟨_, rfl, p, 4, rfl, P3.now, (by decide), (by decide), fun d H4 d0 d4 P4 => ?_⟩
        have hps4 := hps.ev (Ev.pl P3.now P4)
        have hl4 := P4.keep hl3 hlp
        refine ⟨_, rfl, _, _, rfl, rfl, _, rfl, ite2 (fun c => ?_) (fun c => ⟨⟨_, rfl⟩, P3.trans P4, us, ps, hl4, hps4, hf, by omega⟩)⟩
        refine ⟨_, rfl, .inl ⟨rfl, _, SqL.of hl4⟩, _, rfl, _, rfl, _, rfl, p, sg, most, rfl, P4.now, ok, by omega, s2, m1, m6, fun mz H5 z1 z6 zo P5 => ⟨(by show 2 ≤ sizeLine; decide), fun t ht => ?_⟩⟩
        have hl5 := P5.keep hl4 hlp
        obtain ⟨e1, e2, e3⟩ := put_pc (w := "mark") (s := mz) ((P3.trans P4).trans P5) hl hl5 (hps4.ev (Ev.pl P4.now P5)) ht ⟨by omega, okS_ok zo⟩
        have tl : t ≠ l := fun e => by rw [e, hl5] at ht; cases ht
        refine ⟨l, us, _, rfl, rfl, by rw [upd_ne tl.symm]; exact hl5, by rw [hps4.len]; exact small1000 (by omega), ⟨_, rfl⟩, e3, _, _, e1, e2, ?_, by rw [List.length_append]; show _ + 1 ≤ _; omega⟩
        have := pcsF_app hf (pcsF_mark z1 z6 zo)
        rw [List.append_nil] at this
        exact this
      · rintro σ H4 ⟨⟨x6, rfl⟩, P4, us, ps, hl4, hps4, hf, hn⟩
        exact ⟨_, rfl, q l us ps H4 hl hl4 hps4 hn ⟨ys, hf, hp⟩ P4⟩
end
end Ash

set_option Elab.async false
set_option linter.all false
set_option maxRecDepth 100000
set_option maxHeartbeats 4000000
namespace SrtS
open PySem PySem.Spec PyProof.Rows L2
section
variable {prog : Program} {w : World} {A : Around} {E : Value → Shared → Prop} {s : Shared}
/-- the items of a tuple, collected in a new list -/
theorem coll_tup {l : Addr} {vs : List Value} {Q : List Value → Shared → Prop} (hl : s.heap.IsTuple l vs.toArray) (hz : vs.length ≤ sizeLine)
    (h : Q vs { s with heap := (s.heap.push (seqObj "list" #[] 0)).update s.heap.objs.size (Obj.mapSeq (· ++ vs.toArray)) }) : wpAny (model prog w) A (collect (.ref l)) Q E s := by
  have ⟨o, ho, hc, n, hd⟩ := hl
  have hp : (s.heap.push (seqObj "list" #[] 0)).get? l = some o := Heap.get?_push_of_some _ ho
  have hq : (s.heap.push (seqObj "list" #[] 0)).get? s.heap.objs.size = some (seqObj "list" #[] 0) := Heap.get?_push_size _ rfl
  have room : (#[] ++ vs.toArray : Array Value).size ≤ sizeLine + 1 := by
    rw [Array.size_append, List.size_toArray]
    show 0 + vs.length ≤ _
    omega
  unfold collect
  refine wpAny_bind <| wpAny_runValue <| codeAny_builtin entry_proto_collect' ?_
  show wpAny _ _ (newList [] >>= fun v => again (.builtin "list.__iadd__" ⟨[v, .ref l], []⟩)) _ _ s
  refine wpAny_bind <| wpAny_newList <| wpAny_pure ⟨Code.quiet_builtin _ (by decide +kernel), codeAny_builtin entry_list_iadd' ?_⟩
  show wpAny _ _ (PySem.Builtin.List.listExtendWith (.ref s.heap.objs.size) (.ref l) (.ref s.heap.objs.size)) _ _ { s with heap := s.heap.push (seqObj "list" #[] 0) }
  unfold PySem.Builtin.List.listExtendWith
  refine wpAny_bind <| wpAny_typeOf (T := "tuple") ⟨o, hp, hc⟩ ?_
  rw [if_pos (by rw [show (Value.type "tuple" == Value.type "tuple") = true from rfl, Bool.or_true])]
  refine wpAny_bind <| listItems_at hp hd <| wpAny_bind <| listItems_at (xs := #[]) (n := 0) hq rfl ?_
  rw [if_neg (by simp)]
  refine wpAny_bind <| listUpdate_at (xs := #[]) (n := 0) hq rfl ?_ (Nat.zero_le _) room
  refine wpAny_pure ?_
  show wpAny (model prog w) A (load s.heap.objs.size >>= fun o => match o.data with | .seq xs _ => pure xs.toList | _ => unsupported "internal:collect") Q E { s with heap := (s.heap.push (seqObj "list" #[] 0)).update s.heap.objs.size (Obj.mapSeq (· ++ vs.toArray)) }
  refine wpAny_bind <| wpAny_load (get?_update_seq hq _) ?_
  have e : ((#[] : Array Value) ++ vs.toArray).toList = vs := by simp
  show wpAny _ _ (pure ((#[] : Array Value) ++ vs.toArray).toList) Q E _
  rw [e]
  exact wpAny_pure h
/-- sorted(t), t a tuple of texts -/
theorem sorted_strsT {l : Addr} {vs : List Value} {ss : List Str} {Q : Value → Shared → Prop} (hl : s.heap.IsTuple l vs.toArray) (hz : vs.length ≤ sizeLine) (hS : StrsAre vs ss) (h64 : vs.length < 64)
    (h : ∀ (out : Array Value) (ss' : List Str), StrsAre out.toList ss' → ss'.Perm ss → sortedS ss' = true → Q (.ref (s.heap.objs.size + 1)) { s with heap := sortedAll s.heap vs out }) : wpAny (model prog w) A (call (.builtin "sorted") [.ref l]) Q E s := by
  have h1 : ((s.heap.push (seqObj "list" #[] 0)).update s.heap.objs.size (Obj.mapSeq (· ++ vs.toArray))).objs.size = s.heap.objs.size + 1 := by rw [Heap.size_update, size_push']
  have h2 : (((s.heap.push (seqObj "list" #[] 0)).update s.heap.objs.size (Obj.mapSeq (· ++ vs.toArray))).push (seqObj "list" vs.toArray 0)).get? (s.heap.objs.size + 1) = some (seqObj "list" vs.toArray 0) := by
    have := Heap.get?_push_size ((s.heap.push (seqObj "list" #[] 0)).update s.heap.objs.size (Obj.mapSeq (· ++ vs.toArray))) (o := seqObj "list" vs.toArray 0) rfl
    rwa [h1] at this
  refine Calls.call_function_entry kind_sorted plain_sorted entry_sorted (args_sorted1 _) ?_
  unfold Builtin.«sorted»
  refine wpAny_bind (m := checkCount "sorted" 1 1 _) <| wpAny_pure <| wpAny_bind <| coll_tup hl hz <| wpAny_bind <| wpAny_newList ?_ hz
  show wpAny _ _ _ _ _ { s with heap := ((s.heap.push (seqObj "list" #[] 0)).update s.heap.objs.size (Obj.mapSeq (· ++ vs.toArray))).push (seqObj "list" vs.toArray 0) }
  rw [h1]
  refine wpAny_bind <| wpAny_holding <| wpAny_call_entry slot_list_sort ⟨_, h2, rfl⟩ entry_list_sort (list_sort_treeK strKind_oneLt h2 hS.keysOf (fun v₁ v₂ rest e => keyKind_strs (by rw [← e]; exact hS)) h64 fun st' hp hs => ⟨_, rfl, ?_⟩) (args_list_sort _)
  obtain ⟨ss', g1, g2, g3⟩ := sorted_out_str hS hp hs
  exact wpAny_pure ⟨_, rfl, h _ ss' g1 g2 g3⟩
end
end SrtS
namespace L2
open PySem PySem.Spec PyProof.Rows
/-- sorted of a tuple of texts -/
def rSortedST (K : PySem.W.Frag) : List V → Hp → VK → Prop := fun vs H Q => ∃ (a : Addr) (xs : List Str), vs = [V.ref a] ∧ SqT K H a (xs.map V.str) ∧ xs.length < 64 ∧
  ∀ (ys : List Str) (p : Addr), ys.Perm xs → sortedS ys = true → H p = none → Q (.ref p) (upd H p (.lst (ys.map V.str)))
theorem cr_sortedST {X : Cx} : CallR X (.builtin "sorted") (rSortedST X.K) := by
  intro pins s σ H vs us Q I r h
  obtain ⟨a, xs, rfl, hs, h6, q⟩ := h
  obtain ⟨its, rv, hl, hz⟩ := I.tuple hs
  rw [Vals.ref1 r]
  have hn := rv.length
  rw [List.length_map] at hn
  have hl' : s.heap.IsTuple a its.toArray := hl
  refine SrtS.sorted_strsT hl' (by rw [← rv.length]; exact hz) rv.strs (by rw [← hn]; exact h6) fun out ys g1 g2 g3 => ?_
  obtain ⟨ep, ge⟩ := sortedAll_at s.heap its out
  refine ⟨.ref _, upd H (s.heap.objs.size + 1) (.lst (ys.map V.str)), I.laid (t' := s.toks) (fun _ _ => sortedAll_old) (Nat.le_succ _) ⟨?_, out.toList, ep, vals_of_strs g1, ge⟩, rfl, q ys _ g2 g3 (I.hok.fresh (Nat.le_succ _))⟩
  rw [List.length_map, g2.length_eq]
  exact small64 h6
/-- a list or a tuple -/
def SqA (K : PySem.W.Frag) (H : Hp) (a : Addr) (xs : List V) : Prop := SqL K H a xs ∨ SqT K H a xs
def iAny (K : PySem.W.Frag) (tl : TE) : TI := fun σ H R => tl σ H fun x H1 => ∃ a, x = .ref a ∧ (((∃ xs, SqL K H1 a xs) ∧ R (Itl K a) H1) ∨ ((∃ xs, SqT K H1 a xs) ∧ R (Itt K a) H1))
theorem pi_any {X : Cx} {tg l : Expr} {tl : TE} (hl : PE X l tl) : PI X tg l (iAny X.K tl) := by
  constructor
  intro pins s σ H R I h
  refine thn (hl.run pins s σ H _ I h) ?_
  rintro v s1 ⟨x, H1, I1, r1, a, e, q⟩
  subst e
  cases r1
  have fp : ∀ b ∈ [s1.heap.objs.size], FpOk X pins H1 b := fun b hb => by
    rw [List.mem_singleton.mp hb]
    exact I1.fpOk (Nat.le_refl _) (I1.hok.fresh (Nat.le_refl _))
  rcases q with ⟨⟨xs, hq⟩, q⟩ | ⟨⟨xs, hq⟩, q⟩
  · obtain ⟨its, rv, p, hz⟩ := I1.list hq
    exact wpAny_pyIter_list p.isList ⟨_, [_], _, _, H1, rfl, I1.kept (t' := s1.toks) (fun b o e => Heap.get?_push_of_some _ e), turn_list a _, ⟨_, Heap.get?_push_size _ rfl, rfl, rfl⟩, fp, q⟩
  · obtain ⟨its, rv, p, hz⟩ := I1.tuple hq
    have p' : s1.heap.IsTuple a its.toArray := p
    exact wpAny_pyIter_tuple p' ⟨_, [_], _, _, H1, rfl, I1.kept (t' := s1.toks) (fun b o e => Heap.get?_push_of_some _ e), turn_tuple a _, ⟨_, Heap.get?_push_size _ rfl, rfl, rfl⟩, fp, q⟩
end L2

set_option Elab.async false
set_option linter.all false
set_option maxRecDepth 100000
set_option maxHeartbeats 4000000
set_option pp.maxSteps 1500
namespace Ash
open PySem PySem.Spec PyProof.Rows L2
open C8 (pss_cut)
/-! ### spoiled shapes -/
theorem cut_take {xs : List V} {k : Nat} (h : k ≤ xs.length) : cutV xs none (some (k : Int)) = xs.take k := by
  unfold cutV
  rw [HT.sIx_none, HT.sIx_nat, List.drop_zero, Nat.sub_zero, Nat.min_eq_left h]
theorem cut_drop {xs : List V} {k : Nat} (h : k ≤ xs.length) : cutV xs (some (k : Int)) none = xs.drop k := by
  unfold cutV
  rw [HT.sIx_none, HT.sIx_nat, Nat.min_eq_left h]
  exact List.take_of_length_le (by rw [List.length_drop]; exact Nat.le_refl _)
theorem PcsAt.set {K : PySem.W.Frag} {H : Hp} {v : V} {p : Pc} (h : PcAt K H v p) : ∀ {us : List V} {ps : List Pc} (n : Nat), PcsAt K H us ps → PcsAt K H (us.set n v) (ps.set n p)
  | _, _, _, .nil => .nil
  | _, _, 0, .cons _ t => .cons h t
  | _, _, n + 1, .cons g t => .cons g (PcsAt.set h n t)
/-- a shape, good or not -/
def ShA (K : PySem.W.Frag) (H : Hp) (v : V) : Sh → Prop
  | .row ps => ∃ a us, v = .ref a ∧ (H a = some (.lst us) ∨ H a = some (.tup us)) ∧ PcsAt K H us ps ∧ ps.length ≤ 20
  | .no => ∃ t, TyX K H v t ∧ PySem.W.kitOne K t (.type "list") = some false ∧ PySem.W.kitOne K t (.type "tuple") = some false
end Ash

set_option Elab.async false
set_option linter.all false
set_option maxRecDepth 100000
set_option maxHeartbeats 4000000
set_option pp.maxSteps 1500
namespace Ash
open PySem PySem.Spec PyProof.Rows L2
open C8 (pss_cut)
/-! ### what is a shape -/
theorem str_ext {a b : Str} (h : a.cps.toList = b.cps.toList) : a = b := by
  obtain ⟨x⟩ := a
  obtain ⟨y⟩ := b
  have h : x.toList = y.toList := h
  rw [Array.toList_inj.mp h]
/-- texts in order -/
def LeS (a b : Str) : Prop := decide (b.cps.toList < a.cps.toList) = false
theorem leS_anti {a b : Str} (h : LeS a b) (g : LeS b a) : a = b := str_ext (PyProof.Rows.strKind.total _ _ g h)
theorem leS_trans {a b c : Str} (h : LeS a b) (g : LeS b c) : LeS a c := by
  unfold LeS at *
  cases e : decide (c.cps.toList < a.cps.toList) with
  | false => rfl
  | true =>
    rcases PyProof.Rows.strKind.negTrans _ b.cps.toList _ e with q | q
    · exact absurd (show decide (c.cps.toList < b.cps.toList) = true from q) (by rw [g]; exact Bool.false_ne_true)
    · exact absurd (show decide (b.cps.toList < a.cps.toList) = true from q) (by rw [h]; exact Bool.false_ne_true)
theorem ris_pw : ∀ (l : List Str) (p : Str), risingS p l = true → (p :: l).Pairwise LeS
  | [], p, _ => List.pairwise_singleton _ _
  | x :: r, p, h => by
    have h : (!ltCps x.cps.toList p.cps.toList && risingS x r) = true := h
    rw [Bool.and_eq_true] at h
    have e1 : LeS p x := by
      unfold LeS
      rw [← ltCps_eq]
      simpa using h.1
    have ih := ris_pw r x h.2
    refine List.pairwise_cons.mpr ⟨fun y hy => ?_, ih⟩
    rcases List.mem_cons.mp hy with rfl | hy
    · exact e1
    · exact leS_trans e1 (List.rel_of_pairwise_cons ih hy)
theorem srtS_pw : ∀ {l : List Str}, sortedS l = true → l.Pairwise LeS
  | [], _ => .nil
  | p :: r, h => ris_pw r p h
theorem srt_uniq {α : Type} {le : α → α → Prop} (anti : ∀ a b, le a b → le b a → a = b) : ∀ {l m : List α}, l.Pairwise le → m.Pairwise le → l.Perm m → l = m
  | [], m, _, _, p => (List.nil_perm.mp p).symm
  | a :: l, [], _, _, p => absurd p.symm (by simp)
  | a :: l, b :: m, hl, hm, p => by
    have e : a = b := by
      rcases List.mem_cons.mp (p.mem_iff.mp (List.mem_cons_self (a := a) (l := l))) with h | h
      · exact h
      · rcases List.mem_cons.mp (p.mem_iff.mpr (List.mem_cons_self (a := b) (l := m))) with g | g
        · exact g.symm
        · exact anti _ _ (List.rel_of_pairwise_cons hl g) (List.rel_of_pairwise_cons hm h)
    subst e
    rw [srt_uniq anti (List.pairwise_cons.mp hl).2 (List.pairwise_cons.mp hm).2 ((List.perm_cons a).mp p)]
theorem dp_strs {K : PySem.W.Frag} {H : Hp} : ∀ is : List Str, DpAll K H (is.map V.str) (is.map PyData.str)
  | [] => .nil
  | i :: r => .cons (.str i) (dp_strs r)
theorem strs_shaped {is : List Str} (h : ∀ z ∈ is, PyData.strOk z = true) : SeqAt.shaped (.list (is.map PyData.str)) = true := by
  have q : (is.map PyData.str).all flatD = true := by
    rw [List.all_eq_true]
    intro d hd
    obtain ⟨z, hz, rfl⟩ := List.mem_map.mp hd
    exact h z hz
  obtain ⟨h1, h2⟩ := flat_lay q
  unfold SeqAt.shaped
  simp [PyData.canLay0, PyData.depth, h1]
  omega
theorem eqvAll_strs : ∀ {xs ys : List Str}, PyData.eqvAll (xs.map PyData.str) (ys.map PyData.str) = true ↔ xs = ys
  | [], [] => by simp [PyData.eqvAll]
  | [], _ :: _ => by simp [PyData.eqvAll]
  | _ :: _, [] => by simp [PyData.eqvAll]
  | x :: xs, y :: ys => by
    rw [List.map_cons, List.map_cons, PyData.eqvAll, Bool.and_eq_true, eqvAll_strs, PyData.eqv, List.cons.injEq, beq_iff_eq]
theorem eqv_strs {xs ys : List Str} : PyData.eqv (.list (xs.map PyData.str)) (.list (ys.map PyData.str)) = true ↔ xs = ys := by
  rw [PyData.eqv]
  exact eqvAll_strs

theorem ShA.ev {K : PySem.W.Frag} {H H' : Hp} {v : V} {sh : Sh} (h : ShA K H v sh) (s : Same H H') : ShA K H' v sh := by
  cases sh with
  | row ps =>
    obtain ⟨a, us, h1, h2, h3, h4⟩ := h
    exact ⟨a, us, h1, h2.imp (s _ _) (s _ _), h3.ev (Ev.same s), h4⟩
  | no =>
    obtain ⟨t, h1, h2⟩ := h
    exact ⟨t, tyx_ev h1 (Ev.same s), h2⟩
def Sh.isRow : Sh → Bool
  | .row _ => true
  | .no => false
theorem kitA {K : PySem.W.Frag} {t : Value} {b c : Bool} (h1 : PySem.W.kitOne K t (.type "list") = some b) (h2 : PySem.W.kitOne K t (.type "tuple") = some c) : PySem.W.kitAny K t [.type "list", .type "tuple"] = some (b || c) := by
  cases b <;> cases c <;> simp [PySem.W.kitAny, h1, h2]
theorem ShA.ty {K : PySem.W.Frag} {H : Hp} {v : V} {sh : Sh} (h : ShA K H v sh) : ∃ t, TyX K H v t ∧ PySem.W.kitAny K t [.type "list", .type "tuple"] = some sh.isRow := by
  cases sh with
  | row ps =>
    obtain ⟨a, us, rfl, h2, h3, _⟩ := h
    rcases h2 with h2 | h2
    · exact ⟨_, .base (.lst h2), kitA (b := true) (c := false) (kit_ty (by decide +kernel)) (kit_ty (by decide +kernel))⟩
    · exact ⟨_, .base (.tup h2), kitA (b := false) (c := true) (kit_ty (by decide +kernel)) (kit_ty (by decide +kernel))⟩
  | no =>
    obtain ⟨t, h1, h2, h3⟩ := h
    exact ⟨t, h1, kitA h2 h3⟩
theorem two_ok {n : Nat} (h : n = 2) : (!decide (V.int (n : Int) = V.int 2)) = false := by
  rw [h]
  show (!decide (V.int 2 = V.int 2)) = false
  rw [decide_eq_true rfl]
  rfl
theorem pcF_f {s : Str} : pcF (.pr "field" s) = some [s] := by
  show (if ("field" : Str) = "field" then some [s] else if ("field" : Str) = "mark" ∧ mkB s = true then some [] else none) = some [s]
  rw [if_pos rfl]
theorem pcsF_bad : ∀ {ps : List Pc} {i : Nat} {p : Pc}, ps[i]? = some p → pcF p = none → pcsF ps = none
  | [], _, _, h, _ => by simp at h
  | q :: ps, 0, p, h, g => by
    cases Option.some.inj (show some q = some p from h)
    unfold pcsF
    rw [g]
  | q :: ps, i + 1, p, h, g => by
    have e := pcsF_bad (ps := ps) (i := i) h g
    unfold pcsF
    rw [e]
    cases pcF q <;> rfl
theorem pcsF_step {ps : List Pc} {i : Nat} {p : Pc} {a b : List Str} (h : ps[i]? = some p) (h1 : pcsF (ps.take i) = some a) (h2 : pcF p = some b) : pcsF (ps.take (i + 1)) = some (a ++ b) := by
  rw [list_take h]
  refine pcsF_app h1 ?_
  unfold pcsF
  rw [h2]
  show some (b ++ []) = some b
  rw [List.append_nil]
def rLeS : R2 := fun x y H Q => ∃ i j, x = .str i ∧ y = .str j ∧ Q (.bl (!decide (j.cps.toList < i.cps.toList))) H
theorem one_lt {a b : Nat} : (([a] : List Nat) < [b]) ↔ a < b := by
  constructor
  · intro h
    cases h with
    | rel h => exact h
    | cons h => cases h
  · intro h
    exact List.Lex.rel h
theorem okC_le (c : Nat) : ((!decide (([c] : List Nat) < [32])) && (!decide (([126] : List Nat) < [c]))) = okC c := by
  unfold okC
  rw [Bool.eq_iff_iff]
  simp only [Bool.and_eq_true, Bool.not_eq_true', decide_eq_false_iff_not, one_lt, decide_eq_true_eq]
  omega
def spIsRow (K : PySem.W.Frag) : Sp := fun vs H Q _ => ∃ v sh, vs = [v] ∧ ShA K H v sh ∧ ∀ H', Same H H' → Q (.bl sh.isRow) H'
def spIsMark : Sp := fun vs H Q _ => ∃ z : Str, vs = [.str z] ∧ z.length ≤ 100 ∧ ∀ H', Same H H' → Q (.bl (mkB z)) H'
def spIsShape (K : PySem.W.Frag) : Sp := fun vs H Q _ => ∃ (v : V) (sh : Sh) (a : Addr) (w : Str), vs = [v, .ref a] ∧ ShA K H v sh ∧ SqT K H a ((flds w).map V.str) ∧ ∀ b H', (b = true ↔ sh.good w) → Same H H' → Q (.bl b) H'
section
variable {P : Program} {w : World} {K : PySem.W.Frag} {mg : Str → Option Value} {base : Heap}
abbrev s_is_row : Stmt := topS 10
theorem sc_is_row : FnScope ["thing"] ["thing"] (defScope s_is_row) := ⟨rfl, rfl, rfl, by decide +kernel, rfl, by decide +kernel, by decide +kernel⟩
theorem ok_is_row {f : Addr} {fd : FuncData} (F : Fun K "is_row" "is_row" s_is_row f fd) (B : Blt mg) : FnOk P w K mg base CX0 1 f fd ["thing"] (spIsRow K) := by
  refine F.ok sc_is_row (fun vs H Q E h => ?_) (fun cdv A outer s H vs Q E hr h => ?_)
  · obtain ⟨v, sh, rfl, _⟩ := h
    rfl
  · obtain ⟨v, sh, rfl, hv, q⟩ := h
    refine ⟨_, (pss_one (ps_ret (pe_callB call_isiT (by rfl) B.isinstance (by decide +kernel) (pa_cons (pv 0) (pa_cons (pe_tup (pa_cons (pe_bltn (v := .ty "list") (by rfl) B.list (by decide +kernel) rfl) (pa_cons (pe_bltn (v := .ty "tuple") (by rfl) B.tuple (by decide +kernel) rfl) pa_nil))) pa_nil))))), ?_⟩
    refine ⟨_, rfl, (by show 2 ≤ sizeLine; decide), fun t ht => ?_⟩
    have s1 := sameAt (o := .tup [.ty "list", .ty "tuple"]) (Same.refl H) ht
    obtain ⟨ty, h1, h2⟩ := (hv.ev s1).ty
    exact ⟨_, t, _, _, _, _, rfl, upd_same, .cons (.ty _) (.cons (.ty _) .nil), h1, h2, q _ s1⟩
abbrev s_is_mark : Stmt := topS 20
theorem sc_is_mark : FnScope ["text", "letter"] ["text"] (defScope s_is_mark) := ⟨rfl, rfl, rfl, by decide +kernel, rfl, by decide +kernel, by decide +kernel⟩
theorem ok_is_mark {f : Addr} {fd : FuncData} (F : Fun K "is_mark" "is_mark" s_is_mark f fd) (B : Blt mg) (g_LONGEST_MARK : ∃ t, mg "LONGEST_MARK" = some (.int 6 t)) : FnOk P w K mg base CX0 1 f fd ["text"] spIsMark := by
  obtain ⟨t2, g_LONGEST_MARK⟩ := g_LONGEST_MARK
  refine F.ok sc_is_mark (fun vs H Q E h => ?_) (fun cdv A outer s H vs Q E hr h => ?_)
  · obtain ⟨z, rfl, _⟩ := h
    rfl
  · obtain ⟨z, rfl, hz, q⟩ := h
    refine ⟨_, (pss_one (ps_ret (pe_and (pe_chain op_le op_le pe_int (pe_callB call_len_str (by rfl) B.len (by decide +kernel) (pa_cons (pv 0) pa_nil)) (pe_glob (v := .int 6) (by rfl) g_LONGEST_MARK ⟨_, rfl⟩)) (pe_one (pe_callB (cr_all rfl) (by rfl) B.all (by decide +kernel) (pa_cons (pe_lc (own := [("letter", 1)]) (g := gName 1) (tt := tYes) (by rfl) sc_is_mark.nd (pi_str (pv 0)) (blkOk_by (own := [("letter", 1)]) (N := ["text", "letter"]) (sc := defScope s_is_mark) (by decide +kernel)) (fun _ _ _ _ _ => (pg_name (i := 1) sc_is_mark.nd rfl (Or.inl rfl))) (fun _ _ _ _ _ => pts_nil) (fun _ _ _ _ _ => (pe_chain (show OpR _ (compareOp .LtE) rLeS from op_le_str) (show OpR _ (compareOp .LtE) rLeS from op_le_str) pe_str (pv 1) pe_str))) pa_nil)))))), ?_⟩
    have zl : z.length ≤ sizeLine := by rw [sizeLine_eq]; omega
    refine ⟨_, rfl, _, rfl, zl, _, _, rfl, rfl, _, rfl, ?_⟩
    have bad : ¬ (1 ≤ z.length ∧ z.length ≤ 6) → mkB z = false := fun h => by
      unfold mkB
      by_cases h1 : 1 ≤ z.length
      · rw [decide_eq_false (show ¬ z.length ≤ 6 by omega), Bool.and_false, Bool.false_and]
      · rw [decide_eq_false h1, Bool.false_and, Bool.false_and]
    refine ite2 (fun c1 => ?_) (fun c1 => ?_)
    · have c1 : (1 : Int) ≤ z.length := of_decide_eq_true c1
      refine ⟨_, _, rfl, rfl, _, rfl, ?_⟩
      refine ite2 (fun c2 => ?_) (fun c2 => ?_)
      · have c2 : (z.length : Int) ≤ 6 := of_decide_eq_true c2
        refine ⟨_, rfl, z, rfl, fun D hD => lc_it (walk_str (z := z)) (fun i H1 => H1 D = some (.lst (((z.cps.toList.take i).map okC).map V.bl)) ∧ Same H H1) ⟨upd_same, sameAt (Same.refl H) hD⟩ (fun _ _ _ _ => trivial) ?_ ?_⟩
        · rintro i x H1x H1 hi ⟨hD1, hs⟩ ⟨rfl, c, hc, rfl⟩
          have hc' : z.cps.toList[i]? = some c := by rw [Array.getElem?_toList]; exact hc
          have hlen : (z.cps.toList.take i).length ≤ 6 := by
            have : i < z.length := hi
            rw [List.length_take]
            omega
          have ok := okC_le c
          have fin : ∀ b : Bool, b = okC c → upd H1 D (.lst (((z.cps.toList.take i).map okC).map V.bl ++ [.bl b])) D = some (.lst (((z.cps.toList.take (i + 1)).map okC).map V.bl)) := fun b e => by
            rw [upd_same, list_take hc', List.map_append, List.map_append, e]
            rfl
          refine ⟨rfl, _, rfl, _, _, rfl, rfl, _, rfl, ite2 (fun k1 => ?_) (fun k1 => ?_)⟩
          · exact ⟨_, _, rfl, rfl, _, hD1, (by rw [List.length_map, List.length_map]; exact small1000 (by omega)), fin _ (by rw [← ok, show (!decide (([c] : List Nat) < [32])) = true from k1, Bool.true_and]; rfl), sameAt hs hD⟩
          · exact ⟨_, hD1, (by rw [List.length_map, List.length_map]; exact small1000 (by omega)), fin false (by rw [← ok, show (!decide (([c] : List Nat) < [32])) = false from Bool.eq_false_iff.mpr k1, Bool.false_and]), sameAt hs hD⟩
        · rintro H1 ⟨hD1, hs⟩
          have e : z.cps.toList.take z.cps.size = z.cps.toList := by rw [← Array.length_toList, List.take_length]
          rw [e] at hD1
          refine ⟨D, _, rfl, SqL.of hD1, ?_⟩
          have e2 : ((z.cps.toList.map okC).all id) = mkB z := by
            unfold mkB okS
            rw [decide_eq_true (show 1 ≤ z.length by omega), decide_eq_true (show z.length ≤ 6 by omega), Bool.true_and, Bool.true_and, List.all_map]
            rfl
          rw [e2]
          exact q _ hs
      · have c2 : ¬ (z.length : Int) ≤ 6 := fun h => c2 (decide_eq_true h)
        have := q H (Same.refl H)
        rw [bad (by omega)] at this
        exact this
    · have c1 : ¬ (1 : Int) ≤ z.length := fun h => c1 (decide_eq_true h)
      have := q H (Same.refl H)
      rw [bad (by omega)] at this
      exact ⟨_, rfl, iteF this⟩
abbrev s_is_shape : Stmt := topS 19
theorem sc_is_shape : FnScope ["thing", "fields", "found", "piece"] ["thing", "fields"] (defScope s_is_shape) := ⟨rfl, rfl, rfl, by decide +kernel, rfl, by decide +kernel, by decide +kernel⟩
structure G4 (P : Program) (w : World) (K : PySem.W.Frag) (mg : Str → Option Value) (base : Heap) : Prop where
  is_row : Cal P w K mg base CX0 "is_row" 1 ["thing"] (spIsRow K)
  is_mark : Cal P w K mg base CX0 "is_mark" 1 ["text"] spIsMark
theorem ok_is_shape {f : Addr} {fd : FuncData} (F : Fun K "is_shape" "is_shape" s_is_shape f fd) (B : Blt mg) (G : G4 P w K mg base) (g_MOST_PIECES : ∃ t, mg "MOST_PIECES" = some (.int 15 t)) : FnOk P w K mg base CX0 2 f fd ["thing", "fields"] (spIsShape K) := by
  obtain ⟨t2, g_MOST_PIECES⟩ := g_MOST_PIECES
  refine F.ok sc_is_shape (fun vs H Q E h => ?_) (fun cdv A outer s H vs Q E hr h => ?_)
  · obtain ⟨v, sh, a, w, rfl, _⟩ := h
    rfl
  · obtain ⟨v, sh, a, z, rfl, hv, ha, q⟩ := h
    refine ⟨_, (pss_cons (ps_if (PW.pt (pw_or (pt_not (pt_val (pe_cal G.is_row (hr.mono (by decide)) pass0 (pa_cons (pv 0) pa_nil)))) (pw_or1 (pt_not (pt_chain op_le op_le pe_int (pe_callB call_len_seq (by rfl) B.len (by decide +kernel) (pa_cons (pv 0) pa_nil)) (pe_glob (v := .int 15) (by rfl) g_MOST_PIECES ⟨_, rfl⟩))))))
      (pss_one (ps_ret pe_bl))
      pss_nil)
    (pss_cons (ps_set (i := 2) sc_is_shape.nd rfl (Or.inl rfl) (pe_lst pa_nil))
    (pss_cons (ps_for PassesOwn.never rfl (show PI _ _ _ (iAny K _) from pi_any (pv 0)) (pg_name (i := 3) sc_is_shape.nd rfl (Or.inl rfl))
      (pss_cons (ps_if (PW.pt (pw_or (pt_not (pt_val (pe_callB call_isi (by rfl) B.isinstance (by decide +kernel) (pa_cons (pv 3) (pa_cons (pe_bltn (v := .ty "tuple") (by rfl) B.tuple (by decide +kernel) rfl) pa_nil))))) (pw_or (pt_cmpR op_ne (pe_callB call_len_seq (by rfl) B.len (by decide +kernel) (pa_cons (pv 3) pa_nil)) pe_int (nomark _)) (pw_or1 (pt_not (pt_val (pe_callB call_isi (by rfl) B.isinstance (by decide +kernel) (pa_cons (pe_ix ix_tup (pv 3) pe_int (fun _ _ => rfl)) (pa_cons (pe_bltn (v := .ty "str") (by rfl) B.str (by decide +kernel) rfl) pa_nil)))))))))
        (pss_one (ps_ret pe_bl))
        pss_nil)
      (pss_one (ps_if (pt_cmpR op_eq (pe_ix ix_tup (pv 3) pe_int (fun _ _ => rfl)) pe_str (nomark _))
        (pss_one (ps_expr (pe_bm PySem.F.plainAttrs_list PySem.F.slot_list_append PySem.F.type_list_append mt_append (pv 2) (pa_cons (pe_ix ix_tup (pv 3) pe_int (fun _ _ => rfl)) pa_nil))))
        (pss_one (ps_if (PW.pt (pw_or (pt_cmpR op_ne (pe_ix ix_tup (pv 3) pe_int (fun _ _ => rfl)) pe_str (nomark _)) (pw_or1 (pt_not (pt_val (pe_cal G.is_mark (hr.mono (by decide)) pass0 (pa_cons (pe_ix ix_tup (pv 3) pe_int (fun _ _ => rfl)) pa_nil)))))))
          (pss_one (ps_ret pe_bl))
          pss_nil))))))
    (pss_one (ps_ret (pe_cmpR (op_eqD hr.units) (pe_callB cr_sortedS (by rfl) B.sorted (by decide +kernel) (pa_cons (pv 2) pa_nil)) (pe_callB cr_sortedST (by rfl) B.sorted (by decide +kernel) (pa_cons (pv 1) pa_nil)) (nomark _))))))), ?_⟩
    refine ⟨_, rfl, v, sh, rfl, hv, fun H1 s1 => ⟨_, rfl, ?_⟩⟩
    cases sh with
    | no => exact iteP rfl (q false H1 ⟨fun h => Bool.noConfusion h, fun h => h.elim⟩ s1)
    | row ps =>
      refine iteN rfl ?_
      obtain ⟨b, us, rfl, hb, hps, h20⟩ := hv.ev s1
      have ul := hps.len
      have no : (¬ (1 ≤ us.length ∧ us.length ≤ 15)) → ∀ H', Same H H' → Q (.bl false) H' := fun h H' s' => q false H' ⟨fun h => Bool.noConfusion h, fun g => absurd (show 1 ≤ us.length ∧ us.length ≤ 15 from ⟨by rw [ul]; exact g.1, by rw [ul]; exact g.2.1⟩) h⟩ s'
      have hsq : SqL K H1 b us ∨ SqT K H1 b us := hb.imp SqL.of SqT.of
      refine ⟨_, rfl, _, _, rfl, hsq, _, _, rfl, rfl, _, rfl, ?_⟩
      refine ite2 (fun c1 => ?_) (fun c1 => ⟨_, rfl, iteP rfl (no (fun h => c1 (decide_eq_true (by show (1 : Int) ≤ us.length; omega))) H1 s1)⟩)
      have c1 : (1 : Int) ≤ us.length := of_decide_eq_true c1
      refine ⟨_, _, rfl, rfl, _, rfl, ?_⟩
      by_cases c2 : (us.length : Int) ≤ 15
      rotate_left
      · exact iteP (by rw [decide_eq_false c2]; rfl) (no (fun h => c2 (by omega)) H1 s1)
      refine iteN (by rw [decide_eq_true c2]; rfl) ?_
      refine ⟨(by show 0 ≤ sizeLine; decide), fun l hl => ?_⟩
      have s2 := sameAt (o := .lst []) (Same.refl H1) hl
      have hps2 := hps.ev (Ev.same s2)
      have bad : ∀ (i : Nat) (p : Pc) H', ps[i]? = some p → pcF p = none → Same H H' → Q (.bl false) H' := fun i p H' h g s' => q false H' ⟨fun h => Bool.noConfusion h, fun ⟨_, _, fs, e, _⟩ => by rw [pcsF_bad h g] at e; cases e⟩ s'
      have lb : l ≠ b := fun z => by rcases hb with hb | hb <;> (rw [← z, hl] at hb; cases hb)
      have n0 : H l = none := none_of s1 hl
      rcases hb with hb | hb
      · have hb2 := s2 _ _ hb
        refine ⟨_, rfl, b, rfl, .inl ⟨⟨_, SqL.of hb2⟩, ?_⟩⟩
        refine for_it (walk_list (K := K) (a := b) (xs := us)) (fun i σ H2 => (∃ x3, σ = [some (.ref b), some (.ref a), some (.ref l), x3]) ∧ H2 b = some (.lst us) ∧ PcsAt K H2 us ps ∧ Same H H2 ∧ ∃ fs, pcsF (ps.take i) = some fs ∧ H2 l = some (.lst (fs.map V.str)) ∧ fs.length ≤ i ∧ ∀ x ∈ fs, okT x) ⟨⟨_, rfl⟩, hb2, hps2, s1.trans s2, [], rfl, upd_same, by decide, fun x hx => by cases hx⟩ (fun i σ H2 _ hv => SqL.of hv.2.1) ?_ ?_
        · rintro i y σ H2x H2 hi ⟨⟨x3, rfl⟩, hb3, hps3, s3, fs, hf, hl3, fl, fo⟩ ⟨rfl, hy⟩
          obtain ⟨p, hp, hpc⟩ := hps3.get hy
          have BAD := fun g H' s' => bad i p H' hp g s'
          cases p with
          | no =>
            obtain ⟨t, h1, h2⟩ := hpc
            exact ⟨_, rfl, _, _, _, _, _, rfl, .ty _, h1, h2, _, rfl, iteP rfl (BAD rfl _ s3)⟩
          | len =>
            obtain ⟨e, xs, rfl, h1, h2⟩ := hpc
            refine ⟨_, rfl, _, _, _, _, true, rfl, .ty _, .base (.tup h1), kit_ty (by decide +kernel), _, rfl, iteN rfl ⟨_, rfl, _, _, rfl, .inr (SqT.of h1), rfl, _, rfl, iteP ?_ (BAD rfl _ s3)⟩⟩
            rw [decide_eq_false fun z => h2 (by have := V.int.inj z; omega)]
            rfl
          | snd w =>
            obtain ⟨e, y2, t, rfl, h1, h2, h3⟩ := hpc
            exact ⟨_, rfl, _, _, _, _, true, rfl, .ty _, .base (.tup h1), kit_ty (by decide +kernel), _, rfl, iteN rfl ⟨_, rfl, _, _, rfl, .inr (SqT.of h1), rfl, _, rfl, iteN (two_ok rfl) ⟨_, rfl, _, _, _, _, rfl, rfl, SqT.of h1, rfl, _, _, _, _, _, rfl, .ty _, h2, h3, _, rfl, iteP rfl (BAD rfl _ s3)⟩⟩⟩
          | fst s0 =>
            obtain ⟨e, rfl, h1⟩ := hpc
            exact ⟨_, rfl, _, _, _, _, true, rfl, .ty _, .base (.tup h1), kit_ty (by decide +kernel), _, rfl, iteN rfl ⟨_, rfl, _, _, rfl, .inr (SqT.of h1), rfl, _, rfl, iteN (two_ok rfl) ⟨_, rfl, _, _, _, _, rfl, rfl, SqT.of h1, rfl, _, _, _, _, true, rfl, .ty _, .base (.str _), kit_ty (by decide +kernel), _, rfl, iteN rfl ⟨_, rfl, _, _, _, _, rfl, rfl, SqT.of h1, rfl, rfl, _, rfl, iteN (by decide) ⟨_, rfl, _, _, _, _, rfl, rfl, SqT.of h1, rfl, rfl, _, rfl, iteP (by decide) (BAD rfl _ s3)⟩⟩⟩⟩⟩
          | pr w0 s0 =>
            obtain ⟨e, rfl, h1, h100⟩ := hpc
            refine ⟨_, rfl, _, _, _, _, true, rfl, .ty _, .base (.tup h1), kit_ty (by decide +kernel), _, rfl, iteN rfl ⟨_, rfl, _, _, rfl, .inr (SqT.of h1), rfl, _, rfl, iteN (two_ok rfl) ⟨_, rfl, _, _, _, _, rfl, rfl, SqT.of h1, rfl, _, _, _, _, true, rfl, .ty _, .base (.str _), kit_ty (by decide +kernel), _, rfl, iteN rfl ⟨_, rfl, _, _, _, _, rfl, rfl, SqT.of h1, rfl, rfl, _, rfl, ?_⟩⟩⟩⟩
            by_cases cf : w0 = "field"
            · refine iteP (by rw [cf]; exact decide_eq_true rfl) ⟨_, rfl, .inl ⟨rfl, _, SqL.of hl3⟩, _, rfl, _, _, _, _, rfl, rfl, SqT.of h1, rfl, l, _, _, rfl, rfl, hl3, (by rw [List.length_map]; exact small1000 (by omega)), ⟨_, rfl⟩, ?_, hps3.ev ((Ev.refl H2).updL hl3), sameAt s3 n0, fs ++ [s0], ?_, ?_, ?_, fun x hx => ?_⟩
              · rw [upd_ne lb.symm]; exact hb3
              · subst cf
                refine pcsF_step hp hf ?_
                exact pcF_f
              · rw [upd_same, List.map_append]
                rfl
              · rw [List.length_append]
                show _ + 1 ≤ _
                omega
              · rcases List.mem_append.mp hx with hx | hx
                · exact fo x hx
                · rw [List.mem_singleton.mp hx]
                  exact h100
            · refine iteN (decide_eq_false fun z => cf (V.str.inj z)) ⟨_, rfl, _, _, _, _, rfl, rfl, SqT.of h1, rfl, rfl, _, rfl, ?_⟩
              by_cases cm : w0 = "mark"
              · refine iteN (by rw [cm]; decide) ⟨_, rfl, _, _, _, _, rfl, rfl, SqT.of h1, rfl, s0, rfl, h100.1, fun H3 s4 => ⟨_, rfl, ?_⟩⟩
                have PF : pcF (.pr w0 s0) = if mkB s0 = true then some [] else none := by
                  show (if w0 = "field" then some [s0] else if w0 = "mark" ∧ mkB s0 = true then some [] else none) = _
                  rw [if_neg cf, cm]
                  by_cases k : mkB s0 = true
                  · rw [if_pos ⟨rfl, k⟩, if_pos k]
                  · rw [if_neg (fun h => k h.2), if_neg k]
                cases hk : mkB s0 with
                | true =>
                  rw [if_pos hk] at PF
                  refine iteN rfl ⟨⟨_, rfl⟩, s4 _ _ hb3, hps3.ev (Ev.same s4), s3.trans s4, fs, ?_, s4 _ _ hl3, by omega, fo⟩
                  have := pcsF_step hp hf PF
                  rw [List.append_nil] at this
                  exact this
                | false =>
                  rw [if_neg (by rw [hk]; exact Bool.false_ne_true)] at PF
                  exact iteP rfl (BAD PF _ (s3.trans s4))
              · refine iteP (by rw [decide_eq_false fun z => cm (V.str.inj z)]; rfl) (BAD ?_ _ s3)
                show (if w0 = "field" then some [s0] else if w0 = "mark" ∧ mkB s0 = true then some [] else none) = _
                rw [if_neg cf, if_neg (fun h => cm h.1)]
        · rintro σ H2 ⟨⟨x3, rfl⟩, hb3, hps3, s3, fs, hf, hl3, fl, fo⟩
          rw [ul, List.take_length] at hf
          have fl6 := flds_len z
          refine ⟨_, rfl, l, fs, rfl, SqL.of hl3, by omega, fun ys p1 py sy hp1 => ⟨_, rfl, a, flds z, rfl, ?_, by omega, fun zs p2 pz sz hp2 => ?_⟩⟩
          · rcases ha with (h | ⟨o, h⟩) | h
            · exact .inl (.inl ((s3.trans (sameAt (Same.refl _) hp1)) _ _ h))
            · exact .inl (.inr ⟨o, (s3.trans (sameAt (Same.refl _) hp1)) _ _ h⟩)
            · exact .inr h
          have s5 := (sameAt (o := .lst (ys.map V.str)) (Same.refl H2) hp1).trans (sameAt (o := .lst (zs.map V.str)) (Same.refl _) hp2)
          have oy : ∀ x ∈ ys, PyData.strOk x = true := fun x hx => (fo x (py.mem_iff.mp hx)).2
          have oz : ∀ x ∈ zs, PyData.strOk x = true := fun x hx => (fl8 x (pz.mem_iff.mp hx)).2
          refine ⟨_, _, .lst (SqL.of ((sameAt (Same.refl _) hp2) _ _ upd_same)) (dp_strs ys), .lst (SqL.of upd_same) (dp_strs zs), strs_shaped oy, strs_shaped oz, q _ _ ⟨fun h => ?_, fun h => ?_⟩ (s3.trans s5)⟩
          · have e := eqv_strs.mp h
            subst e
            exact ⟨by rw [← ul]; omega, by rw [← ul]; omega, fs, hf, py.symm.trans pz⟩
          · obtain ⟨_, _, gs, hg, hp⟩ := h
            rw [hf] at hg
            cases hg
            exact eqv_strs.mpr (srt_uniq (fun _ _ => leS_anti) (srtS_pw sy) (srtS_pw sz) ((py.trans hp).trans pz.symm))
      · have hb2 := s2 _ _ hb
        refine ⟨_, rfl, b, rfl, .inr ⟨⟨_, SqT.of hb2⟩, ?_⟩⟩
        refine for_it (walk_tup (K := K) (a := b) (xs := us)) (fun i σ H2 => (∃ x3, σ = [some (.ref b), some (.ref a), some (.ref l), x3]) ∧ H2 b = some (.tup us) ∧ PcsAt K H2 us ps ∧ Same H H2 ∧ ∃ fs, pcsF (ps.take i) = some fs ∧ H2 l = some (.lst (fs.map V.str)) ∧ fs.length ≤ i ∧ ∀ x ∈ fs, okT x) ⟨⟨_, rfl⟩, hb2, hps2, s1.trans s2, [], rfl, upd_same, by decide, fun x hx => by cases hx⟩ (fun i σ H2 _ hv => SqT.of hv.2.1) ?_ ?_
        · rintro i y σ H2x H2 hi ⟨⟨x3, rfl⟩, hb3, hps3, s3, fs, hf, hl3, fl, fo⟩ ⟨rfl, hy⟩
          obtain ⟨p, hp, hpc⟩ := hps3.get hy
          have BAD := fun g H' s' => bad i p H' hp g s'
          cases p with
          | no =>
            obtain ⟨t, h1, h2⟩ := hpc
            exact ⟨_, rfl, _, _, _, _, _, rfl, .ty _, h1, h2, _, rfl, iteP rfl (BAD rfl _ s3)⟩
          | len =>
            obtain ⟨e, xs, rfl, h1, h2⟩ := hpc
            refine ⟨_, rfl, _, _, _, _, true, rfl, .ty _, .base (.tup h1), kit_ty (by decide +kernel), _, rfl, iteN rfl ⟨_, rfl, _, _, rfl, .inr (SqT.of h1), rfl, _, rfl, iteP ?_ (BAD rfl _ s3)⟩⟩
            rw [decide_eq_false fun z => h2 (by have := V.int.inj z; omega)]
            rfl
          | snd w =>
            obtain ⟨e, y2, t, rfl, h1, h2, h3⟩ := hpc
            exact ⟨_, rfl, _, _, _, _, true, rfl, .ty _, .base (.tup h1), kit_ty (by decide +kernel), _, rfl, iteN rfl ⟨_, rfl, _, _, rfl, .inr (SqT.of h1), rfl, _, rfl, iteN (two_ok rfl) ⟨_, rfl, _, _, _, _, rfl, rfl, SqT.of h1, rfl, _, _, _, _, _, rfl, .ty _, h2, h3, _, rfl, iteP rfl (BAD rfl _ s3)⟩⟩⟩
          | fst s0 =>
            obtain ⟨e, rfl, h1⟩ := hpc
            exact ⟨_, rfl, _, _, _, _, true, rfl, .ty _, .base (.tup h1), kit_ty (by decide +kernel), _, rfl, iteN rfl ⟨_, rfl, _, _, rfl, .inr (SqT.of h1), rfl, _, rfl, iteN (two_ok rfl) ⟨_, rfl, _, _, _, _, rfl, rfl, SqT.of h1, rfl, _, _, _, _, true, rfl, .ty _, .base (.str _), kit_ty (by decide +kernel), _, rfl, iteN rfl ⟨_, rfl, _, _, _, _, rfl, rfl, SqT.of h1, rfl, rfl, _, rfl, iteN (by decide) ⟨_, rfl, _, _, _, _, rfl, rfl, SqT.of h1, rfl, rfl, _, rfl, iteP (by decide) (BAD rfl _ s3)⟩⟩⟩⟩⟩
          | pr w0 s0 =>
            obtain ⟨e, rfl, h1, h100⟩ := hpc
            refine ⟨_, rfl, _, _, _, _, true, rfl, .ty _, .base (.tup h1), kit_ty (by decide +kernel), _, rfl, iteN rfl ⟨_, rfl, _, _, rfl, .inr (SqT.of h1), rfl, _, rfl, iteN (two_ok rfl) ⟨_, rfl, _, _, _, _, rfl, rfl, SqT.of h1, rfl, _, _, _, _, true, rfl, .ty _, .base (.str _), kit_ty (by decide +kernel), _, rfl, iteN rfl ⟨_, rfl, _, _, _, _, rfl, rfl, SqT.of h1, rfl, rfl, _, rfl, ?_⟩⟩⟩⟩
            by_cases cf : w0 = "field"
            · refine iteP (by rw [cf]; exact decide_eq_true rfl) ⟨_, rfl, .inl ⟨rfl, _, SqL.of hl3⟩, _, rfl, _, _, _, _, rfl, rfl, SqT.of h1, rfl, l, _, _, rfl, rfl, hl3, (by rw [List.length_map]; exact small1000 (by omega)), ⟨_, rfl⟩, ?_, hps3.ev ((Ev.refl H2).updL hl3), sameAt s3 n0, fs ++ [s0], ?_, ?_, ?_, fun x hx => ?_⟩
              · rw [upd_ne lb.symm]; exact hb3
              · subst cf
                refine pcsF_step hp hf ?_
                exact pcF_f
              · rw [upd_same, List.map_append]
                rfl
              · rw [List.length_append]
                show _ + 1 ≤ _
                omega
              · rcases List.mem_append.mp hx with hx | hx
                · exact fo x hx
                · rw [List.mem_singleton.mp hx]
                  exact h100
            · refine iteN (decide_eq_false fun z => cf (V.str.inj z)) ⟨_, rfl, _, _, _, _, rfl, rfl, SqT.of h1, rfl, rfl, _, rfl, ?_⟩
              by_cases cm : w0 = "mark"
              · refine iteN (by rw [cm]; decide) ⟨_, rfl, _, _, _, _, rfl, rfl, SqT.of h1, rfl, s0, rfl, h100.1, fun H3 s4 => ⟨_, rfl, ?_⟩⟩
                have PF : pcF (.pr w0 s0) = if mkB s0 = true then some [] else none := by
                  show (if w0 = "field" then some [s0] else if w0 = "mark" ∧ mkB s0 = true then some [] else none) = _
                  rw [if_neg cf, cm]
                  by_cases k : mkB s0 = true
                  · rw [if_pos ⟨rfl, k⟩, if_pos k]
                  · rw [if_neg (fun h => k h.2), if_neg k]
                cases hk : mkB s0 with
                | true =>
                  rw [if_pos hk] at PF
                  refine iteN rfl ⟨⟨_, rfl⟩, s4 _ _ hb3, hps3.ev (Ev.same s4), s3.trans s4, fs, ?_, s4 _ _ hl3, by omega, fo⟩
                  have := pcsF_step hp hf PF
                  rw [List.append_nil] at this
                  exact this
                | false =>
                  rw [if_neg (by rw [hk]; exact Bool.false_ne_true)] at PF
                  exact iteP rfl (BAD PF _ (s3.trans s4))
              · refine iteP (by rw [decide_eq_false fun z => cm (V.str.inj z)]; rfl) (BAD ?_ _ s3)
                show (if w0 = "field" then some [s0] else if w0 = "mark" ∧ mkB s0 = true then some [] else none) = _
                rw [if_neg cf, if_neg (fun h => cm h.1)]
        · rintro σ H2 ⟨⟨x3, rfl⟩, hb3, hps3, s3, fs, hf, hl3, fl, fo⟩
          rw [ul, List.take_length] at hf
          have fl6 := flds_len z
          refine ⟨_, rfl, l, fs, rfl, SqL.of hl3, by omega, fun ys p1 py sy hp1 => ⟨_, rfl, a, flds z, rfl, ?_, by omega, fun zs p2 pz sz hp2 => ?_⟩⟩
          · rcases ha with (h | ⟨o, h⟩) | h
            · exact .inl (.inl ((s3.trans (sameAt (Same.refl _) hp1)) _ _ h))
            · exact .inl (.inr ⟨o, (s3.trans (sameAt (Same.refl _) hp1)) _ _ h⟩)
            · exact .inr h
          have s5 := (sameAt (o := .lst (ys.map V.str)) (Same.refl H2) hp1).trans (sameAt (o := .lst (zs.map V.str)) (Same.refl _) hp2)
          have oy : ∀ x ∈ ys, PyData.strOk x = true := fun x hx => (fo x (py.mem_iff.mp hx)).2
          have oz : ∀ x ∈ zs, PyData.strOk x = true := fun x hx => (fl8 x (pz.mem_iff.mp hx)).2
          refine ⟨_, _, .lst (SqL.of ((sameAt (Same.refl _) hp2) _ _ upd_same)) (dp_strs ys), .lst (SqL.of upd_same) (dp_strs zs), strs_shaped oy, strs_shaped oz, q _ _ ⟨fun h => ?_, fun h => ?_⟩ (s3.trans s5)⟩
          · have e := eqv_strs.mp h
            subst e
            exact ⟨by rw [← ul]; omega, by rw [← ul]; omega, fs, hf, py.symm.trans pz⟩
          · obtain ⟨_, _, gs, hg, hp⟩ := h
            rw [hf] at hg
            cases hg
            exact eqv_strs.mpr (srt_uniq (fun _ _ => leS_anti) (srtS_pw sy) (srtS_pw sz) ((py.trans hp).trans pz.symm))
end
end Ash

set_option Elab.async false
set_option linter.all false
set_option maxRecDepth 100000
set_option maxHeartbeats 4000000
namespace L2
open PySem PySem.Spec PyProof.Rows
/-! ### xs.remove(z) of texts -/
def eqZ (z : Str) (v : Value) : Bool := match v with
  | .str y _ => y.cps.toList == z.cps.toList
  | _ => false
theorem eqZ_ok {z : Str} {t : Tok} : ∀ {us : List Value} {ys : List Str}, StrsAre us ys → ∀ v ∈ us, MeetsSeq.EqGives v (.str z t) (eqZ z v)
  | _, _, .nil, v, hv => by cases hv
  | _, _, .cons y t' g, v, hv => by
    rcases List.mem_cons.mp hv with rfl | hv
    · exact SeqRoads2.EqGives.str y z t' t
    · exact eqZ_ok g v hv
theorem erase_mapS (l : List Str) (j : Nat) : (l.map V.str).eraseIdx j = (l.eraseIdx j).map V.str := by
  induction l generalizing j with
  | nil => simp
  | cons a r ih =>
    cases j with
    | zero => simp
    | succ j => simp [ih j]
theorem cps_inj {a b : Str} (h : a.cps.toList = b.cps.toList) : a = b := by
  obtain ⟨x⟩ := a
  obtain ⟨y⟩ := b
  have h : x.toList = y.toList := h
  rw [Array.toList_inj.mp h]
def rRemS : V → List V → Hp → VK → Prop := fun x vs H Q => ∃ (l : Addr) (ys : List Str) (z : Str) (j : Nat), x = .ref l ∧ vs = [.str z] ∧ H l = some (.lst (ys.map V.str)) ∧ ys[j]? = some z ∧ (∀ m : Nat, m < j → ys[m]? ≠ some z) ∧ Q .non (upd H l (.lst ((ys.eraseIdx j).map V.str)))
theorem mt_removeS {X : Cx} : MtM X "list.remove" rRemS := by
  intro pins s σ H x vs v us Q I rx rvs h
  obtain ⟨l, ys, z, j, rfl, rfl, hH, hj, first, q⟩ := h
  cases rx
  obtain ⟨u, rfl, t, rfl⟩ := rvs.one
  obtain ⟨zz, its, n, rv, hl, e⟩ := I.lstM hH
  have hs := rv.strs
  rw [List.length_map] at hl zz
  have jn : j < ys.length := (List.getElem?_eq_some_iff.mp hj).1
  have jl : j < its.toArray.size := by rw [List.size_toArray]; omega
  have at_ : ∀ m y, ys[m]? = some y → ∀ hm : m < its.toArray.size, eqZ z its.toArray[m] = (y.cps.toList == z.cps.toList) := fun m y hy hm => by
    obtain ⟨tm, g⟩ := hs.get m y hy
    obtain ⟨g1, g2⟩ := List.getElem?_eq_some_iff.mp g
    rw [show its.toArray[m] = Value.str y tm by simpa using g2]
    rfl
  refine call_meets PySem.F.slot_list_remove ⟨_, e, rfl⟩ PySem.F.entry_list_remove (PySem.F.args_list_remove_2 _ _)
    (MeetsSeq.list_remove l its.toArray n (.str z t) (eqZ z) (fun y hy => eqZ_ok hs y (List.mem_toArray.mp hy)) j jl (by rw [at_ j z hj jl]; exact beq_self_eq_true _) (fun m hm hmj => ?_) (by rw [List.size_toArray]; omega)) ⟨e, ?_⟩
  · have mn : m < ys.length := by omega
    rw [at_ m _ (List.getElem?_eq_getElem mn) hm]
    refine beq_eq_false_iff_ne.mpr fun g => first m hmj ?_
    rw [List.getElem?_eq_getElem mn, cps_inj g]
  · have rr := rv.eraseIdx j
    rw [erase_mapS] at rr
    refine ⟨.non, _, I.lset (its' := its.eraseIdx j) (t' := s.toks) hH e (by show its.toArray.eraseIdxIfInBounds j = (its.eraseIdx j).toArray; rw [List.eraseIdxIfInBounds_toArray]) rr ?_, rfl, q⟩
    have z2 := len_erase ys j
    rw [List.length_map]
    omega
end L2

set_option Elab.async false
set_option linter.all false
set_option maxRecDepth 100000
set_option maxHeartbeats 4000000
set_option pp.maxSteps 1500
namespace L2
open PySem PySem.Spec PyProof.Rows
/-- a walk, whatever is done in a turn -/
theorem w_it {J : It} {n : Nat} {G : Hp → Prop} {Y : Nat → Hp → V → Hp → Prop} (w : Walk J n G Y) {Nx : Hp → Prop} {Bd : V → Hp → (Hp → Prop) → Prop} {H1 : Hp} (Pv : Nat → Hp → Prop) (h0 : Pv 0 H1) (hG : ∀ i H, i ≤ n → Pv i H → G H)
    (hs : ∀ i x H H', i < n → Pv i H → Y i H x H' → Bd x H' (Pv (i + 1))) (hd : ∀ H, Pv n H → Nx H) :
    ∃ W : Nat → Nat → Hp → Prop, (∃ m, W 0 m H1) ∧ ∀ i m H, W i m H →
      (J.stop i H ∧ Nx H) ∨ (J.go i H ∧ ∃ N : Hp → Prop, (∀ H', N H' → ∃ m', m' < m ∧ W (i + 1) m' H') ∧ ∀ x H', J.yld i H x H' → Bd x H' N) := by
  refine ⟨fun i m H => m = n - i ∧ i ≤ n ∧ Pv i H, ⟨n, by simp, Nat.zero_le _, h0⟩, ?_⟩
  rintro i m H ⟨rfl, hi, p⟩
  have q := hG i H hi p
  by_cases hlt : i < n
  · refine .inr ⟨w.goes i H hlt q, Pv (i + 1), fun H' p' => ⟨n - (i + 1), by omega, rfl, hlt, p'⟩, fun x H' y => hs i x H H' hlt p (w.yields i H x H' hlt q y)⟩
  · have e : i = n := by omega
    subst e
    exact .inl ⟨w.stops H q, hd H p⟩
end L2
namespace Ash
open PySem PySem.Spec PyProof.Rows L2
open C8 (pss_cut)
/-! ### forms -/
def RwA (H : Hp) (v : V) (us : List V) : Prop := ∃ a, v = .ref a ∧ (H a = some (.lst us) ∨ H a = some (.tup us))
/-- a form of these three rows -/
def FormAt (CF : Addr) (H : Hp) (b : Addr) (us1 us2 us3 : List V) : Prop := ∃ dx d t1 t2 t3, H b = some (.ins CF dx [("_shapes", .ref d)]) ∧ H d = some (.dK [(.inr "row", .ref t1), (.inr "fix", .ref t2), (.inr "gone", .ref t3)]) ∧ H t1 = some (.tup us1) ∧ H t2 = some (.tup us2) ∧ H t3 = some (.tup us3)
def Keep (b : Addr) (H H' : Hp) : Prop := ∀ c o, H c = some o → c ≠ b → H' c = some o
theorem par_value : PySem.BadX.Par "value" := ⟨by decide, by decide +kernel, by decide +kernel, by decide +kernel, by decide +kernel⟩
def Xd (H : Hp) (d : Addr) (fl : Str) (v : V) : Prop := H d = some (.xd [(fl, v)])
def rTupOf (K : PySem.W.Frag) : List V → Hp → VK → Prop := fun xs H Q => ∃ p ys, xs = [.ref p] ∧ ((SqL K H p ys ∧ ∀ l, H l = none → Q (.ref l) (upd H l (.tup ys))) ∨ (SqT K H p ys ∧ Q (.ref p) H))
/-- the fields of the words -/
structure Fl (K : PySem.W.Frag) (w : World) (mg : Str → Option Value) (aF : Addr) : Prop where
  g : mg "FIELDS" = some (.ref aF)
  k : ∀ z : Str, z = "row" ∨ z = "fix" ∨ z = "gone" → ∃ a, KDct K w aF z (.ref a) ∧ ∀ H, SqT K H a ((flds z).map V.str)
theorem RwA.of {K : PySem.W.Frag} {H : Hp} {v : V} {sh : Sh} {z : Str} (h : ShA K H v sh) (g : sh.good z) : ∃ us, RwA H v us := by
  cases sh with
  | row ps =>
    obtain ⟨a, us, h1, h2, _⟩ := h
    exact ⟨us, a, h1, h2⟩
  | no => exact g.elim
theorem RwA.same {H H' : Hp} {v : V} {us : List V} (h : RwA H v us) (s : Same H H') : RwA H' v us := by
  obtain ⟨a, h1, h2⟩ := h
  exact ⟨a, h1, h2.imp (s _ _) (s _ _)⟩
theorem tup_of {K : PySem.W.Frag} {H : Hp} {v : V} {us : List V} {Q : VK} (h : RwA H v us) (q : ∀ t H', Same H H' → H' t = some (.tup us) → Q (.ref t) H') : rTupOf K [v] H Q := by
  obtain ⟨a, rfl, h | h⟩ := h
  · exact ⟨a, us, rfl, .inl ⟨SqL.of h, fun l hl => q l _ (sameAt (Same.refl _) hl) upd_same⟩⟩
  · exact ⟨a, us, rfl, .inr ⟨SqT.of h, q a H (Same.refl _) h⟩⟩
theorem tup_call {K : PySem.W.Frag} {σ : L2.St} {H : Hp} {v : V} {us : List V} {Q : VK} {i : Nat} (hv : ∀ R : VK, R v H → tVar i σ H R) (h : RwA H v us) (q : ∀ t H', Same H H' → H' t = some (.tup us) → Q (.ref t) H') : tCB (rTupOf K) (tCons (tVar i) tNil) σ H Q :=
  hv _ (tup_of h q)
theorem sameAt2 {H H' : Hp} {q : Addr} {o : HO} (s : Same H H') (h : H q = none) : Same H (upd H' q o) := sameAt s h
def spFormInit (K : PySem.W.Frag) (CF CE : Addr) : Sp := fun vs H Q E => ∃ (b dx : Addr) (v1 v2 v3 : V) (s1 s2 s3 : Sh), vs = [.ref b, v1, v2, v3] ∧ H b = some (.ins CF dx []) ∧ ShA K H v1 s1 ∧ ShA K H v2 s2 ∧ ShA K H v3 s3 ∧
  ((s1.good "row" ∧ s2.good "fix" ∧ s3.good "gone" ∧ ∀ us1 us2 us3 H', RwA H v1 us1 → RwA H v2 us2 → RwA H v3 us3 → FormAt CF H' b us1 us2 us3 → Keep b H H' → Q .non H') ∨
   (∃ w : Str, (¬ s1.good "row" ∧ w = "row" ∨ s1.good "row" ∧ ¬ s2.good "fix" ∧ w = "fix" ∨ s1.good "row" ∧ s2.good "fix" ∧ ¬ s3.good "gone" ∧ w = "gone") ∧ ∀ d H', Keep b H H' → Xd H' d "value" (.str w) → E (.ref CE) (some d) H'))
section
variable {P : Program} {w : World} {K : PySem.W.Frag} {mg : Str → Option Value} {base : Heap}
structure G6 (P : Program) (w : World) (K : PySem.W.Frag) (mg : Str → Option Value) (base : Heap) : Prop where
  is_shape : Cal P w K mg base CX0 "is_shape" 2 ["thing", "fields"] (spIsShape K)
abbrev s_Form_init : Stmt := inClass (topS 18) 0
theorem sc_Form_init : FnScope ["self", "row", "fix", "gone", "shapes", "word", "shape"] ["self", "row", "fix", "gone"] (defScope s_Form_init) := ⟨rfl, rfl, rfl, by decide +kernel, rfl, by decide +kernel, by decide +kernel⟩
theorem ok_form {f CF CE fE a_FIELDS : Addr} {fd : FuncData} (F : Fun K "__init__" "Form.__init__" s_Form_init f fd) (B : Blt mg) (G : G6 P w K mg base) (TE : PySem.BadX.Txt P K mg "value" "value" CE fE) (c_BadForm : mg "BadForm" = some (.ref CE)) (L : Fl K w mg a_FIELDS) (cF : Cls K CF) (nF : NoAttr K CF "_shapes") : FnOk P w K mg base (L2.CX P w) 3 f fd ["self", "row", "fix", "gone"] (spFormInit K CF CE) := by
  have g_FIELDS := L.g
  refine F.okX sc_Form_init (fun vs H Q E h => ?_) (fun cdv A outer s H vs Q E hr h => ?_)
  · obtain ⟨b, dx, v1, v2, v3, s1, s2, s3, rfl, _⟩ := h
    rfl
  · obtain ⟨b, dx, v1, v2, v3, s1, s2, s3, rfl, hb, h1, h2, h3, q⟩ := h
    have hu := hu_of hr
    refine ⟨_, (pss_cons (ps_set (i := 4) sc_Form_init.nd rfl (Or.inl rfl) (pe_disp (pps_cons pe_str (pv 1) (pps_cons pe_str (pv 2) (pps_cons pe_str (pv 3) pps_nil))) (by rfl) (by rfl) (fun z => by cases z) (by decide)))
    (pss_cons (ps_lock (ps_for (passes_of rfl) rfl (pi_items (pv 4)) (pg_tup (by rfl) (pgs_cons (pg_name (i := 5) sc_Form_init.nd rfl (Or.inl rfl)) (pgs_cons (pg_name (i := 6) sc_Form_init.nd rfl (Or.inl rfl)) pgs_nil)))
      (pss_one (ps_if (pt_not (pt_val (pe_cal G.is_shape (hr.mono (by decide)) pass0 (pa_cons (pv 6) (pa_cons (pe_ix ix_kdict (pe_glob (v := .ref a_FIELDS) (by rfl) g_FIELDS rfl) (pv 5) (fun _ _ => rfl)) pa_nil)))))
        (pss_one (ps_raiseB rfl TE par_value c_BadForm (hr.mono (Nat.zero_le _)) (takes_of rfl rfl rfl rfl) (pa_cons (pv 5) pa_nil) (by rfl)))
        pss_nil))))
    (pss_one (ps_fld (pv 0) (pe_lock (pe_dc (own := [("word", 5), ("shape", 6)]) (g := gTup K 2 (gCons (gName 5) (gCons (gName 6) gNil))) (tt := tYes) (by rfl) sc_Form_init.nd (pi_items (pv 4)) (blkOk_by (own := [("word", 5), ("shape", 6)]) (N := ["self", "row", "fix", "gone", "shapes", "word", "shape"]) (sc := defScope s_Form_init) (by decide +kernel)) (fun _ _ _ _ _ => (pg_tup (by rfl) (pgs_cons (pg_name (i := 5) sc_Form_init.nd rfl (Or.inl rfl)) (pgs_cons (pg_name (i := 6) sc_Form_init.nd rfl (Or.inl rfl)) pgs_nil)))) (fun _ _ _ _ _ => pts_nil) (fun _ _ _ _ _ => (pv 5)) (fun _ _ _ _ _ => (pe_callTy (show CallR _ (.type "tuple") (rTupOf K) from call_tuple_of) (by rfl) B.tuple (by decide +kernel) (pa_cons (pv 6) pa_nil))))) rfl)))), ?_⟩
    refine fun S hS => ⟨_, rfl, _, rfl, _, rfl, upd_same, [(.inr "row", v1), (.inr "fix", v2), (.inr "gone", v3)], rfl, (by show 3 ≤ 15; decide), ?_⟩
    have sS := sameAt (o := .dK (mergeK [] [(.inr "row", v1), (.inr "fix", v2), (.inr "gone", v3)])) (sameAt (o := .dK []) (Same.refl H) hS) hS
    generalize hH : upd (upd H S (.dK [])) S (.dK (mergeK [] [(.inr "row", v1), (.inr "fix", v2), (.inr "gone", v3)])) = H1 at sS ⊢
    have hS1 : H1 S = some (.dK [(.inr "row", v1), (.inr "fix", v2), (.inr "gone", v3)]) := by rw [← hH]; exact upd_same
    clear hH
    have nS : ∀ {c o}, H c = some o → c ≠ S := fun h e => by rw [e, hS] at h; cases h
    refine ⟨S, _, hS1, trivial, fun od => ⟨_, rfl, S, od, _, rfl, upd_same, ?_⟩⟩
    have sF : Same H (upd H1 S (.frz od (.dK [(.inr "row", v1), (.inr "fix", v2), (.inr "gone", v3)]))) := fun c o hc => by rw [upd_ne (nS hc)]; exact sS _ _ hc
    refine for_it (walk_items (kvs := [(.inr "row", v1), (.inr "fix", v2), (.inr "gone", v3)])) (fun i σ H' => (∃ x5 x6, σ = [some (.ref b), some v1, some v2, some v3, some (.ref S), x5, x6]) ∧ Same (upd H1 S (.frz od (.dK [(.inr "row", v1), (.inr "fix", v2), (.inr "gone", v3)]))) H' ∧ (0 < i → s1.good "row") ∧ (1 < i → s2.good "fix") ∧ (2 < i → s3.good "gone")) ⟨⟨_, _, rfl⟩, Same.refl _, fun h => absurd h (by decide), fun h => absurd h (by decide), fun h => absurd h (by decide)⟩ (fun i σ H' _ hv => hv.2.1 _ _ upd_same) ?_ ?_
    · rintro i v σ H3 H4 hi ⟨⟨x5, x6, rfl⟩, sx, g1, g2, g3⟩ ⟨Tt', x1, x2, rfl, hT, rfl, e1, e2⟩
      have hi : i < 3 := hi
      have key : ∃ (wi : Str) (shi : Sh), (wi = "row" ∨ wi = "fix" ∨ wi = "gone") ∧ x1 = .str wi ∧ ShA K H x2 shi ∧ (shi.good wi → (0 < i + 1 → s1.good "row") ∧ (1 < i + 1 → s2.good "fix") ∧ (2 < i + 1 → s3.good "gone")) ∧
          (¬ shi.good wi → (¬ s1.good "row" ∧ wi = "row" ∨ s1.good "row" ∧ ¬ s2.good "fix" ∧ wi = "fix" ∨ s1.good "row" ∧ s2.good "fix" ∧ ¬ s3.good "gone" ∧ wi = "gone")) := by
        match i, hi with
        | 0, _ =>
          cases (show some (V.str "row") = some x1 from e1)
          cases (show some v1 = some x2 from e2)
          exact ⟨"row", s1, .inl rfl, rfl, h1, fun h => ⟨fun _ => h, fun h => absurd h (by decide), fun h => absurd h (by decide)⟩, fun h => .inl ⟨h, rfl⟩⟩
        | 1, _ =>
          cases (show some (V.str "fix") = some x1 from e1)
          cases (show some v2 = some x2 from e2)
          exact ⟨"fix", s2, .inr (.inl rfl), rfl, h2, fun h => ⟨fun _ => g1 (by decide), fun _ => h, fun h => absurd h (by decide)⟩, fun h => .inr (.inl ⟨g1 (by decide), h, rfl⟩)⟩
        | 2, _ =>
          cases (show some (V.str "gone") = some x1 from e1)
          cases (show some v3 = some x2 from e2)
          exact ⟨"gone", s3, .inr (.inr rfl), rfl, h3, fun h => ⟨fun _ => g1 (by decide), fun _ => g2 (by decide), fun _ => h⟩, fun h => .inr (.inr ⟨g1 (by decide), g2 (by decide), h, rfl⟩)⟩
      obtain ⟨wi, shi, hw, rfl, hx2, good, bad⟩ := key
      obtain ⟨af, kf, tf⟩ := L.k wi hw
      have sT : Same H (upd H3 Tt' (.tup [.str wi, x2])) := (sF.trans sx).trans (sameAt (Same.refl _) hT)
      refine ⟨Tt', _, rfl, SqT.of upd_same, rfl, _, _, rfl, _, _, rfl, rfl, ?_⟩
      refine ⟨_, rfl, _, rfl, _, wi, .ref af, rfl, rfl, kf, x2, shi, af, wi, rfl, hx2.ev sT, tf _, fun bb H5 hbb s5 => ⟨_, rfl, ?_⟩⟩
      cases bb with
      | true =>
        obtain ⟨a1, a2, a3⟩ := good (hbb.mp rfl)
        exact iteN rfl ⟨⟨_, _, rfl⟩, (sx.trans (sameAt (Same.refl _) hT)).trans s5, a1, a2, a3⟩
      | false =>
        have ng : ¬ shi.good wi := fun h => Bool.noConfusion (hbb.mpr h)
        have bd := bad ng
        rcases q with ⟨G1, G2, G3, _⟩ | ⟨wq, hq, q⟩
        · rcases bd with ⟨h, _⟩ | ⟨_, h, _⟩ | ⟨_, _, h, _⟩
          · exact absurd G1 h
          · exact absurd G2 h
          · exact absurd G3 h
        · have ew : wq = wi := by
            rcases bd with ⟨h, e⟩ | ⟨h0, h, e⟩ | ⟨h0, h00, h, e⟩ <;> rcases hq with ⟨k, e'⟩ | ⟨k0, k, e'⟩ | ⟨k0, k00, k, e'⟩ <;> first | exact e'.trans e.symm | contradiction
          subst ew
          refine iteP rfl ⟨_, rfl, _, rfl, fun d hd => q d _ (fun c o hc _ => ?_) upd_same⟩
          exact ((sT.trans s5).trans (sameAt (Same.refl _) hd)) _ _ hc
    · rintro σ H2 ⟨⟨x5, x6, rfl⟩, sy, g1, g2, g3⟩
      have g1 := g1 (show 0 < 3 by decide)
      have g2 := g2 (show 1 < 3 by decide)
      have g3 := g3 (show 2 < 3 by decide)
      refine ⟨sy _ _ upd_same, ?_⟩
      have sU : Same H (upd H2 S (.dK [(.inr "row", v1), (.inr "fix", v2), (.inr "gone", v3)])) := fun c o hc => by rw [upd_ne (nS hc)]; exact sy _ _ (by rw [upd_ne (nS hc)]; exact sS _ _ hc)
      rcases q with ⟨_, _, _, q⟩ | ⟨wq, hq, _⟩
      rotate_left
      · exfalso
        rcases hq with ⟨k, _⟩ | ⟨_, k, _⟩ | ⟨_, _, k, _⟩
        · exact k g1
        · exact k g2
        · exact k g3
      obtain ⟨us1, r1⟩ := RwA.of h1 g1
      obtain ⟨us2, r2⟩ := RwA.of h2 g2
      obtain ⟨us3, r3⟩ := RwA.of h3 g3
      generalize hU : upd H2 S (.dK [(.inr "row", v1), (.inr "fix", v2), (.inr "gone", v3)]) = H5 at sU ⊢
      have hS5 : H5 S = some (.dK [(.inr "row", v1), (.inr "fix", v2), (.inr "gone", v3)]) := by rw [← hU]; exact upd_same
      clear hU
      refine ⟨S, _, hS5, trivial, fun od2 => ⟨_, rfl, S, od2, _, rfl, upd_same, fun D hD => ?_⟩⟩
      have sG : Same H (upd H5 S (.frz od2 (.dK [(.inr "row", v1), (.inr "fix", v2), (.inr "gone", v3)]))) := fun c o hc => by rw [upd_ne (nS hc)]; exact sU _ _ hc
      have hSD : S ≠ D := fun e => by rw [e, ← e, upd_same] at hD; cases hD
      have hbS : b ≠ S := nS hb
      have hbD : b ≠ D := fun e => by rw [← e, sG _ _ hb] at hD; cases hD
      refine w_it (walk_items (kvs := [(.inr "row", v1), (.inr "fix", v2), (.inr "gone", v3)])) (fun i H' => Same (upd H5 S (.frz od2 (.dK [(.inr "row", v1), (.inr "fix", v2), (.inr "gone", v3)]))) H' ∧ ∃ ks, H' D = some (.dK ks) ∧ (i = 0 → ks = []) ∧ (i = 1 → ∃ t1, ks = [(.inr "row", .ref t1)] ∧ H' t1 = some (.tup us1)) ∧ (i = 2 → ∃ t1 t2, ks = [(.inr "row", .ref t1), (.inr "fix", .ref t2)] ∧ H' t1 = some (.tup us1) ∧ H' t2 = some (.tup us2)) ∧
        (i = 3 → ∃ t1 t2 t3, ks = [(.inr "row", .ref t1), (.inr "fix", .ref t2), (.inr "gone", .ref t3)] ∧ H' t1 = some (.tup us1) ∧ H' t2 = some (.tup us2) ∧ H' t3 = some (.tup us3))) ⟨sameAt (Same.refl _) hD, [], upd_same, fun _ => rfl, fun h => (by cases h), fun h => (by cases h), fun h => (by cases h)⟩ (fun i H' _ hv => hv.1 _ _ upd_same) ?_ ?_
      · rintro i v H3 H4 hi ⟨sx, ks, hk, k0, k1, k2, k3⟩ ⟨Tt', x1, x2, rfl, hT, rfl, e1, e2⟩
        have hi : i < 3 := hi
        have sT := sameAt (o := .tup [x1, x2]) (Same.refl H3) hT
        have sH := (sG.trans sx).trans sT
        refine ⟨Tt', _, rfl, SqT.of upd_same, rfl, _, _, rfl, _, _, rfl, rfl, rfl, ?_⟩
        have dT : ∀ {t us}, H3 t = some (.tup us) → t ≠ D := fun h e => by rw [e, hk] at h; cases h
        match i, hi with
        | 0, _ =>
          cases (show some (V.str "row") = some x1 from e1)
          cases (show some v1 = some x2 from e2)
          cases k0 rfl
          refine ⟨_, rfl, tup_call (fun R h => ⟨_, rfl, h⟩) (r1.same sH) fun t H6 s6 ht => ⟨[], .inr "row", rfl, s6 _ _ (sT _ _ hk), (by decide), sameAt2 ((sx.trans sT).trans s6) hD, _, upd_same, fun h => (by cases h), fun _ => ⟨t, rfl, ?_⟩, fun h => (by cases h), fun h => (by cases h)⟩⟩
          rw [upd_ne (fun e => by rw [e, s6 _ _ (sT _ _ hk)] at ht; cases ht)]; exact ht
        | 1, _ =>
          cases (show some (V.str "fix") = some x1 from e1)
          cases (show some v2 = some x2 from e2)
          obtain ⟨t1, rfl, p1⟩ := k1 rfl
          refine ⟨_, rfl, tup_call (fun R h => ⟨_, rfl, h⟩) (r2.same sH) fun t H6 s6 ht => ⟨_, .inr "fix", rfl, s6 _ _ (sT _ _ hk), (by show 1 < sizeLine; decide), sameAt2 ((sx.trans sT).trans s6) hD, _, upd_same, fun h => (by cases h), fun h => (by cases h), fun _ => ⟨t1, t, rfl, ?_, ?_⟩, fun h => (by cases h)⟩⟩
          · rw [upd_ne (dT p1)]; exact s6 _ _ (sT _ _ p1)
          · rw [upd_ne (fun e => by rw [e, s6 _ _ (sT _ _ hk)] at ht; cases ht)]; exact ht
        | 2, _ =>
          cases (show some (V.str "gone") = some x1 from e1)
          cases (show some v3 = some x2 from e2)
          obtain ⟨t1, t2, rfl, p1, p2⟩ := k2 rfl
          refine ⟨_, rfl, tup_call (fun R h => ⟨_, rfl, h⟩) (r3.same sH) fun t H6 s6 ht => ⟨_, .inr "gone", rfl, s6 _ _ (sT _ _ hk), (by show 2 < sizeLine; decide), sameAt2 ((sx.trans sT).trans s6) hD, _, upd_same, fun h => (by cases h), fun h => (by cases h), fun h => (by cases h), fun _ => ⟨t1, t2, t, rfl, ?_, ?_, ?_⟩⟩⟩
          · rw [upd_ne (dT p1)]; exact s6 _ _ (sT _ _ p1)
          · rw [upd_ne (dT p2)]; exact s6 _ _ (sT _ _ p2)
          · rw [upd_ne (fun e => by rw [e, s6 _ _ (sT _ _ hk)] at ht; cases ht)]; exact ht
      · rintro H3 ⟨sx, ks, hk, _, _, _, k3⟩
        obtain ⟨t1, t2, t3, rfl, p1, p2, p3⟩ := k3 rfl
        have hSS := sx _ _ upd_same
        have hb3 := (sG.trans sx) _ _ hb
        have tS : ∀ {t us}, H3 t = some (.tup us) → t ≠ S ∧ t ≠ b := fun h => ⟨fun e => (by rw [e, hSS] at h; cases h), fun e => (by rw [e, hb3] at h; cases h)⟩
        refine ⟨hSS, _, rfl, b, CF, dx, [], rfl, by rw [upd_ne hbS]; exact hb3, cF, nF, (by decide), q us1 us2 us3 _ r1 r2 r3 ⟨dx, D, t1, t2, t3, upd_same, ?_, ?_, ?_, ?_⟩ (fun c o hc hn => ?_)⟩
        · rw [upd_ne hbD.symm, upd_ne hSD.symm]; exact hk
        · rw [upd_ne (tS p1).2, upd_ne (tS p1).1]; exact p1
        · rw [upd_ne (tS p2).2, upd_ne (tS p2).1]; exact p2
        · rw [upd_ne (tS p3).2, upd_ne (tS p3).1]; exact p3
        · rw [upd_ne hn, upd_ne (nS hc)]; exact (sG.trans sx) _ _ hc
end
end Ash

set_option Elab.async false
set_option linter.all false
set_option maxRecDepth 100000
set_option maxHeartbeats 4000000
namespace L2
open PySem PySem.Spec PyProof.Rows
section
variable {X : Cx} {C fI : Addr} {par fl : Str}
/-- n.f in the suite that caught an own error with the one field fl -/
def tByB (fl : Str) (C a : Addr) (cls : Value) (d : Option Addr) (te : TE) : TE := fun σ H Q => te σ H fun x H1 => x = .ref a ∧ cls = .ref C ∧ ∃ (dd : Addr) (v : V), d = some dd ∧ H1 dd = some (.xd [(fl, v)]) ∧ Q v H1
theorem pe_byB {a : Addr} {oe : Obj} {cls : Value} {d : Option Addr} {pn : List (Addr × Obj)} {e : Expr} {te : TE} {pos : Pos} (T : PySem.BadX.Txt X.prog X.K X.mg par fl C fI) (hz : Zc cls d oe) (hf : ∃ vs, oe.data = .fields vs) (he : PE (X.suite a ((a, oe) :: pn)) e te)
    (hb : attributeBase e fl X.env (eval e X.env) = eval e X.env := by rfl) :
    PE (X.suite a ((a, oe) :: pn)) (.Attribute e fl pos) (tByB fl C a cls d te) := by
  refine ⟨fun pins s σ H Q I h => ?_⟩
  refine attr_of hb (thn (he.run pins s σ H _ I h) fun u s1 hh => ?_)
  obtain ⟨x, H1, I1, rx, ex, ec, dd, v, ed, ea, q⟩ := hh
  subst ex
  obtain rfl : u = Value.ref a := rx
  subst ec
  subst ed
  obtain ⟨ha, _⟩ := I1.pin (a, oe) (List.mem_append_left _ List.mem_cons_self)
  obtain ⟨vs, hd⟩ := hf
  have hx : ObjOk X.prog X.w H1 s1.heap dd (.xd [(fl, v)]) := I1.hok dd _ ea
  obtain ⟨mA, hns, hr⟩ := hx
  obtain ⟨od, ho, hl⟩ := lookIn_ns hns
  have l : List.lookup fl [(fl, v)] = some v := by simp [List.lookup]
  obtain ⟨u, hu, ru⟩ := RelO.some_of (v := v) (o := mA fl) (by rw [← l]; exact hr fl)
  have J : PySem.W.InstAt s1.heap a oe C (some od) := ⟨ha, hz.1, by unfold PySem.W.notCls; rw [hd] <;> rfl, by rw [hz.2]; exact ho⟩
  exact HandSPX.exc_get I1.kIn J T.ga T.gg T.exC (PySem.W.findObj_own T.hdC T.noN rfl (by rw [hl, hu])) (handed_of ru) ⟨v, H1, I1.tok _, ru, q⟩
end
end L2
namespace Ash
open PySem PySem.Spec PyProof.Rows L2
open C8 (pss_cut)
/-- what is wanted of an exception at any n slots -/
def WEn (n : Nat) (W : WX) : XK := fun cls d H => ∀ σ : L2.St, σ.length = n → W cls d σ H
theorem passN {X : Cx} {W : WX} {n : Nat} (hn : X.N.length = n) (tk : Takes X W) : Passes (L2.CX X.prog X.w) X (WEn n W) := fun _ σ _ _ e s' I c => tk e s' (XE.of_call I (fun cls d H' h => h σ (I.len.trans hn)) c)
section
variable {X : Cx} {CX : CXT} {k : Nat} {ps : List Str} {sp : Sp} {E : XK} {o e : Expr} {es : List Expr} {ta : TE} {t : TA} {C : Addr} {m : Str} {apos pos : Pos}
theorem pe_met {pl : Sem Bool} (c : Cls X.K C) (G : Met X.prog X.w X.K X.mg X.base CX C m k ps sp) (hr : Room k X.A) (hx : Passes CX X E) (ho : PE X o ta) (ha : PA X (e :: es) t) 
    (he : starEach (e :: es) X.env = (false, eval e X.env) :: starEach es X.env := by rfl) (hpl : (backTo pos (starEach es X.env)).any (·.1) = false := by rfl)
    (ht : eval (.Call (.Attribute o m apos) (e :: es) [] pos) X.env = (do
      let ov ← eval o X.env
      standAt apos.atName
      let (f, first) ← holding [ov] (getMethod ov m pl)
      callWith pos f first (backTo pos (starEach (e :: es) X.env)) (backToKw pos (keywordEach [] X.env))) := by rfl) :
    PE X (.Call (.Attribute o m apos) (e :: es) [] pos) (tMeth C m sp [] E ta t) := by
  obtain ⟨f, fd, hm, hb, F⟩ := G.ex
  exact pe_meth ho c hm F hr hb .nil hx ha he hpl ht
end
section
variable {X : Cx} {CX : CXT} {k : Nat} {ps : List Str} {sp : Sp} {E : L2.St → XK} {o e : Expr} {es : List Expr} {ta : TE} {t : TA} {C : Addr} {m : Str} {apos pos : Pos}
/-- o.m(e, ..), what is raised being wished for at the caller's slots -/
def tMethS (C : Addr) (m : Str) (sp : Sp) (E : L2.St → XK) (ta : TE) (t : TA) : TE := fun σ H Q => ta σ H fun x H1 => ∃ a dx fs, x = .ref a ∧ H1 a = some (.ins C dx fs) ∧ fs.lookup m = none ∧ t σ H1 fun vs H2 => sp (x :: (vs ++ [])) H2 Q (E σ)
theorem pe_metS {pl : Sem Bool} (c : Cls X.K C) (G : Met X.prog X.w X.K X.mg X.base CX C m k ps sp) (hr : Room k X.A) (hx : ∀ σ, PassesAt CX X σ (E σ)) (ho : PE X o ta) (ha : PA X (e :: es) t) 
    (he : starEach (e :: es) X.env = (false, eval e X.env) :: starEach es X.env := by rfl) (hpl : (backTo pos (starEach es X.env)).any (·.1) = false := by rfl)
    (ht : eval (.Call (.Attribute o m apos) (e :: es) [] pos) X.env = (do
      let ov ← eval o X.env
      standAt apos.atName
      let (f, first) ← holding [ov] (getMethod ov m pl)
      callWith pos f first (backTo pos (starEach (e :: es) X.env)) (backToKw pos (keywordEach [] X.env))) := by rfl) :
    PE X (.Call (.Attribute o m apos) (e :: es) [] pos) (tMethS C m sp E ta t) := by
  obtain ⟨f, fd, hm, hb, F⟩ := G.ex
  refine ⟨fun pins s σ H Q I h => PySem.W.methodCall_KW (pl := pl) (thn (ho.run pins s σ H _ I h) fun u s1 ⟨x, H1, I1, rx, a, dx, fs, ex, ea, l, q⟩ => ?_) ht⟩
  cases ex
  cases (show u = Value.ref a from rx)
  refine getmeth_ok I1 ea c hm l (PySem.W.callWith_K (first := [.ref a]) (h₀ := X.base) I.ok.mod.kin hm.kp (thn (ha.run pos pins s1 σ H1 _ I1 q) fun us s2 ⟨vs, H2, I2, r, q2⟩ => ⟨I2.kIn, ?_⟩) he hpl)
  exact run_fnSD (us := .ref a :: us) (vs := .ref a :: vs) F hr hb .nil (hx σ) I2 (.cons rfl r) q2
theorem pe_metS0 {pl : Sem Bool} (c : Cls X.K C) (G : Met X.prog X.w X.K X.mg X.base CX C m k ps sp) (hr : Room k X.A) (hx : ∀ σ, PassesAt CX X σ (E σ)) (ho : PE X o ta)
    (ht : eval (.Call (.Attribute o m apos) [] [] pos) X.env = (do
      let ov ← eval o X.env
      standAt apos.atName
      let (f, first) ← holding [ov] (getMethod ov m pl)
      callWith pos f first (backTo pos (starEach [] X.env)) (backToKw pos (keywordEach [] X.env))) := by rfl) :
    PE X (.Call (.Attribute o m apos) [] [] pos) (tMethS C m sp E ta tNil) := by
  obtain ⟨f, fd, hm, hb, F⟩ := G.ex
  refine ⟨fun pins s σ H Q I h => PySem.W.methodCall_KW (pl := pl) (thn (ho.run pins s σ H _ I h) fun u s1 ⟨x, H1, I1, rx, a, dx, fs, ex, ea, l, q⟩ => ?_) ht⟩
  cases ex
  cases (show u = Value.ref a from rx)
  exact getmeth_ok I1 ea c hm l (PySem.W.callWith_K0 (first := [.ref a]) I1.kIn hm.kp (run_fnSD (us := [.ref a]) (vs := [.ref a]) F hr hb .nil (hx σ) I1 (.cons rfl .nil) q))
end
section
variable {X : Cx} {CX : CXT} {k : Nat} {ps : List Str} {sp : Sp} {E : XK} {o : Expr} {ta : TE} {C : Addr} {m : Str} {apos pos : Pos}
theorem pe_met0 {pl : Sem Bool} (c : Cls X.K C) (G : Met X.prog X.w X.K X.mg X.base CX C m k ps sp) (hr : Room k X.A) (hx : Passes CX X E) (ho : PE X o ta) 
    (ht : eval (.Call (.Attribute o m apos) [] [] pos) X.env = (do
      let ov ← eval o X.env
      standAt apos.atName
      let (f, first) ← holding [ov] (getMethod ov m pl)
      callWith pos f first (backTo pos (starEach [] X.env)) (backToKw pos (keywordEach [] X.env))) := by rfl) :
    PE X (.Call (.Attribute o m apos) [] [] pos) (tMeth C m sp [] E ta tNil) := by
  obtain ⟨f, fd, hm, hb, F⟩ := G.ex
  exact pe_meth0 ho c hm F hr hb .nil hx ht
end
section
variable {X : Cx} {CX : CXT} {k : Nat} {ps : List Str} {sp : Sp} {E : XK} {x : Str} {p pos : Pos} {e : Expr} {es : List Expr} {t : TA}
structure MakD (P : Program) (w : World) (K : PySem.W.Frag) (mg : Str → Option Value) (base : Heap) (CX : CXT) (x : Str) (C : Addr) (k : Nat) (ps : List Str) (dv : V) (sp : Sp) : Prop where
  ex : ∃ f fd u, Mk K C f ∧ mg x = some (.ref C) ∧ Binds K fd ps [u] ∧ RelV dv u ∧ FnOk P w K mg base CX k f fd ps sp
section
variable {X : Cx} {CX : CXT} {k j : Nat} {ps : List Str} {sp : Sp} {E : XK} {x : Str} {p pos : Pos} {e : Expr} {es : List Expr} {t : TA}
theorem pe_makD {C : Addr} {dv : V} (G : MakD X.prog X.w X.K X.mg X.base CX x C k ps dv sp) (hr : Room (k + 1) X.A) (hx : Passes CX X E) (ha : PA X (e :: es) t) (hg : Gl X x := by rfl)
    (hdb : (x == ("__debug__" : Str)) = false := by decide) (he : starEach (e :: es) X.env = (false, eval e X.env) :: starEach es X.env := by rfl) (hpl : (backTo pos (starEach es X.env)).any (·.1) = false := by rfl) :
    PE X (.Call (.Name x p) (e :: es) [] pos) (tMake C sp [dv] E t) := by
  obtain ⟨f, fd, u, M, hm, hb, hv, F⟩ := G.ex
  exact pe_make M F hr hg hm hb (.cons hv .nil) hx ha hdb he hpl
end
end
end Ash

set_option Elab.async false
set_option linter.all false
set_option maxRecDepth 100000
set_option maxHeartbeats 4000000
namespace L2
open PySem PySem.Spec PyProof.Rows
section
variable {X : Cx} {k : Nat} {CX : CXT} {f C : Addr} {fd : FuncData} {ps : List Str} {sp : Sp} {E : St → XK} {e : Expr} {es : List Expr} {x : Str} {t : TA} {pos p : Pos}
/-- C(..) at the slots of the place -/
theorem makAt {pins : List (Addr × Obj)} {σ : St} {H : Hp} {s : Shared} {Q : VK} {us : List Value} {vs : List V} (M : Mk X.K C f) (F : FnOk X.prog X.w X.K X.mg X.base CX k f fd ps sp) (hr : Room (k + 1) X.A) (hb : Binds X.K fd ps []) (hx : PassesAt CX X σ (E σ)) (I : Inv X pins σ H s) (r : Vals vs us)
    (h : ∀ y dx, H y = none → H dx = none → dx ≠ y → sp (.ref y :: vs) (upd (upd H dx (.own y)) y (.ins C dx [])) (fun v H2 => v = .non ∧ Q (.ref y) H2) (E σ)) : wpAny (model X.prog X.w) X.A (call (.ref C) us) (EP X pins σ Q) X.xe s := by
  have J := Inv.made (C := C) I
  have w := h (s.heap.objs.size + 1) s.heap.objs.size (I.hok.fresh (by omega)) (I.hok.fresh (Nat.le_refl s.heap.objs.size)) (Nat.ne_of_lt (Nat.lt_succ_self _))
  have rr : Vals (V.ref (s.heap.objs.size + 1) :: vs) (Value.ref (s.heap.objs.size + 1) :: us) := .cons rfl r
  have bd := hb _ (Value.ref (s.heap.objs.size + 1) :: us) J.kIn (by rw [List.append_nil, ← rr.length]; exact F.len _ _ _ _ w)
  rw [List.append_nil] at bd
  have run := F.run _ X.stack _ _ ⟨Value.ref (s.heap.objs.size + 1) :: us, []⟩ _ _ _ (E σ) (hr.make C us []) (J.env0.make C us []) bd rr w
  refine wpAny_call (make_map (f := f) I.kIn M.makes M.init (beq_iff_eq.mp M.fn) (codeAny_mono run fun g s2 hg => ?_))
  rcases g with e | fl
  · exact hx pins _ _ e s2 J hg
  · cases fl with
    | ret u =>
      obtain ⟨v, H3, I3, rv, ev, q3⟩ := J.after hg
      subst ev
      exact ⟨rv, V.ref (s.heap.objs.size + 1), H3, I3, rfl, q3⟩
    | _ => exact hg.elim
def tMakS (C : Addr) (sp : Sp) (E : St → XK) (t : TA) : TE := fun σ H Q => t σ H fun vs H1 => ∀ y dx, H1 y = none → H1 dx = none → dx ≠ y →
  sp (.ref y :: vs) (upd (upd H1 dx (.own y)) y (.ins C dx [])) (fun v H2 => v = .non ∧ Q (.ref y) H2) (E σ)
theorem makS (M : Mk X.K C f) (F : FnOk X.prog X.w X.K X.mg X.base CX k f fd ps sp) (hr : Room (k + 1) X.A) (hg : Gl X x) (hm : X.mg x = some (.ref C)) (hb : Binds X.K fd ps []) (hx : ∀ σ, PassesAt CX X σ (E σ))
    (ha : PA X (e :: es) t) (hdb : (x == ("__debug__" : Str)) = false := by decide) (he : starEach (e :: es) X.env = (false, eval e X.env) :: starEach es X.env := by rfl) (hpl : (backTo pos (starEach es X.env)).any (·.1) = false := by rfl) :
    PE X (.Call (.Name x p) (e :: es) [] pos) (tMakS C sp E t) := by
  refine ⟨fun pins s σ H Q I h => wpAny_Call_Name_kw (ld_glob I hg hm (PySem.W.callWith_K (h₀ := X.base) I.ok.mod.kin M.kp (thn (ha.run pos pins s σ H _ I h) fun us s1 ⟨vs, H1, I1, r, q⟩ => ⟨I1.kIn, ?_⟩) he hpl) hdb)⟩
  exact makAt M F hr hb (hx σ) I1 r q
end
/-- isinstance(n, c) in the suite that caught an own error with a field -/
def rIsB (K : PySem.W.Frag) (D a : Addr) (cls : Value) (d : Option Addr) : List V → Hp → VK → Prop := fun xs H Q => cls = .ref D ∧ ∃ (c : V) (cv : Value) (b : Bool) (dd : Addr) (fl : List (Str × V)), xs = [.ref a, c] ∧ d = some dd ∧ H dd = some (.xd fl) ∧ (∀ u, RelV c u → u = cv) ∧ PySem.W.kitOne K (.ref D) cv = some b ∧ Q (.bl b) H
theorem call_isB {X : Cx} {a D : Addr} {oe : Obj} {cls : Value} {d : Option Addr} {pn : List (Addr × Obj)} (C : ExcC X.K D) (hc : PySem.W.isClsIn X.K D = true) (hz : Zc cls d oe) (hf : ∃ vs, oe.data = .fields vs) : CallR (X.suite a ((a, oe) :: pn)) (.builtin "isinstance") (rIsB X.K D a cls d) := by
  intro pins s σ H xs us Q I r h
  obtain ⟨rfl, c, cv, b, dd, fl, rfl, rfl, ea, hcv, e, q⟩ := h
  obtain ⟨u1, u2, rfl, r1, r2⟩ := r.two
  cases r1
  have ec := hcv _ r2
  subst ec
  obtain ⟨ha, _⟩ := I.pin (a, oe) (List.mem_append_left _ List.mem_cons_self)
  obtain ⟨vs, hd⟩ := hf
  obtain ⟨mA, hns, _⟩ := (show ObjOk X.prog X.w H s.heap dd (.xd fl) from I.hok dd _ ea)
  obtain ⟨od, ho, _⟩ := lookIn_ns hns
  have J : PySem.W.InstAt s.heap a oe D (some od) := ⟨ha, hz.1, by unfold PySem.W.notCls; rw [hd] <;> rfl, by rw [hz.2]; exact ho⟩
  exact PySem.W.kia_one (PySem.W.kitx_exc hc C.hg C.hk C.hs C.ha C.hn C.ht C.hm) I.kIn J e (fun z => nomatch z) fun tk => ⟨.bl b, H, I.kept (t' := tk) fun _ _ z => z, rfl, q⟩
/-- two rules of one operator -/
theorem op_alt {X : Cx} {f : Value → Value → Sem Value} {r r' : R2} (h : OpR X f r) (h' : OpR X f r') : OpR X f (fun x y H Q => r x y H Q ∨ r' x y H Q) := by
  intro pins s σ H x y v u Q I rx ry q
  rcases q with q | q
  · exact h pins s σ H x y v u Q I rx ry q
  · exact h' pins s σ H x y v u Q I rx ry q
end L2
namespace Ash
open PySem PySem.Spec PyProof.Rows L2
section
variable {X : Cx} {CX : CXT} {k : Nat} {x : Str} {ps : List Str} {sp : Sp} {E : L2.St → XK} {e : Expr} {es : List Expr} {t : TA} {p pos : Pos}
theorem pe_makS {C : Addr} (G : Mak X.prog X.w X.K X.mg X.base CX x C k ps sp) (hr : Room (k + 1) X.A) (hx : ∀ σ, PassesAt CX X σ (E σ)) (ha : PA X (e :: es) t) (hg : Gl X x := by rfl)
    (hdb : (x == ("__debug__" : Str)) = false := by decide) (he : starEach (e :: es) X.env = (false, eval e X.env) :: starEach es X.env := by rfl) (hpl : (backTo pos (starEach es X.env)).any (·.1) = false := by rfl) :
    PE X (.Call (.Name x p) (e :: es) [] pos) (tMakS C sp E t) := by
  obtain ⟨f, fd, M, hm, hb, F⟩ := G.ex
  exact makS M F hr hg hm hb hx ha hdb he hpl
end
end Ash

set_option Elab.async false
set_option linter.all false
set_option maxRecDepth 100000
set_option maxHeartbeats 4000000
namespace L2
open PySem PySem.Spec PyProof.Rows
/-! ### == of dicts whose values are data -/
inductive EqP (K : PySem.W.Frag) (H : Hp) (ls : List (Key × V)) : List (Key × V) → Bool → Prop
  | nil : EqP K H ls [] true
  | hit {k : Key} {v y : V} {r : List (Key × V)} {d e : PyData} {b : Bool} : valV ls k = some y → Dp K H v d → Dp K H y e → SeqAt.shaped d = true → SeqAt.shaped e = true → EqP K H ls r b → EqP K H ls ((k, v) :: r) (PyData.eqv d e && b)
def rEqDD (K : PySem.W.Frag) : R2 := fun x y H Q => ∃ a b ks ls c, x = .ref a ∧ y = .ref b ∧ H a = some (.dK ks) ∧ H b = some (.dK ls) ∧ ks.length = ls.length ∧ EqP K H ls ks c ∧ Q (.bl c) H
theorem eqP_hits {X : Cx} {pins : List (Addr × Obj)} {σ : St} {H : Hp} {s : Shared} (I : Inv X pins σ H s) (hu : X.A.in1.units + 64 < cLine) {ls : List (Key × V)} {vb : List (Key × Value)} (rb : KV ls vb) {ks : List (Key × V)} {c : Bool} (h : EqP X.K H ls ks c) :
    ∀ {va : List (Key × Value)}, KV ks va → PySem.W.KeqHits X.A.in1 s vb va c := by
  induction h with
  | nil =>
    intro va ra
    cases ra
    exact .nil
  | @hit k v y r d e b hv hd he sd se _ ih =>
    intro va ra
    cases ra with
    | @cons _ q _ qs g t =>
      obtain ⟨k', u⟩ := q
      obtain ⟨g1, g2⟩ := g
      have g1 : k = k' := g1
      subst g1
      have rr : RelO (some y) (valueAt vb k) := by
        rw [← hv]
        exact rb.val k
      obtain ⟨z, hz, rz⟩ := rr.some_of
      obtain ⟨as, r1⟩ := Dp.reads I d v u hd g2
      obtain ⟨bs, r2⟩ := Dp.reads I e y z he rz
      exact .hit hz (PySem.W.keq_at r1 r2 sd se hu) (ih t)
theorem op_eqDD {X : Cx} (hu : X.A.in1.units + 64 < cLine) (hw : X.A.units < cLine) : OpR X (compareOp .Eq) (rEqDD X.K) := by
  intro pins s σ H x y v u Q I rx ry h
  obtain ⟨a, b, ks, ls, c, rfl, rfl, ea, eb, hl, hp, q⟩ := h
  obtain rfl : v = Value.ref a := rx
  obtain rfl : u = Value.ref b := ry
  obtain ⟨_, ya, va, ra, da⟩ := (show ObjOk X.prog X.w H s.heap a (.dK ks) from I.hok a _ ea)
  obtain ⟨_, yb, vb, rb, db⟩ := (show ObjOk X.prog X.w H s.heap b (.dK ls) from I.hok b _ eb)
  have hn : va.length = vb.length := by rw [← ra.length, ← rb.length]; exact hl
  exact PySem.W.keq_eq (knd := mixKind X.prog X.w) (r := c) ya yb da db hw (fun _ => eqP_hits I hu rb hp ra) (fin_bl I q (by simp [hn]))
end L2

set_option Elab.async false
set_option linter.all false
set_option maxRecDepth 100000
set_option maxHeartbeats 4000000
namespace PySem.W
open PySem PySem.Calls PySem.NumText PyProof.Rows
namespace KIN
theorem ash_wp_text {M : Model} {A : Around} {E : Value → Shared → Prop} {s : Shared} {Q : Value → Shared → Prop} {v : Value} {text : List Nat} {n : Int} (hn : s.heap.NoDigits)
    (hs : ¬ (text.takeWhile (· != 0)).length ≤ 640) (hr : (int_private% "readNumeral") 4300 10 (text.takeWhile (· != 0)) = (int_private% "Numeral.value") n)
    (ha : ((text.takeWhile (· != 0)).length == text.length) = true) (h : Q (.int n s.toks) { s with toks := s.toks + 1 }) :
    wpAny M A ((int_private% "intFromText") v text 10) Q E s := by
  obtain ⟨mc, hns, hnone⟩ := hn
  have hlim : ∀ {Q : Nat → Shared → Prop}, Q 4300 s → wpAny M A Builtin.intMaxStrDigits Q E s := by
    intro Q hq
    unfold Builtin.intMaxStrDigits
    refine wpAny_bind (wpAny_nsGet hns ?_)
    rw [hnone]
    exact wpAny_pure hq
  obtain ⟨hp, g, d, tk, os⟩ := s
  repeat (any_goals (first
    | assumption
    | (with_reducible refine wpAny_ite_false (decide_eq_false hs) ?_)
    | (with_reducible refine wpAny_ite_true (decide_eq_true ha) ?_)
    | (with_reducible refine hlim ?_)
    | wp_step))
  all_goals (try rw [hr])
  all_goals (try dsimp only)
  repeat (any_goals (first
    | assumption
    | (with_reducible refine wpAny_ite_true (decide_eq_true ha) ?_)
    | wp_step))
theorem ash_meets_text {x : PySem.Str} {u : Tok} {n : Int} (hs : ¬ (numSeenOf x).length ≤ 640) (hx : x.length ≤ sizeLine) (hn : PySem.intText? x = some n) :
    Meets (Builtin.«int.__new__» ⟨[.type "int", .str x u], []⟩) (fun _ R s => s.heap.NoDigits ∧ R (.ok (.ret (.int n s.toks))) { s with toks := s.toks + 1 }) :=
  .of_wp fun prog w A R s h => by
    obtain ⟨hd, h⟩ := h
    obtain ⟨hp, g, d, tk, os⟩ := s
    have f1 := F.conv_sub_int
    have f2 := F.madeHere_int
    have f3 := str_int
    have f4 := str_idx
    have f5 := str_trunc
    have f6 : typeOf (.str x u) = pure (.type "str") := rfl
    have hr : (int_private% "readNumeral") 4300 10 (numSeenOf x) = (int_private% "Numeral.value") n ∧ ((numSeenOf x).length == (numTextOf x).length) = true := by
      rcases read4300 x hx with ⟨m, h1, h2, h3⟩ | ⟨h1, _⟩
      · rw [hn] at h1
        injection h1 with h1
        subst h1
        exact ⟨h3, h2⟩
      · rw [hn] at h1
        cases h1
    have hk := Hid.mk (And.intro hs (And.intro hr hd))
    clear hs hr hn hd
    repeat (any_goals (first
      | assumption
      | ((with_reducible show wpAny _ _ ((int_private% "intFromText") _ _ _) _ _ _); refine ash_wp_text hk.out.2.2 hk.out.1 hk.out.2.1.1 hk.out.2.1.2 ?_)
      | wp_step))
    all_goals exact ⟨_, rfl, h⟩
section
variable {prog : Program} {w : World} {A : Around} {E : Value → Shared → Prop} {s : Shared} {Q : Value → Shared → Prop} {x : PySem.Str} {t : Tok} {n : Int}
theorem ash_call_text (hd : s.heap.NoDigits) (hs : ¬ (numSeenOf x).length ≤ 640) (hx : x.length ≤ sizeLine) (hn : PySem.intText? x = some n) (h : Q (.int n s.toks) { s with toks := s.toks + 1 }) : wpAny (model prog w) A (call (.type "int") [.str x t]) Q E s :=
  call_int_1 (ash_meets_text hs hx hn) ⟨hd, rfl, h⟩
end
end KIN
end PySem.W
namespace PySem.SeqAt
open AutoSeq1 (wpAny_loadPart')
open MeetsSeq PyProof.Rows
theorem ash_str_eq_declines_dict (b : Str) (u : Tok) (l : Addr) (c : Value) (es : Array DictEntry) (n : Nat) (dd : Option Addr) (sl : Array (Option Value)) :
    Meets (Builtin.«str.__eq__» ⟨[.str b u, .ref l], []⟩) (fun _ R s => s.heap.get? l = some { cls := c, dict := dd, data := .dict es n, slots := sl } ∧ R (.ok (.ret .notImplemented)) s) :=
  .of_wp fun prog w A R s h => by obtain ⟨hp, g, d, tk, os⟩ := s; obtain ⟨hl, h⟩ := h; wp_walk using wpAny_loadPart' hl, wpAny_load hl; exact ⟨_, rfl, h⟩
section
variable {A : Around} {s : Shared}
theorem RcAt.ash_dict_str {l : Addr} {dd : Option Addr} {es : Array DictEntry} {n : Nat} {sl : Array (Option Value)} (b : Str) (u : Tok) (ho : s.heap.get? l = some { cls := .type "dict", dict := dd, data := .dict es n, slots := sl }) (hu : A.units < cLine) : RcAt A s (.ref l) (.str b u) false := fun prog w E Q h => by
  have hT : s.TypeIs (.ref l) "dict" := ⟨_, ho, rfl⟩
  refine rc_eq_decline_or (k := false) hT (typeIs_str s b u) (by decide) F.sub_str_dict F.slot_dict_eq F.slot_str_eq_refl
    (fun Q' hq => ?_)
    (fun _ hq => call_meets F.slot_str_eq_refl (typeIs_str s b u) F.entry_str_eq (F.args_str_eq_2 _ _) (ash_str_eq_declines_dict b u l (.type "dict") es n dd sl) ⟨ho, hq⟩)
    (fun _ hq => wpAny_of_eq (rfl : isSame (.ref l) (.str b u) = pure false) hq) (.inr hu) h
  refine wpAny_call_entry PySem.F.slot_dict_eq hT PySem.F.entry_dict_eq ?_ (PySem.F.args_dict_eq_2 _ _)
  show wpAny _ _ (Builtin.Dict.dictSlotArgs "__eq__" ⟨[.ref l, .str b u], []⟩ >>= _) _ _ s
  refine wpAny_bind ?_
  unfold Builtin.Dict.dictSlotArgs
  refine wpAny_bind (wpAny_notOrdered_dict hT ?_)
  show wpAny _ _ (pure (Value.ref l, Value.str b u)) _ _ s
  refine wpAny_pure ?_
  refine wpAny_bind (wpAny_isInstance (T := "str") (typeIs_str s b u) PySem.F.sub_str_dict ?_)
  simp only [Bool.not_false, if_true]
  exact wpAny_bind (wpAny_rule (wpAny_pure ⟨_, rfl, hq⟩))
end
end PySem.SeqAt
namespace L2
open PySem PySem.Spec PyProof.Rows
/-- an int that can be written -/
structure Dig (i : Int) : Prop where
  lt : i.natAbs < 10 ^ 4300
section
variable {X : Cx}
theorem Inv.nodig {pins : List (Addr × Obj)} {σ : St} {H : Hp} {s : Shared} (I : Inv X pins σ H s) (e : PySem.W.nsIn X.K cStatics "sys.int_max_str_digits" = some none) : s.heap.NoDigits := by
  obtain ⟨mc, hns, _⟩ := I.nolimit
  exact ⟨mc, hns, PySem.W.ns_none_of I.kIn hns e⟩
/-- str(n) of an int of at most 4300 digits -/
theorem call_strD (e : PySem.W.nsIn X.K cStatics "sys.int_max_str_digits" = some none) (hc : X.calm = true := by rfl) : CallR X (.type "str") (fun xs H Q => ∃ i, xs = [.int i] ∧ Dig i ∧ Q (.str (toString i)) H) := by
  intro pins s σ H xs us Q I r h
  obtain ⟨i, rfl, ⟨hz⟩, q⟩ := h
  obtain ⟨u, rfl, t, rfl⟩ := vals1 r
  generalize hP : 10 ^ 4300 = P at hz
  exact str_of_int_or (I.ok.hd hc) (I.nodig e) (fun _ => ⟨.str _, H, I.tok _, ⟨_, rfl⟩, q⟩) (fun h => absurd (hP ▸ h) (Nat.not_le.mpr hz))
/-- str(n) of an int, str(z) of a text -/
theorem call_strA (e : PySem.W.nsIn X.K cStatics "sys.int_max_str_digits" = some none) (c : CallR X (.type "str") (fun xs H Q => ∃ a, xs = [.str a] ∧ Q (.str a) H)) (hc : X.calm = true := by rfl) : CallR X (.type "str") (fun xs H Q => (∃ i, xs = [.int i] ∧ Dig i ∧ Q (.str (toString i)) H) ∨ ∃ a, xs = [.str a] ∧ Q (.str a) H) := by
  intro pins s σ H xs us Q I r h
  rcases h with h | h
  · exact call_strD e hc pins s σ H xs us Q I r h
  · exact c pins s σ H xs us Q I r h
/-- a text times an int -/
def rMulS : R2 := fun x y H Q => ∃ a n, x = .str a ∧ y = .int n ∧ MulOk a n ∧ Q (.str (Txt.mul a n)) H
theorem op_mulS : OpR X (binaryOp .Mult) rMulS := by
  intro pins s σ H x y v u Q I rx ry h
  obtain ⟨a, n, rfl, rfl, ok, q⟩ := h
  obtain ⟨t, rfl⟩ := rx
  obtain ⟨t', rfl⟩ := ry
  exact PySem.SB.mul ok fun t2 k => ⟨.str _, H, I.tok k, ⟨_, rfl⟩, q⟩
/-- int(text) of a long text -/
theorem call_intL (e : PySem.W.nsIn X.K cStatics "sys.int_max_str_digits" = some none) : CallR X (.type "int") (fun xs H Q => ∃ a n, xs = [.str a] ∧ PySem.intText? a = some n ∧ ¬ (numSeenOf a).length ≤ 640 ∧ a.length ≤ sizeLine ∧ Q (.int n) H) := by
  intro pins s σ H xs us Q I rs h
  obtain ⟨a, n, rfl, hn, hl, hz, h⟩ := h
  cases rs with
  | cons r1 rs =>
    cases rs
    obtain ⟨t, rfl⟩ := r1
    exact PySem.W.KIN.ash_call_text (I.nodig e) hl hz hn ⟨.int n, H, I.tok _, ⟨_, rfl⟩, h⟩
/-! ### a, *b = xs -/
section
variable {prog : Program} {w : World} {A : Around} {E : Value → Shared → Prop} {s : Shared}
theorem unpS {l : Addr} {items : Array Value} {i : Nat} {Q : List Value → Shared → Prop} (hl : IsTup s.heap l items) (hh : A.handled = none) (hi : i ≤ items.size) (hz : items.size ≤ 16384)
    (h : ∀ h₂ tk, Heap.ExtBut s.heap.objs.size s.heap h₂ → Q (items.toList.take i ++ [.ref h₂.objs.size]) { s with heap := h₂.push { cls := .type "list", data := .seq (items.toList.drop i).toArray }, toks := tk }) :
    wpAny (model prog w) A (unpackItems (.ref l) (i + 1) (some i)) Q E s := by
  have hlt : l ≠ s.heap.objs.size := by obtain ⟨o, ho, _⟩ := hl; exact Nat.ne_of_lt (Heap.lt_size ho)
  have hll : l < s.heap.objs.size := by obtain ⟨o, ho, _⟩ := hl; exact Heap.lt_size ho
  unfold unpackItems
  refine wpAny_bind ?_
  unfold notIterableAtAll
  refine wpAny_bind (wpAny_specialOf hl.typeIs slot_tuple_iter.lookup ?_)
  refine wpAny_pure ?_
  simp only [Bool.false_eq_true, if_false]
  refine wpAny_bind (wpAny_holding (iter_tuple hl ?_))
  refine wpAny_bind (wpAny_holding (draw_tuple hlt i 0 _ _ ⟨_, Heap.get?_push_size _ rfl, rfl, rfl⟩ (hl.push _) (by omega) fun h₁ hit₁ hs₁ => ?_))
  have hl₁ : IsTup h₁ l items := (hl.push _).extBut hs₁.extBut hlt
  rw [Nat.zero_add] at hit₁
  have hit₁' := hit₁
  obtain ⟨oi, hoi, _⟩ := hit₁'
  have hl₁' := hl₁
  obtain ⟨ol, hol, _⟩ := hl₁'
  rw [List.drop_zero]
  have hfl : (items.toList.take i).length = i := by rw [List.length_take, Array.length_toList]; omega
  rw [if_neg (show ¬ ((items.toList.take i).length < i) by rw [hfl]; omega)]
  refine wpAny_bind (wpAny_holding (PySem.W.kun_collect (s := { s with heap := h₁ }) (T := "tuple_iterator") (.inr (.inr (.inr rfl))) (Walks.tuple (A := A.in1) hh s.heap.objs.size l hlt items) (fun j u st => st.1.typeIs) (k := i) (by omega) ⟨hit₁, hl₁⟩ (Heap.lt_size hoi) (Heap.lt_size hol) (fun h₂ tk hk => ?_) (by rw [sizeLine_eq]; omega)))
  have hrl : (items.toList.drop i).length = items.size - i := by rw [List.length_drop, Array.length_toList]
  have hm : (items.toList.drop i).length - (i + 1 - 1 - i) = (items.toList.drop i).length := by omega
  show wpAny _ _ (if (items.toList.drop i).length < i + 1 - 1 - i then _ else _) _ _ _
  rw [if_neg (by omega)]
  show wpAny _ _ (newList ((items.toList.drop i).take ((items.toList.drop i).length - (i + 1 - 1 - i))) >>= fun d => pure (items.toList.take i ++ [d] ++ (items.toList.drop i).drop ((items.toList.drop i).length - (i + 1 - 1 - i)))) _ _ _
  rw [hm, List.take_length, List.drop_length]
  have he : Heap.ExtBut s.heap.objs.size s.heap h₂ := fun b o hb e => hk b o hb (hs₁.extBut b o hb (Heap.get?_push_of_some _ e))
  refine wpAny_bind (wpAny_newList (s := { s with heap := h₂, toks := tk }) (wpAny_pure ?_) (by rw [hrl, sizeLine_eq]; omega))
  rw [List.append_nil]
  exact h h₂ tk he
end
def gStar (K : PySem.W.Frag) (i : Nat) (t : TGs) : TG := fun v σ H Q => ∃ a xs, v = .ref a ∧ SqT K H a xs ∧ i ≤ xs.length ∧ xs.length ≤ 100 ∧ ∀ p, H p = none → t (xs.take i ++ [.ref p]) σ (upd H p (.lst (xs.drop i))) Q
theorem pgs_star {e : Expr} {es : List Expr} {t : TG} {u : TGs} {p : Pos} (h1 : PG X e t) (h2 : PGs X es u)
    (hs : (assignEach (.Starred e p :: es) X.env).map (·.2) = assign e X.env :: (assignEach es X.env).map (·.2) := by rfl) : PGs X (.Starred e p :: es) (gCons t u) := by
  refine ⟨fun pins s σ H vs us Q I r h => ?_⟩
  obtain ⟨v, vr, e1, h⟩ := h
  subst e1
  cases r with
  | cons r rr =>
    rw [hs]
    refine assignInOrder_cons (thn (h1.run pins s σ H _ _ _ I r h) fun _ s1 ⟨σ1, H1, I1, q1⟩ => ?_)
    exact h2.run pins s1 σ1 H1 _ _ Q I1 rr q1
theorem pg_tupS {es : List Expr} {k : Nat} {t : TGs} {i : Nat} {pos : Pos} (hc : X.calm = true) (h : PGs X es t) (hn : (assignEach es X.env).length = i + 1 := by rfl) (hst : (assignEach es X.env).findIdx? (·.1) = some i := by rfl) : PG X (.Tuple es k pos) (gStar X.K i t) := by
  refine ⟨fun pins s σ H v u Q I r hw => ?_⟩
  obtain ⟨a, xs, e1, ha, hl, hm, hw⟩ := hw
  subst e1
  cases r
  obtain ⟨its, rv, ht, hz⟩ := I.tuple ha
  have el : xs.length = its.length := rv.length
  rw [assign_Tuple]
  refine wpAny_bind (wpAny_standAt ?_)
  unfold unpack
  rw [hst, hn]
  refine wpAny_bind (wpAny_holding (unpS ht (I.ok.hd hc) (by rw [List.size_toArray, ← el]; exact hl) (by rw [List.size_toArray, ← el]; omega) fun g tk hx => ?_))
  have I1 : Inv X pins σ H { s with heap := g, toks := tk } := I.kept fun b o e => hx b o (Nat.ne_of_lt (Heap.lt_size e)) e
  have rd : Vals (xs.drop i) (its.drop i) := rv.drop i
  have I2 := I1.lnew (t' := tk) rd (by rw [List.length_drop, sizeLine_eq]; omega)
  exact h.run pins _ σ _ (xs.take i ++ [.ref g.objs.size]) _ Q I2 ((rv.take i).append (.cons (show RelV (.ref _) (.ref _) from rfl) .nil)) (hw _ I1.fresh)
end
section
variable {X : Cx}
/-- a dict is no text -/
def rEqDS : R2 := fun x y H Q => ∃ a ks z, x = .ref a ∧ y = .str z ∧ H a = some (.dK ks) ∧ Q (.bl false) H
theorem op_eqDS (hu : X.A.units < cLine) : OpR X (compareOp .Eq) rEqDS := by
  intro pins s σ H x y v u Q I rx ry h
  obtain ⟨a, ks, n, rfl, rfl, ea, q⟩ := h
  obtain rfl : v = Value.ref a := rx
  obtain ⟨_, ya, va, ra, da⟩ := (show ObjOk X.prog X.w H s.heap a (.dK ks) from I.hok a _ ea)
  obtain ⟨o, es, ep, ho, he, hd, _⟩ := da
  obtain ⟨t, rfl⟩ := ry
  obtain ⟨cls, dd, data, sl⟩ := o
  simp only at hd
  obtain ⟨h1, h2, h3⟩ := he
  simp only at h1 h2 h3
  subst h1 h2 h3 hd
  exact SeqAt.RcAt.ash_dict_str n t ho hu X.prog X.w X.xe _ ⟨.bl false, H, I, rfl, q⟩
/-- == with a text -/
def rEqS (K : PySem.W.Frag) : R2 := fun x y H Q => rEq x y H Q ∨ (rEqD K x y H Q ∨ rEqDS x y H Q)
theorem op_eqS (h1 : X.A.units + 64 < cLine) : OpR X (compareOp .Eq) (rEqS X.K) := op_alt op_eq (op_alt (op_eqD h1) (op_eqDS (by omega)))
end
end L2

set_option Elab.async false
set_option linter.all false
set_option maxRecDepth 100000
set_option maxHeartbeats 400000
set_option pp.maxSteps 300
namespace Ash
open PySem PySem.Spec PyProof.Rows L2
open C8 (pss_cut)
/-! ### words and ints drawn -/
def spWord : Sp := fun vs H Q _ => ∃ (p : Addr) (most : Int), vs = [.ref p, .int most] ∧ StAt H p ∧ 1 ≤ most ∧ most ≤ 8 ∧ ∀ (z : Str) H', z.length ≤ 8 → Pl H H' p → Q (.str z) H'
def spInteger : Sp := fun vs H Q _ => ∃ (p : Addr), vs = [.ref p] ∧ StAt H p ∧ ∀ (n : Int) H', Dig n → Pl H H' p → Q (.int n) H'
section
variable {P : Program} {w : World} {K : PySem.W.Frag} {mg : Str → Option Value} {base : Heap}
abbrev s_l_word : Stmt := topS 28
theorem sc_l_word : FnScope ["stream", "most", "word", "k"] ["stream", "most"] (defScope s_l_word) := ⟨rfl, rfl, rfl, by decide +kernel, rfl, by decide +kernel, by decide +kernel⟩
theorem ok_word {f : Addr} {fd : FuncData} (F : Fun K "_law_word" "_law_word" s_l_word f fd) (B : Blt mg) (G : G1 P w K mg base) : FnOk P w K mg base CX0 2 f fd ["stream", "most"] spWord := by
  refine F.ok sc_l_word (fun vs H Q E h => ?_) (fun cdv A outer s H vs Q E hr h => ?_)
  · obtain ⟨p, most, rfl, _⟩ := h
    rfl
  · obtain ⟨p, most, rfl, hP, m1, m6, q⟩ := h
    refine ⟨_, (pss_cons (ps_set (i := 2) sc_l_word.nd rfl (Or.inl rfl) pe_str)
    (pss_cons (ps_for PassesOwn.never rfl (pi_range1 (by rfl) B.range (pa_cons (pe_op op_add pe_int (pe_cal G.law_draw (hr.mono (by decide)) pass0 (pa_cons (pv 0) (pa_cons (pv 1) pa_nil)))) pa_nil)) (pg_name (i := 3) sc_l_word.nd rfl (Or.inl rfl))
      (pss_one (ps_set (i := 2) sc_l_word.nd rfl (Or.inl rfl) (pe_op op_add_str (pv 2) (pe_ix ix_str pe_str (pe_cal G.law_draw (hr.mono (by decide)) pass0 (pa_cons (pv 0) (pa_cons pe_int pa_nil))) (fun _ _ => rfl))))))
    (pss_one (ps_ret (pv 2))))), ?_⟩
    refine ⟨_, rfl, _, rfl, p, most, rfl, hP, (by omega), Int.lt_of_le_of_lt m6 (by decide), fun d H1 d0 d1 P1 => ?_⟩
    refine ⟨_, _, rfl, rfl, _, rfl, (by omega), (by omega), for_range (n := (1 + d).toNat) (fun i σ H2 => (∃ (z : Str) (x4 : Option V), σ = [some (.ref p), some (.int most), some (.str z), x4] ∧ z.length = i) ∧ Pl H H2 p) ⟨⟨_, _, rfl, rfl⟩, P1⟩ ?_ ?_⟩
    · rintro i σ H2 hi ⟨⟨z, x4, rfl, zl⟩, P2⟩
      refine ⟨_, rfl, _, rfl, p, 26, rfl, P2.now, (by decide), (by decide), fun e H3 e0 e1 P3 => ?_⟩
      obtain ⟨j, rfl⟩ : ∃ j : Nat, e = (j : Int) := ⟨e.toNat, by omega⟩
      have hj : j < ("abcdefghijklmnopqrstuvwxyz" : Str).cps.size := by have : j < 26 := by omega
                                                                        exact this
      have hc : ("abcdefghijklmnopqrstuvwxyz" : Str).cps.toList[j]? = some ("abcdefghijklmnopqrstuvwxyz" : Str).cps[j] := by rw [Array.getElem?_toList]; exact Array.getElem?_eq_getElem hj
      refine ⟨_, j, _, rfl, rfl, (by decide +kernel), atI_nat hc, z, _, rfl, rfl, (by rw [sizeLine_eq, zl]; show i + 1 ≤ _; omega), ⟨_, _, rfl, (by rw [len_app, zl]; rfl)⟩, P2.trans P3⟩
    · rintro σ H2 ⟨⟨z, x4, rfl, zl⟩, P2⟩
      exact ⟨_, rfl, q z H2 (by omega) P2⟩
/-! a digit a thousand times -/
open PySem.NumText
theorem mul_cps (c : Nat) (k : Nat) : ((List.replicate k (#[c] : Array Nat)).foldl (· ++ ·) (#[] : Array Nat)).toList = List.replicate k c := by
  have g : ∀ (k : Nat) (a : Array Nat), ((List.replicate k (#[c] : Array Nat)).foldl (· ++ ·) a).toList = a.toList ++ List.replicate k c := by
    intro k
    induction k with
    | zero => intro a; simp
    | succ k ih =>
      intro a
      rw [List.replicate_succ, List.foldl_cons, ih]
      simp [List.replicate_succ]
  rw [g]
  rfl
theorem mul_signs (c : Nat) : (Txt.mul ⟨#[c]⟩ 1000).cps.toList = List.replicate 1000 c := by
  unfold Txt.mul
  rw [if_neg (by decide), if_neg (by simp [Str.length])]
  exact mul_cps c 1000
theorem dval_lt {c : Nat} (h : c ≤ 57) : ∀ k : Nat, digitsVal (List.replicate k c) < 10 ^ k
  | 0 => by show 0 < 1; decide
  | k + 1 => by
    have := dval_lt h k
    rw [List.replicate_succ', digitsVal_snoc, Nat.pow_succ]
    omega
theorem dig_long {c : Nat} (h1 : 48 ≤ c) (h2 : c ≤ 57) : ∃ n : Int, PySem.intText? (Txt.mul ⟨#[c]⟩ 1000) = some n ∧ n.natAbs < 2 ^ 3400 ∧ ¬ (numSeenOf (Txt.mul ⟨#[c]⟩ 1000)).length ≤ 640 ∧ (Txt.mul ⟨#[c]⟩ 1000).length ≤ sizeLine := by
  have ad : AllDigits (Txt.mul ⟨#[c]⟩ 1000).cps.toList := by
    rw [mul_signs]
    intro d hd
    rw [(List.mem_replicate.mp hd).2]
    exact ⟨h1, h2⟩
  have len : (Txt.mul ⟨#[c]⟩ 1000).length = 1000 := by
    have e : (Txt.mul ⟨#[c]⟩ 1000).cps.toList.length = (Txt.mul ⟨#[c]⟩ 1000).length := Array.length_toList
    rw [← e, mul_signs, List.length_replicate]
  refine ⟨_, intText_digits ad (by rw [mul_signs, List.replicate_succ]; exact List.cons_ne_nil _ _) (by omega), ?_, ?_, by rw [len, sizeLine_eq]; decide⟩
  · rw [Int.natAbs_natCast, mul_signs]
    exact Nat.lt_trans (dval_lt h2 1000) (by decide +kernel)
  · rw [(numText_signs fun d hd => Or.inr (ad d hd)).2, mul_signs, List.length_replicate]
    decide
theorem nine_at {j : Nat} (hj : j < 9) : ∃ c, ("123456789" : Str).cps.toList[j]? = some c ∧ 48 ≤ c ∧ c ≤ 57 := by
  rcases (show j = 0 ∨ j = 1 ∨ j = 2 ∨ j = 3 ∨ j = 4 ∨ j = 5 ∨ j = 6 ∨ j = 7 ∨ j = 8 by omega) with e | e | e | e | e | e | e | e | e <;> subst e <;> exact ⟨_, rfl, by decide, by decide⟩
theorem dig_small {n : Int} (h : n.natAbs < 2 ^ 3400) : Dig n := ⟨Nat.lt_trans h (by decide +kernel)⟩
theorem mul_one_ok (c : Nat) : MulOk ⟨#[c]⟩ 1000 := by
  refine ⟨by decide, fun _ _ => ?_, fun _ _ => ?_⟩
  · show ¬ ((1 : Int) > (2 ^ 63 - 1) / 1000)
    decide
  · show Builtin.Str.tooLong (1 * 1000) = false
    decide
abbrev s_l_integer : Stmt := topS 34
theorem sc_l_integer : FnScope ["stream", "many"] ["stream"] (defScope s_l_integer) := ⟨rfl, rfl, rfl, by decide +kernel, rfl, by decide +kernel, by decide +kernel⟩
theorem ok_integer {f : Addr} {fd : FuncData} (F : Fun K "_law_integer" "_law_integer" s_l_integer f fd) (B : Blt mg) (ND : PySem.W.nsIn K cStatics "sys.int_max_str_digits" = some none) (G : G1 P w K mg base) : FnOk P w K mg base CX0 2 f fd ["stream"] spInteger := by
  refine F.ok sc_l_integer (fun vs H Q E h => ?_) (fun cdv A outer s H vs Q E hr h => ?_)
  · obtain ⟨p, rfl, _⟩ := h
    rfl
  · obtain ⟨p, rfl, hP, q⟩ := h
    refine ⟨_, (pss_cons (ps_if (pt_cmpR op_eq (pe_cal G.law_draw (hr.mono (by decide)) pass0 (pa_cons (pv 0) (pa_cons pe_int pa_nil))) pe_int (nomark _))
      (pss_one (ps_ret (pe_op op_mulW (pe_callTy (call_intL ND) (by rfl) B.int (by decide +kernel) (pa_cons (pe_op op_mulS (pe_ix ix_str pe_str (pe_cal G.law_draw (hr.mono (by decide)) pass0 (pa_cons (pv 0) (pa_cons pe_int pa_nil))) (fun _ _ => rfl)) pe_int) pa_nil)) (pe_op op_sub pe_int (pe_op op_mul pe_int (pe_cal G.law_draw (hr.mono (by decide)) pass0 (pa_cons (pv 0) (pa_cons pe_int pa_nil))))))))
      pss_nil)
    (pss_cons (ps_set (i := 1) sc_l_integer.nd rfl (Or.inl rfl) (pe_ix ix_list (pe_lst (pa_cons pe_int (pa_cons pe_int (pa_cons (pe_op op_pow pe_int pe_int) (pa_cons (pe_op op_pow pe_int pe_int) pa_nil))))) (pe_cal G.law_draw (hr.mono (by decide)) pass0 (pa_cons (pv 0) (pa_cons pe_int pa_nil))) (fun _ _ => rfl)))
    (pss_one (ps_ret (pe_op op_add (pe_op op_sub (pe_cal G.law_draw (hr.mono (by decide)) pass0 (pa_cons (pv 0) (pa_cons (pe_op op_sub (pe_op op_mul pe_int (pv 1)) pe_int) pa_nil))) (pv 1)) pe_int))))), ?_⟩
    refine ⟨_, rfl, p, 40, rfl, hP, (by decide), (by decide), fun d H1 d0 d1 P1 => ⟨rfl, _, rfl, ite2 (fun c => ?_) (fun c => ?_)⟩⟩
    · refine ⟨_, rfl, p, 9, rfl, P1.now, (by decide), (by decide), fun e H2 e0 e1 P2 => ?_⟩
      obtain ⟨j, rfl⟩ : ∃ j : Nat, e = (j : Int) := ⟨e.toNat, by omega⟩
      obtain ⟨c, hc, c1, c2⟩ := nine_at (j := j) (by omega)
      obtain ⟨n, n1, n2, n3, n4⟩ := dig_long c1 c2
      refine ⟨_, j, _, rfl, rfl, (by decide +kernel), atI_nat hc, _, _, rfl, rfl, mul_one_ok c, _, n, rfl, n1, n3, n4, _, rfl, p, 2, rfl, P2.now, (by decide), (by decide), fun g H3 g0 g1 P3 => ?_⟩
      have gn : (1 - 2 * g).natAbs = 1 := by omega
      refine ⟨_, _, rfl, rfl, .inl ⟨by decide, by decide⟩, _, _, rfl, rfl, _, _, rfl, rfl, wide_mul n2 (show (1 - 2 * g).natAbs < 2 ^ 1 by rw [gn]; decide) (by decide) (by decide) (by decide), q _ _ (dig_small ?_) ((P1.trans P2).trans P3)⟩
      rw [Int.natAbs_mul, gn, Nat.mul_one]
      exact n2
    · refine ⟨_, _, rfl, rfl, ⟨by decide, by decide, by decide⟩, _, _, rfl, rfl, ⟨by decide, by decide, by decide⟩, (by show 4 ≤ sizeLine; decide), fun l hl => ?_⟩
      have hlp : l ≠ p := fun z => P1.now.ne (z ▸ hl)
      have P2 := P1.new (o := .lst [.int 10, .int 1000, .int ((fun i j : Int => i ^ j.toNat) 10 20), .int ((fun i j : Int => i ^ j.toNat) 10 60)]) hl
      refine ⟨_, rfl, p, 4, rfl, P2.now, (by decide), (by decide), fun e H2 e0 e1 P3 => ?_⟩
      have hl3 := P3.keep upd_same hlp
      have hm : ∃ m : Int, atI [V.int 10, .int 1000, .int ((fun i j : Int => i ^ j.toNat) 10 20), .int ((fun i j : Int => i ^ j.toNat) 10 60)] e = some (.int m) ∧ 1 ≤ m ∧ m ≤ 10 ^ 60 := by
        rcases (show e = 0 ∨ e = 1 ∨ e = 2 ∨ e = 3 by omega) with rfl | rfl | rfl | rfl
        · exact ⟨10, rfl, by decide, by decide⟩
        · exact ⟨1000, rfl, by decide, by decide⟩
        · exact ⟨10 ^ 20, rfl, by decide, by decide⟩
        · exact ⟨10 ^ 60, rfl, by decide, by decide⟩
      obtain ⟨m, hm, m1, m2⟩ := hm
      refine ⟨_, _, _, _, rfl, rfl, SqL.of hl3, hm, ?_⟩
      refine ⟨_, rfl, _, rfl, _, _, rfl, rfl, .inl ⟨by decide, by decide⟩, _, _, rfl, rfl, p, _, rfl, P3.now, (by omega), Int.lt_of_lt_of_le (show 2 * m - 1 < 2 * 10 ^ 60 by omega) (by decide), fun g H3 g0 g1 P4 => ?_⟩
      refine ⟨_, rfl, _, _, rfl, rfl, _, _, rfl, rfl, q _ _ (dig_small ?_) ((P2.trans P3).trans P4)⟩
      exact Nat.lt_of_lt_of_le (show (g - m + 1).natAbs < 10 ^ 61 by omega) (by decide +kernel)
end
end Ash

set_option Elab.async false
set_option linter.all false
set_option maxRecDepth 100000
set_option maxHeartbeats 400000
set_option pp.maxSteps 300
namespace Ash
open PySem PySem.Spec PyProof.Rows L2
open C8 (pss_cut)
/-! ### things that may be entries -/
def NotInt (K : PySem.W.Frag) (H : Hp) (v : V) : Prop := ∃ t bi bb, TyX K H v t ∧ PySem.W.kitOne K t (.type "int") = some bi ∧ PySem.W.kitOne K t (.type "bool") = some bb ∧ (bi && !bb) = false
def NotStr (K : PySem.W.Frag) (H : Hp) (v : V) : Prop := ∃ t, TyX K H v t ∧ PySem.W.kitOne K t (.type "str") = some false
def NotTup (K : PySem.W.Frag) (H : Hp) (v : V) : Prop := ∃ t, TyX K H v t ∧ PySem.W.kitOne K t (.type "tuple") = some false
/-- no text -/
def NeS (K : PySem.W.Frag) (H : Hp) (v : V) : Prop := (∀ z : Str, scal v (.str z) = true ∧ v ≠ .str z) ∨ (∃ d, (∀ H', Same H H' → Dp K H' v d) ∧ SeqAt.shaped d = true ∧ ∀ z, PyData.eqv d (.str z) = false) ∨ ∃ a, v = .ref a ∧ H a = some (.dK [])
theorem ixN_nt {n j : Nat} (hj : j < n) : ixN n (j : Int) = some j := by
  unfold ixN
  rw [if_pos (by omega), if_pos (by omega)]
  simp
inductive It
  | int (n : Int) | str (z : Str) | oth
def ItA (K : PySem.W.Frag) (H : Hp) (v : V) : It → Prop
  | .int n => v = .int n ∧ Dig n
  | .str z => v = .str z ∧ z.length ≤ 20
  | .oth => NotInt K H v ∧ NotStr K H v ∧ NeS K H v
inductive ItsA (K : PySem.W.Frag) (H : Hp) : List V → List It → Prop
  | nil : ItsA K H [] []
  | cons {v : V} {i : It} {us : List V} {is : List It} : ItA K H v i → ItsA K H us is → ItsA K H (v :: us) (i :: is)
inductive Th
  | tup (is : List It) | no
def ThA (K : PySem.W.Frag) (H : Hp) (v : V) : Th → Prop
  | .tup is => ∃ a us, v = .ref a ∧ H a = some (.tup us) ∧ ItsA K H us is ∧ us.length ≤ 9
  | .no => NotTup K H v
section
variable {K : PySem.W.Frag} {H H' : Hp}
theorem tyS {v : V} {t : Value} (h : TyX K H v t) (s : Same H H') : TyX K H' v t := tyx_ev h (Ev.same s)
theorem ItA.same {v : V} {i : It} (h : ItA K H v i) (s : Same H H') : ItA K H' v i := by
  cases i with
  | int n => exact h
  | str z => exact h
  | oth =>
    obtain ⟨⟨t, bi, bb, h1, h2, h3, h4⟩, ⟨t', g1, g2⟩, h5⟩ := h
    refine ⟨⟨t, bi, bb, tyS h1 s, h2, h3, h4⟩, ⟨t', tyS g1 s, g2⟩, ?_⟩
    rcases h5 with h | ⟨d, h, k⟩ | ⟨a, e, h⟩
    · exact .inl h
    · exact .inr (.inl ⟨d, fun H2 s2 => h _ (s.trans s2), k⟩)
    · exact .inr (.inr ⟨a, e, s _ _ h⟩)
namespace ItsA
theorem same : ∀ {us : List V} {is : List It}, ItsA K H us is → Same H H' → ItsA K H' us is
  | _, _, .nil, _ => .nil
  | _, _, .cons h t, s => .cons (h.same s) (t.same s)
theorem len : ∀ {us : List V} {is : List It}, ItsA K H us is → us.length = is.length
  | _, _, .nil => rfl
  | _, _, .cons _ t => by rw [List.length_cons, List.length_cons, t.len]
theorem app : ∀ {us vs : List V} {is js : List It}, ItsA K H us is → ItsA K H vs js → ItsA K H (us ++ vs) (is ++ js)
  | _, _, _, _, .nil, b => b
  | _, _, _, _, .cons h t, b => .cons h (t.app b)
theorem take : ∀ {us : List V} {is : List It} (n : Nat), ItsA K H us is → ItsA K H (us.take n) (is.take n)
  | _, _, 0, _ => .nil
  | _, _, _ + 1, .nil => .nil
  | _, _, n + 1, .cons h t => .cons h (t.take n)
theorem drop : ∀ {us : List V} {is : List It} (n : Nat), ItsA K H us is → ItsA K H (us.drop n) (is.drop n)
  | _, _, 0, h => h
  | _, _, _ + 1, .nil => .nil
  | _, _, n + 1, .cons _ t => t.drop n
theorem set {v : V} {i : It} (h : ItA K H v i) : ∀ {us : List V} {is : List It} (n : Nat), ItsA K H us is → ItsA K H (us.set n v) (is.set n i)
  | _, _, _, .nil => .nil
  | _, _, 0, .cons _ t => .cons h t
  | _, _, n + 1, .cons g t => .cons g (ItsA.set h n t)
theorem erase : ∀ {us : List V} {is : List It} (n : Nat), ItsA K H us is → ItsA K H (us.eraseIdx n) (is.eraseIdx n)
  | _, _, _, .nil => .nil
  | _, _, 0, .cons _ t => t
  | _, _, n + 1, .cons g t => .cons g (t.erase n)
end ItsA
theorem ThA.same {v : V} {th : Th} (h : ThA K H v th) (s : Same H H') : ThA K H' v th := by
  cases th with
  | tup is =>
    obtain ⟨a, us, h1, h2, h3, h4⟩ := h
    exact ⟨a, us, h1, s _ _ h2, h3.same s, h4⟩
  | no =>
    obtain ⟨t, h1, h2⟩ := h
    exact ⟨t, tyS h1 s, h2⟩
end
def spDrawn (K : PySem.W.Frag) : Sp := fun vs H Q _ => ∃ p : Addr, vs = [.ref p] ∧ StAt H p ∧ ∀ t us is H', H t = none → H' t = some (.tup us) → (∀ H2, ItsA K H2 us is) → 3 ≤ us.length → us.length ≤ 8 → Pl H H' p → Q (.ref t) H'
section
variable {P : Program} {w : World} {K : PySem.W.Frag} {mg : Str → Option Value} {base : Heap}
structure GD (P : Program) (w : World) (K : PySem.W.Frag) (mg : Str → Option Value) (base : Heap) : Prop extends G1 P w K mg base where
  law_word : Cal P w K mg base CX0 "_law_word" 2 ["stream", "most"] spWord
  law_integer : Cal P w K mg base CX0 "_law_integer" 2 ["stream"] spInteger
theorem dig_abs {n : Int} (h : Dig n) : Dig (if n < 0 then -n else n) := ⟨by have := h.lt; split <;> simpa using this⟩
abbrev s_l_drawn : Stmt := topS 35
theorem sc_l_drawn : FnScope ["stream", "word", "number", "names"] ["stream"] (defScope s_l_drawn) := ⟨rfl, rfl, rfl, by decide +kernel, rfl, by decide +kernel, by decide +kernel⟩
theorem ok_drawn {f : Addr} {fd : FuncData} (F : Fun K "_law_drawn" "_law_drawn" s_l_drawn f fd) (B : Blt mg) (G : GD P w K mg base) : FnOk P w K mg base CX0 3 f fd ["stream"] (spDrawn K) := by
  refine F.ok sc_l_drawn (fun vs H Q E h => ?_) (fun cdv A outer s H vs Q E hr h => ?_)
  · obtain ⟨p, rfl, _⟩ := h
    rfl
  · obtain ⟨p, rfl, hP, q⟩ := h
    refine ⟨_, (pss_cons (ps_set (i := 1) sc_l_drawn.nd rfl (Or.inl rfl) (pe_ix ix_list (pe_lst (pa_cons pe_str (pa_cons pe_str (pa_cons pe_str pa_nil)))) (pe_cal G.law_draw (hr.mono (by decide)) pass0 (pa_cons (pv 0) (pa_cons pe_int pa_nil))) (fun _ _ => rfl)))
    (pss_cons (ps_set (i := 2) sc_l_drawn.nd rfl (Or.inl rfl) (pe_callB call_abs (by rfl) B.abs (by decide +kernel) (pa_cons (pe_cal G.law_integer (hr.mono (by decide)) pass0 (pa_cons (pv 0) pa_nil)) pa_nil)))
    (pss_cons (ps_if (pt_cmpR op_eq (pv 1) pe_str (nomark _))
      (pss_cons (ps_set (i := 3) sc_l_drawn.nd rfl (Or.inl rfl) (pe_lst (pa_cons (pe_cal G.law_word (hr.mono (by decide)) pass0 (pa_cons (pv 0) (pa_cons pe_int pa_nil))) (pa_cons (pe_cal G.law_word (hr.mono (by decide)) pass0 (pa_cons (pv 0) (pa_cons pe_int pa_nil))) pa_nil))))
      (pss_one (ps_ret (pe_tup (pa_cons (pv 1) (pa_cons (pv 2) (pa_cons (pe_ix ix_list (pv 3) pe_int (fun _ _ => rfl)) (pa_cons (pe_ix ix_list (pv 3) pe_int (fun _ _ => rfl)) (pa_cons (pe_cal G.law_integer (hr.mono (by decide)) pass0 (pa_cons (pv 0) pa_nil)) (pa_cons (pe_cal G.law_integer (hr.mono (by decide)) pass0 (pa_cons (pv 0) pa_nil)) (pa_cons (pe_cal G.law_integer (hr.mono (by decide)) pass0 (pa_cons (pv 0) pa_nil)) pa_nil)))))))))))
      pss_nil)
    (pss_cons (ps_if (pt_cmpR op_eq (pv 1) pe_str (nomark _))
      (pss_one (ps_ret (pe_tup (pa_cons (pv 1) (pa_cons (pv 2) (pa_cons (pe_cal G.law_integer (hr.mono (by decide)) pass0 (pa_cons (pv 0) pa_nil)) (pa_cons (pe_cal G.law_integer (hr.mono (by decide)) pass0 (pa_cons (pv 0) pa_nil)) (pa_cons (pe_cal G.law_integer (hr.mono (by decide)) pass0 (pa_cons (pv 0) pa_nil)) pa_nil))))))))
      pss_nil)
    (pss_one (ps_ret (pe_tup (pa_cons (pv 1) (pa_cons (pv 2) (pa_cons (pe_cal G.law_integer (hr.mono (by decide)) pass0 (pa_cons (pv 0) pa_nil)) pa_nil)))))))))), ?_⟩
    refine ⟨(by show 3 ≤ sizeLine; decide), fun l hl => ?_⟩
    have hlp : l ≠ p := fun z => hP.ne (z ▸ hl)
    have P0 := (Pl.refl hP).new (o := .lst [.str "row", .str "fix", .str "gone"]) hl
    refine ⟨_, rfl, p, 3, rfl, P0.now, (by decide), (by decide), fun d H1 d0 d1 P1 => ?_⟩
    have hl1 := P1.keep upd_same hlp
    have hz : ∃ z : Str, atI [V.str "row", .str "fix", .str "gone"] d = some (.str z) ∧ z.length ≤ 20 := by
      rcases (show d = 0 ∨ d = 1 ∨ d = 2 by omega) with rfl | rfl | rfl
      · exact ⟨"row", rfl, by decide +kernel⟩
      · exact ⟨"fix", rfl, by decide +kernel⟩
      · exact ⟨"gone", rfl, by decide +kernel⟩
    obtain ⟨z, hz, zl⟩ := hz
    refine ⟨_, _, _, _, rfl, rfl, SqL.of hl1, hz, ?_⟩
    refine ⟨_, rfl, p, rfl, P1.now, fun n H2 n1 P2 => ?_⟩
    refine ⟨_, rfl, ?_⟩
    have d1 : Dig (if n < 0 then -n else n) := dig_abs n1
    generalize (if n < 0 then -n else n) = m at d1
    have P02 := (P0.trans P1).trans P2
    have iz : ∀ H2, ItA K H2 (.str z) (.str z) := fun _ => ⟨rfl, zl⟩
    have im : ∀ H2, ItA K H2 (.int m) (.int m) := fun _ => ⟨rfl, d1⟩
    refine ⟨_, rfl, rfl, _, rfl, ite2 (fun c => ?_) (fun c => ?_)⟩
    · refine ⟨_, rfl, p, 8, rfl, P02.now, (by decide), (by decide), fun z1 H3 l1 P3 => ⟨_, rfl, p, 8, rfl, P3.now, (by decide), (by decide), fun z2 H4 l2 P4 => ⟨(by show 2 ≤ sizeLine; decide), fun la hla => ?_⟩⟩⟩
      have P5 := P4.new (o := .lst [.str z1, .str z2]) hla
      refine ⟨_, rfl, _, rfl, _, rfl, _, _, _, _, rfl, rfl, SqL.of upd_same, rfl, _, rfl, _, _, _, _, rfl, rfl, SqL.of upd_same, rfl, ?_⟩
      refine ⟨_, rfl, p, rfl, P5.now, fun a H6 ka P6 => ⟨_, rfl, p, rfl, P6.now, fun b H7 kb P7 => ⟨_, rfl, p, rfl, P7.now, fun e H8 ke P8 => ?_⟩⟩⟩
      have PP := (((P02.trans P3).trans P5).trans P6).trans (P7.trans P8)
      refine ⟨(by show 7 ≤ sizeLine; decide), fun t ht => ?_⟩
      exact q t [.str z, .int m, .str z1, .str z2, .int a, .int b, .int e] [.str z, .int m, .str z1, .str z2, .int a, .int b, .int e] _ (PP.free ht) upd_same (fun H2 => .cons (iz H2) (.cons (im H2) (.cons (i := .str z1) ⟨rfl, by omega⟩ (.cons (i := .str z2) ⟨rfl, by omega⟩ (.cons (i := .int a) ⟨rfl, ka⟩ (.cons (i := .int b) ⟨rfl, kb⟩ (.cons (i := .int e) ⟨rfl, ke⟩ .nil))))))) (by simp) (by simp) (PP.new ht)
    · refine ⟨_, rfl, rfl, _, rfl, ite2 (fun c => ?_) (fun c => ?_)⟩
      · refine ⟨_, rfl, _, rfl, _, rfl, p, rfl, P02.now, fun a H6 ka P6 => ⟨_, rfl, p, rfl, P6.now, fun b H7 kb P7 => ⟨_, rfl, p, rfl, P7.now, fun e H8 ke P8 => ?_⟩⟩⟩
        have PP := (P02.trans P6).trans (P7.trans P8)
        refine ⟨(by show 5 ≤ sizeLine; decide), fun t ht => ?_⟩
        exact q t [.str z, .int m, .int a, .int b, .int e] [.str z, .int m, .int a, .int b, .int e] _ (PP.free ht) upd_same (fun H2 => .cons (iz H2) (.cons (im H2) (.cons (i := .int a) ⟨rfl, ka⟩ (.cons (i := .int b) ⟨rfl, kb⟩ (.cons (i := .int e) ⟨rfl, ke⟩ .nil))))) (by simp) (by simp) (PP.new ht)
      · refine ⟨_, rfl, _, rfl, _, rfl, p, rfl, P02.now, fun a H6 ka P6 => ?_⟩
        have PP := P02.trans P6
        refine ⟨(by show 3 ≤ sizeLine; decide), fun t ht => ?_⟩
        exact q t [.str z, .int m, .int a] [.str z, .int m, .int a] _ (PP.free ht) upd_same (fun H2 => .cons (iz H2) (.cons (im H2) (.cons (i := .int a) ⟨rfl, ka⟩ .nil))) (by simp) (by simp) (PP.new ht)
/-! ### spoiled -/
abbrev oddL (e0 e1 e2 : Addr) : List V := [.non, .bl true, .str "1", .str "", .str "abcdefghi", .str "Ab", .int (-1), .ref e0, .ref e1, .ref e2, .str "gone", .int 5, .str "a"]
theorem int_dig {n : Int} (h : n.natAbs < 100) : Dig n := dig_small (Nat.lt_trans h (by decide +kernel))
theorem notTupS {K : PySem.W.Frag} {H : Hp} {z : Str} : NotTup K H (.str z) := ⟨_, .base (.str _), kit_ty (by decide +kernel)⟩
theorem notTupI {K : PySem.W.Frag} {H : Hp} {n : Int} : NotTup K H (.int n) := ⟨_, .base (.int _), kit_ty (by decide +kernel)⟩
structure Od (H : Hp) (e0 e1 e2 : Addr) : Prop where
  h0 : H e0 = some (.lst [.int 1])
  h1 : H e1 = some (.tup [.int 1])
  h2 : H e2 = some (.dK [])
theorem odd77 {K : PySem.W.Frag} {e0 e1 e2 : Addr} {d : Int} (d0 : 0 ≤ d) (d1 : d < 13) : ∃ v it th, atI (oddL e0 e1 e2) d = some v ∧ ∀ H, Od H e0 e1 e2 → ItA K H v it ∧ ThA K H v th := by
  obtain ⟨n, rfl⟩ := Int.eq_ofNat_of_zero_le d0
  have hn : n < 13 := by omega
  rcases (show n = 0 ∨ n = 1 ∨ n = 2 ∨ n = 3 ∨ n = 4 ∨ n = 5 ∨ n = 6 ∨ n = 7 ∨ n = 8 ∨ n = 9 ∨ n = 10 ∨ n = 11 ∨ n = 12 by omega) with e | e | e | e | e | e | e | e | e | e | e | e | e <;> subst e
  · exact ⟨.non, .oth, .no, rfl, fun H o => ⟨⟨⟨_, false, false, .base .non, kit_ty (by decide +kernel), kit_ty (by decide +kernel), rfl⟩, ⟨_, .base .non, kit_ty (by decide +kernel)⟩, .inl fun z => ⟨rfl, fun z => nomatch z⟩⟩, ⟨_, .base .non, kit_ty (by decide +kernel)⟩⟩⟩
  · exact ⟨.bl true, .oth, .no, rfl, fun H o => ⟨⟨⟨_, true, true, .base (.bl _), kit_ty (by decide +kernel), kit_ty (by decide +kernel), rfl⟩, ⟨_, .base (.bl _), kit_ty (by decide +kernel)⟩, .inl fun z => ⟨rfl, fun z => nomatch z⟩⟩, ⟨_, .base (.bl _), kit_ty (by decide +kernel)⟩⟩⟩
  · exact ⟨.str "1", .str "1", .no, rfl, fun H o => ⟨⟨rfl, by decide +kernel⟩, notTupS⟩⟩
  · exact ⟨.str "", .str "", .no, rfl, fun H o => ⟨⟨rfl, by decide +kernel⟩, notTupS⟩⟩
  · exact ⟨.str "abcdefghi", .str "abcdefghi", .no, rfl, fun H o => ⟨⟨rfl, by decide +kernel⟩, notTupS⟩⟩
  · exact ⟨.str "Ab", .str "Ab", .no, rfl, fun H o => ⟨⟨rfl, by decide +kernel⟩, notTupS⟩⟩
  · exact ⟨.int (-1), .int (-1), .no, rfl, fun H o => ⟨⟨rfl, int_dig (by decide)⟩, notTupI⟩⟩
  · exact ⟨.ref e0, .oth, .no, rfl, fun H o => ⟨⟨⟨_, false, false, .base (.lst o.h0), kit_ty (by decide +kernel), kit_ty (by decide +kernel), rfl⟩, ⟨_, .base (.lst o.h0), kit_ty (by decide +kernel)⟩, .inr (.inl ⟨.list [.int 1], fun H' s => .lst (SqL.of (s _ _ o.h0)) (.cons (.int 1) .nil), by decide +kernel, fun z => by simp [PyData.eqv]⟩)⟩, ⟨_, .base (.lst o.h0), kit_ty (by decide +kernel)⟩⟩⟩
  · exact ⟨.ref e1, .oth, .tup [.int 1], rfl, fun H o => ⟨⟨⟨_, false, false, .base (.tup o.h1), kit_ty (by decide +kernel), kit_ty (by decide +kernel), rfl⟩, ⟨_, .base (.tup o.h1), kit_ty (by decide +kernel)⟩, .inr (.inl ⟨.tuple [.int 1], fun H' s => .tup (SqT.of (s _ _ o.h1)) (.cons (.int 1) .nil), by decide +kernel, fun z => by simp [PyData.eqv]⟩)⟩, ⟨e1, _, rfl, o.h1, .cons (i := .int 1) ⟨rfl, int_dig (by decide)⟩ .nil, by decide⟩⟩⟩
  · exact ⟨.ref e2, .oth, .no, rfl, fun H o => ⟨⟨⟨_, false, false, .base (.dK o.h2), kit_ty (by decide +kernel), kit_ty (by decide +kernel), rfl⟩, ⟨_, .base (.dK o.h2), kit_ty (by decide +kernel)⟩, .inr (.inr ⟨e2, rfl, o.h2⟩)⟩, ⟨_, .base (.dK o.h2), kit_ty (by decide +kernel)⟩⟩⟩
  · exact ⟨.str "gone", .str "gone", .no, rfl, fun H o => ⟨⟨rfl, by decide +kernel⟩, notTupS⟩⟩
  · exact ⟨.int 5, .int 5, .no, rfl, fun H o => ⟨⟨rfl, int_dig (by decide)⟩, notTupI⟩⟩
  · exact ⟨.str "a", .str "a", .no, rfl, fun H o => ⟨⟨rfl, by decide +kernel⟩, notTupS⟩⟩
def spSpoil (K : PySem.W.Frag) : Sp := fun vs H Q _ => ∃ (p a : Addr) (us : List V) (is : List It), vs = [.ref p, .ref a] ∧ StAt H p ∧ H a = some (.tup us) ∧ (∀ H2, ItsA K H2 us is) ∧ 3 ≤ us.length ∧ us.length ≤ 8 ∧
  ∀ v th H', ThA K H' v th → Pl H H' p → Q v H'
structure GS (P : Program) (w : World) (K : PySem.W.Frag) (mg : Str → Option Value) (base : Heap) : Prop where
  law_draw : CDraw P w K mg base
abbrev s_l_spoiled : Stmt := topS 36
theorem sc_l_spoiled : FnScope ["stream", "entry", "row", "odd", "choice"] ["stream", "entry"] (defScope s_l_spoiled) := ⟨rfl, rfl, rfl, by decide +kernel, rfl, by decide +kernel, by decide +kernel⟩
theorem ok_spoil {f : Addr} {fd : FuncData} (F : Fun K "_law_spoiled" "_law_spoiled" s_l_spoiled f fd) (B : Blt mg) (G : GS P w K mg base) : FnOk P w K mg base CX0 2 f fd ["stream", "entry"] (spSpoil K) := by
  refine F.ok sc_l_spoiled (fun vs H Q E h => ?_) (fun cdv A outer s H vs Q E hr h => ?_)
  · obtain ⟨p, a, us, is, rfl, _⟩ := h
    rfl
  · obtain ⟨p, a, us, is, rfl, hP, ha, hI, n3, n8, q⟩ := h
    have hu := hu_of hr
    refine ⟨_, (pss_cons (ps_set (i := 2) sc_l_spoiled.nd rfl (Or.inl rfl) (pe_callTy call_list_of (by rfl) B.list (by decide +kernel) (pa_cons (pv 1) pa_nil)))
    (pss_cons (ps_set (i := 3) sc_l_spoiled.nd rfl (Or.inl rfl) (pe_lst (pa_cons pe_non (pa_cons pe_bl (pa_cons pe_str (pa_cons pe_str (pa_cons pe_str (pa_cons pe_str (pa_cons (pe_un un_neg pe_int) (pa_cons (pe_lst (pa_cons pe_int pa_nil)) (pa_cons (pe_tup (pa_cons pe_int pa_nil)) (pa_cons pe_dnewK (pa_cons pe_str (pa_cons pe_int (pa_cons pe_str pa_nil)))))))))))))))
    (pss_cons (ps_set (i := 4) sc_l_spoiled.nd rfl (Or.inl rfl) (pe_cal G.law_draw (hr.mono (by decide)) pass0 (pa_cons (pv 0) (pa_cons pe_int pa_nil))))
    (pss_cons (ps_if (pt_cmpR op_eq (pv 4) pe_int (nomark _))
      (pss_one (ps_asg (pe_ix ix_list (pv 3) (pe_cal G.law_draw (hr.mono (by decide)) pass0 (pa_cons (pv 0) (pa_cons pe_int pa_nil))) (fun _ _ => rfl)) (pg_sub (pv 2) (pe_cal G.law_draw (hr.mono (by decide)) pass0 (pa_cons (pv 0) (pa_cons (pe_callB call_len (by rfl) B.len (by decide +kernel) (pa_cons (pv 2) pa_nil)) pa_nil))) set_list)))
      pss_nil)
    (pss_cons (ps_if (pt_cmpR op_eq (pv 4) pe_int (nomark _))
      (pss_one (ps_expr (pe_bm PySem.F.plainAttrs_list PySem.F.slot_list_insert PySem.F.type_list_insert mt_insert (pv 2) (pa_cons (pe_cal G.law_draw (hr.mono (by decide)) pass0 (pa_cons (pv 0) (pa_cons (pe_op op_add (pe_callB call_len (by rfl) B.len (by decide +kernel) (pa_cons (pv 2) pa_nil)) pe_int) pa_nil))) (pa_cons (pe_ix ix_list (pv 3) (pe_cal G.law_draw (hr.mono (by decide)) pass0 (pa_cons (pv 0) (pa_cons pe_int pa_nil))) (fun _ _ => rfl)) pa_nil)))))
      pss_nil)
    (pss_cons (ps_if (pt_cmpR op_eq (pv 4) pe_int (nomark _))
      (pss_one (ps_expr (pe_bm PySem.F.plainAttrs_list PySem.F.slot_list_pop PySem.F.type_list_pop mt_popAt (pv 2) (pa_cons (pe_cal G.law_draw (hr.mono (by decide)) pass0 (pa_cons (pv 0) (pa_cons (pe_callB call_len (by rfl) B.len (by decide +kernel) (pa_cons (pv 2) pa_nil)) pa_nil))) pa_nil))))
      pss_nil)
    (pss_cons (ps_if (pt_cmpR op_eq (pv 4) pe_int (nomark _))
      (pss_one (ps_ret (pe_ix ix_list (pv 3) (pe_cal G.law_draw (hr.mono (by decide)) pass0 (pa_cons (pv 0) (pa_cons pe_int pa_nil))) (fun _ _ => rfl))))
      pss_nil)
    (pss_cons (ps_if (pt_cmpR op_eq (pv 4) pe_int (nomark _))
      (pss_one (ps_ret (pv 2)))
      pss_nil)
    (pss_one (ps_ret (pe_callTy (show CallR _ (.type "tuple") (rTupOf K) from call_tuple_of) (by rfl) B.tuple (by decide +kernel) (pa_cons (pv 2) pa_nil)))))))))))), ?_⟩
    refine ⟨_, rfl, a, us, rfl, .inr (SqT.of ha), fun l hl => ?_⟩
    have hlp : l ≠ p := fun z => hP.ne (z ▸ hl)
    have P0 := (Pl.refl hP).new (o := .lst us) hl
    have hl0 : upd H l (.lst us) l = some (.lst us) := upd_same
    generalize upd H l (.lst us) = H0 at P0 hl0 ⊢
    refine ⟨_, rfl, (by show 1 ≤ sizeLine; decide), fun e0 h0 => ⟨(by show 1 ≤ sizeLine; decide), fun e1 h1 => fun e2 h2 => ⟨(by show 13 ≤ sizeLine; decide), fun lo hlo => ?_⟩⟩⟩
    have s1 := sameAt (o := .lst [.int 1]) (Same.refl H0) h0
    have s2 := sameAt (o := .tup [.int 1]) (Same.refl _) h1
    have s3 := sameAt (o := .dK []) (Same.refl _) h2
    have s4 := sameAt (o := .lst (oddL e0 e1 e2)) (Same.refl _) hlo
    have od : Od _ e0 e1 e2 := ⟨s4 _ _ (s3 _ _ (s2 _ _ upd_same)), s4 _ _ (s3 _ _ upd_same), s4 _ _ upd_same⟩
    have sO := s1.trans (s2.trans (s3.trans s4))
    have hl3 := sO _ _ hl0
    have hlo3 : upd (upd (upd (upd H0 e0 (.lst [.int 1])) e1 (.tup [.int 1])) e2 (.dK [])) lo (.lst (oddL e0 e1 e2)) lo = some (.lst (oddL e0 e1 e2)) := upd_same
    have P3 := P0.same sO
    have nw : ∀ {x o}, H0 x = some o → x ≠ e0 ∧ x ≠ e1 ∧ x ≠ e2 ∧ x ≠ lo := fun {x o} hx => ⟨fun z => (by rw [z, h0] at hx; cases hx), fun z => (by have := s1 _ _ hx; rw [z, h1] at this; cases this), fun z => (by have := s2 _ _ (s1 _ _ hx); rw [z, h2] at this; cases this), fun z => (by have := s3 _ _ (s2 _ _ (s1 _ _ hx)); rw [z, hlo] at this; cases this)⟩
    obtain ⟨l0, l1, l2, l3⟩ := nw hl0
    obtain ⟨p0, p1, p2, p3⟩ : p ≠ e0 ∧ p ≠ e1 ∧ p ≠ e2 ∧ p ≠ lo := by
      obtain ⟨c, f, n, hp, _⟩ := P0.now
      exact nw hp
    have e0l : lo ≠ l := l3.symm
    generalize upd (upd (upd (upd H0 e0 (.lst [.int 1])) e1 (.tup [.int 1])) e2 (.dK [])) lo (.lst (oddL e0 e1 e2)) = H3 at od hl3 hlo3 P3 ⊢
    refine ⟨_, rfl, p, 6, rfl, P3.now, (by decide), (by decide), fun ch H4 c0 c6 P34 => ?_⟩
    have odP : ∀ {G G' : Hp}, Od G e0 e1 e2 → Pl G G' p → Od G' e0 e1 e2 := fun o P => ⟨P.keep o.h0 p0.symm, P.keep o.h1 p1.symm, P.keep o.h2 p2.symm⟩
    have odL : ∀ {G : Hp} {ys : List V}, Od G e0 e1 e2 → Od (upd G l (.lst ys)) e0 e1 e2 := fun o => ⟨by rw [upd_ne l0.symm]; exact o.h0, by rw [upd_ne l1.symm]; exact o.h1, by rw [upd_ne l2.symm]; exact o.h2⟩
    have od4 := odP od P34
    have hl4 := P34.keep hl3 hlp
    have hlo4 := P34.keep hlo3 p3.symm
    have P4 := P3.trans P34
    clear od hl3 hlo3 P3 P34 s1 s2 s3 s4 sO h0 h1 h2 hlo
    have il := (hI H).len
    have fin : ∀ (H7 : Hp) (us7 : List V) (is7 : List It), H7 l = some (.lst us7) → ItsA K H7 us7 is7 → us7.length ≤ 9 → Pl H H7 p → ∀ {R : VK}, (∀ v H', Q v H' → R v H') → tCB (rTupOf K) (tCons (tVar 2) tNil) [some (.ref p), some (.ref a), some (.ref l), some (.ref lo), some (.int ch)] H7 R := fun H7 us7 is7 h7 I7 l7 P7 R qR => by
      refine ⟨_, rfl, l, us7, rfl, .inl ⟨SqL.of h7, fun t ht => qR _ _ (q (.ref t) (.tup is7) _ ⟨t, us7, rfl, upd_same, I7.same (sameAt (Same.refl _) ht), l7⟩ (P7.new ht))⟩⟩
    rcases (show ch = 0 ∨ ch = 1 ∨ ch = 2 ∨ ch = 3 ∨ ch = 4 ∨ ch = 5 by omega) with rfl | rfl | rfl | rfl | rfl | rfl
    · refine ⟨_, rfl, rfl, _, rfl, iteP (decide_eq_true rfl) ⟨_, rfl, _, rfl, p, 13, rfl, P4.now, (by decide), (by decide), fun d H5 d0 d13 P5 => ?_⟩⟩
      obtain ⟨v, it, th, hv, ho⟩ := odd77 (K := K) (e0 := e0) (e1 := e1) (e2 := e2) d0 d13
      have hl5 := P5.keep hl4 hlp
      refine ⟨_, _, _, _, rfl, rfl, SqL.of (P5.keep hlo4 p3.symm), hv, _, rfl, _, rfl, _, rfl, _, _, rfl, .inl ⟨_, SqL.of hl5, rfl⟩, p, _, rfl, P5.now, (by omega), Int.lt_of_le_of_lt (show (us.length : Int) ≤ 8 by omega) (by decide), fun k H6 k0 k1 P6 => ?_⟩
      obtain ⟨k, rfl⟩ : ∃ j : Nat, k = (j : Int) := ⟨k.toNat, by omega⟩
      have hk : k < us.length := by omega
      have od6 := odL (ys := us.set k v) (odP (odP od4 P5) P6)
      have I7 : ItsA K (upd H6 l (.lst (us.set k v))) (us.set k v) (is.set k it) := ItsA.set (ho _ od6).1 k (hI _)
      refine ⟨l, us, (k : Int), k, rfl, rfl, P6.keep hl5 hlp, (ixN_nt hk), ?_⟩
      have P7 := ((P4.trans P5).trans P6).at (o := .lst (us.set k v)) hl
      exact ⟨_, rfl, rfl, _, rfl, iteN (decide_eq_false fun z => absurd (V.int.inj z) (by decide)) ⟨_, rfl, rfl, _, rfl, iteN (decide_eq_false fun z => absurd (V.int.inj z) (by decide)) ⟨_, rfl, rfl, _, rfl, iteN (decide_eq_false fun z => absurd (V.int.inj z) (by decide)) ⟨_, rfl, rfl, _, rfl, iteN (decide_eq_false fun z => absurd (V.int.inj z) (by decide)) (fin _ _ _ upd_same I7 (by rw [List.length_set]; omega) P7 (fun _ _ z => z))⟩⟩⟩⟩
    · refine ⟨_, rfl, rfl, _, rfl, iteN (decide_eq_false fun z => absurd (V.int.inj z) (by decide)) ⟨_, rfl, rfl, _, rfl, iteP (decide_eq_true rfl) ⟨_, rfl, .inl ⟨rfl, _, SqL.of hl4⟩, _, rfl, _, rfl, _, _, rfl, .inl ⟨_, SqL.of hl4, rfl⟩, _, _, rfl, rfl, p, _, rfl, P4.now, (by omega), Int.lt_of_le_of_lt (show (us.length : Int) + 1 ≤ 9 by omega) (by decide), fun k H5 k0 k1 P5 => ?_⟩⟩⟩
      obtain ⟨k, rfl⟩ : ∃ j : Nat, k = (j : Int) := ⟨k.toNat, by omega⟩
      refine ⟨_, rfl, _, rfl, p, 13, rfl, P5.now, (by decide), (by decide), fun d H6 d0 d13 P6 => ?_⟩
      obtain ⟨v, it, th, hv, ho⟩ := odd77 (K := K) (e0 := e0) (e1 := e1) (e2 := e2) d0 d13
      have hl6 := P6.keep (P5.keep hl4 hlp) hlp
      refine ⟨_, _, _, _, rfl, rfl, SqL.of (P6.keep (P5.keep hlo4 p3.symm) p3.symm), hv, l, us, (k : Int), v, rfl, rfl, hl6, (by rw [sizeLine_eq]; omega), (by omega), (by omega), ?_⟩
      have od6 := odL (ys := us.take (k : Int).toNat ++ [v] ++ us.drop (k : Int).toNat) (odP (odP od4 P5) P6)
      have I7 : ItsA K (upd H6 l (.lst (us.take (k : Int).toNat ++ [v] ++ us.drop (k : Int).toNat))) (us.take (k : Int).toNat ++ [v] ++ us.drop (k : Int).toNat) (is.take (k : Int).toNat ++ [it] ++ is.drop (k : Int).toNat) := (((hI _).take _).app (.cons (ho _ od6).1 .nil)).app ((hI _).drop _)
      have P7 := ((P4.trans P5).trans P6).at (o := .lst (us.take (k : Int).toNat ++ [v] ++ us.drop (k : Int).toNat)) hl
      exact ⟨_, rfl, rfl, _, rfl, iteN (decide_eq_false fun z => absurd (V.int.inj z) (by decide)) ⟨_, rfl, rfl, _, rfl, iteN (decide_eq_false fun z => absurd (V.int.inj z) (by decide)) ⟨_, rfl, rfl, _, rfl, iteN (decide_eq_false fun z => absurd (V.int.inj z) (by decide)) (fin _ _ _ upd_same I7 (by rw [List.length_append, List.length_append, List.length_take, List.length_drop]; show _ + 1 + _ ≤ 9; omega) P7 (fun _ _ z => z))⟩⟩⟩
    · refine ⟨_, rfl, rfl, _, rfl, iteN (decide_eq_false fun z => absurd (V.int.inj z) (by decide)) ⟨_, rfl, rfl, _, rfl, iteN (decide_eq_false fun z => absurd (V.int.inj z) (by decide)) ⟨_, rfl, rfl, _, rfl, iteP (decide_eq_true rfl) ⟨_, rfl, .inl ⟨rfl, _, SqL.of hl4⟩, _, rfl, _, rfl, _, _, rfl, .inl ⟨_, SqL.of hl4, rfl⟩, p, _, rfl, P4.now, (by omega), Int.lt_of_le_of_lt (show (us.length : Int) ≤ 9 by omega) (by decide), fun k H5 k0 k1 P5 => ?_⟩⟩⟩⟩
      obtain ⟨k, rfl⟩ : ∃ j : Nat, k = (j : Int) := ⟨k.toNat, by omega⟩
      have hk : k < us.length := by omega
      have hl5 := P5.keep hl4 hlp
      refine ⟨l, us, (k : Int), k, us[k], rfl, rfl, hl5, (by omega), (by omega), (ixN_seq (ixN_nt hk)).1, List.getElem?_eq_getElem hk, ?_⟩
      have P7 := (P4.trans P5).at (o := .lst (us.eraseIdx k)) hl
      exact ⟨_, rfl, rfl, _, rfl, iteN (decide_eq_false fun z => absurd (V.int.inj z) (by decide)) ⟨_, rfl, rfl, _, rfl, iteN (decide_eq_false fun z => absurd (V.int.inj z) (by decide)) (fin _ _ _ upd_same ((hI _).erase k) (by have := List.length_eraseIdx_le us k; omega) P7 (fun _ _ z => z))⟩⟩
    · refine ⟨_, rfl, rfl, _, rfl, iteN (decide_eq_false fun z => absurd (V.int.inj z) (by decide)) ⟨_, rfl, rfl, _, rfl, iteN (decide_eq_false fun z => absurd (V.int.inj z) (by decide)) ⟨_, rfl, rfl, _, rfl, iteN (decide_eq_false fun z => absurd (V.int.inj z) (by decide)) ⟨_, rfl, rfl, _, rfl, iteP (decide_eq_true rfl) ⟨_, rfl, _, rfl, p, 13, rfl, P4.now, (by decide), (by decide), fun d H5 d0 d13 P5 => ?_⟩⟩⟩⟩⟩
      obtain ⟨v, it, th, hv, ho⟩ := odd77 (K := K) (e0 := e0) (e1 := e1) (e2 := e2) d0 d13
      exact ⟨_, _, _, _, rfl, rfl, SqL.of (P5.keep hlo4 p3.symm), hv, q v th H5 (ho _ (odP od4 P5)).2 (P4.trans P5)⟩
    · exact ⟨_, rfl, rfl, _, rfl, iteN (decide_eq_false fun z => absurd (V.int.inj z) (by decide)) ⟨_, rfl, rfl, _, rfl, iteN (decide_eq_false fun z => absurd (V.int.inj z) (by decide)) ⟨_, rfl, rfl, _, rfl, iteN (decide_eq_false fun z => absurd (V.int.inj z) (by decide)) ⟨_, rfl, rfl, _, rfl, iteN (decide_eq_false fun z => absurd (V.int.inj z) (by decide)) ⟨_, rfl, rfl, _, rfl, iteP (decide_eq_true rfl) ⟨_, rfl, q (.ref l) .no H4 ⟨_, .base (.lst hl4), kit_ty (by decide +kernel)⟩ P4⟩⟩⟩⟩⟩⟩
    · exact ⟨_, rfl, rfl, _, rfl, iteN (decide_eq_false fun z => absurd (V.int.inj z) (by decide)) ⟨_, rfl, rfl, _, rfl, iteN (decide_eq_false fun z => absurd (V.int.inj z) (by decide)) ⟨_, rfl, rfl, _, rfl, iteN (decide_eq_false fun z => absurd (V.int.inj z) (by decide)) ⟨_, rfl, rfl, _, rfl, iteN (decide_eq_false fun z => absurd (V.int.inj z) (by decide)) ⟨_, rfl, rfl, _, rfl, iteN (decide_eq_false fun z => absurd (V.int.inj z) (by decide)) (fin H4 us is hl4 (hI _) (by omega) P4 (fun _ _ z => z))⟩⟩⟩⟩⟩
end
end Ash

set_option Elab.async false
set_option linter.all false
set_option maxRecDepth 100000
set_option maxHeartbeats 400000
set_option pp.maxSteps 300
namespace Ash
open PySem PySem.Spec PyProof.Rows L2
open C8 (pss_cut)
def rSlU (K : PySem.W.Frag) : V → Option Int → Option Int → Hp → VK → Prop := fun x lo hi H Q => ∃ a xs, x = .ref a ∧ SqT K H a xs ∧ ∀ u H', Same H H' → SqT K H' u (cutV xs lo hi) → Q (.ref u) H'
theorem sl_tupU {X : Cx} : SlR X (rSlU X.K) := by
  intro pins s σ H x v vl vu lo hi sl Q I rx hs pl pu h
  obtain ⟨a, xs, rfl, hx, q⟩ := h
  refine sl_tupA pins s σ H _ v vl vu lo hi sl Q I rx hs pl pu ⟨a, xs, rfl, hx, fun hw => q a H (Same.refl H) ?_, fun _ p hp => q p _ (sameAt (Same.refl H) hp) (SqT.of upd_same)⟩
  have e : cutV xs lo hi = xs := by
    unfold cutV
    rw [hw.1, hw.2, List.drop_zero, Nat.sub_zero, List.take_length]
  rw [e]
  exact hx
end Ash

set_option Elab.async false
set_option linter.all false
set_option maxRecDepth 100000
set_option maxHeartbeats 400000
set_option pp.maxSteps 60
namespace Ash
open PySem PySem.Spec PyProof.Rows L2
open C8 (pss_cut)
/-! ### what is an entry, by the program -/
abbrev abc : Str := "abcdefghijklmnopqrstuvwxyz"
def LET : List Nat := abc.cps.toList
def nmB (z : Str) : Bool := decide (1 ≤ z.length ∧ z.length ≤ 8) && z.cps.toList.all fun c => decide (c ∈ LET)
def It.isI : It → Bool
  | .int _ => true
  | _ => false
def It.isN : It → Bool
  | .int n => decide (0 ≤ n)
  | _ => false
def It.isNm : It → Bool
  | .str z => nmB z
  | _ => false
def It.isS : It → Str → Bool
  | .str y, z => decide (y = z)
  | _, _ => false
def gE : List It → Bool
  | w :: n :: rest => n.isN && (if w.isS "row" = true then (match rest with
      | s :: k :: r => decide (r.length = 3) && (s.isNm && (k.isNm && r.all It.isI))
      | _ => false) else if w.isS "fix" = true then decide (rest.length = 3) && rest.all It.isI else w.isS "gone" && (decide (rest.length = 1) && rest.all It.isI))
  | _ => false
def gT : Th → Bool
  | .tup is => gE is
  | .no => false
theorem eqS_of {K : PySem.W.Frag} {H : Hp} {v : V} {i : It} {z : Str} {Q : VK} (h : ItA K H v i) (ok : PyData.strOk z = true) (q : Q (.bl (i.isS z)) H) : rEqS K v (.str z) H Q := by
  cases i with
  | int n =>
    obtain ⟨rfl, _⟩ := h
    exact .inl ⟨rfl, by rw [decide_eq_false (fun e => by cases e)]; exact q⟩
  | str y =>
    obtain ⟨rfl, _⟩ := h
    refine .inl ⟨rfl, ?_⟩
    rw [show decide (V.str y = V.str z) = decide (y = z) by rw [Bool.eq_iff_iff]; simp]
    exact q
  | oth =>
    obtain ⟨_, _, h⟩ := h
    rcases h with h | ⟨d, h, k, e⟩ | ⟨a, rfl, h⟩
    · exact .inl ⟨(h z).1, by rw [decide_eq_false (h z).2]; exact q⟩
    · refine .inr (.inl ⟨d, .str z, h H (Same.refl H), .str z, k, by unfold SeqAt.shaped; simp [PyData.canLay0, PyData.depth]; exact ok, ?_⟩)
      rw [e z]
      exact q
    · exact .inr (.inr ⟨a, [], z, rfl, rfl, h, q⟩)
theorem gE_cons {i0 i1 i2 : It} {r : List It} : gE (i0 :: i1 :: i2 :: r) = (i1.isN && (if i0.isS "row" = true then (match r with
      | k :: r => decide (r.length = 3) && (i2.isNm && (k.isNm && r.all It.isI))
      | _ => false) else if i0.isS "fix" = true then decide ((i2 :: r).length = 3) && (i2 :: r).all It.isI else i0.isS "gone" && (decide ((i2 :: r).length = 1) && (i2 :: r).all It.isI))) := by
  cases r <;> rfl
theorem gE_short : ∀ {is : List It}, is.length < 3 → gE is = false
  | [], _ => rfl
  | [_], _ => rfl
  | [a, b], _ => by
    show (b.isN && _) = false
    cases a.isS "row" <;> cases a.isS "fix" <;> simp
  | _ :: _ :: _ :: _, h => by simp only [List.length_cons] at h; omega
theorem ItsA.three {K : PySem.W.Frag} {H : Hp} {us : List V} {is : List It} (h : ItsA K H us is) (l : 3 ≤ us.length) : ∃ v0 v1 v2 vr i0 i1 i2 ir, us = v0 :: v1 :: v2 :: vr ∧ is = i0 :: i1 :: i2 :: ir ∧ ItA K H v0 i0 ∧ ItA K H v1 i1 ∧ ItA K H v2 i2 ∧ ItsA K H vr ir := by
  cases h with
  | nil => simp at l
  | cons h0 t0 => cases t0 with
    | nil => simp at l
    | cons h1 t1 => cases t1 with
      | nil => simp at l
      | cons h2 t2 => exact ⟨_, _, _, _, _, _, _, _, rfl, rfl, h0, h1, h2, t2⟩
def spIsIntA (K : PySem.W.Frag) : Sp := fun vs H Q _ => ∃ v i, vs = [v] ∧ ItA K H v i ∧ Q (.bl i.isI) H
def spIsNatA (K : PySem.W.Frag) : Sp := fun vs H Q _ => ∃ v i, vs = [v] ∧ ItA K H v i ∧ Q (.bl i.isN) H
def spIsNmA (K : PySem.W.Frag) : Sp := fun vs H Q _ => ∃ v i, vs = [v] ∧ ItA K H v i ∧ ∀ H', Same H H' → Q (.bl i.isNm) H'
def spAreA (K : PySem.W.Frag) : Sp := fun vs H Q _ => ∃ (a : Addr) (us : List V) (is : List It), vs = [.ref a] ∧ SqT K H a us ∧ us.length ≤ 9 ∧ ItsA K H us is ∧ ∀ H', Same H H' → Q (.bl (is.all It.isI)) H'
def spIsEA (K : PySem.W.Frag) : Sp := fun vs H Q _ => ∃ v th, vs = [v] ∧ ThA K H v th ∧ ∀ H', Same H H' → Q (.bl (gT th)) H'
theorem ItsA.get {K : PySem.W.Frag} {H : Hp} : ∀ {us : List V} {is : List It} {k : Nat} {v : V}, ItsA K H us is → us[k]? = some v → ∃ i, is[k]? = some i ∧ ItA K H v i
  | _, _, _, _, .nil, h => by simp at h
  | _, _, 0, _, .cons h _, e => by
    cases Option.some.inj (show some _ = some _ from e)
    exact ⟨_, rfl, h⟩
  | _, _, k + 1, _, .cons _ t, e => t.get (k := k) e
theorem list_lit (l : List Nat) : ∀ i x, l[i]? = some x → l.take (i + 1) = l.take i ++ [x] := fun i x h => by
  rw [List.take_add_one, h]
  rfl
section
variable {P : Program} {w : World} {K : PySem.W.Frag} {mg : Str → Option Value} {base : Heap}
abbrev s_is_integer : Stmt := topS 7
theorem sc_is_integer : FnScope ["thing"] ["thing"] (defScope s_is_integer) := ⟨rfl, rfl, rfl, by decide +kernel, rfl, by decide +kernel, by decide +kernel⟩
theorem ok_isint {f : Addr} {fd : FuncData} (F : Fun K "is_integer" "is_integer" s_is_integer f fd) (B : Blt mg) : FnOk P w K mg base CX0 1 f fd ["thing"] (spIsIntA K) := by
  refine F.ok sc_is_integer (fun vs H Q E h => ?_) (fun cdv A outer s H vs Q E hr h => ?_)
  · obtain ⟨v, i, rfl, _⟩ := h
    rfl
  · obtain ⟨v, i, rfl, hv, q⟩ := h
    refine ⟨_, (pss_one (ps_ret (pe_and (pe_callB call_isi (by rfl) B.isinstance (by decide +kernel) (pa_cons (pv 0) (pa_cons (pe_bltn (v := .ty "int") (by rfl) B.int (by decide +kernel) rfl) pa_nil))) (pe_one (pe_not (pe_callB call_isi (by rfl) B.isinstance (by decide +kernel) (pa_cons (pv 0) (pa_cons (pe_bltn (v := .ty "bool") (by rfl) B.bool (by decide +kernel) rfl) pa_nil)))))))), ?_⟩
    cases i with
    | int n =>
      obtain ⟨rfl, _⟩ := hv
      exact ⟨_, rfl, _, _, _, _, true, rfl, ClsV.ty _, .base (.int n), kit_ty (by decide +kernel), _, rfl, iteT ⟨_, rfl, _, _, _, _, false, rfl, ClsV.ty _, .base (.int n), kit_ty (by decide +kernel), _, rfl, q⟩⟩
    | str z =>
      obtain ⟨rfl, _⟩ := hv
      exact ⟨_, rfl, _, _, _, _, false, rfl, ClsV.ty _, .base (.str z), kit_ty (by decide +kernel), _, rfl, iteF q⟩
    | oth =>
      obtain ⟨⟨t, bi, bb, ty, e1, e2, e3⟩, _⟩ := hv
      refine ⟨_, rfl, _, _, _, _, bi, rfl, ClsV.ty _, ty, e1, _, rfl, ?_⟩
      cases bi with
      | false => exact iteF q
      | true =>
        refine iteT ⟨_, rfl, _, _, _, _, bb, rfl, ClsV.ty _, ty, e2, _, rfl, ?_⟩
        have e3 : (!bb) = false := e3
        rw [e3]
        exact q
abbrev s_l_is_integer : Stmt := topS 25
theorem sc_l_is_integer : FnScope ["thing"] ["thing"] (defScope s_l_is_integer) := ⟨rfl, rfl, rfl, by decide +kernel, rfl, by decide +kernel, by decide +kernel⟩
theorem ok_lisint {f : Addr} {fd : FuncData} (F : Fun K "_law_is_integer" "_law_is_integer" s_l_is_integer f fd) (B : Blt mg) : FnOk P w K mg base CX0 1 f fd ["thing"] (spIsIntA K) := by
  refine F.ok sc_l_is_integer (fun vs H Q E h => ?_) (fun cdv A outer s H vs Q E hr h => ?_)
  · obtain ⟨v, i, rfl, _⟩ := h
    rfl
  · obtain ⟨v, i, rfl, hv, q⟩ := h
    refine ⟨_, (pss_one (ps_ret (pe_and (pe_callB call_isi (by rfl) B.isinstance (by decide +kernel) (pa_cons (pv 0) (pa_cons (pe_bltn (v := .ty "int") (by rfl) B.int (by decide +kernel) rfl) pa_nil))) (pe_one (pe_not (pe_callB call_isi (by rfl) B.isinstance (by decide +kernel) (pa_cons (pv 0) (pa_cons (pe_bltn (v := .ty "bool") (by rfl) B.bool (by decide +kernel) rfl) pa_nil)))))))), ?_⟩
    cases i with
    | int n =>
      obtain ⟨rfl, _⟩ := hv
      exact ⟨_, rfl, _, _, _, _, true, rfl, ClsV.ty _, .base (.int n), kit_ty (by decide +kernel), _, rfl, iteT ⟨_, rfl, _, _, _, _, false, rfl, ClsV.ty _, .base (.int n), kit_ty (by decide +kernel), _, rfl, q⟩⟩
    | str z =>
      obtain ⟨rfl, _⟩ := hv
      exact ⟨_, rfl, _, _, _, _, false, rfl, ClsV.ty _, .base (.str z), kit_ty (by decide +kernel), _, rfl, iteF q⟩
    | oth =>
      obtain ⟨⟨t, bi, bb, ty, e1, e2, e3⟩, _⟩ := hv
      refine ⟨_, rfl, _, _, _, _, bi, rfl, ClsV.ty _, ty, e1, _, rfl, ?_⟩
      cases bi with
      | false => exact iteF q
      | true =>
        refine iteT ⟨_, rfl, _, _, _, _, bb, rfl, ClsV.ty _, ty, e2, _, rfl, ?_⟩
        have e3 : (!bb) = false := e3
        rw [e3]
        exact q
structure GI (P : Program) (w : World) (K : PySem.W.Frag) (mg : Str → Option Value) (base : Heap) : Prop where
  is_integer : Cal P w K mg base CX0 "is_integer" 1 ["thing"] (spIsIntA K)
  law_is_integer : Cal P w K mg base CX0 "_law_is_integer" 1 ["thing"] (spIsIntA K)
abbrev s_is_natural : Stmt := topS 8
theorem sc_is_natural : FnScope ["thing"] ["thing"] (defScope s_is_natural) := ⟨rfl, rfl, rfl, by decide +kernel, rfl, by decide +kernel, by decide +kernel⟩
theorem ok_isnat {f : Addr} {fd : FuncData} (F : Fun K "is_natural" "is_natural" s_is_natural f fd) (B : Blt mg) (G : GI P w K mg base) : FnOk P w K mg base CX0 2 f fd ["thing"] (spIsNatA K) := by
  refine F.ok sc_is_natural (fun vs H Q E h => ?_) (fun cdv A outer s H vs Q E hr h => ?_)
  · obtain ⟨v, i, rfl, _⟩ := h
    rfl
  · obtain ⟨v, i, rfl, hv, q⟩ := h
    refine ⟨_, (pss_one (ps_ret (pe_and (pe_cal G.is_integer (hr.mono (by decide)) pass0 (pa_cons (pv 0) pa_nil)) (pe_one (pe_cmpR op_ge (pv 0) pe_int (nomark _)))))), ?_⟩
    refine ⟨_, rfl, v, i, rfl, hv, ?_⟩
    cases i with
    | int n =>
      obtain ⟨rfl, _⟩ := hv
      exact ⟨_, rfl, iteT ⟨_, rfl, _, _, rfl, rfl, q⟩⟩
    | str z => exact ⟨_, rfl, iteF q⟩
    | oth => exact ⟨_, rfl, iteF q⟩
abbrev s_is_name : Stmt := topS 9
theorem sc_is_name : FnScope ["thing", "letter"] ["thing"] (defScope s_is_name) := ⟨rfl, rfl, rfl, by decide +kernel, rfl, by decide +kernel, by decide +kernel⟩
theorem ok_isname {f : Addr} {fd : FuncData} (F : Fun K "is_name" "is_name" s_is_name f fd) (B : Blt mg) (k_LETTERS : ∃ t, mg "LETTERS" = some (.str abc t)) (k_LONGEST_NAME : ∃ t, mg "LONGEST_NAME" = some (.int 8 t)) : FnOk P w K mg base CX0 1 f fd ["thing"] (spIsNmA K) := by
  obtain ⟨t1, g_LETTERS⟩ := k_LETTERS
  obtain ⟨t2, g_LONGEST_NAME⟩ := k_LONGEST_NAME
  refine F.ok sc_is_name (fun vs H Q E h => ?_) (fun cdv A outer s H vs Q E hr h => ?_)
  · obtain ⟨v, i, rfl, _⟩ := h
    rfl
  · obtain ⟨v, i, rfl, hv, q⟩ := h
    refine ⟨_, (pss_cons (ps_if (PW.pt (pw_or (pt_not (pt_val (pe_callB call_isi (by rfl) B.isinstance (by decide +kernel) (pa_cons (pv 0) (pa_cons (pe_bltn (v := .ty "str") (by rfl) B.str (by decide +kernel) rfl) pa_nil))))) (pw_or1 (pt_not (pt_chain op_le op_le pe_int (pe_callB call_len_str (by rfl) B.len (by decide +kernel) (pa_cons (pv 0) pa_nil)) (pe_glob (v := .int 8) (by rfl) g_LONGEST_NAME ⟨_, rfl⟩))))))
      (pss_one (ps_ret pe_bl))
      pss_nil)
    (pss_one (ps_ret (pe_callB (cr_all rfl) (by rfl) B.all (by decide +kernel) (pa_cons (pe_lc (own := [("letter", 1)]) (g := gName 1) (tt := tYes) (by rfl) sc_is_name.nd (pi_str (pv 0)) (blkOk_by (own := [("letter", 1)]) (N := ["thing", "letter"]) (sc := defScope s_is_name) (by decide +kernel)) (fun _ _ _ _ _ => (pg_name (i := 1) sc_is_name.nd rfl (Or.inl rfl))) (fun _ _ _ _ _ => pts_nil) (fun _ _ _ _ _ => (pe_cmpR op_in_sign (pv 1) (pe_glob (v := .str "abcdefghijklmnopqrstuvwxyz") (by rfl) g_LETTERS ⟨_, rfl⟩) rfl))) pa_nil))))), ?_⟩
    cases i with
    | int n =>
      obtain ⟨rfl, _⟩ := hv
      exact ⟨_, rfl, _, _, _, _, false, rfl, ClsV.ty _, .base (.int n), kit_ty (by decide +kernel), _, rfl, iteT (q H (Same.refl H))⟩
    | oth =>
      obtain ⟨_, ⟨t, ty, e1⟩, _⟩ := hv
      exact ⟨_, rfl, _, _, _, _, false, rfl, ClsV.ty _, ty, e1, _, rfl, iteT (q H (Same.refl H))⟩
    | str z =>
      obtain ⟨rfl, hz⟩ := hv
      have q : ∀ H', Same H H' → Q (.bl (nmB z)) H' := q
      refine ⟨_, rfl, _, _, _, _, true, rfl, ClsV.ty _, .base (.str z), kit_ty (by decide +kernel), _, rfl, iteF ?_⟩
      refine ⟨_, rfl, _, rfl, (by rw [sizeLine_eq]; omega), _, _, rfl, rfl, _, rfl, ?_⟩
      refine ite2 (fun c1 => ?_) (fun c1 => ?_)
      · have c1 : (1 : Int) ≤ z.length := of_decide_eq_true c1
        refine ⟨_, _, rfl, rfl, _, rfl, ?_⟩
        by_cases c8 : (z.length : Int) ≤ 8
        · refine iteNS c8 ?_
          refine ⟨_, rfl, z, rfl, fun D hD => lc_it (walk_str (z := z)) (fun i H1 => H1 D = some (.lst (((z.cps.toList.take i).map fun c => decide (c ∈ LET)).map V.bl)) ∧ Same H H1) ⟨upd_same, sameAt (Same.refl H) hD⟩ (fun _ _ _ _ => trivial) ?_ ?_⟩
          · rintro i x H1 H2 hi ⟨hD1, hs⟩ ⟨rfl, c, hc, rfl⟩
            have hc' : z.cps.toList[i]? = some c := by rw [Array.getElem?_toList]; exact hc
            have hlen : (z.cps.toList.take i).length ≤ 8 := by
              have : i < z.length := hi
              rw [List.length_take]
              omega
            refine ⟨rfl, _, rfl, c, abc, rfl, rfl, _, hD1, (by rw [List.length_map, List.length_map]; exact small1000 (by omega)), ?_, sameAt hs hD⟩
            rw [upd_same, list_lit _ _ _ hc', List.map_append, List.map_append]
            rfl
          · rintro H1 ⟨hD1, hs⟩
            have e : z.cps.toList.take z.cps.size = z.cps.toList := by rw [← Array.length_toList, List.take_length]
            rw [e] at hD1
            refine ⟨D, _, rfl, SqL.of hD1, ?_⟩
            have e2 : ((z.cps.toList.map fun c => decide (c ∈ LET)).all id) = nmB z := by
              unfold nmB
              rw [decide_eq_true (show 1 ≤ z.length ∧ z.length ≤ 8 by omega), Bool.true_and, List.all_map]
              rfl
            rw [e2]
            exact q _ hs
        · rw [decide_eq_false c8]
          refine iteT ?_
          have e2 : nmB z = false := by
            unfold nmB
            rw [decide_eq_false (show ¬ (1 ≤ z.length ∧ z.length ≤ 8) by omega), Bool.false_and]
          have := q H (Same.refl H)
          rw [e2] at this
          exact this
      · have c1 : ¬ (1 : Int) ≤ z.length := by simpa using c1
        refine ⟨_, rfl, iteT ?_⟩
        have e2 : nmB z = false := by
          unfold nmB
          rw [decide_eq_false (show ¬ (1 ≤ z.length ∧ z.length ≤ 8) by omega), Bool.false_and]
        have := q H (Same.refl H)
        rw [e2] at this
        exact this
abbrev s_are_integers : Stmt := topS 11
theorem sc_are_integers : FnScope ["things", "thing"] ["things"] (defScope s_are_integers) := ⟨rfl, rfl, rfl, by decide +kernel, rfl, by decide +kernel, by decide +kernel⟩
theorem ok_areA {f : Addr} {fd : FuncData} (F : Fun K "are_integers" "are_integers" s_are_integers f fd) (B : Blt mg) (G : GI P w K mg base) : FnOk P w K mg base CX0 2 f fd ["things"] (spAreA K) := by
  refine F.ok sc_are_integers (fun vs H Q E h => ?_) (fun cdv A outer s H vs Q E hr h => ?_)
  · obtain ⟨a, us, is, rfl, _⟩ := h
    rfl
  · obtain ⟨a, us, is, rfl, hS, hn, hv, q⟩ := h
    refine ⟨_, (pss_one (ps_ret (pe_callB (cr_all rfl) (by rfl) B.all (by decide +kernel) (pa_cons (pe_lc (own := [("thing", 1)]) (g := gName 1) (tt := tYes) (by rfl) sc_are_integers.nd (pi_tup (pv 0)) (blkOk_by (own := [("thing", 1)]) (N := ["things", "thing"]) (sc := defScope s_are_integers) (by decide +kernel)) (fun _ _ _ _ _ => (pg_name (i := 1) sc_are_integers.nd rfl (Or.inl rfl))) (fun _ _ _ _ _ => pts_nil) (fun _ _ _ _ _ => (pe_cal G.is_integer (hr.mono (by decide)) pass0 (pa_cons (pv 1) pa_nil)))) pa_nil)))), ?_⟩
    refine ⟨_, rfl, a, rfl, ⟨_, hS⟩, fun D hD => lc_it (walk_tup (xs := us)) (fun i H1 => H1 D = some (.lst (((is.take i).map It.isI).map V.bl)) ∧ Same H H1) ⟨upd_same, sameAt (Same.refl H) hD⟩ (fun i H1 _ hv => ?_) ?_ ?_⟩
    · rcases hS with (h | ⟨o, h⟩) | h
      · exact .inl (.inl (hv.2 _ _ h))
      · exact .inl (.inr ⟨o, hv.2 _ _ h⟩)
      · exact .inr h
    · rintro i x H1 H2 hi ⟨hD1, hs⟩ ⟨rfl, hx⟩
      obtain ⟨it, hit, hI⟩ := hv.get hx
      have il := hv.len
      have sz : (((is.take i).map It.isI).map V.bl).length < sizeLine := by rw [List.length_map, List.length_map, List.length_take]; exact small1000 (by omega)
      refine ⟨rfl, _, rfl, _, it, rfl, hI.same hs, _, hD1, sz, ?_, sameAt hs hD⟩
      rw [upd_same, List.take_add_one, hit, List.map_append, List.map_append]
      rfl
    · rintro H1 ⟨hD1, hs⟩
      refine ⟨D, _, rfl, SqL.of hD1, ?_⟩
      rw [hv.len, List.take_length] at hD1 ⊢
      rw [show ((is.map It.isI).all id) = is.all It.isI by rw [List.all_map]; rfl]
      exact q _ hs
structure GE (P : Program) (w : World) (K : PySem.W.Frag) (mg : Str → Option Value) (base : Heap) : Prop where
  is_natural : Cal P w K mg base CX0 "is_natural" 2 ["thing"] (spIsNatA K)
  is_name : Cal P w K mg base CX0 "is_name" 1 ["thing"] (spIsNmA K)
  are_integers : Cal P w K mg base CX0 "are_integers" 2 ["things"] (spAreA K)
abbrev s_is_entry : Stmt := topS 14
theorem sc_is_entry : FnScope ["thing"] ["thing"] (defScope s_is_entry) := ⟨rfl, rfl, rfl, by decide +kernel, rfl, by decide +kernel, by decide +kernel⟩
theorem ok_isentry {f : Addr} {fd : FuncData} (F : Fun K "is_entry" "is_entry" s_is_entry f fd) (B : Blt mg) (G : GE P w K mg base) : FnOk P w K mg base CX0 3 f fd ["thing"] (spIsEA K) := by
  refine F.ok sc_is_entry (fun vs H Q E h => ?_) (fun cdv A outer s H vs Q E hr h => ?_)
  · obtain ⟨v, th, rfl, _⟩ := h
    rfl
  · obtain ⟨v, th, rfl, hT, q⟩ := h
    refine ⟨_, (pss_cons (ps_if (PW.pt (pw_or (pt_not (pt_val (pe_callB call_isi (by rfl) B.isinstance (by decide +kernel) (pa_cons (pv 0) (pa_cons (pe_bltn (v := .ty "tuple") (by rfl) B.tuple (by decide +kernel) rfl) pa_nil))))) (pw_or (pt_cmpR op_lt (pe_callB call_len_seq (by rfl) B.len (by decide +kernel) (pa_cons (pv 0) pa_nil)) pe_int (nomark _)) (pw_or1 (pt_not (pt_val (pe_cal G.is_natural (hr.mono (by decide)) pass0 (pa_cons (pe_ix ix_tup (pv 0) pe_int (fun _ _ => rfl)) pa_nil))))))))
      (pss_one (ps_ret pe_bl))
      pss_nil)
    (pss_cons (ps_if (pt_cmpR (op_eqS hr.units) (pe_ix ix_tup (pv 0) pe_int (fun _ _ => rfl)) pe_str (nomark _))
      (pss_one (ps_ret (pe_and (pe_cmpR op_eq (pe_callB call_len_seq (by rfl) B.len (by decide +kernel) (pa_cons (pv 0) pa_nil)) pe_int (nomark _)) (pe_and (pe_cal G.is_name (hr.mono (by decide)) pass0 (pa_cons (pe_ix ix_tup (pv 0) pe_int (fun _ _ => rfl)) pa_nil)) (pe_and (pe_cal G.is_name (hr.mono (by decide)) pass0 (pa_cons (pe_ix ix_tup (pv 0) pe_int (fun _ _ => rfl)) pa_nil)) (pe_one (pe_cal G.are_integers (hr.mono (by decide)) pass0 (pa_cons (pe_slice (show SlR _ (rSlU K) from sl_tupU) (pv 0) (po_some pe_int) po_none) pa_nil))))))))
      pss_nil)
    (pss_cons (ps_if (pt_cmpR (op_eqS hr.units) (pe_ix ix_tup (pv 0) pe_int (fun _ _ => rfl)) pe_str (nomark _))
      (pss_one (ps_ret (pe_and (pe_cmpR op_eq (pe_callB call_len_seq (by rfl) B.len (by decide +kernel) (pa_cons (pv 0) pa_nil)) pe_int (nomark _)) (pe_one (pe_cal G.are_integers (hr.mono (by decide)) pass0 (pa_cons (pe_slice (show SlR _ (rSlU K) from sl_tupU) (pv 0) (po_some pe_int) po_none) pa_nil))))))
      pss_nil)
    (pss_one (ps_ret (pe_and (pe_cmpR (op_eqS hr.units) (pe_ix ix_tup (pv 0) pe_int (fun _ _ => rfl)) pe_str (nomark _)) (pe_and (pe_cmpR op_eq (pe_callB call_len_seq (by rfl) B.len (by decide +kernel) (pa_cons (pv 0) pa_nil)) pe_int (nomark _)) (pe_one (pe_cal G.are_integers (hr.mono (by decide)) pass0 (pa_cons (pe_slice (show SlR _ (rSlU K) from sl_tupU) (pv 0) (po_some pe_int) po_none) pa_nil)))))))))), ?_⟩
    cases th with
    | no =>
      obtain ⟨t, ty, e1⟩ := hT
      exact ⟨_, rfl, _, _, _, _, false, rfl, ClsV.ty _, ty, e1, _, rfl, iteT (q H (Same.refl H))⟩
    | tup is =>
      obtain ⟨e, us, rfl, hx, hI, l9⟩ := hT
      refine ⟨_, rfl, _, _, _, _, true, rfl, ClsV.ty _, .base (.tup hx), kit_ty (by decide +kernel), _, rfl, iteF ?_⟩
      refine ⟨_, rfl, e, _, rfl, .inr (SqT.of hx), _, _, rfl, rfl, _, rfl, ?_⟩
      refine ite2 (fun c => ?_) (fun c => ?_)
      · have c : (us.length : Int) < 3 := of_decide_eq_true c
        have := q H (Same.refl H)
        rw [show gT (.tup is) = false from gE_short (by rw [← hI.len]; omega)] at this
        exact this
      have c : ¬ (us.length : Int) < 3 := fun z => by rw [decide_eq_true z] at c; exact c rfl
      obtain ⟨v0, v1, v2, vr, i0, i1, i2, ir, rfl, rfl, h0, h1, h2, hr'⟩ := hI.three (by omega)
      have lr := hr'.len
      have ll : (v0 :: v1 :: v2 :: vr).length = vr.length + 3 := rfl
      have at0 : atI (v0 :: v1 :: v2 :: vr) 0 = some v0 := atI_nat (j := 0) rfl
      have at1 : atI (v0 :: v1 :: v2 :: vr) 1 = some v1 := atI_nat (j := 1) rfl
      have at2 : atI (v0 :: v1 :: v2 :: vr) 2 = some v2 := atI_nat (j := 2) rfl
      refine ⟨_, rfl, _, _, _, _, rfl, rfl, SqT.of (hx), at1, v1, i1, rfl, h1, _, rfl, ?_⟩
      have r0 := Same.refl H
      have q : ∀ H', Same H H' → Q (.bl (gE (i0 :: i1 :: i2 :: ir))) H' := q
      cases e1 : i1.isN with
      | false => exact iteT (by have := q H r0; rw [gE_cons, e1] at this; exact this)
      | true =>
        refine iteF ⟨_, rfl, _, _, _, _, rfl, rfl, SqT.of (hx), at0, eqS_of h0 (by decide +kernel) ⟨_, rfl, ?_⟩⟩
        cases e2 : i0.isS "row" with
        | true =>
          refine iteT ⟨_, rfl, e, _, rfl, .inr (SqT.of hx), rfl, _, rfl, ?_⟩
          refine ite2 (fun c7 => ?_) (fun c7 => ?_)
          · have c7 : (vr.length + 3 : Nat) = 7 := by have := V.int.inj (of_decide_eq_true c7); rw [ll] at this; omega
            obtain ⟨i3, ir, rfl⟩ : ∃ i r, ir = i :: r := by cases ir with
              | nil => rw [List.length_nil] at lr; omega
              | cons i r => exact ⟨i, r, rfl⟩
            obtain ⟨v3, vr, rfl⟩ : ∃ i r, vr = i :: r := by cases hr' with
              | cons => exact ⟨_, _, rfl⟩
            cases hr' with
            | cons h3 hr' =>
            have e7 : ir.length = 3 := by simp only [List.length_cons] at lr c7; omega
            have q : ∀ H', Same H H' → Q (.bl (i2.isNm && (i3.isNm && ir.all It.isI))) H' := fun H' s => by
              have := q H' s
              rw [gE_cons, e1, e2] at this
              have this : Q (.bl (decide (ir.length = 3) && (i2.isNm && (i3.isNm && ir.all It.isI)))) H' := this
              rw [decide_eq_true e7] at this
              exact this
            have at3 : atI (v0 :: v1 :: v2 :: v3 :: vr) 3 = some v3 := atI_nat (j := 3) rfl
            refine ⟨_, rfl, _, _, _, _, rfl, rfl, SqT.of (hx), at2, v2, i2, rfl, h2, fun H1 s1 => ⟨_, rfl, ?_⟩⟩
            cases e3 : i2.isNm with
            | false => exact iteF (by have := q H1 s1; rw [e3] at this; exact this)
            | true =>
              refine iteT ⟨_, rfl, _, _, _, _, rfl, rfl, SqT.of (s1 _ _ hx), at3, v3, i3, rfl, h3.same s1, fun H2 s2 => ⟨_, rfl, ?_⟩⟩
              cases e4 : i3.isNm with
              | false => exact iteF (by have := q H2 (s1.trans s2); rw [e3, e4] at this; exact this)
              | true =>
                have s12 := s1.trans s2
                refine iteT ⟨_, rfl, _, rfl, e, _, rfl, SqT.of (s12 _ _ hx), fun u H3 s3 hu => ?_⟩
                rw [show ((4 : Int)) = ((4 : Nat) : Int) from rfl, cut_drop (by rw [ll]; omega)] at hu
                refine ⟨u, _, ir, rfl, hu, (by simp only [List.length_cons, List.drop_succ_cons, List.drop_zero] at *; omega), (hr'.same (s12.trans s3)), fun H4 s4 => ?_⟩
                have := q H4 ((s12.trans s3).trans s4)
                rw [e3, e4] at this
                exact this
          · have c7 : ¬ vr.length = 4 := fun z => by rw [ll, z] at c7; exact absurd (decide_eq_true rfl) c7
            have : gE (i0 :: i1 :: i2 :: ir) = false := by
              rw [gE_cons, e1, e2]
              cases ir with
              | nil => rfl
              | cons i r =>
                show (decide (r.length = 3) && _) = false
                rw [decide_eq_false (by simp only [List.length_cons] at lr; omega)]
                rfl
            have q := q H r0
            rw [this] at q
            exact q
        | false =>
          refine iteF ⟨_, rfl, _, _, _, _, rfl, rfl, SqT.of (hx), at0, eqS_of h0 (by decide +kernel) ⟨_, rfl, ?_⟩⟩
          cases e5 : i0.isS "fix" with
          | true =>
            refine iteT ⟨_, rfl, e, _, rfl, .inr (SqT.of hx), rfl, _, rfl, ?_⟩
            refine ite2 (fun c7 => ?_) (fun c7 => ?_)
            · have c7 : (vr.length + 3 : Nat) = 5 := by have := V.int.inj (of_decide_eq_true c7); rw [ll] at this; omega
              have q : ∀ H', Same H H' → Q (.bl ((i2 :: ir).all It.isI)) H' := fun H' s => by
                have := q H' s
                rw [gE_cons, e1, e2, e5] at this
                have this : Q (.bl (decide (ir.length + 1 = 3) && (i2 :: ir).all It.isI)) H' := this
                rw [decide_eq_true (show ir.length + 1 = 3 by omega)] at this
                exact this
              refine ⟨_, rfl, _, rfl, e, _, rfl, SqT.of hx, fun u H3 s3 hu => ?_⟩
              rw [show ((2 : Int)) = ((2 : Nat) : Int) from rfl, cut_drop (by rw [ll]; omega)] at hu
              exact ⟨u, _, i2 :: ir, rfl, hu, (by simp only [List.length_cons, List.drop_succ_cons, List.drop_zero] at *; omega), .cons (h2.same s3) (hr'.same s3), fun H4 s4 => q H4 (s3.trans s4)⟩
            · have c7 : ¬ vr.length = 2 := fun z => by rw [ll, z] at c7; exact absurd (decide_eq_true rfl) c7
              have : gE (i0 :: i1 :: i2 :: ir) = false := by
                rw [gE_cons, e1, e2, e5]
                show (decide (ir.length + 1 = 3) && _) = false
                rw [decide_eq_false (by omega)]
                rfl
              have q := q H r0
              rw [this] at q
              exact q
          | false =>
            refine iteF ⟨_, rfl, _, _, _, _, rfl, rfl, SqT.of (hx), at0, eqS_of h0 (by decide +kernel) ⟨_, rfl, ?_⟩⟩
            cases e6 : i0.isS "gone" with
            | true =>
              refine iteT ⟨_, rfl, e, _, rfl, .inr (SqT.of hx), rfl, _, rfl, ?_⟩
              refine ite2 (fun c7 => ?_) (fun c7 => ?_)
              · have c7 : (vr.length + 3 : Nat) = 3 := by have := V.int.inj (of_decide_eq_true c7); rw [ll] at this; omega
                have q : ∀ H', Same H H' → Q (.bl ((i2 :: ir).all It.isI)) H' := fun H' s => by
                  have := q H' s
                  rw [gE_cons, e1, e2, e5, e6] at this
                  have this : Q (.bl (decide (ir.length + 1 = 1) && (i2 :: ir).all It.isI)) H' := this
                  rw [decide_eq_true (show ir.length + 1 = 1 by omega)] at this
                  exact this
                refine ⟨_, rfl, _, rfl, e, _, rfl, SqT.of hx, fun u H3 s3 hu => ?_⟩
                rw [show ((2 : Int)) = ((2 : Nat) : Int) from rfl, cut_drop (by rw [ll]; omega)] at hu
                exact ⟨u, _, i2 :: ir, rfl, hu, (by simp only [List.length_cons, List.drop_succ_cons, List.drop_zero] at *; omega), .cons (h2.same s3) (hr'.same s3), fun H4 s4 => q H4 (s3.trans s4)⟩
              · have c7 : ¬ vr.length = 0 := fun z => by rw [ll, z] at c7; exact absurd (decide_eq_true rfl) c7
                have : gE (i0 :: i1 :: i2 :: ir) = false := by
                  rw [gE_cons, e1, e2, e5, e6]
                  show (decide (ir.length + 1 = 1) && _) = false
                  rw [decide_eq_false (by omega)]
                  rfl
                have q := q H r0
                rw [this] at q
                exact q
            | false =>
              have q := q H r0
              rw [gE_cons, e1, e2, e5, e6] at q
              exact iteF q
end
end Ash

set_option Elab.async false
set_option linter.all false
set_option maxRecDepth 100000
set_option maxHeartbeats 400000
set_option pp.maxSteps 100
namespace Ash
open PySem PySem.Spec PyProof.Rows L2
open C8 (pss_cut)
/-! ### what is an entry, by the law -/
def badS (cs : List Nat) : List V := (cs.filter fun c => !decide (c ∈ LET)).map fun c => V.str ⟨#[c]⟩
theorem badS_nil (cs : List Nat) : decide ((badS cs).length = 0) = cs.all fun c => decide (c ∈ LET) := by
  unfold badS
  rw [List.length_map, Bool.eq_iff_iff, decide_eq_true_eq, List.length_eq_zero_iff, List.filter_eq_nil_iff, List.all_eq_true]
  constructor
  · intro h c hc
    have := h c hc
    simpa using this
  · intro h c hc
    have := h c hc
    simpa using this
section
variable {P : Program} {w : World} {K : PySem.W.Frag} {mg : Str → Option Value} {base : Heap}
abbrev s_l_is_name : Stmt := topS 37
theorem sc_l_is_name : FnScope ["thing", "sign"] ["thing"] (defScope s_l_is_name) := ⟨rfl, rfl, rfl, by decide +kernel, rfl, by decide +kernel, by decide +kernel⟩
theorem ok_lisname {f : Addr} {fd : FuncData} (F : Fun K "_law_is_name" "_law_is_name" s_l_is_name f fd) (B : Blt mg) : FnOk P w K mg base CX0 1 f fd ["thing"] (spIsNmA K) := by
  refine F.ok sc_l_is_name (fun vs H Q E h => ?_) (fun cdv A outer s H vs Q E hr h => ?_)
  · obtain ⟨v, i, rfl, _⟩ := h
    rfl
  · obtain ⟨v, i, rfl, hv, q⟩ := h
    refine ⟨_, (pss_cons (ps_if (PW.pt (pw_or (pt_not (pt_val (pe_callB call_isi (by rfl) B.isinstance (by decide +kernel) (pa_cons (pv 0) (pa_cons (pe_bltn (v := .ty "str") (by rfl) B.str (by decide +kernel) rfl) pa_nil))))) (pw_or (pt_cmpR op_lt (pe_callB call_len_str (by rfl) B.len (by decide +kernel) (pa_cons (pv 0) pa_nil)) pe_int (nomark _)) (pw_or1 (pt_cmpR op_gt (pe_callB call_len_str (by rfl) B.len (by decide +kernel) (pa_cons (pv 0) pa_nil)) pe_int (nomark _))))))
      (pss_one (ps_ret pe_bl))
      pss_nil)
    (pss_one (ps_ret (pe_cmpR op_eq (pe_callB call_len_seq (by rfl) B.len (by decide +kernel) (pa_cons (pe_lc (own := [("sign", 1)]) (g := gName 1) (by rfl) sc_l_is_name.nd (pi_str (pv 0)) (blkOk_by (own := [("sign", 1)]) (N := ["thing", "sign"]) (sc := defScope s_l_is_name) (by decide +kernel)) (fun _ _ _ _ _ => (pg_name (i := 1) sc_l_is_name.nd rfl (Or.inl rfl))) (fun _ _ _ _ _ => pts_one (pt_cmpR op_notIn_sign (pv 1) pe_str rfl)) (fun _ _ _ _ _ => (pv 1))) pa_nil)) pe_int (nomark _))))), ?_⟩
    cases i with
    | int n =>
      obtain ⟨rfl, _⟩ := hv
      exact ⟨_, rfl, _, _, _, _, false, rfl, ClsV.ty _, .base (.int n), kit_ty (by decide +kernel), _, rfl, iteT (q H (Same.refl H))⟩
    | oth =>
      obtain ⟨_, ⟨t, ty, e1⟩, _⟩ := hv
      exact ⟨_, rfl, _, _, _, _, false, rfl, ClsV.ty _, ty, e1, _, rfl, iteT (q H (Same.refl H))⟩
    | str z =>
      obtain ⟨rfl, hz⟩ := hv
      have q : ∀ H', Same H H' → Q (.bl (nmB z)) H' := q
      have sl : z.length ≤ sizeLine := by rw [sizeLine_eq]; omega
      have no : ¬ (1 ≤ z.length ∧ z.length ≤ 8) → Q (.bl false) H := fun n => by
        have := q H (Same.refl H)
        unfold nmB at this
        rw [decide_eq_false n] at this
        exact this
      refine ⟨_, rfl, _, _, _, _, true, rfl, ClsV.ty _, .base (.str z), kit_ty (by decide +kernel), _, rfl, iteF ?_⟩
      refine ⟨_, rfl, _, rfl, sl, _, _, rfl, rfl, _, rfl, ite2 (fun c1 => no (fun h => ?_)) (fun c1 => ?_)⟩
      · have c1 : (z.length : Int) < 1 := of_decide_eq_true c1
        omega
      have c1 : ¬ (z.length : Int) < 1 := fun h => c1 (decide_eq_true h)
      refine ⟨_, rfl, _, rfl, sl, _, _, rfl, rfl, _, rfl, ite2 (fun c8 => no (fun h => ?_)) (fun c8 => ?_)⟩
      · have c8 : (z.length : Int) > 8 := of_decide_eq_true c8
        omega
      have c8 : ¬ (z.length : Int) > 8 := fun h => c8 (decide_eq_true h)
      refine ⟨_, rfl, z, rfl, fun D hD => lc_it (walk_str (z := z)) (fun i H1 => H1 D = some (.lst (badS (z.cps.toList.take i))) ∧ Same H H1) ⟨upd_same, sameAt (Same.refl H) hD⟩ (fun _ _ _ _ => trivial) ?_ ?_⟩
      · rintro i x H1 H2 hi ⟨hD1, hs⟩ ⟨rfl, c, hc, rfl⟩
        have hc' : z.cps.toList[i]? = some c := by rw [Array.getElem?_toList]; exact hc
        have sz : (badS (z.cps.toList.take i)).length < sizeLine := by
          have h1 : (badS (z.cps.toList.take i)).length ≤ (z.cps.toList.take i).length := by unfold badS; rw [List.length_map]; exact List.length_filter_le _ _
          have h2 : (z.cps.toList.take i).length ≤ i := by rw [List.length_take]; exact Nat.min_le_left _ _
          have h3 : i < z.length := hi
          exact small1000 (by omega)
        refine ⟨rfl, _, rfl, c, abc, rfl, rfl, _, rfl, ite2 (fun c1 => ?_) (fun c1 => ?_)⟩
        · have e : badS (z.cps.toList.take (i + 1)) = badS (z.cps.toList.take i) ++ [V.str ⟨#[c]⟩] := by
            unfold badS
            rw [list_lit _ _ _ hc', List.filter_append, List.map_append]
            have c1 : (!decide (c ∈ LET)) = true := c1
            rw [show List.filter (fun c => !decide (c ∈ LET)) [c] = [c] from List.filter_cons_of_pos c1]
            rfl
          refine ⟨_, rfl, _, hD1, sz, ?_, sameAt hs hD⟩
          rw [upd_same, e]
        · refine ⟨?_, hs⟩
          have e : badS (z.cps.toList.take (i + 1)) = badS (z.cps.toList.take i) := by
            unfold badS
            rw [list_lit _ _ _ hc', List.filter_append, List.map_append]
            have c1 : ¬ (!decide (c ∈ LET)) = true := c1
            rw [show List.filter (fun c => !decide (c ∈ LET)) [c] = [] from List.filter_cons_of_neg (by simpa using c1)]
            exact List.append_nil _
          rw [e]
          exact hD1
      · rintro H1 ⟨hD1, hs⟩
        have e : z.cps.toList.take z.cps.size = z.cps.toList := by rw [← Array.length_toList, List.take_length]
        rw [e] at hD1
        refine ⟨D, _, rfl, .inl (SqL.of hD1), rfl, ?_⟩
        have := q H1 hs
        rw [show nmB z = decide (V.int ((badS z.cps.toList).length : Int) = V.int 0) from ?_] at this
        · exact this
        · unfold nmB
          rw [decide_eq_true (show 1 ≤ z.length ∧ z.length ≤ 8 by omega), Bool.true_and, ← badS_nil, Bool.eq_iff_iff, decide_eq_true_eq, decide_eq_true_eq]
          constructor
          · intro h; rw [h]; rfl
          · intro h; have := V.int.inj h; omega
theorem gE_nostr {i : It} (h : ∀ z, i.isS z = false) : ∀ r : List It, gE (i :: r) = false
  | [] => rfl
  | n :: r => by
    show (n.isN && _) = false
    rw [h "row", h "fix", h "gone"]
    simp
theorem ItsA.cons' {K : PySem.W.Frag} {H : Hp} {us : List V} {is : List It} (h : ItsA K H us is) (l : 1 ≤ us.length) : ∃ v vr i ir, us = v :: vr ∧ is = i :: ir ∧ ItA K H v i ∧ ItsA K H vr ir := by
  cases h with
  | nil => simp at l
  | cons h0 t0 => exact ⟨_, _, _, _, rfl, rfl, h0, t0⟩
theorem ItsA.nil' {K : PySem.W.Frag} {H : Hp} {us : List V} {is : List It} (h : ItsA K H us is) (l : us.length = 0) : us = [] ∧ is = [] := by
  cases h with
  | nil => exact ⟨rfl, rfl⟩
  | cons h0 t0 => simp at l
theorem gE_len {z : Str} (cz : z = "row" ∨ z = "fix" ∨ z = "gone") : ∀ {ir : List It}, ¬ ir.length = (flds z).length → gE (.str z :: ir) = false
  | [], _ => rfl
  | n :: r, h => by
    rw [List.length_cons] at h
    rcases cz with rfl | rfl | rfl
    · have h : ¬ r.length + 1 = 6 := h
      match r, h with
      | [], _ => exact Bool.and_false _
      | [_], _ => exact Bool.and_false _
      | s :: k :: r, h =>
        simp only [List.length_cons] at h
        show (n.isN && (if decide (("row" : Str) = "row") = true then decide (r.length = 3) && _ else _)) = false
        rw [if_pos (by decide +kernel), decide_eq_false (by omega)]
        exact Bool.and_false _
    · have h : ¬ r.length + 1 = 4 := h
      show (n.isN && (if decide (("fix" : Str) = "row") = true then _ else if decide (("fix" : Str) = "fix") = true then decide (r.length = 3) && r.all It.isI else _)) = false
      rw [if_neg (by decide +kernel), if_pos (by decide +kernel), decide_eq_false (by omega)]
      exact Bool.and_false _
    · have h : ¬ r.length + 1 = 2 := h
      show (n.isN && (if decide (("gone" : Str) = "row") = true then _ else if decide (("gone" : Str) = "fix") = true then _ else decide (("gone" : Str) = "gone") && (decide (r.length = 1) && r.all It.isI))) = false
      rw [if_neg (by decide +kernel), if_neg (by decide +kernel), decide_eq_false (show ¬ r.length = 1 by omega), Bool.false_and, Bool.and_false]
      exact Bool.and_false _
theorem gE_row {i1 i2 i3 : It} {r : List It} (h : r.length = 3) : gE (.str "row" :: i1 :: i2 :: i3 :: r) = (i1.isN && (i2.isNm && (i3.isNm && r.all It.isI))) := by
  show (i1.isN && (if decide (("row" : Str) = "row") = true then decide (r.length = 3) && (i2.isNm && (i3.isNm && r.all It.isI)) else _)) = _
  rw [if_pos (by decide +kernel), decide_eq_true h]
  rfl
theorem gE_oth {z : Str} {i1 : It} {r : List It} (cz : z = "fix" ∨ z = "gone") (h : r.length + 1 = (flds z).length) : gE (.str z :: i1 :: r) = (i1.isN && r.all It.isI) := by
  show (i1.isN && (if decide (z = "row") = true then _ else if decide (z = "fix") = true then decide (r.length = 3) && r.all It.isI else decide (z = "gone") && (decide (r.length = 1) && r.all It.isI))) = _
  rcases cz with rfl | rfl
  · have h : r.length + 1 = 4 := h
    rw [if_neg (by decide +kernel), if_pos (by decide +kernel), decide_eq_true (show r.length = 3 by omega)]
    rfl
  · have h : r.length + 1 = 2 := h
    rw [if_neg (by decide +kernel), if_neg (by decide +kernel), decide_eq_true (show r.length = 1 by omega)]
    rfl
theorem gE_neg {z : Str} {i1 : It} {r : List It} (h : i1.isN = false) : gE (.str z :: i1 :: r) = false := by
  show (i1.isN && _) = false
  rw [h]
  rfl
structure GL1 (P : Program) (w : World) (K : PySem.W.Frag) (mg : Str → Option Value) (base : Heap) : Prop where
  law_is_integer : Cal P w K mg base CX0 "_law_is_integer" 1 ["thing"] (spIsIntA K)
  law_is_name : Cal P w K mg base CX0 "_law_is_name" 1 ["thing"] (spIsNmA K)
  law_fields : Cal P w K mg base CX0 "_law_fields" 1 ["word"] spFields
abbrev s_l_is_entry : Stmt := topS 38
theorem sc_l_is_entry : FnScope ["thing", "rest", "part"] ["thing"] (defScope s_l_is_entry) := ⟨rfl, rfl, rfl, by decide +kernel, rfl, by decide +kernel, by decide +kernel⟩
theorem ok_lisentry {f : Addr} {fd : FuncData} (F : Fun K "_law_is_entry" "_law_is_entry" s_l_is_entry f fd) (B : Blt mg) (G : GL1 P w K mg base) : FnOk P w K mg base CX0 2 f fd ["thing"] (spIsEA K) := by
  refine F.ok sc_l_is_entry (fun vs H Q E h => ?_) (fun cdv A outer s H vs Q E hr h => ?_)
  · obtain ⟨v, th, rfl, _⟩ := h
    rfl
  · obtain ⟨v, th, rfl, hT, q⟩ := h
    refine ⟨_, (pss_cons (ps_if (PW.pt (pw_or (pt_not (pt_val (pe_callB call_isi (by rfl) B.isinstance (by decide +kernel) (pa_cons (pv 0) (pa_cons (pe_bltn (v := .ty "tuple") (by rfl) B.tuple (by decide +kernel) rfl) pa_nil))))) (pw_or (pt_cmpR op_lt (pe_callB call_len_seq (by rfl) B.len (by decide +kernel) (pa_cons (pv 0) pa_nil)) pe_int (nomark _)) (pw_or1 (pt_not (pt_val (pe_callB call_isi (by rfl) B.isinstance (by decide +kernel) (pa_cons (pe_ix ix_tup (pv 0) pe_int (fun _ _ => rfl)) (pa_cons (pe_bltn (v := .ty "str") (by rfl) B.str (by decide +kernel) rfl) pa_nil)))))))))
      (pss_one (ps_ret pe_bl))
      pss_nil)
    (pss_cons (ps_if (PW.pt (pw_or (pt_cmpR op_notIn_seq (pe_ix ix_tup (pv 0) pe_int (fun _ _ => rfl)) (pe_lst (pa_cons pe_str (pa_cons pe_str (pa_cons pe_str pa_nil)))) rfl) (pw_or1 (pt_cmpR op_ne (pe_callB call_len_seq (by rfl) B.len (by decide +kernel) (pa_cons (pv 0) pa_nil)) (pe_op op_add (pe_callB call_len_seq (by rfl) B.len (by decide +kernel) (pa_cons (pe_cal G.law_fields (hr.mono (by decide)) pass0 (pa_cons (pe_ix ix_tup (pv 0) pe_int (fun _ _ => rfl)) pa_nil)) pa_nil)) pe_int) (nomark _)))))
      (pss_one (ps_ret pe_bl))
      pss_nil)
    (pss_cons (ps_if (PW.pt (pw_or (pt_not (pt_val (pe_cal G.law_is_integer (hr.mono (by decide)) pass0 (pa_cons (pe_ix ix_tup (pv 0) pe_int (fun _ _ => rfl)) pa_nil)))) (pw_or1 (pt_cmpR op_lt (pe_ix ix_tup (pv 0) pe_int (fun _ _ => rfl)) pe_int (nomark _)))))
      (pss_one (ps_ret pe_bl))
      pss_nil)
    (pss_cons (ps_set (i := 1) sc_l_is_entry.nd rfl (Or.inl rfl) (pe_slice (show SlR _ (rSlU K) from sl_tupU) (pv 0) (po_some pe_int) po_none))
    (pss_cut (ps_if (pt_cmpR op_eq (pe_ix ix_tup (pv 0) pe_int (fun _ _ => rfl)) pe_str (nomark _))
      (pss_cons (ps_if (PW.pt (pw_or (pt_not (pt_val (pe_cal G.law_is_name (hr.mono (by decide)) pass0 (pa_cons (pe_ix ix_tup (pv 0) pe_int (fun _ _ => rfl)) pa_nil)))) (pw_or1 (pt_not (pt_val (pe_cal G.law_is_name (hr.mono (by decide)) pass0 (pa_cons (pe_ix ix_tup (pv 0) pe_int (fun _ _ => rfl)) pa_nil)))))))
        (pss_one (ps_ret pe_bl))
        pss_nil)
      (pss_one (ps_set (i := 1) sc_l_is_entry.nd rfl (Or.inl rfl) (pe_slice (show SlR _ (rSlU K) from sl_tupU) (pv 0) (po_some pe_int) po_none))))
      pss_nil)
    (pss_one (ps_ret (pe_callB (cr_all rfl) (by rfl) B.all (by decide +kernel) (pa_cons (pe_lc (own := [("part", 2)]) (g := gName 2) (tt := tYes) (by rfl) sc_l_is_entry.nd (pi_tup (pv 1)) (blkOk_by (own := [("part", 2)]) (N := ["thing", "rest", "part"]) (sc := defScope s_l_is_entry) (by decide +kernel)) (fun _ _ _ _ _ => (pg_name (i := 2) sc_l_is_entry.nd rfl (Or.inl rfl))) (fun _ _ _ _ _ => pts_nil) (fun _ _ _ _ _ => (pe_cal G.law_is_integer (hr.mono (by decide)) pass0 (pa_cons (pv 2) pa_nil)))) pa_nil))))))))), ?_⟩
    cases th with
    | no =>
      obtain ⟨t, ty, e1⟩ := hT
      exact ⟨_, rfl, _, _, _, _, false, rfl, ClsV.ty _, ty, e1, _, rfl, iteT (q H (Same.refl H))⟩
    | tup is =>
      obtain ⟨e, us, rfl, hx, hI, l9⟩ := hT
      refine ⟨_, rfl, _, _, _, _, true, rfl, ClsV.ty _, .base (.tup hx), kit_ty (by decide +kernel), _, rfl, iteF ?_⟩
      refine ⟨_, rfl, e, _, rfl, .inr (SqT.of hx), _, _, rfl, rfl, _, rfl, ?_⟩
      refine ite2 (fun c => ?_) (fun c => ?_)
      · have c : (us.length : Int) < 1 := of_decide_eq_true c
        have := q H (Same.refl H)
        rw [show gT (.tup is) = false from gE_short (by rw [← hI.len]; omega)] at this
        exact this
      have c : ¬ (us.length : Int) < 1 := fun z => by rw [decide_eq_true z] at c; exact c rfl
      obtain ⟨v0, vr, i0, ir, rfl, rfl, h0, hr1⟩ := hI.cons' (by omega)
      have at0 : atI (v0 :: vr) 0 = some v0 := atI_nat (j := 0) rfl
      have r0 := Same.refl H
      have q : ∀ H', Same H H' → Q (.bl (gE (i0 :: ir))) H' := q
      cases i0 with
      | int n =>
        obtain ⟨rfl, _⟩ := h0
        exact ⟨_, rfl, _, _, _, _, rfl, rfl, SqT.of hx, at0, _, _, _, _, false, rfl, ClsV.ty _, .base (.int n), kit_ty (by decide +kernel), _, rfl, iteT (by have := q H r0; rw [gE_nostr (fun _ => rfl)] at this; exact this)⟩
      | oth =>
        obtain ⟨_, ⟨t, ty, e1⟩, _⟩ := h0
        exact ⟨_, rfl, _, _, _, _, rfl, rfl, SqT.of hx, at0, _, _, _, _, false, rfl, ClsV.ty _, ty, e1, _, rfl, iteT (by have := q H r0; rw [gE_nostr (fun _ => rfl)] at this; exact this)⟩
      | str z =>
        obtain ⟨rfl, zl⟩ := h0
        refine ⟨_, rfl, _, _, _, _, rfl, rfl, SqT.of hx, at0, _, _, _, _, true, rfl, ClsV.ty _, .base (.str z), kit_ty (by decide +kernel), _, rfl, iteF ?_⟩
        refine ⟨_, rfl, _, _, _, _, rfl, rfl, SqT.of hx, at0, (by show 3 ≤ sizeLine; decide), fun l hl => ⟨l, [.str "row", .str "fix", .str "gone"], rfl, .inl (SqL.of upd_same), rfl, rfl, _, rfl, ?_⟩⟩
        have s1 : Same H (upd H l (.lst [.str "row", .str "fix", .str "gone"])) := sameAt (Same.refl H) hl
        generalize upd H l (.lst [.str "row", .str "fix", .str "gone"]) = H1 at s1 ⊢
        by_cases cz : z = "row" ∨ z = "fix" ∨ z = "gone"
        rotate_left
        · have n1 : ¬ z = "row" := fun e => cz (.inl e)
          have n2 : ¬ z = "fix" := fun e => cz (.inr (.inl e))
          have n3 : ¬ z = "gone" := fun e => cz (.inr (.inr e))
          have b1 : (("row" : Str) == z) = false := beq_eq_false_iff_ne.mpr fun e => n1 e.symm
          have b2 : (("fix" : Str) == z) = false := beq_eq_false_iff_ne.mpr fun e => n2 e.symm
          have b3 : (("gone" : Str) == z) = false := beq_eq_false_iff_ne.mpr fun e => n3 e.symm
          have : inV (.str z) [.str "row", .str "fix", .str "gone"] = false := by
            show ((("row" : Str) == z) || ((("fix" : Str) == z) || ((("gone" : Str) == z) || false))) = false
            rw [b1, b2, b3]
            rfl
          rw [this]
          refine iteT ?_
          have := q H1 s1
          rw [show gE (It.str z :: ir) = false from ?_] at this
          · exact this
          · cases ir with
            | nil => rfl
            | cons n r =>
              show (n.isN && (if decide (z = "row") = true then _ else if decide (z = "fix") = true then _ else decide (z = "gone") && _)) = false
              rw [decide_eq_false n1, decide_eq_false n2, decide_eq_false n3]
              cases n.isN <;> rfl
        · rw [show inV (.str z) [.str "row", .str "fix", .str "gone"] = true by rcases cz with rfl | rfl | rfl <;> rfl]
          refine iteF ?_
          have hx1 := s1 _ _ hx
          refine ⟨_, rfl, e, _, rfl, .inr (SqT.of hx1), _, rfl, _, _, _, _, rfl, rfl, SqT.of hx1, at0, z, rfl, fun lf H2 hlf0 hlf s2 => ⟨lf, _, rfl, .inl (SqL.of hlf), _, _, rfl, rfl, rfl, _, rfl, ?_⟩⟩
          rw [List.length_map]
          have s12 := s1.trans s2
          have hx2 := s12 _ _ hx
          have len : (!decide (V.int ((V.str z :: vr).length : Int) = V.int ((flds z).length + 1 : Int))) = !decide (vr.length = (flds z).length) := by
            rw [Bool.eq_iff_iff]
            simp only [Bool.not_eq_true', decide_eq_false_iff_not, List.length_cons]
            constructor
            · intro h h2; exact h (by rw [h2]; rfl)
            · intro h h2; have := V.int.inj h2; omega
          rw [len]
          have lr := hr1.len
          by_cases cl : vr.length = (flds z).length
          rotate_left
          · rw [decide_eq_false cl]
            refine iteT ?_
            have := q H2 s12
            rw [show gE (It.str z :: ir) = false from ?_] at this
            · exact this
            · exact gE_len cz (by rw [← lr]; exact cl)
          rw [decide_eq_true cl]
          refine iteF ?_
          have f2 : 2 ≤ (flds z).length := by rcases cz with rfl | rfl | rfl <;> decide +kernel
          obtain ⟨v1, vr, i1, ir, rfl, rfl, h1, hr2⟩ := hr1.cons' (by omega)
          have at1 : atI (V.str z :: v1 :: vr) 1 = some v1 := atI_nat (j := 1) rfl
          have NOW : ∀ {R : Prop}, i1.isN = false → (Q (.bl false) H2 → R) → R := fun {R} e k => k (by have := q H2 s12; rw [gE_neg e] at this; exact this)
          refine ⟨_, rfl, _, _, _, _, rfl, rfl, SqT.of hx2, at1, v1, i1, rfl, h1.same s12, _, rfl, ?_⟩
          cases i1 with
          | str y => exact iteT (NOW rfl id)
          | oth => exact iteT (NOW rfl id)
          | int n =>
          obtain ⟨rfl, _⟩ := h1
          refine iteF ⟨_, rfl, _, _, _, _, rfl, rfl, SqT.of hx2, at1, _, _, rfl, rfl, _, rfl, ite2 (fun c0 => NOW (decide_eq_false (by have : n < 0 := of_decide_eq_true c0; omega)) id) (fun c0 => ?_)⟩
          have n0 : 0 ≤ n := by
            have : ¬ n < 0 := fun h => c0 (decide_eq_true h)
            omega
          have nN : (It.int n).isN = true := decide_eq_true n0
          clear NOW
          rw [List.length_cons] at cl lr
          refine ⟨_, rfl, _, rfl, e, _, rfl, SqT.of hx2, fun u H3 s3 hu => ?_⟩
          rw [show ((2 : Int)) = ((2 : Nat) : Int) from rfl, cut_drop (by show 2 ≤ vr.length + 2; omega)] at hu
          have hu : SqT K H3 u vr := hu
          have s13 := s12.trans s3
          have hx3 := s13 _ _ hx
          have at03 : atI (V.str z :: V.int n :: vr) 0 = some (.str z) := atI_nat (j := 0) rfl
          have hr3 := hr2.same s13
          have e2 := hr2.len
          simp only [List.length_cons] at l9
          refine ⟨fun σ H' => ∃ a us' is', σ = [some (.ref e), some (.ref a), none] ∧ SqT K H' a us' ∧ ItsA K H' us' is' ∧ us'.length ≤ 9 ∧ (∀ H'', Same H' H'' → Q (.bl (is'.all It.isI)) H''), ?_, ?_⟩
          · refine ⟨_, rfl, _, _, _, _, rfl, rfl, SqT.of hx3, at03, rfl, _, rfl, ite2 (fun cr => ?_) (fun cr => ?_)⟩
            · have cr : z = "row" := V.str.inj (of_decide_eq_true cr)
              subst cr
              have cl : vr.length + 1 = 6 := cl
              obtain ⟨v2, vr, i2, ir, rfl, rfl, h2, hr4⟩ := hr3.cons' (by omega)
              rw [List.length_cons] at cl
              obtain ⟨v3, vr, i3, ir, rfl, rfl, h3, hr5⟩ := hr4.cons' (by omega)
              rw [List.length_cons] at cl
              have e5 := hr5.len
              have at2 : atI (V.str "row" :: V.int n :: v2 :: v3 :: vr) 2 = some v2 := atI_nat (j := 2) rfl
              have at3 : atI (V.str "row" :: V.int n :: v2 :: v3 :: vr) 3 = some v3 := atI_nat (j := 3) rfl
              have q : ∀ H', Same H H' → Q (.bl (i2.isNm && (i3.isNm && ir.all It.isI))) H' := fun H' s => by
                have := q H' s
                rw [gE_row (by omega), nN] at this
                exact this
              refine ⟨_, rfl, _, _, _, _, rfl, rfl, SqT.of hx3, at2, v2, i2, rfl, h2, fun H4 s4 => ⟨_, rfl, ?_⟩⟩
              cases b2 : i2.isNm with
              | false => exact iteT (by have := q H4 (s13.trans s4); rw [b2] at this; exact this)
              | true =>
                refine iteF ⟨_, rfl, _, _, _, _, rfl, rfl, SqT.of (s4 _ _ hx3), at3, v3, i3, rfl, h3.same s4, fun H5 s5 => ⟨_, rfl, ?_⟩⟩
                have s15 := (s13.trans s4).trans s5
                cases b3 : i3.isNm with
                | false => exact iteT (by have := q H5 s15; rw [b2, b3] at this; exact this)
                | true =>
                  refine iteF ⟨_, rfl, _, rfl, e, _, rfl, SqT.of (s15 _ _ hx), fun u2 H6 s6 hu2 => ?_⟩
                  rw [show ((4 : Int)) = ((4 : Nat) : Int) from rfl, cut_drop (by show 4 ≤ vr.length + 4; omega)] at hu2
                  have hu2 : SqT K H6 u2 vr := hu2
                  refine ⟨u2, vr, ir, rfl, hu2, hr5.same ((s4.trans s5).trans s6), by omega, fun H7 s7 => ?_⟩
                  have := q H7 ((s15.trans s6).trans s7)
                  rw [b2, b3] at this
                  exact this
            · have cz2 : z = "fix" ∨ z = "gone" := by
                rcases cz with rfl | rfl | rfl
                · exact absurd (decide_eq_true rfl) cr
                · exact .inl rfl
                · exact .inr rfl
              refine ⟨u, vr, ir, rfl, hu, hr3, by omega, fun H7 s7 => ?_⟩
              have := q H7 (s13.trans s7)
              rw [gE_oth cz2 (by omega), nN] at this
              exact this
          · rintro σ H4 ⟨a, us, is, rfl, hS, hv, hn, q⟩
            refine ⟨_, rfl, a, rfl, ⟨_, hS⟩, fun D hD => lc_it (walk_tup (xs := us)) (fun i H1 => H1 D = some (.lst (((is.take i).map It.isI).map V.bl)) ∧ Same H4 H1) ⟨upd_same, sameAt (Same.refl _) hD⟩ (fun i H1 _ hv => ?_) ?_ ?_⟩
            · rcases hS with (h | ⟨o, h⟩) | h
              · exact .inl (.inl (hv.2 _ _ h))
              · exact .inl (.inr ⟨o, hv.2 _ _ h⟩)
              · exact .inr h
            · rintro i x H1 H2 hi ⟨hD1, hs⟩ ⟨rfl, hx⟩
              obtain ⟨it, hit, hI⟩ := hv.get hx
              have il := hv.len
              have sz : (((is.take i).map It.isI).map V.bl).length < sizeLine := by rw [List.length_map, List.length_map, List.length_take]; exact small1000 (by omega)
              refine ⟨rfl, _, rfl, _, it, rfl, hI.same hs, _, hD1, sz, ?_, sameAt hs hD⟩
              rw [upd_same, List.take_add_one, hit, List.map_append, List.map_append]
              rfl
            · rintro H1 ⟨hD1, hs⟩
              refine ⟨D, _, rfl, SqL.of hD1, ?_⟩
              rw [hv.len, List.take_length] at hD1 ⊢
              rw [show ((is.map It.isI).all id) = is.all It.isI by rw [List.all_map]; rfl]
              exact q _ hs
end
end Ash

set_option Elab.async false
set_option linter.all false
set_option maxRecDepth 100000
set_option maxHeartbeats 4000000
set_option pp.maxSteps 1500
namespace L2
open PySem PySem.Spec PyProof.Rows
/-- == of flat things, data, dicts of data -/
def rEqW (K : PySem.W.Frag) : R2 := fun x y H Q => rEq x y H Q ∨ (rEqD K x y H Q ∨ rEqDD K x y H Q)
theorem op_eqW {X : Cx} (h1 : X.A.units + 64 < cLine) (h2 : X.A.in1.units + 64 < cLine) : OpR X (compareOp .Eq) (rEqW X.K) := op_alt op_eq (op_alt (op_eqD h1) (op_eqDD h2 (by omega)))
end L2
namespace Ash
open PySem PySem.Spec PyProof.Rows L2
open C8 (pss_cut)
/-! ### a form's shapes -/
def pickW (z : Str) (a b c : List V) : Option (List V) := if z = "row" then some a else if z = "fix" then some b else if z = "gone" then some c else none
def NotW (K : PySem.W.Frag) (H : Hp) (v : V) : Prop := (∃ z : Str, v = .str z ∧ z.length ≤ 100 ∧ z ≠ "row" ∧ z ≠ "fix" ∧ z ≠ "gone") ∨ (∃ t, TyX K H v t ∧ PySem.W.kitOne K t (.type "str") = some false)
def spFShape (K : PySem.W.Frag) (CF CE : Addr) : Sp := fun vs H Q E => ∃ (b : Addr) (v : V) (us1 us2 us3 : List V), vs = [.ref b, v] ∧ FormAt CF H b us1 us2 us3 ∧
  ((∃ z us, v = .str z ∧ pickW z us1 us2 us3 = some us ∧ ∀ t, H t = some (.tup us) → Q (.ref t) H) ∨ (NotW K H v ∧ ∀ d H', Same H H' → Xd H' d "value" v → E (.ref CE) (some d) H'))
theorem tyx_same {K : PySem.W.Frag} {H H' : Hp} {v : V} {t : Value} (h : TyX K H v t) (s : Same H H') : TyX K H' v t := tyx_ev h (Ev.same s)
theorem NotW.same {K : PySem.W.Frag} {H H' : Hp} {v : V} (h : NotW K H v) (s : Same H H') : NotW K H' v := by
  rcases h with h | ⟨t, h1, h2⟩
  · exact .inl h
  · exact .inr ⟨t, tyx_same h1 s, h2⟩
section
variable {P : Program} {w : World} {K : PySem.W.Frag} {mg : Str → Option Value} {base : Heap}
abbrev s_Form_shape : Stmt := inClass (topS 18) 2
theorem sc_Form_shape : FnScope ["self", "word"] ["self", "word"] (defScope s_Form_shape) := ⟨rfl, rfl, rfl, by decide +kernel, rfl, by decide +kernel, by decide +kernel⟩
theorem ok_fshape {f CF CE fE : Addr} {fd : FuncData} (F : Fun K "shape" "Form.shape" s_Form_shape f fd) (B : Blt mg) (TE : PySem.BadX.Txt P K mg "value" "value" CE fE) (c_BadForm : mg "BadForm" = some (.ref CE)) (cF : Cls K CF) (nF : NoAttr K CF "_shapes") : FnOk P w K mg base (L2.CX P w) 1 f fd ["self", "word"] (spFShape K CF CE) := by
  refine F.okX sc_Form_shape (fun vs H Q E h => ?_) (fun cdv A outer s H vs Q E hr h => ?_)
  · obtain ⟨b, v, us1, us2, us3, rfl, _⟩ := h
    rfl
  · obtain ⟨b, v, us1, us2, us3, rfl, hF, hv⟩ := h
    have hu := hu_of hr
    refine ⟨_, (pss_cons (ps_if (PW.pt (pw_or (pt_not (pt_val (pe_callB call_isi (by rfl) B.isinstance (by decide +kernel) (pa_cons (pv 1) (pa_cons (pe_bltn (v := .ty "str") (by rfl) B.str (by decide +kernel) rfl) pa_nil))))) (pw_or1 (pt_cmp (pc_dnotin hu (pv 1) (pe_fld (pv 0) rfl)) rfl))))
      (pss_one (ps_raiseB rfl TE par_value c_BadForm (hr.mono (Nat.zero_le _)) (takes_of rfl rfl rfl rfl) (pa_cons (pv 1) pa_nil) (by rfl)))
      pss_nil)
    (pss_one (ps_ret (pe_dget hu (pe_fld (pv 0) rfl) (pv 1) (fun _ _ => rfl))))), ?_⟩
    obtain ⟨dx, d, t1, t2, t3, h1, h2, p1, p2, p3⟩ := id hF
    have FL : ∀ {R : VK}, R (.ref d) H → tFld K (tVar 0) "_shapes" [some (.ref b), some v] H R := fun {R} r => ⟨_, rfl, b, CF, dx, _, _, rfl, h1, cF, nF, rfl, r⟩
    rcases hv with ⟨z, us, rfl, hz, q⟩ | ⟨⟨z, rfl, hz, n1, n2, n3⟩ | ⟨t, ht, hk⟩, q⟩
    · have got : ∃ t, valV [((Sum.inr "row" : Key), V.ref t1), (Sum.inr "fix", V.ref t2), (Sum.inr "gone", V.ref t3)] (Sum.inr z : Key) = some (.ref t) ∧ H t = some (.tup us) ∧ z.length ≤ 100 := by
        unfold pickW at hz
        by_cases c1 : z = "row"
        · subst c1
          cases hz
          exact ⟨t1, rfl, p1, by decide +kernel⟩
        · rw [if_neg c1] at hz
          by_cases c2 : z = "fix"
          · subst c2
            cases hz
            exact ⟨t2, rfl, p2, by decide +kernel⟩
          · rw [if_neg c2] at hz
            by_cases c3 : z = "gone"
            · subst c3
              cases hz
              exact ⟨t3, rfl, p3, by decide +kernel⟩
            · rw [if_neg c3] at hz
              cases hz
      obtain ⟨t, g1, g2, g3⟩ := got
      refine ⟨_, rfl, _, _, _, _, true, rfl, .ty _, .base (.str _), kit_ty (by decide +kernel), _, rfl, iteN rfl ⟨_, rfl, FL ⟨d, _, rfl, DGet.k (k := Sum.inr z) h2, ?_⟩⟩⟩
      have gs : (!(valV [((Sum.inr "row" : Key), V.ref t1), (Sum.inr "fix", V.ref t2), (Sum.inr "gone", V.ref t3)] (Sum.inr z : Key)).isSome) = false := by rw [g1]; rfl
      exact ⟨_, rfl, iteN gs ⟨_, rfl, b, CF, dx, _, _, rfl, h1, cF, nF, rfl, _, rfl, d, .ref t, rfl, by have := DGet.k (k := (Sum.inr z : Key)) h2; rw [g1] at this; exact this, q t g2⟩⟩
    · have g1 : valV [((Sum.inr "row" : Key), V.ref t1), (Sum.inr "fix", V.ref t2), (Sum.inr "gone", V.ref t3)] (Sum.inr z : Key) = none := by
        rw [valV_neg (fun e => n1 (Sum.inr.inj e).symm), valV_neg (fun e => n2 (Sum.inr.inj e).symm), valV_neg (fun e => n3 (Sum.inr.inj e).symm)]
        rfl
      have gs : (!(valV [((Sum.inr "row" : Key), V.ref t1), (Sum.inr "fix", V.ref t2), (Sum.inr "gone", V.ref t3)] (Sum.inr z : Key)).isSome) = true := by rw [g1]; rfl
      exact ⟨_, rfl, _, _, _, _, true, rfl, .ty _, .base (.str _), kit_ty (by decide +kernel), _, rfl, iteN rfl ⟨_, rfl, FL ⟨d, _, rfl, DGet.k (k := Sum.inr z) h2, _, rfl, iteP gs ⟨_, rfl, _, rfl, fun e he => q e _ (sameAt (Same.refl _) he) upd_same⟩⟩⟩⟩
    · exact ⟨_, rfl, _, _, _, _, _, rfl, .ty _, ht, hk, _, rfl, iteP rfl ⟨_, rfl, _, rfl, fun e he => q e _ (sameAt (Same.refl _) he) upd_same⟩⟩
end
end Ash

set_option Elab.async false
set_option linter.all false
set_option maxRecDepth 100000
set_option maxHeartbeats 4000000
set_option pp.maxSteps 60
namespace Ash
open PySem PySem.Spec PyProof.Rows L2
open C8 (pss_cut)
/-! ### rows of pairs -/
inductive PrsAt (H : Hp) : List V → List (Str × Str) → Prop
  | nil : PrsAt H [] []
  | cons {a : Addr} {w s : Str} {us : List V} {ps : List (Str × Str)} : H a = some (.tup [.str w, .str s]) → PyData.strOk w = true → PyData.strOk s = true → PrsAt H us ps → PrsAt H (.ref a :: us) ((w, s) :: ps)
def pdt (p : Str × Str) : PyData := .tuple [.str p.1, .str p.2]
theorem PrsAt.ev {H H' : Hp} : ∀ {us : List V} {ps : List (Str × Str)}, PrsAt H us ps → Ev H H' → PrsAt H' us ps
  | _, _, .nil, _ => .nil
  | _, _, .cons h1 h2 h3 t, e => .cons (e.tup h1) h2 h3 (t.ev e)
theorem PrsAt.len {H : Hp} : ∀ {us : List V} {ps : List (Str × Str)}, PrsAt H us ps → us.length = ps.length
  | _, _, .nil => rfl
  | _, _, .cons _ _ _ t => by rw [List.length_cons, List.length_cons, t.len]
theorem PrsAt.dp {K : PySem.W.Frag} {H : Hp} : ∀ {us : List V} {ps : List (Str × Str)}, PrsAt H us ps → DpAll K H us (ps.map pdt)
  | _, _, .nil => .nil
  | _, _, .cons h1 _ _ t => .cons (.tup (SqT.of h1) (.cons (.str _) (.cons (.str _) .nil))) t.dp
theorem PrsAt.ok {H : Hp} : ∀ {us : List V} {ps : List (Str × Str)}, PrsAt H us ps → ∀ p ∈ ps, PyData.strOk p.1 = true ∧ PyData.strOk p.2 = true
  | _, _, .nil, p, hp => by cases hp
  | _, _, .cons _ h2 h3 t, p, hp => by
    rcases List.mem_cons.mp hp with rfl | hp
    · exact ⟨h2, h3⟩
    · exact t.ok p hp
theorem pdt_shaped {p : Str × Str} (h1 : PyData.strOk p.1 = true) (h2 : PyData.strOk p.2 = true) : SeqAt.shaped (pdt p) = true := by
  unfold SeqAt.shaped pdt
  simp [PyData.canLay0, PyData.canLayAll0, PyData.depth, PyData.depthAll, h1, h2]
theorem prs_lay : ∀ {ps : List (Str × Str)}, (∀ p ∈ ps, PyData.strOk p.1 = true ∧ PyData.strOk p.2 = true) → PyData.canLayAll0 (ps.map pdt) = true ∧ PyData.depthAll (ps.map pdt) ≤ 2
  | [], _ => by simp [PyData.canLayAll0, PyData.depthAll]
  | p :: ps, h => by
    obtain ⟨h1, h2⟩ := prs_lay (ps := ps) fun q hq => h q (List.mem_cons_of_mem _ hq)
    obtain ⟨g1, g2⟩ := h p List.mem_cons_self
    simp only [List.map_cons, PyData.canLayAll0, PyData.depthAll, pdt, PyData.canLay0, PyData.depth, g1, g2, h1, Bool.and_self, true_and]
    simp only [Nat.max_le]
    omega
theorem prs_shaped {ps : List (Str × Str)} (h : ∀ p ∈ ps, PyData.strOk p.1 = true ∧ PyData.strOk p.2 = true) : SeqAt.shaped (.tuple (ps.map pdt)) = true := by
  obtain ⟨h1, h2⟩ := prs_lay h
  unfold SeqAt.shaped
  simp [PyData.canLay0, PyData.depth, h1]
  omega
theorem eqv_prs : ∀ {ps qs : List (Str × Str)}, PyData.eqvAll (ps.map pdt) (qs.map pdt) = true ↔ ps = qs
  | [], [] => by simp [PyData.eqvAll]
  | [], _ :: _ => by simp [PyData.eqvAll]
  | _ :: _, [] => by simp [PyData.eqvAll]
  | (a, b) :: ps, (c, d) :: qs => by
    rw [List.map_cons, List.map_cons, PyData.eqvAll, Bool.and_eq_true, eqv_prs]
    simp [pdt, PyData.eqv, PyData.eqvAll]
theorem eqv_row (ps qs : List (Str × Str)) : PyData.eqv (.tuple (ps.map pdt)) (.tuple (qs.map pdt)) = decide (ps = qs) := by
  rw [Bool.eq_iff_iff, decide_eq_true_eq, PyData.eqv]
  exact eqv_prs
theorem prs_of {K : PySem.W.Frag} {H : Hp} : ∀ {us : List V} {ps : List Pc} {fs : List Str}, PcsAt K H us ps → pcsF ps = some fs → ∃ qs, PrsAt H us qs
  | _, _, _, .nil, _ => ⟨[], .nil⟩
  | _, _, fs, .cons (p := p) (ps := ps) h t, e => by
    unfold pcsF at e
    cases e1 : pcF p with
    | none => rw [e1] at e; cases e
    | some x =>
      rw [e1] at e
      cases e2 : pcsF ps with
      | none => rw [e2] at e; cases e
      | some y =>
        obtain ⟨qs, hq⟩ := prs_of t e2
        cases p with
        | pr w s =>
          obtain ⟨a, rfl, h1, h2⟩ := h
          have hw : PyData.strOk w = true := by
            have e1 : (if w = "field" then some [s] else if w = "mark" ∧ mkB s = true then some [] else none) = some x := e1
            by_cases c : w = "field"
            · rw [c]; decide +kernel
            · rw [if_neg c] at e1
              by_cases c2 : w = "mark" ∧ mkB s = true
              · rw [c2.1]; decide +kernel
              · rw [if_neg c2] at e1; cases e1
          exact ⟨(w, s) :: qs, .cons h1 hw h2.2 hq⟩
        | no => cases e1
        | len => cases e1
        | snd w => cases e1
        | fst s => cases e1
theorem RwA.back {K : PySem.W.Frag} {H H2 : Hp} {v : V} {sh : Sh} {z : Str} {us : List V} (h : ShA K H v sh) (g : sh.good z) (s : Same H H2) (r : RwA H2 v us) : RwA H v us := by
  cases sh with
  | no => exact g.elim
  | row ps =>
    obtain ⟨a, us', rfl, h1, _⟩ := h
    obtain ⟨b, e, h2⟩ := r
    cases e
    refine ⟨a, rfl, ?_⟩
    rcases h1 with h1 | h1 <;> rcases h2 with h2 | h2 <;> (have := s _ _ h1; rw [h2] at this; cases this)
    · exact .inl h1
    · exact .inr h1
theorem FormAt.same {CF : Addr} {H H' : Hp} {b : Addr} {a1 a2 a3 : List V} (h : FormAt CF H b a1 a2 a3) (s : Same H H') : FormAt CF H' b a1 a2 a3 := by
  obtain ⟨dx, d, t1, t2, t3, h1, h2, h3, h4, h5⟩ := h
  exact ⟨dx, d, t1, t2, t3, s _ _ h1, s _ _ h2, s _ _ h3, s _ _ h4, s _ _ h5⟩
theorem passF {X : Cx} : Passes (L2.CX X.prog X.w) X (fun _ _ _ => False) := fun _ _ _ _ _ _ _ c => by
  obtain ⟨a, B, H', cls, d, _, _, _, _, _, _, _, hE⟩ := c
  exact hE.elim
theorem PrsAt.get {H : Hp} : ∀ {us : List V} {ps : List (Str × Str)} {i : Nat} {v : V}, PrsAt H us ps → us[i]? = some v → ∃ a w s, v = .ref a ∧ H a = some (.tup [.str w, .str s]) ∧ PyData.strOk w = true ∧ PyData.strOk s = true
  | _, _, _, _, .nil, h => by simp at h
  | _, _, 0, _, .cons (a := a) (w := w) (s := s) h1 h2 h3 _, e => by
    cases Option.some.inj (show some (V.ref a) = some _ from e)
    exact ⟨a, w, s, rfl, h1, h2, h3⟩
  | _, _, i + 1, _, .cons _ _ _ t, e => t.get (i := i) e
/-- good rows as pairs: fields of these names -/
def GoodQ (fs : List Str) (qs : List (Str × Str)) : Prop := ∀ p ∈ qs, (p.1 = "field" → p.2 ∈ fs) ∧ p.2.length ≤ 100
theorem prs_good {K : PySem.W.Frag} {H : Hp} : ∀ {us : List V} {ps : List Pc} {fs : List Str}, PcsAt K H us ps → pcsF ps = some fs → ∃ qs, PrsAt H us qs ∧ GoodQ fs qs
  | _, _, _, .nil, _ => ⟨[], .nil, fun p hp => by cases hp⟩
  | _, _, fs, .cons (p := p) (ps := ps) h t, e => by
    unfold pcsF at e
    cases e1 : pcF p with
    | none => rw [e1] at e; cases e
    | some x =>
      rw [e1] at e
      cases e2 : pcsF ps with
      | none => rw [e2] at e; cases e
      | some y =>
        rw [e2] at e
        have e : x ++ y = fs := Option.some.inj e
        obtain ⟨qs, hq, g⟩ := prs_good t e2
        cases p with
        | pr w s =>
          obtain ⟨a, rfl, h1, h2⟩ := h
          have e1 : (if w = "field" then some [s] else if w = "mark" ∧ mkB s = true then some [] else none) = some x := e1
          have hw : PyData.strOk w = true := by
            by_cases c : w = "field"
            · rw [c]; decide +kernel
            · rw [if_neg c] at e1
              by_cases c2 : w = "mark" ∧ mkB s = true
              · rw [c2.1]; decide +kernel
              · rw [if_neg c2] at e1; cases e1
          refine ⟨(w, s) :: qs, .cons h1 hw h2.2 hq, fun p hp => ?_⟩
          rcases List.mem_cons.mp hp with rfl | hp
          · refine ⟨fun c => ?_, h2.1⟩
            have c : w = "field" := c
            rw [if_pos c] at e1
            rw [← e, ← Option.some.inj e1]
            exact List.mem_append_left _ (List.mem_singleton.mpr rfl)
          · exact ⟨fun c => by rw [← e]; exact List.mem_append_right _ ((g p hp).1 c), (g p hp).2⟩
        | no => cases e1
        | len => cases e1
        | snd w => cases e1
        | fst s => cases e1
end Ash

set_option Elab.async false
set_option linter.all false
set_option maxRecDepth 100000
set_option maxHeartbeats 400000
set_option pp.maxSteps 60
namespace Ash
open PySem PySem.Spec PyProof.Rows L2
open C8 (pss_cut)
/-! ### the text of a line -/
def It.tx : It → Str
  | .int n => toString n
  | .str z => z
  | .oth => ""
def It.wr : It → Bool
  | .oth => false
  | _ => true
/-- the text of the field s -/
def lk : List Str → List It → Str → Str
  | f :: fs, i :: is, s => if f = s then i.tx else lk fs is s
  | _, _, _ => ""
def ptx (fs : List Str) (is : List It) (p : Str × Str) : Str := if p.1 = "field" then lk fs is p.2 else p.2
def cat : List Str → Str
  | [] => ""
  | x :: r => x ++ cat r
def tl : List Str → List It → List (Key × V)
  | f :: fs, i :: is => (.inr f, .str i.tx) :: tl fs is
  | _, _ => []
theorem sapp_assoc (a b c : Str) : a ++ b ++ c = a ++ (b ++ c) := by
  show (⟨a.cps ++ b.cps ++ c.cps⟩ : Str) = ⟨a.cps ++ (b.cps ++ c.cps)⟩
  rw [Array.append_assoc]
theorem sapp_nil (a : Str) : a ++ ("" : Str) = a := by
  show (⟨a.cps ++ #[]⟩ : Str) = a
  rw [Array.append_empty]
theorem nil_sapp (a : Str) : ("" : Str) ++ a = a := by
  show (⟨#[] ++ a.cps⟩ : Str) = a
  rw [Array.empty_append]
theorem cat_snoc : ∀ (xs : List Str) (y : Str), cat (xs ++ [y]) = cat xs ++ y
  | [], y => by show y ++ "" = "" ++ y; rw [sapp_nil, nil_sapp]
  | x :: r, y => by show x ++ cat (r ++ [y]) = x ++ cat r ++ y; rw [cat_snoc r y, sapp_assoc]
theorem join_cat (xs : List Str) : Txt.join "" xs = cat xs := by
  have g : ∀ (ys : List Str) (a : Str), (⟨ys.foldl (fun acc p => acc ++ ("" : Str).cps ++ p.cps) a.cps⟩ : Str) = a ++ cat ys := by
    intro ys
    induction ys with
    | nil => intro a; exact (sapp_nil a).symm
    | cons y r ih =>
      intro a
      rw [List.foldl_cons, show a.cps ++ ("" : Str).cps ++ y.cps = (a ++ y).cps from congrArg (· ++ y.cps) (Array.append_empty), ih (a ++ y), sapp_assoc]
      rfl
  cases xs with
  | nil => rfl
  | cons x r => exact g r x
theorem tl_take : ∀ {fs : List Str} {is : List It} {k : Nat} {f : Str} {i : It}, fs[k]? = some f → is[k]? = some i → tl (fs.take (k + 1)) (is.take (k + 1)) = tl (fs.take k) (is.take k) ++ [(.inr f, .str i.tx)]
  | [], _, _, _, _, h, _ => by simp at h
  | _ :: _, [], _, _, _, _, h => by simp at h
  | g :: fs, j :: is, 0, f, i, h1, h2 => by
    cases Option.some.inj (show some g = some f from h1)
    cases Option.some.inj (show some j = some i from h2)
    rfl
  | g :: fs, j :: is, k + 1, f, i, h1, h2 => by
    show (_ :: tl (fs.take (k + 1)) (is.take (k + 1))) = _
    rw [tl_take (fs := fs) (is := is) (k := k) h1 h2]
    rfl
theorem tl_no : ∀ {fs : List Str} {is : List It} {s : Str}, s ∉ fs → valV (tl fs is) (.inr s) = none
  | [], _, _, _ => rfl
  | _ :: _, [], _, _ => rfl
  | f :: fs, i :: is, s, h => by
    show valV ((.inr f, _) :: tl fs is) (.inr s) = none
    rw [valV_neg (fun e => h (List.mem_cons.mpr (.inl (Sum.inr.inj e).symm)))]
    exact tl_no (fun e => h (List.mem_cons_of_mem _ e))
theorem tl_get : ∀ {fs : List Str} {is : List It} {s : Str}, fs.length = is.length → s ∈ fs → valV (tl fs is) (.inr s) = some (.str (lk fs is s))
  | [], _, _, _, h => by cases h
  | _ :: _, [], _, h, _ => by simp at h
  | f :: fs, i :: is, s, l, h => by
    show valV ((.inr f, V.str i.tx) :: tl fs is) (.inr s) = some (.str (if f = s then i.tx else lk fs is s))
    by_cases c : f = s
    · rw [valV_pos (by rw [c]), if_pos c]
    · rw [valV_neg (fun e => c (Sum.inr.inj e)), if_neg c]
      exact tl_get (by simpa using l) ((List.mem_cons.mp h).resolve_left (fun e => c e.symm))
theorem tl_len : ∀ (fs : List Str) (is : List It), (tl fs is).length ≤ fs.length
  | [], _ => Nat.le_refl _
  | _ :: _, [] => Nat.zero_le _
  | _ :: fs, _ :: is => Nat.succ_le_succ (tl_len fs is)
theorem lk_at : ∀ {fs : List Str} {is : List It} {s : Str} {k : Nat} {i : It}, fs.idxOf s = k → is[k]? = some i → k < fs.length → lk fs is s = i.tx
  | [], _, _, _, _, _, _, h => by simp at h
  | _ :: _, [], _, _, _, _, h, _ => by simp at h
  | f :: fs, j :: is, s, k, i, e, h, l => by
    show (if f = s then j.tx else lk fs is s) = i.tx
    by_cases c : f = s
    · rw [if_pos c]
      rw [List.idxOf_cons, show (f == s) = true from beq_iff_eq.mpr c] at e
      have e : 0 = k := e
      rw [← e] at h
      rw [Option.some.inj (show some j = some i from h)]
    · rw [if_neg c]
      rw [List.idxOf_cons, show (f == s) = false from beq_eq_false_iff_ne.mpr c] at e
      have e : fs.idxOf s + 1 = k := e
      rw [← e] at h l
      exact lk_at (fs := fs) (is := is) rfl h (by simpa using l)
theorem flds_nd (w : Str) : (flds w).Nodup := by
  unfold flds
  split
  · decide +kernel
  · split <;> decide +kernel
theorem str_len (s : String) : (s : Str).length = s.length := PySem.ofString_length s
theorem tx_len {K : PySem.W.Frag} {H : Hp} {v : V} {i : It} (h : ItA K H v i) : i.tx.length ≤ 4301 := by
  cases i with
  | int n =>
    obtain ⟨_, ⟨h⟩⟩ := h
    have e := int_text_length_le10 (k := 4300) (by decide) h
    clear h
    show ((toString n : String) : Str).length ≤ 4301
    rw [str_len]
    exact e
  | str z =>
    have : z.length ≤ 20 := h.2
    show z.length ≤ 4301
    omega
  | oth => exact Nat.zero_le _
theorem lk_len {K : PySem.W.Frag} {H : Hp} : ∀ {us : List V} {is : List It} (fs : List Str) (s : Str), ItsA K H us is → (lk fs is s).length ≤ 4301
  | _, _, [], _, _ => Nat.zero_le _
  | _, _, _ :: _, _, .nil => Nat.zero_le _
  | _, _, f :: fs, s, .cons h t => by
    show (if f = s then _ else lk fs _ s).length ≤ 4301
    split
    · exact tx_len h
    · exact lk_len fs s t
theorem ptx_len {K : PySem.W.Frag} {H : Hp} {us : List V} {is : List It} {fs : List Str} {p : Str × Str} (h : ItsA K H us is) (l : p.2.length ≤ 100) : (ptx fs is p).length ≤ 4301 := by
  unfold ptx
  split
  · exact lk_len fs _ h
  · omega
theorem sum_le : ∀ {xs : List Str}, (∀ x ∈ xs, x.length ≤ 4301) → (xs.map (·.length)).sum ≤ 4301 * xs.length
  | [], _ => Nat.le_refl _
  | x :: r, h => by
    have := sum_le (xs := r) fun y hy => h y (List.mem_cons_of_mem _ hy)
    have := h x List.mem_cons_self
    simp only [List.map_cons, List.sum_cons, List.length_cons]
    omega
theorem cat_len : ∀ (xs : List Str), (cat xs).length = (xs.map (·.length)).sum
  | [] => rfl
  | x :: r => by
    show (x ++ cat r).length = _
    rw [len_app, cat_len r]
    rfl
/-- a good entry, as it is -/
theorem nm_wr {i : It} (h : i.isNm = true) : i.wr = true := by cases i <;> first | rfl | cases h
theorem int_wr {i : It} (h : i.isI = true) : i.wr = true := by cases i <;> first | rfl | cases h
theorem nat_wr {i : It} (h : i.isN = true) : i.wr = true := by cases i <;> first | rfl | cases h
theorem all_wr {r : List It} (h : r.all It.isI = true) : ∀ i ∈ r, i.wr = true := fun i hi => int_wr (List.all_eq_true.mp h i hi)
theorem isS_eq {i : It} {z : Str} (h : i.isS z = true) : i = .str z := by
  cases i with
  | str y => exact congrArg It.str (of_decide_eq_true h)
  | int n => cases h
  | oth => cases h
theorem gE_inv {is : List It} (h : gE is = true) : ∃ z vals, is = .str z :: vals ∧ (z = "row" ∨ z = "fix" ∨ z = "gone") ∧ vals.length = (flds z).length ∧ ∀ i ∈ vals, i.wr = true := by
  by_cases l3 : is.length < 3
  · rw [gE_short l3] at h
    cases h
  obtain ⟨i0, i1, i2, r, rfl⟩ : ∃ a b c r, is = a :: b :: c :: r := by
    rcases is with _ | ⟨a, _ | ⟨b, _ | ⟨c, r⟩⟩⟩
    · exact absurd (by decide) l3
    · exact absurd (by simp) l3
    · exact absurd (by simp) l3
    · exact ⟨a, b, c, r, rfl⟩
  rw [gE_cons, Bool.and_eq_true] at h
  obtain ⟨h1, h⟩ := h
  by_cases c1 : i0.isS "row" = true
  · rw [if_pos c1] at h
    cases r with
    | nil => cases h
    | cons k r =>
      simp only [Bool.and_eq_true, decide_eq_true_eq] at h
      obtain ⟨l, h2, h3, h4⟩ := h
      refine ⟨"row", i1 :: i2 :: k :: r, by rw [isS_eq c1], .inl rfl, by simp only [List.length_cons, l]; decide +kernel, fun i hi => ?_⟩
      simp only [List.mem_cons] at hi
      rcases hi with rfl | rfl | rfl | hi
      · exact nat_wr h1
      · exact nm_wr h2
      · exact nm_wr h3
      · exact all_wr h4 i hi
  · rw [if_neg c1] at h
    by_cases c2 : i0.isS "fix" = true
    · rw [if_pos c2, Bool.and_eq_true, decide_eq_true_eq] at h
      refine ⟨"fix", i1 :: i2 :: r, by rw [isS_eq c2], .inr (.inl rfl), by rw [List.length_cons, h.1]; decide +kernel, fun i hi => ?_⟩
      rcases List.mem_cons.mp hi with rfl | hi
      · exact nat_wr h1
      · exact all_wr h.2 i hi
    · rw [if_neg c2] at h
      rw [Bool.and_eq_true, Bool.and_eq_true, decide_eq_true_eq] at h
      refine ⟨"gone", i1 :: i2 :: r, by rw [isS_eq h.1], .inr (.inr rfl), by rw [List.length_cons, h.2.1]; decide +kernel, fun i hi => ?_⟩
      rcases List.mem_cons.mp hi with rfl | hi
      · exact nat_wr h1
      · exact all_wr h.2.2 i hi
end Ash

set_option Elab.async false
set_option linter.all false
set_option maxRecDepth 100000
set_option maxHeartbeats 4000000
namespace RZ
open PySem PySem.Spec PyProof.Rows L2
open PySem.Sem (wp)
section
variable {prog : Program} {w : World} {A : Around} {E : Value → Shared → Prop} {s : Shared}
theorem zipM_next_item {z TI TO i1 i2 l1 l2 : Addr} {k1 k2 : Nat} {xs ys : Array Value} {x y a b : Value} {Q : Value → Shared → Prop} (D : ZipApart z TI TO i1 i2 l1 l2)
    (hz : IsZip s.heap z TI TO .none) (hTI : IsPair s.heap TI (.ref i1) (.ref i2)) (hTO : IsPair s.heap TO a b)
    (h1 : s.heap.IsTupleIter i1 l1 k1) (h2 : s.heap.IsListIter i2 l2 k2) (hl1 : s.heap.IsTuple l1 xs) (hl2 : s.heap.IsList l2 ys) (hx : xs[k1]? = some x) (hy : ys[k2]? = some y)
    (hQ : ∀ h', IsZip h' z TI TO (rawInt s.heap.objs.size) → IsPair h' TO x y → h'.IsTupleIter i1 l1 (k1 + 1) → h'.IsListIter i2 l2 (k2 + 1) → IsPair h' s.heap.objs.size x y → h'.objs.size = s.heap.objs.size + 1 →
      (∀ c o, c ≠ z → c ≠ TO → c ≠ i1 → c ≠ i2 → s.heap.get? c = some o → h'.get? c = some o) → Q (.ref s.heap.objs.size) { s with heap := h' }) :
    wpAny (model prog w) A (Builtin.«zip.__next__» ⟨[.ref z], []⟩) (fun fin s' => ∃ v, fin = .done (.ret v) ∧ Q v s') E s := by
  show wpAny _ _ (field (.ref z) 2 >>= _) _ _ _
  refine wpAny_bind (wpAny_field hz rfl (x := .bool false) rfl ?_)
  show wpAny _ _ (field (.ref z) 3 >>= _) _ _ _
  refine wpAny_bind (wpAny_field hz rfl (x := .ref TI) rfl ?_)
  refine wpAny_bind (wpAny_seqItems hTI rfl ?_)
  show wpAny _ _ (Builtin.SmallTypes.ownedTupleIsFree (.ref z) >>= _) _ _ _
  refine wpAny_bind ?_
  unfold Builtin.SmallTypes.ownedTupleIsFree
  refine wpAny_bind (wpAny_field hz rfl (x := .none) rfl (wpAny_pure ?_))
  simp only [if_true]
  refine wpAny_bind (wpAny_rule ?_)
  refine wpAny_bind (wpAny_field hz rfl (x := .ref TO) rfl ?_)
  refine wpAny_bind (wpAny_setField_rec hz (by simp) fun h₁ hz₁ hs₁ => ?_)
  replace hz₁ : IsZip h₁ z TI TO .ellipsis := hz₁
  refine wpAny_bind ?_
  simp only [List.zipIdx_cons, List.zipIdx_nil, List.forIn_cons, List.forIn_nil]

  refine wpAny_bind (wpAny_bind (wpAny_onRaise ?_))
  show wpAny _ _ (Builtin.SmallTypes.nextOf (.ref i1) >>= _) _ _ _
  refine wpAny_bind (nextOf_tuple_item (h1.extBut hs₁.extBut D.i1z) (hl1.extBut hs₁.extBut D.l1z) hx fun h₂ h1₂ hs₂ => wpAny_pure ?_)
  have hTO₂ : IsPair h₂ TO a b := hs₂.extBut _ _ D.TOi1 (hs₁.extBut _ _ D.TOz hTO)
  refine wpAny_bind (wpAny_seqItems hTO₂ rfl ?_)
  refine wpAny_bind (wpAny_updateSeq_pair hTO₂ fun h₃ hTO₃ hs₃ => ?_)
  replace hTO₃ : IsPair h₃ TO x b := hTO₃
  refine wpAny_bind (wpAny_letGo (wpAny_pure ?_))

  refine wpAny_bind (wpAny_bind (wpAny_onRaise ?_))
  show wpAny _ _ (Builtin.SmallTypes.nextOf (.ref i2) >>= _) _ _ _
  refine wpAny_bind (wpAny_nextOf_list_item (((h2.extBut hs₁.extBut D.i2z).extBut hs₂.extBut D.i12.symm).extBut hs₃.extBut D.TOi2.symm)
    (((hl2.extBut hs₁.extBut D.l2z).extBut hs₂.extBut D.l2i1).extBut hs₃.extBut D.l2TO) hy fun h₄ h2₄ hs₄ => wpAny_pure ?_)
  have hTO₄ : IsPair h₄ TO x b := hs₄.extBut _ _ D.TOi2 hTO₃
  refine wpAny_bind (wpAny_seqItems hTO₄ rfl ?_)
  refine wpAny_bind (wpAny_updateSeq_pair hTO₄ fun h₅ hTO₅ hs₅ => ?_)
  replace hTO₅ : IsPair h₅ TO x y := hTO₅
  refine wpAny_bind (wpAny_letGo (wpAny_pure (wpAny_pure ?_)))

  refine wpAny_bind (wpAny_seqItems hTO₅ rfl ?_)
  refine wpAny_bind (wpAny_newTuple ?_)
  have hsz : h₅.objs.size = s.heap.objs.size := by rw [hs₅.1, hs₄.1, hs₃.1, hs₂.1, hs₁.1]
  have hz₅ : IsZip h₅ z TI TO .ellipsis := hs₅.extBut _ _ D.TOz.symm (hs₄.extBut _ _ D.i2z.symm (hs₃.extBut _ _ D.TOz.symm (hs₂.extBut _ _ D.i1z.symm hz₁)))
  have hk₅ : ∀ c o, c ≠ z → c ≠ TO → c ≠ i1 → c ≠ i2 → s.heap.get? c = some o → h₅.get? c = some o := fun c o c1 c2 c3 c4 e =>
    hs₅.extBut _ _ c2 (hs₄.extBut _ _ c4 (hs₃.extBut _ _ c2 (hs₂.extBut _ _ c3 (hs₁.extBut _ _ c1 e))))
  have h1₅ : h₅.IsTupleIter i1 l1 (k1 + 1) := ((h1₂.extBut hs₃.extBut D.TOi1.symm).extBut hs₄.extBut D.i12).extBut hs₅.extBut D.TOi1.symm
  have h2₅ : h₅.IsListIter i2 l2 (k2 + 1) := h2₄.extBut hs₅.extBut D.TOi2.symm
  have hzlt : z < h₅.objs.size := Heap.lt_size hz₅
  have hTOlt : TO < h₅.objs.size := Heap.lt_size hTO₅
  have hi1lt : i1 < h₅.objs.size := by obtain ⟨_, e, _⟩ := h1₅; exact Heap.lt_size e
  have hi2lt : i2 < h₅.objs.size := by obtain ⟨_, e, _⟩ := h2₅; exact Heap.lt_size e
  show wpAny _ _ (Builtin.SmallTypes.ownedTupleHandOut (.ref z) (.ref h₅.objs.size) >>= _) _ _ _
  refine wpAny_bind ?_
  unfold Builtin.SmallTypes.ownedTupleHandOut
  have hz₆ : IsZip (h₅.push { cls := .type "tuple", data := .seq #[x, y] }) z TI TO .ellipsis := Heap.get?_push_of_some _ hz₅
  refine wpAny_bind (wpAny_setField_rec hz₆ (by simp) fun h₇ hz₇ hs₇ => ?_)
  replace hz₇ : IsZip h₇ z TI TO (rawInt h₅.objs.size) := hz₇
  refine wpAny_setField_rec hz₇ (by simp) fun h₈ hz₈ hs₈ => ?_
  replace hz₈ : IsZip h₈ z TI TO (rawInt h₅.objs.size) := hz₈
  have up : ∀ c o, c ≠ z → h₅.get? c = some o → h₈.get? c = some o := fun c o c1 e => hs₈.extBut _ _ c1 (hs₇.extBut _ _ c1 (Heap.get?_push_of_some _ e))
  have hT₈ : IsPair h₈ h₅.objs.size x y := hs₈.extBut _ _ (Nat.ne_of_gt hzlt) (hs₇.extBut _ _ (Nat.ne_of_gt hzlt) (Heap.get?_push_size _ rfl))
  have hz8 : h₈.objs.size = h₅.objs.size + 1 := by rw [hs₈.1, hs₇.1, Heap.size_push]
  rw [hsz] at hz₈ hT₈ hz8
  refine wpAny_pure ⟨_, rfl, ?_⟩
  show Q (.ref h₅.objs.size) _
  rw [hsz]
  exact hQ h₈ hz₈ (up _ _ D.TOz hTO₅) (h1₅.at fun o e => up _ o D.i1z e) (h2₅.at fun o e => up _ o D.i2z e) hT₈ hz8 fun c o c1 c2 c3 c4 e => up c o c1 (hk₅ c o c1 c2 c3 c4 e)

theorem zipM_next_end {z TI TO i1 i2 l1 l2 : Addr} {k1 k2 : Nat} {xs ys : Array Value} {a b : Value} {Q : Fin → Shared → Prop} (hh : A.handled = none) (D : ZipApart z TI TO i1 i2 l1 l2)
    (hz : IsZip s.heap z TI TO .none) (hTI : IsPair s.heap TI (.ref i1) (.ref i2)) (hTO : IsPair s.heap TO a b)
    (h1 : s.heap.IsTupleIter i1 l1 k1) (h2 : s.heap.IsListIter i2 l2 k2) (hl1 : s.heap.IsTuple l1 xs) (hl2 : s.heap.IsList l2 ys) (hend : xs[k1]? = none ∨ ys[k2]? = none)
    (hE : ∀ h' e, (∀ c o, c ≠ z → c ≠ TO → c ≠ i1 → c ≠ i2 → s.heap.get? c = some o → h'.get? c = some o) → (∃ o, h'.get? e = some o ∧ o.cls = .type "StopIteration") → E (.ref e) { s with heap := h' }) :
    wpAny (model prog w) A (Builtin.«zip.__next__» ⟨[.ref z], []⟩) Q E s := by
  show wpAny _ _ (field (.ref z) 2 >>= _) _ _ _
  refine wpAny_bind (wpAny_field hz rfl (x := .bool false) rfl ?_)
  show wpAny _ _ (field (.ref z) 3 >>= _) _ _ _
  refine wpAny_bind (wpAny_field hz rfl (x := .ref TI) rfl ?_)
  refine wpAny_bind (wpAny_seqItems hTI rfl ?_)
  show wpAny _ _ (Builtin.SmallTypes.ownedTupleIsFree (.ref z) >>= _) _ _ _
  refine wpAny_bind ?_
  unfold Builtin.SmallTypes.ownedTupleIsFree
  refine wpAny_bind (wpAny_field hz rfl (x := .none) rfl (wpAny_pure ?_))
  simp only [if_true]
  refine wpAny_bind (wpAny_rule ?_)
  refine wpAny_bind (wpAny_field hz rfl (x := .ref TO) rfl ?_)
  refine wpAny_bind (wpAny_setField_rec hz (by simp) fun h₁ hz₁ hs₁ => ?_)
  replace hz₁ : IsZip h₁ z TI TO .ellipsis := hz₁
  refine wpAny_bind ?_
  simp only [List.zipIdx_cons, List.zipIdx_nil, List.forIn_cons, List.forIn_nil]
  refine wpAny_bind (wpAny_bind (wpAny_onRaise ?_))
  show wpAny _ _ (Builtin.SmallTypes.nextOf (.ref i1) >>= _) _ _ _
  cases hx : xs[k1]? with
  | none =>
    refine wpAny_bind (nextOf_tuple_end hh (h1.extBut hs₁.extBut D.i1z) (hl1.extBut hs₁.extBut D.l1z) hx fun h₂ e hs₂ he => ?_)
    obtain ⟨oe, hoe, hce⟩ := he
    have hz₂ : IsZip h₂ z TI TO .ellipsis := hs₂ _ _ D.i1z.symm hz₁
    have hez : e ≠ z := fun x => by subst x; rw [hz₂] at hoe; cases hoe; simp at hce
    refine wpAny_setField_rec hz₂ (by simp) fun h₃ _ hs₃ => hE h₃ e (fun c o c1 _ c3 _ x => hs₃.extBut _ _ c1 (hs₂ _ _ c3 (hs₁.extBut _ _ c1 x))) ⟨oe, hs₃.extBut _ _ hez hoe, hce⟩
  | some x =>
    have hy : ys[k2]? = none := by rcases hend with h | h; rw [hx] at h; cases h; exact h
    refine wpAny_bind (nextOf_tuple_item (h1.extBut hs₁.extBut D.i1z) (hl1.extBut hs₁.extBut D.l1z) hx fun h₂ h1₂ hs₂ => wpAny_pure ?_)
    have hTO₂ : IsPair h₂ TO a b := hs₂.extBut _ _ D.TOi1 (hs₁.extBut _ _ D.TOz hTO)
    refine wpAny_bind (wpAny_seqItems hTO₂ rfl ?_)
    refine wpAny_bind (wpAny_updateSeq_pair hTO₂ fun h₃ hTO₃ hs₃ => ?_)
    refine wpAny_bind (wpAny_letGo (wpAny_pure ?_))
    refine wpAny_bind (wpAny_bind (wpAny_onRaise ?_))
    show wpAny _ _ (Builtin.SmallTypes.nextOf (.ref i2) >>= _) _ _ _
    refine wpAny_bind (wpAny_nextOf_list_end hh (((h2.extBut hs₁.extBut D.i2z).extBut hs₂.extBut D.i12.symm).extBut hs₃.extBut D.TOi2.symm)
      (((hl2.extBut hs₁.extBut D.l2z).extBut hs₂.extBut D.l2i1).extBut hs₃.extBut D.l2TO) hy fun h₄ e hs₄ he => ?_)
    obtain ⟨oe, hoe, hce⟩ := he
    have hz₄ : IsZip h₄ z TI TO .ellipsis := hs₄ _ _ D.i2z.symm (hs₃.extBut _ _ D.TOz.symm (hs₂.extBut _ _ D.i1z.symm hz₁))
    have hez : e ≠ z := fun x => by subst x; rw [hz₄] at hoe; cases hoe; simp at hce
    refine wpAny_setField_rec hz₄ (by simp) fun h₅ _ hs₅ => hE h₅ e (fun c o c1 c2 c3 c4 x => hs₅.extBut _ _ c1 (hs₄ _ _ c4 (hs₃.extBut _ _ c2 (hs₂.extBut _ _ c3 (hs₁.extBut _ _ c1 x))))) ⟨oe, hs₅.extBut _ _ hez hoe, hce⟩

theorem pyNext_zipM_item {z TI TO i1 i2 l1 l2 : Addr} {k1 k2 : Nat} {xs ys : Array Value} {x y a b : Value} {Q : Option Value → Shared → Prop} (D : ZipApart z TI TO i1 i2 l1 l2)
    (hz : IsZip s.heap z TI TO .none) (hTI : IsPair s.heap TI (.ref i1) (.ref i2)) (hTO : IsPair s.heap TO a b)
    (h1 : s.heap.IsTupleIter i1 l1 k1) (h2 : s.heap.IsListIter i2 l2 k2) (hl1 : s.heap.IsTuple l1 xs) (hl2 : s.heap.IsList l2 ys) (hx : xs[k1]? = some x) (hy : ys[k2]? = some y)
    (hQ : ∀ h', IsZip h' z TI TO (rawInt s.heap.objs.size) → IsPair h' TO x y → h'.IsTupleIter i1 l1 (k1 + 1) → h'.IsListIter i2 l2 (k2 + 1) → IsPair h' s.heap.objs.size x y → h'.objs.size = s.heap.objs.size + 1 →
      (∀ c o, c ≠ z → c ≠ TO → c ≠ i1 → c ≠ i2 → s.heap.get? c = some o → h'.get? c = some o) → Q (some (.ref s.heap.objs.size)) { s with heap := h' }) :
    wpAny (model prog w) A (pyNext (.ref z)) Q E s := by
  have hT : s.TypeIs (.ref z) "zip" := ⟨_, hz, rfl⟩
  unfold pyNext
  exact wpAny_bind (wpAny_attempt (wpAny_callSpecial?_slot (name := Str.ofString "__next__") hT F.slot_zip_next
    (wpAny_call_entry F.slot_zip_next hT F.entry_zip_next
      (zipM_next_item D hz hTI hTO h1 h2 hl1 hl2 hx hy fun h' a1 a2 a3 a4 a5 a6 a7 => wpAny_pure (hQ h' a1 a2 a3 a4 a5 a6 a7)) (F.args_zip_next_1 _))))

theorem pyNext_zipM_end {z TI TO i1 i2 l1 l2 : Addr} {k1 k2 : Nat} {xs ys : Array Value} {a b : Value} {Q : Option Value → Shared → Prop} (hh : A.handled = none) (D : ZipApart z TI TO i1 i2 l1 l2)
    (hz : IsZip s.heap z TI TO .none) (hTI : IsPair s.heap TI (.ref i1) (.ref i2)) (hTO : IsPair s.heap TO a b)
    (h1 : s.heap.IsTupleIter i1 l1 k1) (h2 : s.heap.IsListIter i2 l2 k2) (hl1 : s.heap.IsTuple l1 xs) (hl2 : s.heap.IsList l2 ys) (hend : xs[k1]? = none ∨ ys[k2]? = none)
    (hQ : ∀ h', (∀ c o, c ≠ z → c ≠ TO → c ≠ i1 → c ≠ i2 → s.heap.get? c = some o → h'.get? c = some o) → Q none { s with heap := h' }) : wpAny (model prog w) A (pyNext (.ref z)) Q E s := by
  have hT : s.TypeIs (.ref z) "zip" := ⟨_, hz, rfl⟩
  unfold pyNext
  refine wpAny_bind (wpAny_attempt (wpAny_callSpecial?_slot (name := Str.ofString "__next__") hT F.slot_zip_next
    (wpAny_call_entry F.slot_zip_next hT F.entry_zip_next (zipM_next_end hh D hz hTI hTO h1 h2 hl1 hl2 hend fun h' e hk he => ?_) (F.args_zip_next_1 _))))
  obtain ⟨o, ho, hc⟩ := he
  refine wpAny_bind (wpAny_isInstance (T := "StopIteration") (b := true) ⟨o, ho, hc⟩ isSubtype_stop ?_)
  exact wpAny_pure (hQ _ hk)
end

abbrev zipMH1 (h : Heap) (l1 : Addr) : Heap := h.push { cls := .type "tuple_iterator", data := .fields #[.ref l1, .int 0 0] }
abbrev zipMH2 (h : Heap) (l1 l2 : Addr) : Heap := (zipMH1 h l1).push { cls := .type "list_iterator", data := .fields #[.ref l2, .int 0 0] }
abbrev zipMH3 (h : Heap) (l1 l2 : Addr) : Heap := (zipMH2 h l1 l2).push { cls := .type "tuple", data := .seq #[.ref h.objs.size, .ref (zipMH1 h l1).objs.size] }
abbrev zipMH4 (h : Heap) (l1 l2 : Addr) : Heap := (zipMH3 h l1 l2).push { cls := .type "tuple", data := .seq #[.none, .none] }
abbrev zipMH5 (h : Heap) (l1 l2 : Addr) : Heap := (zipMH4 h l1 l2).push { cls := .type "zip", data := .fields #[.none, .bool false, .bool false, .ref (zipMH2 h l1 l2).objs.size, .ref (zipMH3 h l1 l2).objs.size] }

theorem meets_zipM_new (l1 l2 : Addr) (xs ys : Array Value) :
    Meets (Builtin.«zip.__new__» ⟨[.type "zip", .ref l1, .ref l2], []⟩) (fun _ R s => s.heap.IsTuple l1 xs ∧ s.heap.IsList l2 ys ∧
      R (.ok (.ret (.ref (zipMH4 s.heap l1 l2).objs.size))) { s with heap := zipMH5 s.heap l1 l2 }) :=
  .of_wp fun prog w A R s h => by
    obtain ⟨hp, g, d, tk, os⟩ := s; obtain ⟨hl1, hl2, h⟩ := h
    have hsub := sub_zip
    have hL1 : Heap.IsTuple (Shared.heap ⟨hp, g, d, tk, os⟩) l1 xs := hl1
    have hL2 : Heap.IsList (Shared.heap ⟨hp.push { cls := .type "tuple_iterator", data := .fields #[.ref l1, .int 0 0] }, g, d, tk, os⟩) l2 ys := Heap.IsList.push hl2 _
    wp_walk using wpAny_pyIter_tuple hL1, wpAny_pyIter_list hL2
    exact ⟨_, rfl, h⟩

section
variable {prog : Program} {w : World} {A : Around} {E : Value → Shared → Prop} {s : Shared}

theorem call_zipM {l1 l2 : Addr} {xs ys : Array Value} {Q : Value → Shared → Prop} (hl1 : s.heap.IsTuple l1 xs) (hl2 : s.heap.IsList l2 ys)
    (h : ∀ h', IsZip h' (s.heap.objs.size + 4) (s.heap.objs.size + 2) (s.heap.objs.size + 3) .none → IsPair h' (s.heap.objs.size + 2) (.ref s.heap.objs.size) (.ref (s.heap.objs.size + 1)) →
      IsPair h' (s.heap.objs.size + 3) .none .none → h'.IsTupleIter s.heap.objs.size l1 0 → h'.IsListIter (s.heap.objs.size + 1) l2 0 → h'.objs.size = s.heap.objs.size + 5 →
      (∀ c o, s.heap.get? c = some o → h'.get? c = some o) → Q (.ref (s.heap.objs.size + 4)) { s with heap := h' }) :
    wpAny (model prog w) A (call (.type "zip") [.ref l1, .ref l2]) Q E s := by
  refine callType_new F.called_zip (by decide) (F.typeCall_zip_2 _ _) (F.newCall_zip_2 _ _) (fun obj => F.args_object_init_3 obj _ _) F.entry_zip_new
    (meets_zipM_new l1 l2 xs ys) ⟨hl1, hl2, ?_⟩
  have z1 : (zipMH1 s.heap l1).objs.size = s.heap.objs.size + 1 := Heap.size_push ..
  have z2 : (zipMH2 s.heap l1 l2).objs.size = s.heap.objs.size + 2 := by rw [Heap.size_push, z1]
  have z3 : (zipMH3 s.heap l1 l2).objs.size = s.heap.objs.size + 3 := by rw [Heap.size_push, z2]
  have z4 : (zipMH4 s.heap l1 l2).objs.size = s.heap.objs.size + 4 := by rw [Heap.size_push, z3]
  have z5 : (zipMH5 s.heap l1 l2).objs.size = s.heap.objs.size + 5 := by rw [Heap.size_push, z4]
  have g5 : (zipMH5 s.heap l1 l2).get? (zipMH4 s.heap l1 l2).objs.size = some _ := Heap.get?_push_size _ rfl
  have g4 : (zipMH5 s.heap l1 l2).get? (zipMH3 s.heap l1 l2).objs.size = some _ := Heap.get?_push_of_some _ (Heap.get?_push_size _ rfl)
  have g3 : (zipMH5 s.heap l1 l2).get? (zipMH2 s.heap l1 l2).objs.size = some _ := Heap.get?_push_of_some _ (Heap.get?_push_of_some _ (Heap.get?_push_size _ rfl))
  have g2 : (zipMH5 s.heap l1 l2).get? (zipMH1 s.heap l1).objs.size = some _ := Heap.get?_push_of_some _ (Heap.get?_push_of_some _ (Heap.get?_push_of_some _ (Heap.get?_push_size _ rfl)))
  have g1 : (zipMH5 s.heap l1 l2).get? s.heap.objs.size = some _ := Heap.get?_push_of_some _ (Heap.get?_push_of_some _ (Heap.get?_push_of_some _ (Heap.get?_push_of_some _ (Heap.get?_push_size _ rfl))))
  show _ ∧ _
  rw [z2, z3, z4] at g5
  rw [z1, z2] at g3
  rw [z3] at g4
  rw [z1] at g2
  rw [z4]
  exact ⟨⟨_, g5, rfl⟩, h _ g5 g3 g4 ⟨_, g1, rfl, rfl⟩ ⟨_, g2, rfl, rfl⟩ z5 fun c o x =>
    Heap.get?_push_of_some _ (Heap.get?_push_of_some _ (Heap.get?_push_of_some _ (Heap.get?_push_of_some _ (Heap.get?_push_of_some _ x))))⟩
end
/-- the tuple at a and the list at b as they stand at each turn, the items in new pairs -/
def ItzM (K : PySem.W.Frag) (a b : Addr) : It :=
  ⟨fun i H => ∃ (xs ys : List V) (x y : V), SqT K H a xs ∧ SqL K H b ys ∧ xs[i]? = some x ∧ ys[i]? = some y,
    fun i H v H' => ∃ T x y, v = .ref T ∧ H T = none ∧ H' = upd H T (.tup [x, y]) ∧ (∀ xs, SqT K H a xs → xs[i]? = some x) ∧ ∀ ys, SqL K H b ys → ys[i]? = some y,
    fun i H => ∃ xs ys : List V, SqT K H a xs ∧ SqL K H b ys ∧ (xs.length ≤ i ∨ ys.length ≤ i)⟩
theorem turn_zipM {P : Program} {w : World} {K : PySem.W.Frag} {elts : List Expr} {kk : Nat} {tpos : Pos} {a b z TI TO i1 i2 : Addr} (D : ZipApart z TI TO i1 i2 a b) :
    Turn P w K (.Tuple elts kk tpos) (ItzM K a b) [z, TI, TO, i1, i2] z (fun i h => IsZip h z TI TO .none ∧ IsPair h TI (.ref i1) (.ref i2) ∧ (∃ x y, IsPair h TO x y) ∧ h.IsTupleIter i1 a i ∧ h.IsListIter i2 b i) where
  mem := by simp
  obj := fun i h st c hc => by
    obtain ⟨hz, hTI, ⟨x, y, hTO⟩, ⟨o1, e1, _, d1⟩, ⟨o2, e2, _, d2⟩⟩ := st
    have e' : c = z ∨ c = TI ∨ c = TO ∨ c = i1 ∨ c = i2 := by simpa using hc
    rcases e' with q | q | q | q | q
    · rw [q]; exact ⟨_, hz, fun v q => nomatch q⟩
    · rw [q]; exact ⟨_, hTI, fun v q => nomatch q⟩
    · rw [q]; exact ⟨_, hTO, fun v q => nomatch q⟩
    · rw [q]; exact ⟨o1, e1, fun v q => by rw [d1] at q; cases q⟩
    · rw [q]; exact ⟨o2, e2, fun v q => by rw [d2] at q; cases q⟩
  keep := fun i h h' st k => by
    obtain ⟨hz, hTI, ⟨x, y, hTO⟩, h1, h2⟩ := st
    exact ⟨k z (by simp) _ hz, k TI (by simp) _ hTI, ⟨x, y, k TO (by simp) _ hTO⟩, h1.at fun o q => k i1 (by simp) o q, h2.at fun o q => k i2 (by simp) o q⟩
  item := by
    intro X hP hw hK hc i pins s σ H E I hf st hg
    subst hP hw hK
    obtain ⟨hz, hTI, ⟨x0, y0, hTO⟩, h1, h2⟩ := st
    obtain ⟨xs, ys, x, y, hqx, hqy, hx, hy⟩ := hg
    obtain ⟨its, rv, p, _⟩ := I.tuple hqx
    obtain ⟨its2, rv2, p2, _⟩ := I.list hqy
    obtain ⟨u, hu, ru⟩ := rv.get hx
    obtain ⟨u2, hu2, ru2⟩ := rv2.get hy
    have hzl : z < s.heap.objs.size := Heap.lt_size hz
    refine pyNext_zipM_item D hz hTI hTO h1 h2 p p2.isList (x := u) (y := u2) (by simpa using hu) (by simpa using hu2) fun h' z' TO' h1' h2' hT hsz hk => ?_
    refine ⟨_, rfl, wpAny_letOwnedTupleGo_zip (s := { s with heap := h' }) z' fun h'' z'' sb => ?_⟩
    have hT2 : h''.get? s.heap.objs.size = some { cls := .type "tuple", data := .seq #[u, u2] } := (sb.2 _ (Nat.ne_of_gt hzl)).trans hT
    have new : ObjOk X.prog X.w (upd H s.heap.objs.size (.tup [x, y])) h'' s.heap.objs.size (.tup [x, y]) :=
      ⟨by show 2 ≤ sizeLine; decide, [u, u2], .cons ru (.cons ru2 .nil), ⟨_, hT2, rfl, _, rfl⟩⟩
    have I1 : Inv X pins σ (upd H s.heap.objs.size (.tup [x, y])) { s with heap := h'' } :=
      I.turnedNew (t' := s.toks) (ch := [z, TI, TO, i1, i2]) (fun c o hb q => (sb.2 c (fun q' => hb (by simp [q']))).trans (hk c o (fun q' => hb (by simp [q'])) (fun q' => hb (by simp [q'])) (fun q' => hb (by simp [q'])) (fun q' => hb (by simp [q'])) q)) hf (Nat.le_refl _) new
    refine ⟨.ref s.heap.objs.size, _, I1, rfl, ⟨_, x, y, rfl, I.hok.fresh (Nat.le_refl _), rfl, fun l hl => by rw [I.tuple_inj hl hqx]; exact hx, fun l hl => by rw [I.list_inj hl hqy]; exact hy⟩, ⟨z'', ?_, ⟨u, u2, ?_⟩, ?_, ?_⟩, fun c hcm => ?_⟩
    · exact (sb.2 _ D.TIz).trans (hk _ _ D.TIz D.TITO D.TIi1 D.TIi2 hTI)
    · exact (sb.2 _ D.TOz).trans TO'
    · exact h1'.at fun o q => (sb.2 _ D.i1z).trans q
    · exact h2'.at fun o q => (sb.2 _ D.i2z).trans q
    · have hlt : c < s.heap.objs.size := by
        have e' : c = z ∨ c = TI ∨ c = TO ∨ c = i1 ∨ c = i2 := by simpa using hcm
        rcases e' with q | q | q | q | q
        · rw [q]; exact hzl
        · rw [q]; exact Heap.lt_size hTI
        · rw [q]; exact Heap.lt_size hTO
        · rw [q]; obtain ⟨_, e1, _⟩ := h1; exact Heap.lt_size e1
        · rw [q]; obtain ⟨_, e2, _⟩ := h2; exact Heap.lt_size e2
      rw [upd_ne (Nat.ne_of_lt hlt)]
      exact (hf c hcm).1
  done := by
    intro X hP hw hK hc i pins s σ H E I hf st hg
    subst hP hw hK
    obtain ⟨hz, hTI, ⟨x0, y0, hTO⟩, h1, h2⟩ := st
    obtain ⟨xs, ys, hqx, hqy, hend⟩ := hg
    obtain ⟨its, rv, p, _⟩ := I.tuple hqx
    obtain ⟨its2, rv2, p2, _⟩ := I.list hqy
    have l1 := rv.length
    have l2 := rv2.length
    have he : its.toArray[i]? = none ∨ its2.toArray[i]? = none := by
      rcases hend with q | q
      · exact .inl (by simp; omega)
      · exact .inr (by simp; omega)
    exact pyNext_zipM_end (I.ok.hd hc) D hz hTI hTO h1 h2 p p2.isList he fun h' hk => ⟨rfl, I.turnedL (t' := s.toks) (ch := [z, TI, TO, i1, i2]) (fun c o hb q =>
      hk c o (fun q' => hb (by simp [q'])) (fun q' => hb (by simp [q'])) (fun q' => hb (by simp [q'])) (fun q' => hb (by simp [q'])) q) hf⟩
  self := fun A i s Q E st h => wpAny_pyIter_zip st.1 h

def iZipM (K : PySem.W.Frag) (ta : TA) : TI := fun σ H R => ta σ H fun vs H1 => ∃ a b xs ys, vs = [.ref a, .ref b] ∧ SqT K H1 a xs ∧ SqL K H1 b ys ∧ R (ItzM K a b) H1
theorem pi_zipM {X : Cx} {e e2 : Expr} {ta : TA} {p pos tpos : Pos} {elts : List Expr} {kk : Nat} (hg : Gl X "zip") (hm : X.mg "zip" = none) (ha : PA X [e, e2] ta)
    (hs : starEach [e, e2] X.env = (false, eval e X.env) :: starEach [e2] X.env := by rfl) (hpl : (backTo pos (starEach [e2] X.env)).any (·.1) = false := by rfl) :
    PI X (.Tuple elts kk tpos) (.Call (.Name "zip" p) [e, e2] [] pos) (iZipM X.K ta) := by
  refine ⟨fun pins s σ H R I h => ?_⟩
  refine Call_ (ld_blt I hg hm PyProof.Rows.boot_zip (PyProof.Rows.callWith_type1 (thn (ha.run pos pins s σ H _ I h) fun us s1 ⟨vs, H1, I1, r1, q1⟩ => ?_) hs hpl))
  obtain ⟨a, b, xs, ys, ex, q1⟩ := q1
  subst ex
  cases r1 with
  | cons r rr =>
    cases rr with
    | cons r' rr =>
      cases rr
      cases r
      cases r'
      have fresh5 : ∀ c, c ∈ [s1.heap.objs.size + 4, s1.heap.objs.size + 2, s1.heap.objs.size + 3, s1.heap.objs.size, s1.heap.objs.size + 1] → FpOk X pins H1 c := fun c hcm => by
        have e' : c = s1.heap.objs.size + 4 ∨ c = s1.heap.objs.size + 2 ∨ c = s1.heap.objs.size + 3 ∨ c = s1.heap.objs.size ∨ c = s1.heap.objs.size + 1 := by simpa using hcm
        have hle : s1.heap.objs.size ≤ c := by
          rcases e' with z | z | z | z | z
          · rw [z]; exact Nat.le_add_right _ _
          · rw [z]; exact Nat.le_add_right _ _
          · rw [z]; exact Nat.le_add_right _ _
          · rw [z]; exact Nat.le_refl _
          · rw [z]; exact Nat.le_add_right _ _
        exact I1.fpOk hle (I1.hok.fresh hle)
      obtain ⟨hqx, hqy, q⟩ := q1
      obtain ⟨its, rv, p1, _⟩ := I1.tuple hqx
      obtain ⟨its2, rv2, p2, _⟩ := I1.list hqy
      obtain ⟨o1, ho1, _⟩ := id p1
      refine call_zipM (show s1.heap.IsTuple a its.toArray from p1) p2.isList fun h' hz hTI hTO h1 h2 hsz hk => wpAny_pyIter_zip hz ?_
      have I2 : Inv X pins σ H1 { s1 with heap := h' } := I1.kept (t' := s1.toks) hk
      exact ⟨s1.heap.objs.size + 4, [s1.heap.objs.size + 4, s1.heap.objs.size + 2, s1.heap.objs.size + 3, s1.heap.objs.size, s1.heap.objs.size + 1], _, _, H1, rfl, I2, turn_zipM (PySem.W.ktu_apart s1.heap.objs.size a b (Heap.lt_size ho1) p2.lt), ⟨hz, hTI, ⟨_, _, hTO⟩, h1, h2⟩, fresh5, q⟩

/-- a loop over zip of a tuple and a list of one length -/
theorem for_zipM {K : PySem.W.Frag} {a b : Addr} {xs ys : List V} {g : TG} {tb : TS} {D : Ends} {σ : L2.St} {H : Hp} (hl : xs.length = ys.length) (Pv : Nat → L2.St → Hp → Prop) (h0 : Pv 0 σ H) (hq : ∀ i σ H, Pv i σ H → SqT K H a xs ∧ SqL K H b ys)
    (hs : ∀ (i : Nat) (x y : V) (T : Addr) (σ : L2.St) (H : Hp), xs[i]? = some x → ys[i]? = some y → Pv i σ H → H T = none → g (.ref T) σ (upd H T (.tup [x, y])) fun σ2 H2 => tb { D with nx := Pv (i + 1), ct := Pv (i + 1), bk := D.nx } σ2 H2) (hd : ∀ σ H, Pv xs.length σ H → D.nx σ H) :
    ∃ W : Nat → Nat → L2.St → Hp → Prop, (∃ m, W 0 m σ H) ∧ ∀ i m σ H, W i m σ H →
      ((ItzM K a b).stop i H ∧ D.nx σ H) ∨ ((ItzM K a b).go i H ∧ ∃ N : L2.St → Hp → Prop, (∀ σ' H', N σ' H' → ∃ m', m' < m ∧ W (i + 1) m' σ' H') ∧ ∀ v H', (ItzM K a b).yld i H v H' → g v σ H' fun σ2 H2 => tb { D with nx := N, ct := N, bk := D.nx } σ2 H2) := by
  refine ⟨fun i m σ H => m = xs.length - i ∧ i ≤ xs.length ∧ Pv i σ H, ⟨xs.length, rfl, Nat.zero_le _, h0⟩, ?_⟩
  rintro i m σ H ⟨rfl, hi, p⟩
  obtain ⟨qx, qy⟩ := hq i σ H p
  by_cases hlt : i < xs.length
  · have hx : xs[i]? = some xs[i] := List.getElem?_eq_getElem hlt
    have hlt2 : i < ys.length := by omega
    have hy : ys[i]? = some ys[i] := List.getElem?_eq_getElem hlt2
    refine .inr ⟨⟨xs, ys, _, _, qx, qy, hx, hy⟩, Pv (i + 1), fun σ' H' p' => ⟨xs.length - (i + 1), by omega, rfl, hlt, p'⟩, fun v H' y => ?_⟩
    obtain ⟨T, x', y', rfl, hT, rfl, f1, f2⟩ := y
    exact hs i x' y' T σ H (f1 xs qx) (f2 ys qy) p hT
  · have e : i = xs.length := by omega
    subst e
    exact .inl ⟨⟨xs, ys, qx, qy, Or.inl (Nat.le_refl _)⟩, hd σ H p⟩

end RZ

set_option Elab.async false
set_option linter.all false
set_option maxRecDepth 100000
set_option maxHeartbeats 400000
set_option pp.maxSteps 100
namespace Ash
open PySem PySem.Spec PyProof.Rows L2 RZ
open C8 (pss_cut)
/-! ### lines written -/
theorem par_at : PySem.BadX.Par "at" := ⟨by decide, by decide +kernel, by decide +kernel, by decide +kernel, by decide +kernel⟩
theorem walk_zipM {K : PySem.W.Frag} {a b : Addr} {xs ys : List V} (hl : xs.length = ys.length) : Walk (ItzM K a b) xs.length (fun H => SqT K H a xs ∧ SqL K H b ys) (fun i H v H' => ∃ T u w, v = .ref T ∧ H T = none ∧ H' = upd H T (.tup [u, w]) ∧ xs[i]? = some u ∧ ys[i]? = some w) where
  goes := fun i H hi ⟨h1, h2⟩ => ⟨xs, ys, xs[i], ys[i], h1, h2, List.getElem?_eq_getElem hi, List.getElem?_eq_getElem (hl ▸ hi)⟩
  stops := fun H ⟨h1, h2⟩ => ⟨xs, ys, h1, h2, .inl (Nat.le_refl _)⟩
  yields := fun i H x H' hi ⟨h1, h2⟩ ⟨T, u, w, e, hT, eH, f1, f2⟩ => ⟨T, u, w, e, hT, eH, f1 _ h1, f2 _ h2⟩
/-- the line of a good entry -/
def lineS (z : Str) (vals : List It) (qs : List (Str × Str)) : Str := cat (qs.map (ptx (flds z) vals))
def spCheck (K : PySem.W.Frag) (CF CX1 : Addr) : Sp := fun vs H Q E => ∃ f : Addr, vs = [.ref f] ∧ ((∃ us1 us2 us3, FormAt CF H f us1 us2 us3 ∧ Q .non H) ∨ ((∃ ks, H f = some (.dK ks)) ∧ ∀ d H', Same H H' → Xd H' d "value" (.ref f) → E (.ref CX1) (some d) H'))
/-- rows of a form, as pairs -/
def FormQ (CF : Addr) (H : Hp) (f : Addr) (qs : Str → List (Str × Str)) : Prop := ∃ us1 us2 us3, FormAt CF H f us1 us2 us3 ∧ ∀ z us, pickW z us1 us2 us3 = some us → PrsAt H us (qs z) ∧ GoodQ (flds z) (qs z) ∧ (qs z).length ≤ 15
def spWrite (K : PySem.W.Frag) (CF CE CX1 : Addr) : Sp := fun vs H Q E => ∃ (f : Addr) (e : V), vs = [.ref f, e] ∧
  ((∃ qs th, FormQ CF H f qs ∧ ThA K H e th ∧ (gT th = false → ∀ d H', Same H H' → Xd H' d "at" (.int 0) → E (.ref CE) (some d) H') ∧ (∀ z vals H', th = .tup (.str z :: vals) → gT th = true → Same H H' → Q (.str (lineS z vals (qs z))) H')) ∨
   ((∃ ks, H f = some (.dK ks)) ∧ ∀ d H', Same H H' → Xd H' d "value" (.ref f) → E (.ref CX1) (some d) H'))
section
variable {P : Program} {w : World} {K : PySem.W.Frag} {mg : Str → Option Value} {base : Heap}
theorem PrsAt.get2 {H : Hp} : ∀ {us : List V} {ps : List (Str × Str)} {i : Nat} {v : V}, PrsAt H us ps → us[i]? = some v → ∃ a p, v = .ref a ∧ ps[i]? = some p ∧ H a = some (.tup [.str p.1, .str p.2])
  | _, _, _, _, .nil, h => by simp at h
  | _, _, 0, _, .cons (a := a) (w := w) (s := s) h1 _ _ _, e => by
    cases Option.some.inj (show some (V.ref a) = some _ from e)
    exact ⟨a, (w, s), rfl, rfl, h1⟩
  | _, _, i + 1, _, .cons _ _ _ t, e => t.get2 (i := i) e
theorem pick_some {z : Str} (h : z = "row" ∨ z = "fix" ∨ z = "gone") (a b c : List V) : ∃ us, pickW z a b c = some us := by
  rcases h with rfl | rfl | rfl
  · exact ⟨a, rfl⟩
  · exact ⟨b, rfl⟩
  · exact ⟨c, rfl⟩
abbrev s_check_form : Stmt := topS 21
theorem sc_check_form : FnScope ["form"] ["form"] (defScope s_check_form) := ⟨rfl, rfl, rfl, by decide +kernel, rfl, by decide +kernel, by decide +kernel⟩
theorem ok_check {f CForm CX1 fX : Addr} {fd : FuncData} (F : Fun K "check_form" "check_form" s_check_form f fd) (B : Blt mg) (TX : PySem.BadX.Txt P K mg "value" "value" CX1 fX) (c_BadForm : mg "BadForm" = some (.ref CX1)) (c_Form : mg "Form" = some (.ref CForm)) (kF : PySem.W.kitOne K (.ref CForm) (.ref CForm) = some true) (kD : PySem.W.kitOne K (.type "dict") (.ref CForm) = some false) (bF : ∀ {H : Hp} {a dx : Addr} {fs : List (Str × V)}, H a = some (.ins CForm dx fs) → TyX K H (.ref a) (.ref CForm)) : FnOk P w K mg base (L2.CX P w) 1 f fd ["form"] (spCheck K CForm CX1) := by
  refine F.okX sc_check_form (fun vs H Q E h => ?_) (fun cdv A outer s H vs Q E hr h => ?_)
  · obtain ⟨f, rfl, _⟩ := h
    rfl
  · obtain ⟨f, rfl, h⟩ := h
    refine ⟨_, (pss_one (ps_if (pt_not (pt_val (pe_callB call_isi (by rfl) B.isinstance (by decide +kernel) (pa_cons (pv 0) (pa_cons (pe_glob (v := .ref CForm) (by rfl) c_Form rfl) pa_nil)))))
      (pss_one (ps_raiseB rfl TX par_value c_BadForm (hr.mono (Nat.zero_le _)) (takes_of rfl rfl rfl rfl) (pa_cons (pv 0) pa_nil) (by rfl)))
      pss_nil)), ?_⟩
    rcases h with ⟨us1, us2, us3, hF, q⟩ | ⟨⟨ks, hd⟩, q⟩
    · obtain ⟨dx, d, t1, t2, t3, h1, _⟩ := id hF
      exact ⟨_, rfl, _, _, _, _, true, rfl, .own _, bF h1, kF, _, rfl, iteN rfl q⟩
    · exact ⟨_, rfl, _, _, _, _, false, rfl, .own _, .base (.dK hd), kD, _, rfl, iteP rfl ⟨_, rfl, _, rfl, fun e he => q e _ (sameAt (Same.refl _) he) upd_same⟩⟩
structure GW (P : Program) (w : World) (K : PySem.W.Frag) (mg : Str → Option Value) (base : Heap) (CF CX1 : Addr) : Prop where
  check_form : Cal P w K mg base (L2.CX P w) "check_form" 1 ["form"] (spCheck K CF CX1)
  is_entry : Cal P w K mg base CX0 "is_entry" 3 ["thing"] (spIsEA K)
  shape : Met P w K mg base (L2.CX P w) CF "shape" 1 ["self", "word"] (spFShape K CF CX1)
abbrev s_write_line : Stmt := topS 23
theorem sc_write_line : FnScope ["form", "entry", "word", "values", "told", "field", "worth", "kind", "text"] ["form", "entry"] (defScope s_write_line) := ⟨rfl, rfl, rfl, by decide +kernel, rfl, by decide +kernel, by decide +kernel⟩
theorem ok_write {f CF CE CX1 fE a_FIELDS : Addr} {fd : FuncData} (F : Fun K "write_line" "write_line" s_write_line f fd) (B : Blt mg) (ND : PySem.W.nsIn K cStatics "sys.int_max_str_digits" = some none) (zN : mg "zip" = none) (L : Fl K w mg a_FIELDS) (TE : PySem.BadX.Txt P K mg "at" "at" CE fE) (c_BadEntry : mg "BadEntry" = some (.ref CE)) (cF : Cls K CF) (G : GW P w K mg base CF CX1) : FnOk P w K mg base (L2.CX P w) 4 f fd ["form", "entry"] (spWrite K CF CE CX1) := by
  have g_FIELDS := L.g
  refine F.okX sc_write_line (fun vs H Q E h => ?_) (fun cdv A outer s H vs Q E hr h => ?_)
  · obtain ⟨f, e, rfl, _⟩ := h
    rfl
  · obtain ⟨f, e, rfl, h⟩ := h
    have hu := hu_of hr
    refine ⟨_, (pss_cons (ps_expr (pe_cal G.check_form (hr.mono (by decide)) (passE (takes_of rfl rfl rfl rfl)) (pa_cons (pv 0) pa_nil)))
    (pss_cons (ps_if (pt_not (pt_val (pe_cal G.is_entry (hr.mono (by decide)) pass0 (pa_cons (pv 1) pa_nil))))
      (pss_one (ps_raiseB rfl TE par_at c_BadEntry (hr.mono (Nat.zero_le _)) (takes_of rfl rfl rfl rfl) (pa_cons pe_int pa_nil) (by rfl)))
      pss_nil)
    (pss_cons (ps_asg (pv 1) (pg_tupS (by rfl) (pgs_cons (pg_name (i := 2) sc_write_line.nd rfl (Or.inl rfl)) (pgs_star (pg_name (i := 3) sc_write_line.nd rfl (Or.inl rfl)) pgs_nil))))
    (pss_cons (ps_set (i := 4) sc_write_line.nd rfl (Or.inr rfl) (pe_dc (own := [("field", 5), ("worth", 6)]) (g := gTup K 2 (gCons (gName 5) (gCons (gName 6) gNil))) (tt := tYes) (by rfl) sc_write_line.nd (pi_zipM (by rfl) zN (pa_cons (pe_ix ix_kdict (pe_glob (v := .ref a_FIELDS) (by rfl) g_FIELDS rfl) (pv 2) (fun _ _ => rfl)) (pa_cons (pv 3) pa_nil))) (blkOk_by (own := [("field", 5), ("worth", 6)]) (N := ["form", "entry", "word", "values", "told", "field", "worth", "kind", "text"]) (sc := defScope s_write_line) (by decide +kernel)) (fun _ _ _ _ _ => (pg_tup (by rfl) (pgs_cons (pg_name (i := 5) sc_write_line.nd rfl (Or.inl rfl)) (pgs_cons (pg_name (i := 6) sc_write_line.nd rfl (Or.inl rfl)) pgs_nil)))) (fun _ _ _ _ _ => pts_nil) (fun _ _ _ _ _ => (pv 5)) (fun _ _ _ _ _ => (pe_callTy (call_strA ND SkE.call_str_str) (by rfl) B.str (by decide +kernel) (pa_cons (pv 6) pa_nil)))))
    (pss_one (ps_ret (pe_join pe_str (pe_lc (own := [("kind", 7), ("text", 8)]) (g := gTup K 2 (gCons (gName 7) (gCons (gName 8) gNil))) (tt := tYes) (by rfl) sc_write_line.nd (pi_tup (pe_met cF G.shape (hr.mono (by decide)) (passE (takes_of rfl rfl rfl rfl)) (pv 0) (pa_cons (pv 2) pa_nil))) (blkOk_by (own := [("kind", 7), ("text", 8)]) (N := ["form", "entry", "word", "values", "told", "field", "worth", "kind", "text"]) (sc := defScope s_write_line) (by decide +kernel)) (fun _ _ _ _ _ => (pg_tup (by rfl) (pgs_cons (pg_name (i := 7) sc_write_line.nd rfl (Or.inl rfl)) (pgs_cons (pg_name (i := 8) sc_write_line.nd rfl (Or.inl rfl)) pgs_nil)))) (fun _ _ _ _ _ => pts_nil) (fun _ _ _ _ _ => (pe_ifExp (pt_cmpR op_eq (pv 7) pe_str (nomark _)) (pe_dget hu (pv 4) (pv 8) (fun _ _ => rfl)) (pv 8))))))))))), ?_⟩
    rcases h with ⟨qs, th, hQ, hT, qe, qg⟩ | ⟨hd, qx⟩
    rotate_left
    · exact ⟨_, rfl, f, rfl, .inr ⟨hd, fun d H' s x => qx d H' s x⟩⟩
    obtain ⟨us1, us2, us3, hF, hR⟩ := id hQ
    refine ⟨_, rfl, f, rfl, .inl ⟨us1, us2, us3, hF, ?_⟩⟩
    refine ⟨_, rfl, e, th, rfl, hT, fun H1 s1 => ⟨_, rfl, ?_⟩⟩
    cases eg : gT th with
    | false => exact iteP rfl ⟨_, rfl, fun d hd => qe eg d _ (s1.trans (sameAt (Same.refl _) hd)) upd_same⟩
    | true =>
    refine iteN rfl ?_
    cases th with
    | no => cases eg
    | tup is =>
    obtain ⟨z, vals, rfl, cz, lv, wr⟩ := gE_inv eg
    obtain ⟨a, us, rfl, ha, hI, l9⟩ := hT
    cases hI with
    | @cons v0 _ vr _ h0 hI =>
    obtain ⟨rfl, zl⟩ := h0
    have lr := hI.len
    simp only [List.length_cons] at l9
    refine ⟨_, rfl, a, _, rfl, SqT.of (s1 _ _ ha), (by show 1 ≤ vr.length + 1; omega), (by show vr.length + 1 ≤ 100; omega), fun p hp => ?_⟩
    refine ⟨_, _, rfl, _, _, rfl, rfl, ?_⟩
    show tSeq _ _ _ _ (upd H1 p (.lst vr))
    have s2 : Same H (upd H1 p (.lst vr)) := s1.trans (sameAt (Same.refl _) hp)
    have hp2 : upd H1 p (.lst vr) p = some (.lst vr) := upd_same
    generalize upd H1 p (.lst vr) = H2 at s2 hp2 ⊢
    obtain ⟨r, hk, hr2⟩ := L.k z cz
    refine ⟨_, rfl, a_FIELDS, z, .ref r, rfl, rfl, hk, _, rfl, r, p, _, vr, rfl, hr2 _, SqL.of hp2, fun D hD => ?_⟩
    refine w_it (walk_zipM (K := K) (a := r) (b := p) (xs := (flds z).map V.str) (ys := vr) (by rw [List.length_map, lr, lv])) (fun k H3 => H3 D = some (.dK (tl ((flds z).take k) (vals.take k))) ∧ Same H2 H3) ⟨upd_same, sameAt (Same.refl _) hD⟩ (fun k H3 _ hv => ⟨hr2 _, SqL.of (hv.2 _ _ hp2)⟩) ?_ ?_
    · rintro k x H3 H4 hk' ⟨hD3, s3⟩ ⟨T, u, v, rfl, hT, rfl, f1, f2⟩
      rw [List.length_map] at hk'
      have hf : (flds z)[k]? = some (flds z)[k] := List.getElem?_eq_getElem hk'
      generalize (flds z)[k] = fl at hf
      rw [List.getElem?_map, hf] at f1
      cases Option.some.inj (show some (V.str fl) = some u from f1)
      obtain ⟨i, hi, hIi⟩ := hI.get f2
      have sT := sameAt (o := .tup [.str fl, v]) (Same.refl H3) hT
      have hD4 := sT _ _ hD3
      have wi := wr i (List.mem_of_getElem? hi)
      have kl : (tl ((flds z).take k) (vals.take k)).length < sizeLine := by
        have := tl_len ((flds z).take k) (vals.take k)
        rw [List.length_take] at this
        have := flds_len z
        exact small1000 (by omega)
      have nw : fl ∉ (flds z).take k := fun hm => by
        obtain ⟨j, hj, e⟩ := List.getElem_of_mem hm
        have hj1 : j < k := by rw [List.length_take] at hj; omega
        have hj2 : (flds z)[j]? = some fl := by rw [← e, List.getElem_take]; exact List.getElem?_eq_getElem (by omega)
        obtain ⟨a1, a2⟩ := List.getElem?_eq_some_iff.mp hj2
        obtain ⟨b1, b2⟩ := List.getElem?_eq_some_iff.mp hf
        exact List.pairwise_iff_getElem.mp (flds_nd z) j k a1 b1 hj1 (a2.trans b2.symm)
      have fin : ∃ kvs kk, V.str fl = kV kk ∧ upd H3 T (.tup [.str fl, v]) D = some (.dK kvs) ∧ kvs.length < sizeLine ∧ (upd (upd H3 T (.tup [.str fl, v])) D (.dK (putK kvs kk (.str i.tx))) D = some (.dK (tl ((flds z).take (k + 1)) (vals.take (k + 1)))) ∧ Same H2 (upd (upd H3 T (.tup [.str fl, v])) D (.dK (putK kvs kk (.str i.tx))))) := by
        refine ⟨_, .inr fl, rfl, hD4, kl, ?_, sameAt2 (s3.trans sT) hD⟩
        rw [upd_same, putK_new _ (tl_no nw), tl_take hf hi]
      refine ⟨T, _, rfl, SqT.of upd_same, rfl, _, _, rfl, _, _, rfl, rfl, rfl, ?_⟩
      cases i with
      | oth => cases wi
      | int n =>
        obtain ⟨rfl, dg⟩ := hIi
        exact ⟨_, rfl, _, rfl, .inl ⟨n, rfl, dg, fin⟩⟩
      | str y =>
        obtain ⟨rfl, yl⟩ := hIi
        exact ⟨_, rfl, _, rfl, .inr ⟨y, rfl, fin⟩⟩
    · rintro H3 ⟨hD3, s3⟩
      rw [List.length_map, List.take_length, ← lv, List.take_length] at hD3
      have sH := s2.trans s3
      have hF3 := hF.same sH
      obtain ⟨dx, d, t1, t2, t3, f1, _⟩ := id hF3
      obtain ⟨us, hz⟩ := pick_some cz us1 us2 us3
      obtain ⟨hP, hG, h15⟩ := hR z us hz
      have ul := hP.len
      refine ⟨⟨_, rfl⟩, _, rfl, f, dx, _, rfl, f1, rfl, _, rfl, f, .str z, us1, us2, us3, rfl, hF3, .inl ⟨z, us, rfl, hz, fun t ht => ⟨t, rfl, ⟨_, SqT.of ht⟩, fun D2 hD2 => ?_⟩⟩⟩
      refine lc_it (walk_tup (xs := us)) (fun k H4 => H4 D2 = some (.lst ((((qs z).take k).map (ptx (flds z) vals)).map V.str)) ∧ Same H3 H4) ⟨upd_same, sameAt (Same.refl _) hD2⟩ (fun k H4 _ hv => SqT.of (hv.2 _ _ ht)) ?_ ?_
      · rintro k x H4 H5 hk' ⟨hD4, s4⟩ ⟨rfl, hx⟩
        obtain ⟨b, pp, rfl, hq, hb⟩ := hP.get2 hx
        have hb4 := (sH.trans s4) _ _ hb
        obtain ⟨g1, g2⟩ := hG pp (List.mem_of_getElem? hq)
        have sz : ((((qs z).take k).map (ptx (flds z) vals)).map V.str).length < sizeLine := by rw [List.length_map, List.length_map, List.length_take]; exact small1000 (by omega)
        have fin : ∀ y : Str, y = ptx (flds z) vals pp → ∃ ys, H5 D2 = some (.lst ys) ∧ ys.length < sizeLine ∧ (upd H5 D2 (.lst (ys ++ [.str y])) D2 = some (.lst ((((qs z).take (k + 1)).map (ptx (flds z) vals)).map V.str)) ∧ Same H3 (upd H5 D2 (.lst (ys ++ [.str y])))) := fun y e => by
          refine ⟨_, hD4, sz, ?_, sameAt s4 hD2⟩
          rw [upd_same, e, List.take_add_one, hq, List.map_append, List.map_append]
          rfl
        refine ⟨b, _, rfl, SqT.of hb4, rfl, _, _, rfl, _, _, rfl, rfl, rfl, ?_⟩
        refine ⟨_, rfl, rfl, _, rfl, ite2 (fun c => ?_) (fun c => ?_)⟩
        · have c : pp.1 = "field" := V.str.inj (of_decide_eq_true c)
          have dg := DGet.k (k := Sum.inr pp.2) (s4 _ _ hD3)
          rw [tl_get lv.symm (g1 c)] at dg
          exact ⟨_, rfl, _, rfl, D, _, rfl, dg, fin _ (by unfold ptx; rw [if_pos c])⟩
        · have c : ¬ pp.1 = "field" := fun e => c (by rw [e]; exact decide_eq_true rfl)
          exact ⟨_, rfl, fin _ (by unfold ptx; rw [if_neg c])⟩
      · rintro H4 ⟨hD4, s4⟩
        rw [ul, List.take_length] at hD4
        refine ⟨"", D2, _, rfl, rfl, .inl (SqL.of hD4), ?_, ?_⟩
        · have h1 := sum_le (xs := (qs z).map (ptx (flds z) vals)) fun x hx => by
            obtain ⟨p, hp, rfl⟩ := List.mem_map.mp hx
            exact ptx_len hI (hG p hp).2
          rw [List.length_map] at h1 ⊢
          have : (("" : Str)).length = 0 := rfl
          rw [this]
          omega
        · rw [join_cat]
          exact qg z vals H4 rfl eg (sH.trans s4)
end
end Ash

set_option Elab.async false
set_option linter.all false
set_option maxRecDepth 100000
set_option maxHeartbeats 400000
set_option pp.maxSteps 100
namespace Ash
open PySem PySem.Spec PyProof.Rows L2
open C8 (pss_cut)
/-! ### the text that is due -/
def spDue (K : PySem.W.Frag) : Sp := fun vs H Q _ => ∃ (a e : Addr) (us vr : List V) (qs : List (Str × Str)) (z : Str) (vals : List It), vs = [.ref a, .ref e] ∧ H a = some (.lst us) ∧ PrsAt H us qs ∧ GoodQ (flds z) qs ∧ qs.length ≤ 15 ∧
  H e = some (.tup (.str z :: vr)) ∧ ItsA K H vr vals ∧ vals.length = (flds z).length ∧ (∀ i ∈ vals, i.wr = true) ∧ ∀ H', Same H H' → Q (.str (lineS z vals qs)) H'
theorem flat_strs : ∀ fs : List Str, (fs.map V.str).all flatV = true
  | [] => rfl
  | _ :: fs => flat_strs fs
theorem ixOf : ∀ {fs : List Str} {s : Str}, s ∈ fs → ∃ k, k < fs.length ∧ (fs.map V.str)[k]? = some (.str s) ∧ (∀ (m : Nat) (z' : V), m < k → (fs.map V.str)[m]? = some z' → eqV z' (.str s) = false) ∧ ∀ (is : List It) (i : It), is[k]? = some i → lk fs is s = i.tx
  | [], _, h => by cases h
  | f :: fs, s, h => by
    by_cases c : f = s
    · refine ⟨0, Nat.succ_pos _, by rw [c]; rfl, fun m z' hm => absurd hm (Nat.not_lt_zero m), fun is i hi => ?_⟩
      cases is with
      | nil => simp at hi
      | cons j is =>
        cases Option.some.inj (show some j = some i from hi)
        show (if f = s then i.tx else lk fs is s) = i.tx
        rw [if_pos c]
    · obtain ⟨k, k1, k2, k3, k4⟩ := ixOf ((List.mem_cons.mp h).resolve_left (fun e => c e.symm))
      refine ⟨k + 1, Nat.succ_lt_succ k1, k2, fun m z' hm hz => ?_, fun is i hi => ?_⟩
      · cases m with
        | zero =>
          cases Option.some.inj (show some (V.str f) = some z' from hz)
          exact beq_eq_false_iff_ne.mpr c
        | succ m => exact k3 m z' (Nat.lt_of_succ_lt_succ hm) hz
      · cases is with
        | nil => simp at hi
        | cons j is =>
          show (if f = s then j.tx else lk fs is s) = i.tx
          rw [if_neg c]
          exact k4 is i hi
section
variable {P : Program} {w : World} {K : PySem.W.Frag} {mg : Str → Option Value} {base : Heap}
structure GU (P : Program) (w : World) (K : PySem.W.Frag) (mg : Str → Option Value) (base : Heap) : Prop where
  law_fields : Cal P w K mg base CX0 "_law_fields" 1 ["word"] spFields
abbrev s_l_due : Stmt := topS 39
theorem sc_l_due : FnScope ["pieces", "entry", "fields", "text", "piece", "part"] ["pieces", "entry"] (defScope s_l_due) := ⟨rfl, rfl, rfl, by decide +kernel, rfl, by decide +kernel, by decide +kernel⟩
theorem ok_due {f : Addr} {fd : FuncData} (F : Fun K "_law_due" "_law_due" s_l_due f fd) (B : Blt mg) (ND : PySem.W.nsIn K cStatics "sys.int_max_str_digits" = some none) (G : GU P w K mg base) : FnOk P w K mg base CX0 2 f fd ["pieces", "entry"] (spDue K) := by
  refine F.ok sc_l_due (fun vs H Q E h => ?_) (fun cdv A outer s H vs Q E hr h => ?_)
  · obtain ⟨a, e, us, vr, qs, z, vals, rfl, _⟩ := h
    rfl
  · obtain ⟨a, e, us, vr, qs, z, vals, rfl, ha, hP, hG, h15, he, hI, lv, wr, q⟩ := h
    have hu := hu_of hr
    refine ⟨_, (pss_cons (ps_set (i := 2) sc_l_due.nd rfl (Or.inl rfl) (pe_cal G.law_fields (hr.mono (by decide)) pass0 (pa_cons (pe_ix ix_tup (pv 1) pe_int (fun _ _ => rfl)) pa_nil)))
    (pss_cons (ps_set (i := 3) sc_l_due.nd rfl (Or.inl rfl) pe_str)
    (pss_cons (ps_for PassesOwn.never rfl (pi_list (pv 0)) (pg_name (i := 4) sc_l_due.nd rfl (Or.inl rfl))
      (pss_cons (ps_set (i := 5) sc_l_due.nd rfl (Or.inl rfl) (pe_ix ix_tup (pv 4) pe_int (fun _ _ => rfl)))
      (pss_cut (ps_if (pt_cmpR op_eq (pe_ix ix_tup (pv 4) pe_int (fun _ _ => rfl)) pe_str (nomark _))
        (pss_one (ps_set (i := 5) sc_l_due.nd rfl (Or.inl rfl) (pe_callTy (call_strA ND SkE.call_str_str) (by rfl) B.str (by decide +kernel) (pa_cons (pe_ix ix_tup (pv 1) (pe_op op_add pe_int (pe_bm PySem.F.plainAttrs_list PySem.F.slot_list_index PySem.F.type_list_index mt_index (pv 2) (pa_cons (pe_ix ix_tup (pv 4) pe_int (fun _ _ => rfl)) pa_nil))) (fun _ _ => rfl)) pa_nil))))
        pss_nil)
      (pss_one (ps_set (i := 3) sc_l_due.nd rfl (Or.inl rfl) (pe_op op_add_str (pv 3) (pv 5)))))))
    (pss_one (ps_ret (pv 3)))))), ?_⟩
    have at0 : atI (V.str z :: vr) 0 = some (.str z) := atI_nat (j := 0) rfl
    refine ⟨_, rfl, _, _, _, _, rfl, rfl, SqT.of he, at0, z, rfl, fun lf H1 hlf0 hlf s1 => ?_⟩
    refine ⟨_, rfl, a, rfl, ⟨_, SqL.of (s1 _ _ ha)⟩, ?_⟩
    have ul := hP.len
    refine for_it (walk_list (K := K) (a := a) (xs := us)) (fun i σ H2 => (∃ x4 x5, σ = [some (.ref a), some (.ref e), some (.ref lf), some (.str (cat ((qs.take i).map (ptx (flds z) vals)))), x4, x5]) ∧ Same H1 H2) ⟨⟨_, _, rfl⟩, Same.refl _⟩ (fun i σ H2 _ hv => SqL.of (hv.2 _ _ (s1 _ _ ha))) ?_ ?_
    · rintro i y σ H2x H2 hi ⟨⟨x4, x5, rfl⟩, s2⟩ ⟨rfl, hy⟩
      obtain ⟨b, pp, rfl, hq, hb⟩ := hP.get2 hy
      have s12 := s1.trans s2
      have hb2 := s12 _ _ hb
      have he2 := s12 _ _ he
      have hlf2 := s2 _ _ hlf
      obtain ⟨g1, g2⟩ := hG pp (List.mem_of_getElem? hq)
      refine ⟨_, rfl, _, _, _, _, rfl, rfl, SqT.of hb2, rfl, ?_⟩
      refine ⟨fun σ H3 => σ = [some (.ref a), some (.ref e), some (.ref lf), some (.str (cat ((qs.take i).map (ptx (flds z) vals)))), some (.ref b), some (.str (ptx (flds z) vals pp))] ∧ Same H1 H3, ?_, ?_⟩
      · refine ⟨_, rfl, _, _, _, _, rfl, rfl, SqT.of hb2, rfl, rfl, _, rfl, ite2 (fun c => ?_) (fun c => ?_)⟩
        · have c : pp.1 = "field" := V.str.inj (of_decide_eq_true c)
          obtain ⟨k, k1, k2, k3, k4⟩ := ixOf (g1 c)
          have kv : k < vr.length := by rw [hI.len, lv]; exact k1
          have hv : vr[k]? = some vr[k] := List.getElem?_eq_getElem kv
          obtain ⟨it, hi, hIi⟩ := hI.get hv
          have wi := wr it (List.mem_of_getElem? hi)
          have hp : ptx (flds z) vals pp = it.tx := by unfold ptx; rw [if_pos c, k4 vals it hi]
          have atk : atI (V.str z :: vr) (1 + (k : Int)) = some vr[k] := by
            rw [show (1 + (k : Int)) = ((k + 1 : Nat) : Int) by omega]
            exact atI_nat (j := k + 1) hv
          rw [hp]
          refine ⟨_, rfl, _, rfl, .inl ⟨rfl, _, SqL.of hlf2⟩, _, rfl, _, _, _, _, rfl, rfl, SqT.of hb2, rfl, lf, _, .str pp.2, k, .str pp.2, rfl, rfl, SqL.of hlf2, rfl, flat_strs _, k2, decide_eq_true rfl, k3, _, _, rfl, rfl, _, _, _, _, rfl, rfl, SqT.of he2, atk, ?_⟩
          generalize vr[k] = v at hIi
          cases it with
          | oth => cases wi
          | int n =>
            obtain ⟨rfl, dg⟩ := hIi
            exact .inl ⟨n, rfl, dg, rfl, s2⟩
          | str y =>
            obtain ⟨rfl, yl⟩ := hIi
            exact .inr ⟨y, rfl, rfl, s2⟩
        · have c : ¬ pp.1 = "field" := fun e => c (by rw [e]; exact decide_eq_true rfl)
          refine ⟨?_, s2⟩
          unfold ptx
          rw [if_neg c]
          rfl
      · rintro σ H3 ⟨rfl, s3⟩
        have e : cat ((qs.take (i + 1)).map (ptx (flds z) vals)) = cat ((qs.take i).map (ptx (flds z) vals)) ++ ptx (flds z) vals pp := by
          rw [List.take_add_one, hq, List.map_append]
          exact cat_snoc _ _
        refine ⟨_, rfl, _, rfl, _, _, rfl, rfl, ?_, ⟨some (.ref b), some (.str (ptx (flds z) vals pp)), by rw [e]; rfl⟩, s3⟩
        have pl : ∀ x ∈ (qs.take i).map (ptx (flds z) vals), x.length ≤ 4301 := fun x hx => by
          obtain ⟨p, hp, rfl⟩ := List.mem_map.mp hx
          exact ptx_len hI (hG p (List.mem_of_mem_take hp)).2
        have h1 := sum_le pl
        have h2 := ptx_len (fs := flds z) (p := pp) hI g2
        rw [List.length_map, List.length_take] at h1
        rw [cat_len, sizeLine_eq]
        omega
    · rintro σ H2 ⟨⟨x4, x5, rfl⟩, s2⟩
      rw [ul, List.take_length]
      exact ⟨_, rfl, q H2 (s1.trans s2)⟩
end
end Ash

set_option Elab.async false
set_option linter.all false
set_option maxRecDepth 100000
set_option maxHeartbeats 4000000
namespace L2
open PySem PySem.Spec PyProof.Rows
/-! ### several except clauses, each with a name or without -/
abbrev Clause := Value × Option Nat × (Addr → Value → Option Addr → TS)
/-- behind a suite its name is gone -/
def endAs (i : Nat) (D : Ends) : Ends := { nx := fun σ H => D.nx (σ.set i none) H, rt := D.rt, bk := fun σ H => D.bk (σ.set i none) H, ct := fun σ H => D.ct (σ.set i none) H }
def clGo (D : Ends) : Option Nat → (Addr → Value → Option Addr → TS) → WX
  | none, ts => fun cls d σ H => ∀ q, H q = none → ts q cls d D σ H
  | some i, ts => fun cls d σ H => ∀ q, H q = none → ts q cls d (endAs i D) (σ.set i (some (.ref q))) H
def wCls (K : PySem.W.Frag) (W0 : WX) (D : Ends) : List Clause → WX
  | [] => W0
  | (c, o, ts) :: r => fun cls d σ H => ∃ b, PySem.W.exmOne K cls c = some b ∧ (b = true → clGo D o ts cls d σ H) ∧ (b = false → wCls K W0 D r cls d σ H)
/-- the name of a clause -/
def ClName (X : Cx) : Option Str → Option Nat → Prop
  | none, none => True
  | some n, some i => X.N[i]? = some n ∧ X.env.kindOf n = some .local
  | _, _ => False
inductive ClsOk (X : Cx) : List ExceptHandler → List Clause → Prop
  | nil : ClsOk X [] []
  | cons {x : Str} {n : Option Str} {o : Option Nat} {c : Value} {ts : Addr → Value → Option Addr → TS} {b0 : Stmt} {su : List Stmt} {p1 p2 : Pos} {hs : List ExceptHandler} {l : List Clause} (hc : Names X x c) (hn : ClName X n o)
      (hsu : ∀ (q : Addr) (oe : Obj) (cls : Value) (d : Option Addr) (pn : List (Addr × Obj)), Zc cls d oe → (∃ vs, oe.data = .fields vs) → PSs (X.suite q ((q, oe) :: pn)) (b0 :: su) (ts q cls d)) (r : ClsOk X hs l) :
      ClsOk X (.ExceptHandler (some (.Name x p1)) n (b0 :: su) p2 :: hs) ((c, o, ts) :: l)
section
variable {X : Cx} {body : List Stmt} {h0 : ExceptHandler} {hs : List ExceptHandler} {l : List Clause} {pos : Pos} {tb : WX → TS} {W0 : WX}
theorem ps_try_cls (st : X.stack = X.env :: X.outer) (fr : X.env.frame = some X.env.locals) (nd : X.N.Nodup) (tk : Takes X W0)
    (hb : ∀ (W : WX) (pn : List (Addr × Obj)) (xe : Value → Shared → Prop), Takes (X.tr pn xe) W → PassesOwn (model X.prog X.w) X.A X.env xe → PSs (X.tr pn xe) body (tb W))
    (hh : ClsOk X (h0 :: hs) l) : PS X (.Try body (h0 :: hs) [] [] pos) (fun D σ H => tb (wCls X.K W0 D l) D σ H) := by
  refine ⟨fun pins s σ H D I h => ?_⟩
  have ok := I.ok
  have fA : X.A.frames = some (X.env :: X.outer) := by rw [ok.frames, st]
  refine wpAny_Try_except (wpAny_mono ((hb (wCls X.K W0 D l) (X.pn ++ pins) (fun e s1 => wpAny (model X.prog X.w) X.A (noteFrame e X.env) (fun _ s2 => wpAny (model X.prog X.w) X.A (setFlight e none) (fun _ s3 => wpAny (model X.prog X.w) X.A (handleBy e X.env (h0 :: hs)) (SP X pins D) X.xe s3) X.xe s2) X.xe s1)
    (fun u s' xx => ?_) PassesOwn.looking).run [] s σ H D (I.toTry _) h) (fun f s1 k => ?_) (fun _ _ he => he))
  · obtain ⟨q, M, t0, pins', τ, G, cls, d, rfl, J', nb, up, sky, nq, os, ag, w⟩ := xx
    have J : Inv X pins τ G t0 := J'.ofTry ok
    have sk : Sky M (X.env :: X.outer) q (Zc cls d) X.env.locals s'.heap := st ▸ sky
    refine (show wpAny (model X.prog X.w) X.A (noteFrame (.ref q) X.env) _ _ _ from Sky.land Zc.steady fA fr sk fun g3 f3 u3 => ?_)
    have J3 : Inv X pins τ G { s' with heap := g3 } := J.landed nb f3.1 (up.trans u3) os ag
    obtain ⟨oe3, vs3, he3, hz3, hd3⟩ := f3.there
    have off : ∀ {g : Heap} {o : Obj} {vs : Array Value}, g.FunFrames M (X.env :: X.outer) → g.get? q = some o → o.data = .fields vs → q ∉ frs (X.env :: X.outer) := fun {g o vs} ff e dd hm => by
      obtain ⟨_, o2, e2, hnf⟩ := ff.mem hm
      rw [e] at e2
      cases e2
      exact hnf _ dd
    have nfr := off f3.2.2.1 he3 hd3
    have nL : q ≠ X.env.locals := fun z => nfr (List.mem_filterMap.mpr ⟨X.env, List.mem_cons_self, fr.trans (congrArg some z.symm)⟩)
    have nF : q ∉ X.fs := fun hm => by
      obtain ⟨e, he, z⟩ := List.mem_filterMap.mp hm
      exact nfr (List.mem_filterMap.mpr ⟨e, List.mem_cons_of_mem _ he, z⟩)
    have S3 := J3.suite he3 hd3 nq nL nF
    have go : ∀ {ks : List ExceptHandler} {ls : List Clause}, ClsOk X ks ls → wCls X.K W0 D ls cls d τ G → wpAny (model X.prog X.w) X.A (handleBy (.ref q) X.env ks) (SP X pins D) X.xe { s' with heap := g3 } := by
      intro ks ls hk
      induction hk with
      | nil =>
        intro w
        refine wpAny_handleBy_nil ?_
        obtain ⟨_, _, _, oe, vs, T, oT, ts', he, hz, hd, h1, hr⟩ := id f3
        unfold PySem.passOn
        refine wpAny_bind (wpAny_field he hd h1 ?_)
        rw [if_neg (show ¬ ((Value.ref T == Value.none) = true) from Bool.false_ne_true)]
        have fin : wpAny (model X.prog X.w) X.A (setFlight (.ref q) X.env.frame) (fun _ s4 => wpAny (model X.prog X.w) X.A (throw (.ref q) : Sem Flow) (SP X pins D) X.xe s4) X.xe { s' with heap := g3 } := by
          rw [fr]
          exact HandSPX.setFlight_upZ f3 fun g4 k4 u4 => wpAny_throw (tk _ _ ⟨q, M, t0, pins, τ, G, cls, d, rfl, J, nb, (up.trans u3).trans u4, .inr (.inr (by rw [st]; exact k4)), nq, os, ag, w⟩)
        first
          | exact wpAny_bind (wpAny_pure (wpAny_bind fin))
          | exact wpAny_bind fin
      | @cons x n o c ts b0 su p1 p2 ks2 l2 hc hn hsu r ih =>
        intro w
        obtain ⟨b, b1, yes, no⟩ := w
        refine wpAny_handleBy_cons (codeAny_handlers_test ?_) (by intro z; cases z)
        have LM := PySem.W.exm_one (M := model X.prog X.w) (J3.kIn) (show PySem.W.Looks (model X.prog X.w) g3 (typeOf (.ref q)) cls from fun A Q E s k z => wpAny_typeOf_ref (k _ _ he3) (by rw [hz3.1]; exact z)) b1
        have test : ∀ {Q E : Value → Shared → Prop}, Q c { s' with heap := g3 } → wpAny (model X.prog X.w) (X.A.mark (some (.ref q))) (eval (.Name x p1) X.env) Q E { s' with heap := g3 } := fun {Q E} z => by
          obtain ⟨e1, e2, e3 | ⟨e3, e4, e5⟩⟩ := hc
          · exact ld_glob (X := X.suite q ((q, oe3) :: (X.pn ++ pins))) S3 e1 e3 z e2
          · exact ld_blt (X := X.suite q ((q, oe3) :: (X.pn ++ pins))) S3 e1 e3 e4 z e5 e2
        refine test (LM.here ?_)
        cases b with
        | false => exact (show wpAny _ X.A (handleBy (.ref q) X.env ks2) _ _ _ from ih (no rfl))
        | true =>
          have yes := yes rfl
          match n, o, hn with
          | none, none, _ =>
            refine codeAny_handlers_suite (HandSPX.lands_againZ f3 fun g4 f4 u4 => ?_)
            have J4 : Inv X pins τ G { s' with heap := g4 } := J.landed nb f4.1 ((up.trans u3).trans u4) os ag
            obtain ⟨oe4, vs4, he4, hz4, hd4⟩ := f4.there
            refine wpAny_mono ((hsu q oe4 cls d (X.pn ++ pins) hz4 ⟨_, hd4⟩).run [] _ _ G _ (J4.suite he4 hd4 nq nL nF) (yes q nq)) (fun f s6 k => ?_) (fun _ _ z => False.elim z)
            cases f with
            | ret u =>
              obtain ⟨v6, σ6, H6, S6, r6, q6⟩ := k
              exact ⟨_, _, _, S6.unsuite ok, r6, q6⟩
            | _ =>
              obtain ⟨σ6, H6, S6, q6⟩ := k
              exact ⟨_, _, S6.unsuite ok, q6⟩
          | some n, some i, ⟨hi, hln⟩ =>
            refine codeAny_handlers_suite_as (HandSPX.lands_againZ f3 fun g4 f4 u4 => ?_)
            have J4 : Inv X pins τ G { s' with heap := g4 } := J.landed nb f4.1 ((up.trans u3).trans u4) os ag
            obtain ⟨oe4, vs4, he4, hz4, hd4⟩ := f4.there
            have S4 := J4.suite he4 hd4 nq nL nF
            refine store_ok (X := X.suite q ((q, oe4) :: (X.pn ++ pins))) (v := .ref q) S4 nd hi (.inl hln) rfl (fun s5 S5 => ?_) (.inr hln)
            refine wpAny_mono ((hsu q oe4 cls d (X.pn ++ pins) hz4 ⟨_, hd4⟩).run [] s5 _ G _ S5 (yes q nq)) (fun f s6 k => ?_) (fun _ _ z => False.elim z)
            have out : ∀ {σ6 : St} {H6 : Hp} {Q : Shared → Prop}, Inv (X.suite q ((q, oe4) :: (X.pn ++ pins))) [] σ6 H6 s6 → (∀ s7, Inv X pins (σ6.set i none) H6 s7 → Q s7) → wpAny (model X.prog X.w) X.A (do bindName X.env n .none; unbindBehindTheSuite X.env n p2) (fun _ s7 => Q s7) X.xe s6 :=
              fun {σ6 H6 Q} S6 hq => gone_ok (S6.unsuite ok) nd hi hln hq
            cases f with
            | ret u =>
              obtain ⟨v6, σ6, H6, S6, r6, q6⟩ := k
              exact out S6 fun s7 J7 => ⟨_, _, _, J7, r6, q6⟩
            | _ =>
              obtain ⟨σ6, H6, S6, q6⟩ := k
              exact out S6 fun s7 J7 => ⟨_, _, J7, q6⟩
    exact go hh w
  · cases f with
    | next =>
      obtain ⟨τ, G, J', z⟩ := k
      exact wpAny_execs_nil ⟨τ, G, J'.ofTry ok, z⟩
    | ret u =>
      obtain ⟨v, τ, G, J', r, z⟩ := k
      exact ⟨v, τ, G, J'.ofTry ok, r, z⟩
    | _ =>
      obtain ⟨τ, G, J', z⟩ := k
      exact ⟨τ, G, J'.ofTry ok, z⟩
end
end L2

set_option Elab.async false
set_option linter.all false
set_option maxRecDepth 100000
set_option maxHeartbeats 400000
set_option pp.maxSteps 100
namespace Ash
open PySem PySem.Spec PyProof.Rows L2
open C8 (pss_cut)
/-! ### what is told and what is refused -/
def spAsked (K : PySem.W.Frag) (CF : Addr) : Sp := fun vs H Q _ => ∃ (f : Addr) (e : V), vs = [.ref f, e] ∧
  ((∃ qs th, FormQ CF H f qs ∧ ThA K H e th ∧ (gT th = false → ∀ t r H', Same H H' → H' t = some (.tup [.non, .ref r, .bl true]) → H' r = some (.tup [.str "entry", .int 0]) → Q (.ref t) H') ∧
      (∀ z vals t H', th = .tup (.str z :: vals) → gT th = true → Same H H' → H' t = some (.tup [.str (lineS z vals (qs z)), .non, .bl true]) → Q (.ref t) H')) ∨
   ((∃ ks, H f = some (.dK ks)) ∧ ∀ t r H', Same H H' → H' t = some (.tup [.non, .ref r, .bl true]) → H' r = some (.tup [.str "form", .ref f]) → Q (.ref t) H'))
section
variable {P : Program} {w : World} {K : PySem.W.Frag} {mg : Str → Option Value} {base : Heap}
structure GA (P : Program) (w : World) (K : PySem.W.Frag) (mg : Str → Option Value) (base : Heap) (CF CE CX1 : Addr) : Prop where
  write_line : Cal P w K mg base (L2.CX P w) "write_line" 4 ["form", "entry"] (spWrite K CF CE CX1)
abbrev s_l_asked : Stmt := topS 40
theorem sc_l_asked : FnScope ["form", "entry", "told", "refused", "below", "e"] ["form", "entry"] (defScope s_l_asked) := ⟨rfl, rfl, rfl, by decide +kernel, rfl, by decide +kernel, by decide +kernel⟩
theorem ok_asked {f CF CE CX1 fE fX CHallError : Addr} {fd : FuncData} (F : Fun K "_law_asked" "_law_asked" s_l_asked f fd) (B : Blt mg) (TE : PySem.BadX.Txt P K mg "at" "at" CE fE) (TX : PySem.BadX.Txt P K mg "value" "value" CX1 fX) (c_BadEntry : mg "BadEntry" = some (.ref CE)) (c_BadForm : mg "BadForm" = some (.ref CX1)) (c_HallError : mg "HallError" = some (.ref CHallError)) (XE : ExcC K CE) (XX : ExcC K CX1) (hcE : PySem.W.isClsIn K CE = true) (hcX : PySem.W.isClsIn K CX1 = true) (kE : PySem.W.kitOne K (.ref CE) (.ref CHallError) = some true) (kX : PySem.W.kitOne K (.ref CX1) (.ref CHallError) = some true) (nXE : PySem.W.exmOne K (.ref CX1) (.ref CE) = some false) (G : GA P w K mg base CF CE CX1) : FnOk P w K mg base CX0 5 f fd ["form", "entry"] (spAsked K CF) := by
  refine F.ok sc_l_asked (fun vs H Q E h => ?_) (fun cdv A outer s H vs Q E hr h => ?_)
  · obtain ⟨f, e, rfl, _⟩ := h
    rfl
  · obtain ⟨f, e, rfl, h⟩ := h
    have hu := hu_of hr
    refine ⟨_, (pss_cons (ps_set (i := 2) sc_l_asked.nd rfl (Or.inl rfl) pe_non)
    (pss_cons (ps_set (i := 3) sc_l_asked.nd rfl (Or.inl rfl) pe_non)
    (pss_cons (ps_set (i := 4) sc_l_asked.nd rfl (Or.inl rfl) pe_bl)
    (pss_cons (ps_try_cls (tb := fun W => _) (l := [(.ref CE, some 5, fun a cls d => tSeq (tAsg (tTup (tCons (tC (.str "entry")) (tCons (tByB "at" CE a cls d (tVar 5)) tNil))) (gName 3)) (tAsg (tCB (rIsB K CE a cls d) (tCons (tVar 5) (tCons (tC (.ref CHallError)) tNil))) (gName 4))), (.ref CX1, some 5, fun a cls d => tSeq (tAsg (tTup (tCons (tC (.str "form")) (tCons (tByB "value" CX1 a cls d (tVar 5)) tNil))) (gName 3)) (tAsg (tCB (rIsB K CX1 a cls d) (tCons (tVar 5) (tCons (tC (.ref CHallError)) tNil))) (gName 4)))]) (W0 := fun _ _ _ _ => False) rfl rfl sc_l_asked.nd takes0 (fun W pn xe tk _ =>
      (pss_one (ps_set (i := 2) sc_l_asked.nd rfl (Or.inl rfl) (pe_calS G.write_line (hr.mono (by decide)) (fun σ => passAt tk σ) (pa_cons (pv 0) (pa_cons (pv 1) pa_nil))))))
      (.cons ⟨rfl, by decide, .inl c_BadEntry⟩ ⟨rfl, rfl⟩ (fun a oe cls d pn hz hf => (pss_cons (ps_set (i := 3) sc_l_asked.nd rfl (Or.inl rfl) (pe_tup (pa_cons pe_str (pa_cons (pe_byB TE hz hf (pv 5)) pa_nil))))
      (pss_one (ps_set (i := 4) sc_l_asked.nd rfl (Or.inl rfl) (pe_callB (show CallR _ (.builtin "isinstance") (rIsB K CE a cls d) from call_isB XE hcE hz hf) (by rfl) B.isinstance (by decide +kernel) (pa_cons (pv 5) (pa_cons (pe_glob (v := .ref CHallError) (by rfl) c_HallError rfl) pa_nil))))))) (.cons ⟨rfl, by decide, .inl c_BadForm⟩ ⟨rfl, rfl⟩ (fun a oe cls d pn hz hf => (pss_cons (ps_set (i := 3) sc_l_asked.nd rfl (Or.inl rfl) (pe_tup (pa_cons pe_str (pa_cons (pe_byB TX hz hf (pv 5)) pa_nil))))
      (pss_one (ps_set (i := 4) sc_l_asked.nd rfl (Or.inl rfl) (pe_callB (show CallR _ (.builtin "isinstance") (rIsB K CX1 a cls d) from call_isB XX hcX hz hf) (by rfl) B.isinstance (by decide +kernel) (pa_cons (pv 5) (pa_cons (pe_glob (v := .ref CHallError) (by rfl) c_HallError rfl) pa_nil))))))) .nil)))
    (pss_one (ps_ret (pe_tup (pa_cons (pv 2) (pa_cons (pv 3) (pa_cons (pv 4) pa_nil)))))))))), ?_⟩
    have no : ∀ {α : Prop}, (false = true) → α := fun z => Bool.noConfusion z
    have yes : ∀ {α : Prop}, (true = false) → α := fun z => Bool.noConfusion z
    have two : (2 : Nat) ≤ sizeLine := by decide
    have three : (3 : Nat) ≤ sizeLine := by decide
    refine ⟨_, rfl, _, rfl, f, e, rfl, ?_⟩
    rcases h with ⟨qs, th, hQ, hT, q0, q1⟩ | ⟨hd, q⟩
    · refine .inl ⟨qs, th, hQ, hT, fun eg d H1 s1 hx => ⟨true, TE.te, fun _ a ha => ?_, yes⟩, fun z vals H1 et eg s1 => ?_⟩
      · refine ⟨_, rfl, rfl, rfl, d, _, rfl, hx, two, fun r hr => ?_⟩
        have s2 := sameAt (o := .tup [.str "entry", .int 0]) (Same.refl H1) hr
        refine ⟨_, rfl, rfl, .ref CHallError, .ref CHallError, true, d, _, rfl, rfl, s2 _ _ hx, (fun u r => r), kE, ?_⟩
        refine ⟨_, rfl, _, rfl, _, rfl, three, fun t ht => ?_⟩
        have s3 := sameAt (o := .tup [.non, .ref r, .bl true]) (Same.refl _) ht
        exact q0 eg t r _ ((s1.trans s2).trans s3) upd_same (s3 _ _ upd_same)
      · refine ⟨_, rfl, _, rfl, _, rfl, three, fun t ht => ?_⟩
        exact q1 z vals t _ et eg (s1.trans (sameAt (Same.refl _) ht)) upd_same
    · refine .inr ⟨hd, fun d H1 s1 hx => ⟨false, nXE, no, fun _ => ⟨true, TX.te, fun _ a ha => ?_, yes⟩⟩⟩
      refine ⟨_, rfl, rfl, rfl, d, _, rfl, hx, two, fun r hr => ?_⟩
      have s2 := sameAt (o := .tup [.str "form", .ref f]) (Same.refl H1) hr
      refine ⟨_, rfl, rfl, .ref CHallError, .ref CHallError, true, d, _, rfl, rfl, s2 _ _ hx, (fun u r => r), kX, ?_⟩
      refine ⟨_, rfl, _, rfl, _, rfl, three, fun t ht => ?_⟩
      have s3 := sameAt (o := .tup [.non, .ref r, .bl true]) (Same.refl _) ht
      exact q t r _ ((s1.trans s2).trans s3) upd_same (s3 _ _ upd_same)
end
end Ash

set_option Elab.async false
set_option linter.all false
set_option maxRecDepth 100000
set_option maxHeartbeats 400000
set_option pp.maxSteps 60
namespace Ash
open PySem PySem.Spec PyProof.Rows L2
open C8 (pss_cut)
/-! ### what the law's heaps hold -/
theorem pe_cal0 {X : Cx} {CX : CXT} {k : Nat} {sp : Sp} {E : XK} {x : Str} {p pos : Pos} (G : Cal X.prog X.w X.K X.mg X.base CX x k [] sp) (hr : Room k X.A) (hx : Passes CX X E) (hg : Gl X x := by rfl)
    (hdb : (x == ("__debug__" : Str)) = false := by decide) : PE X (.Call (.Name x p) [] [] pos) (tCall sp [] E tNil) := by
  obtain ⟨f, fd, hm, hk, hb, F⟩ := G.ex
  exact pe_call0 F hr hg hm hk hb .nil hx hdb
theorem SqL.but {K : PySem.W.Frag} {H H' : Hp} {p a : Addr} {xs : List V} (h : SqL K H a xs) (hd : ∃ ks, H p = some (.dK ks)) (b : But p H H') : SqL K H' a xs := by
  obtain ⟨ks, hd⟩ := hd
  rcases h with h | h
  · rcases h with h | ⟨o, h⟩
    · exact .inl (.inl (b _ _ h (fun e => by rw [e, hd] at h; cases h)))
    · exact .inl (.inr ⟨o, b _ _ h (fun e => by rw [e, hd] at h; cases h)⟩)
  · exact .inr h
theorem Ev.but {H H' : Hp} {p : Addr} (hd : ∃ ks, H p = some (.dK ks)) (hd' : ∃ ks, H' p = some (.dK ks)) (b : But p H H') : Ev H H' := fun c o h => by
  by_cases e : c = p
  · obtain ⟨ks, hd⟩ := hd
    obtain ⟨ls, hd'⟩ := hd'
    rw [e, hd] at h
    exact .inr (.inr ⟨ks, ls, (Option.some.inj h).symm, by rw [e]; exact hd'⟩)
  · exact .inl (b _ _ h e)
theorem ks_ne : ((.inr "row" : Key) ≠ .inr "fix") ∧ ((.inr "row" : Key) ≠ .inr "gone") ∧ ((.inr "fix" : Key) ≠ .inr "gone") := ⟨by decide +kernel, by decide +kernel, by decide +kernel⟩
theorem put0 (a : Key) (v : V) : putK [] a v = [(a, v)] := rfl
theorem put1 {a b : Key} (h : a ≠ b) (v y : V) : putK [(a, y)] b v = [(a, y), (b, v)] := by
  simp [putK, h]
theorem put2 {a b c : Key} (h : a ≠ c) (h2 : b ≠ c) (v y z : V) : putK [(a, y), (b, z)] c v = [(a, y), (b, z), (c, v)] := by
  simp [putK, h, h2]
theorem putA {a b c : Key} (h : b ≠ a) (h2 : c ≠ a) (v x y z : V) : putK [(a, x), (b, y), (c, z)] a v = [(a, v), (b, y), (c, z)] := by
  simp [putK, h, h2]
theorem putB {a b c : Key} (h : a ≠ b) (h2 : c ≠ b) (v x y z : V) : putK [(a, x), (b, y), (c, z)] b v = [(a, x), (b, v), (c, z)] := by
  simp [putK, h, h2]
theorem putC {a b c : Key} (h : a ≠ c) (h2 : b ≠ c) (v x y z : V) : putK [(a, x), (b, y), (c, z)] c v = [(a, x), (b, y), (c, v)] := by
  simp [putK, h, h2]
theorem dput_k {H : Hp} {a : Addr} {kvs ls : List (Key × V)} {z : Str} {v : V} (e : H a = some (.dK kvs)) (p : putK kvs (.inr z) v = ls) (hl : kvs.length < sizeLine) : DPut H a (.str z) v (upd H a (.dK ls)) := by
  rw [← p]
  exact DPut.k (k := .inr z) e hl
def ws3 : List V := [.str "row", .str "fix", .str "gone"]
/-- a good row of pieces, as a list -/
def GoodSh (K : PySem.W.Frag) (H : Hp) (v : V) (z : Str) : Prop := ∃ l us ps, v = .ref l ∧ H l = some (.lst us) ∧ PcsAt K H us ps ∧ ps.length ≤ 13 ∧ ∃ fs, pcsF ps = some fs ∧ fs.Perm (flds z)
theorem GoodSh.same {K : PySem.W.Frag} {H H' : Hp} {v : V} {z : Str} (h : GoodSh K H v z) (s : Same H H') : GoodSh K H' v z := by
  obtain ⟨l, us, ps, h1, h2, h3, h4⟩ := h
  exact ⟨l, us, ps, h1, s _ _ h2, h3.ev (Ev.same s), h4⟩
theorem GoodSh.but {K : PySem.W.Frag} {H H' : Hp} {v : V} {z : Str} {p : Addr} (h : GoodSh K H v z) (hd : ∃ ks, H p = some (.dK ks)) (hd' : ∃ ks, H' p = some (.dK ks)) (b : But p H H') : GoodSh K H' v z := by
  obtain ⟨l, us, ps, h1, h2, h3, h4⟩ := h
  obtain ⟨ks, hk⟩ := id hd
  exact ⟨l, us, ps, h1, b _ _ h2 (fun e => by rw [e, hk] at h2; cases h2), h3.ev (Ev.but hd hd' b), h4⟩
/-- the shapes so far -/
def ShgAt (K : PySem.W.Frag) (H : Hp) (S : Addr) : Nat → Prop
  | 0 => H S = some (.dK [])
  | 1 => ∃ v1, H S = some (.dK [(.inr "row", v1)]) ∧ GoodSh K H v1 "row"
  | 2 => ∃ v1 v2, H S = some (.dK [(.inr "row", v1), (.inr "fix", v2)]) ∧ GoodSh K H v1 "row" ∧ GoodSh K H v2 "fix"
  | _ => ∃ v1 v2 v3, H S = some (.dK [(.inr "row", v1), (.inr "fix", v2), (.inr "gone", v3)]) ∧ GoodSh K H v1 "row" ∧ GoodSh K H v2 "fix" ∧ GoodSh K H v3 "gone"
theorem ShgAt.dk {K : PySem.W.Frag} {H : Hp} {S : Addr} : ∀ {i : Nat}, ShgAt K H S i → ∃ ks, H S = some (.dK ks)
  | 0, h => ⟨_, h⟩
  | 1, ⟨_, h, _⟩ => ⟨_, h⟩
  | 2, ⟨_, _, h, _⟩ => ⟨_, h⟩
  | _ + 3, ⟨_, _, _, h, _⟩ => ⟨_, h⟩
theorem up3 {H H' : Hp} {S : Addr} {ks ls : List (Key × V)} (s : Same H H') (h : H S = some (.dK ks)) : (∃ ks, H' S = some (.dK ks)) ∧ (∃ ks, upd H' S (.dK ls) S = some (.dK ks)) ∧ But S H' (upd H' S (.dK ls)) := ⟨⟨ks, s _ _ h⟩, ⟨ls, upd_same⟩, But.upd (But.refl _ _)⟩
theorem ws_ix {i : Nat} {x : V} (hi : i < 3) (hx : ws3[i]? = some x) : ∃ z : Str, x = .str z ∧ ∀ m z', m < i → ws3[m]? = some z' → eqV z' x = false := by
  match i, hi, hx with
  | 0, _, hx => cases hx; exact ⟨"row", rfl, fun m z' hm _ => absurd hm (Nat.not_lt_zero _)⟩
  | 1, _, hx =>
    cases hx
    refine ⟨"fix", rfl, fun m z' hm hz => ?_⟩
    match m, hm with
    | 0, _ => cases hz; decide +kernel
  | 2, _, hx =>
    cases hx
    refine ⟨"gone", rfl, fun m z' hm hz => ?_⟩
    match m, hm with
    | 0, _ => cases hz; decide +kernel
    | 1, _ => cases hz; decide +kernel
theorem SqL.sm {K : PySem.W.Frag} {H H' : Hp} {a : Addr} {xs : List V} (h : SqL K H a xs) (s : Same H H') : SqL K H' a xs := by
  rcases h with h | h
  · rcases h with h | ⟨o, h⟩
    · exact .inl (.inl (s _ _ h))
    · exact .inl (.inr ⟨o, s _ _ h⟩)
  · exact .inr h
theorem same_pl {H H1 H2 : Hp} {p : Addr} (s : Same H H1) (hp : H p = none) (h : Pl H1 H2 p) : Same H H2 := fun b o hb => h.but b o (s _ _ hb) (fun e => by rw [e, hp] at hb; cases hb)
theorem pcs_one {ps : List Pc} {fs : List Str} {z : Str} (h : pcsF ps = some fs) (p : fs.Perm (flds z)) : 1 ≤ ps.length := by
  cases ps with
  | cons a l => exact Nat.succ_le_succ (Nat.zero_le _)
  | nil =>
    cases Option.some.inj (show some [] = some fs from h)
    have := p.length_eq
    unfold flds at this
    split at this
    · cases this
    · split at this <;> cases this
theorem shg_put {K : PySem.W.Frag} {H : Hp} {S : Addr} {i : Nat} {z : Str} (h : ShgAt K H S i) (hi : i < 3) (hz : ws3[i]? = some (.str z)) : ∀ {H' : Hp} {v : V}, Same H H' → GoodSh K H' v z → ∃ H2, DPut H' S (.str z) v H2 ∧ ShgAt K H2 S (i + 1) ∧ But S H' H2 := by
  rcases (show i = 0 ∨ i = 1 ∨ i = 2 by omega) with e | e | e <;> subst e
  · have e := V.str.inj (Option.some.inj (show some (V.str "row") = some (V.str z) from hz))
    subst e
    intro H' v s hv
    have h : H S = some (.dK []) := h
    obtain ⟨u1, u2, u3⟩ := up3 (ls := [(.inr "row", v)]) s h
    exact ⟨_, dput_k (s _ _ h) (put0 _ _) (by show 0 < sizeLine; decide), ⟨v, upd_same, hv.but u1 u2 u3⟩, u3⟩
  · have e := V.str.inj (Option.some.inj (show some (V.str "fix") = some (V.str z) from hz))
    subst e
    intro H' v s hv
    obtain ⟨v1, h, h1⟩ := h
    obtain ⟨u1, u2, u3⟩ := up3 (ls := [(.inr "row", v1), (.inr "fix", v)]) s h
    exact ⟨_, dput_k (s _ _ h) (put1 ks_ne.1 _ _) (by show 1 < sizeLine; decide), ⟨v1, v, upd_same, (h1.same s).but u1 u2 u3, hv.but u1 u2 u3⟩, u3⟩
  · have e := V.str.inj (Option.some.inj (show some (V.str "gone") = some (V.str z) from hz))
    subst e
    intro H' v s hv
    obtain ⟨v1, v2, h, h1, h2⟩ := h
    obtain ⟨u1, u2, u3⟩ := up3 (ls := [(.inr "row", v1), (.inr "fix", v2), (.inr "gone", v)]) s h
    exact ⟨_, dput_k (s _ _ h) (put2 ks_ne.2.1 ks_ne.2.2 _ _ _) (by show 2 < sizeLine; decide), ⟨v1, v2, v, upd_same, (h1.same s).but u1 u2 u3, (h2.same s).but u1 u2 u3, hv.but u1 u2 u3⟩, u3⟩
/-- a good row: its pairs -/
theorem GoodSh.sha {K : PySem.W.Frag} {H : Hp} {v : V} {z : Str} (h : GoodSh K H v z) : ∃ l us ps qs, v = .ref l ∧ H l = some (.lst us) ∧ ShA K H v (.row ps) ∧ Sh.good z (.row ps) ∧ PrsAt H us qs ∧ GoodQ (flds z) qs ∧ qs.length ≤ 15 := by
  obtain ⟨l, us, ps, rfl, h2, h3, h4, fs, h5, h6⟩ := h
  obtain ⟨qs, hq, g⟩ := prs_good h3 h5
  have e1 := hq.len
  have e2 := h3.len
  exact ⟨l, us, ps, qs, rfl, h2, ⟨l, us, rfl, .inl h2, h3, by omega⟩, ⟨pcs_one h5 h6, by omega, fs, h5, h6⟩, hq, fun p hp => ⟨fun c => h6.mem_iff.mp ((g p hp).1 c), (g p hp).2⟩, by omega⟩
theorem prsL_shaped {ps : List (Str × Str)} (h : ∀ p ∈ ps, PyData.strOk p.1 = true ∧ PyData.strOk p.2 = true) : SeqAt.shaped (.list (ps.map pdt)) = true := by
  obtain ⟨h1, h2⟩ := prs_lay h
  unfold SeqAt.shaped
  simp [PyData.canLay0, PyData.depth, h1]
  omega
end Ash
namespace L2
open PySem PySem.Spec PyProof.Rows
def rNeDD (K : PySem.W.Frag) : R2 := fun x y H Q => ∃ a b ks ls c, x = .ref a ∧ y = .ref b ∧ H a = some (.dK ks) ∧ H b = some (.dK ls) ∧ ks.length = ls.length ∧ EqP K H ls ks c ∧ Q (.bl (!c)) H
theorem op_neDD {X : Cx} (hu : X.A.in1.units + 64 < cLine) (hw : X.A.units < cLine) : OpR X (compareOp .NotEq) (rNeDD X.K) := by
  intro pins s σ H x y v u Q I rx ry h
  obtain ⟨a, b, ks, ls, c, rfl, rfl, ea, eb, hl, hp, q⟩ := h
  obtain rfl : v = Value.ref a := rx
  obtain rfl : u = Value.ref b := ry
  obtain ⟨_, ya, va, ra, da⟩ := (show ObjOk X.prog X.w H s.heap a (.dK ks) from I.hok a _ ea)
  obtain ⟨_, yb, vb, rb, db⟩ := (show ObjOk X.prog X.w H s.heap b (.dK ls) from I.hok b _ eb)
  have hn : va.length = vb.length := by rw [← ra.length, ← rb.length]; exact hl
  exact PySem.W.keq_ne (knd := mixKind X.prog X.w) (r := c) ya yb da db hw (fun _ => eqP_hits I hu rb hp ra) (fin_bl I q (by simp [hn]))
end L2

set_option Elab.async false
set_option linter.all false
set_option maxRecDepth 100000
set_option maxHeartbeats 400000
set_option pp.maxSteps 100
namespace Ash
open PySem PySem.Spec PyProof.Rows L2
open C8 (pss_cut)
/-! ### the law -/
section
variable {P : Program} {w : World} {K : PySem.W.Frag} {mg : Str → Option Value} {base : Heap}
theorem rwa_eq {H : Hp} {l : Addr} {us vs : List V} (h : H l = some (.lst us)) (r : RwA H (.ref l) vs) : vs = us := by
  obtain ⟨b, e, r⟩ := r
  cases e
  rcases r with r | r <;> rw [h] at r <;> cases r
  rfl
theorem FormQ.same {CF : Addr} {H H' : Hp} {f : Addr} {qs : Str → List (Str × Str)} (h : FormQ CF H f qs) (s : Same H H') : FormQ CF H' f qs := by
  obtain ⟨us1, us2, us3, hF, hR⟩ := h
  exact ⟨us1, us2, us3, hF.same s, fun z us hz => ⟨(hR z us hz).1.ev (Ev.same s), (hR z us hz).2⟩⟩
structure GL (P : Program) (w : World) (K : PySem.W.Frag) (mg : Str → Option Value) (base : Heap) (CF CX1 : Addr) : Prop where
  law_stream : Cal P w K mg base CX0 "_law_stream" 1 ["script", "k"] (spStream K)
  law_draw : Cal P w K mg base CX0 "_law_draw" 1 ["stream", "many"] spDraw
  law_signs : Cal P w K mg base CX0 "_law_signs" 1 [] spSigns
  law_shape : Cal P w K mg base CX0 "_law_shape" 3 ["stream", "word", "signs", "often", "most"] (spShape K)
  Form : Mak P w K mg base (L2.CX P w) "Form" CF 3 ["self", "row", "fix", "gone"] (spFormInit K CF CX1)
  law_drawn : Cal P w K mg base CX0 "_law_drawn" 3 ["stream"] (spDrawn K)
  law_spoiled : Cal P w K mg base CX0 "_law_spoiled" 2 ["stream", "entry"] (spSpoil K)
  law_asked : Cal P w K mg base CX0 "_law_asked" 5 ["form", "entry"] (spAsked K CF)
  law_is_entry : Cal P w K mg base CX0 "_law_is_entry" 2 ["thing"] (spIsEA K)
  law_due : Cal P w K mg base CX0 "_law_due" 2 ["pieces", "entry"] (spDue K)
def spLaw (K : PySem.W.Frag) : Sp := fun vs H Q _ => ∃ (a : Addr) (ns : List Int), vs = [.ref a] ∧ SqL K H a (ns.map V.int) ∧ ns.length ≤ 63 ∧ ∀ H', Q (.bl true) H'
abbrev s_law : Stmt := topS 41
theorem sc_law : FnScope ["script", "shapes", "word", "stream", "form", "at", "spoil", "entry", "told", "refused", "below"] ["script"] (defScope s_law) := ⟨rfl, rfl, rfl, by decide +kernel, rfl, by decide +kernel, by decide +kernel⟩
theorem ok_law {f CF CX1 : Addr} {fd : FuncData} (F : Fun K "law" "law" s_law f fd) (B : Blt mg) (G : GL P w K mg base CF CX1) : FnOk P w K mg base CX0 6 f fd ["script"] (spLaw K) := by
  refine F.ok sc_law (fun vs H Q E h => ?_) (fun cdv A outer s H vs Q E hr h => ?_)
  · obtain ⟨a, ns, rfl, _⟩ := h
    rfl
  · obtain ⟨a, ns, rfl, ha, hn, q⟩ := h
    have hu := hu_of hr
    refine ⟨_, (pss_cons (ps_set (i := 1) sc_law.nd rfl (Or.inl rfl) pe_dnewK)
    (pss_cons (ps_for PassesOwn.never rfl (pi_list (pe_lst (pa_cons pe_str (pa_cons pe_str (pa_cons pe_str pa_nil))))) (pg_name (i := 2) sc_law.nd rfl (Or.inl rfl))
      (pss_cons (ps_set (i := 3) sc_law.nd rfl (Or.inl rfl) (pe_cal G.law_stream (hr.mono (by decide)) pass0 (pa_cons (pv 0) (pa_cons (pe_bm PySem.F.plainAttrs_list PySem.F.slot_list_index PySem.F.type_list_index mt_index (pe_lst (pa_cons pe_str (pa_cons pe_str (pa_cons pe_str pa_nil)))) (pa_cons (pv 2) pa_nil)) pa_nil))))
      (pss_one (ps_dput hu (pv 1) (pv 2) (pe_cal G.law_shape (hr.mono (by decide)) pass0 (pa_cons (pv 3) (pa_cons (pv 2) (pa_cons (pe_cal0 G.law_signs (hr.mono (by decide)) pass0) (pa_cons (pe_cal G.law_draw (hr.mono (by decide)) pass0 (pa_cons (pv 3) (pa_cons pe_int pa_nil))) (pa_cons pe_int pa_nil)))))) rfl))))
    (pss_cons (ps_set (i := 4) sc_law.nd rfl (Or.inl rfl) (pe_mak G.Form (hr.mono (by decide)) passF (pa_cons (pe_dget hu (pv 1) pe_str (fun _ _ => rfl)) (pa_cons (pe_dget hu (pv 1) pe_str (fun _ _ => rfl)) (pa_cons (pe_dget hu (pv 1) pe_str (fun _ _ => rfl)) pa_nil)))))
    (pss_cons (ps_for PassesOwn.never rfl (pi_range2 (by rfl) B.range (pa_cons pe_int (pa_cons (pe_callB (call_max2 rfl) (by rfl) B.max (by decide +kernel) (pa_cons pe_int (pa_cons (pe_callB (call_min2 rfl) (by rfl) B.min (by decide +kernel) (pa_cons (pe_callB call_len_seq (by rfl) B.len (by decide +kernel) (pa_cons (pv 0) pa_nil)) (pa_cons pe_int pa_nil))) pa_nil))) pa_nil))) (pg_name (i := 5) sc_law.nd rfl (Or.inl rfl))
      (pss_cons (ps_set (i := 3) sc_law.nd rfl (Or.inl rfl) (pe_cal G.law_stream (hr.mono (by decide)) pass0 (pa_cons (pv 0) (pa_cons (pv 5) pa_nil))))
      (pss_cons (ps_set (i := 6) sc_law.nd rfl (Or.inl rfl) (pe_cal G.law_draw (hr.mono (by decide)) pass0 (pa_cons (pv 3) (pa_cons pe_int pa_nil))))
      (pss_cons (ps_set (i := 7) sc_law.nd rfl (Or.inl rfl) (pe_cal G.law_drawn (hr.mono (by decide)) pass0 (pa_cons (pv 3) pa_nil)))
      (pss_cut (ps_if (pt_cmpR op_eq (pv 6) pe_int (nomark _))
        (pss_one (ps_set (i := 7) sc_law.nd rfl (Or.inl rfl) (pe_cal G.law_spoiled (hr.mono (by decide)) pass0 (pa_cons (pv 3) (pa_cons (pv 7) pa_nil)))))
        pss_nil)
      (pss_cut (ps_asg (pe_cal G.law_asked (hr.mono (by decide)) pass0 (pa_cons (pv 4) (pa_cons (pv 7) pa_nil))) (pg_tup (by rfl) (pgs_cons (pg_name (i := 8) sc_law.nd rfl (Or.inl rfl)) (pgs_cons (pg_name (i := 9) sc_law.nd rfl (Or.inl rfl)) (pgs_cons (pg_name (i := 10) sc_law.nd rfl (Or.inl rfl)) pgs_nil)))))
      (pss_cut (ps_if (pt_val (pe_cal G.law_is_entry (hr.mono (by decide)) pass0 (pa_cons (pv 7) pa_nil)))
        (pss_one (ps_if (PW.pt (pw_or (pt_cmpR op_notN (pv 9) pe_non (nomark _)) (pw_or (pt_not (pt_val (pe_callB call_isi (by rfl) B.isinstance (by decide +kernel) (pa_cons (pv 8) (pa_cons (pe_bltn (v := .ty "str") (by rfl) B.str (by decide +kernel) rfl) pa_nil))))) (pw_or1 (pt_cmpR op_ne (pv 8) (pe_cal G.law_due (hr.mono (by decide)) pass0 (pa_cons (pe_dget hu (pv 1) (pe_ix ix_tup (pv 7) pe_int (fun _ _ => rfl)) (fun _ _ => rfl)) (pa_cons (pv 7) pa_nil))) (nomark _))))))
          (pss_one (ps_ret pe_bl))
          pss_nil))
        (pss_one (ps_if (PW.pt (pw_or (pt_cmpR (op_neD hr.units) (pv 9) (pe_tup (pa_cons pe_str (pa_cons pe_int pa_nil))) (nomark _)) (pw_or1 (pt_not (pt_val (pv 10))))))
          (pss_one (ps_ret pe_bl))
          pss_nil)))
      (pss_cons (ps_asg (pe_cal G.law_asked (hr.mono (by decide)) pass0 (pa_cons (pv 1) (pa_cons (pv 7) pa_nil))) (pg_tup (by rfl) (pgs_cons (pg_name (i := 8) sc_law.nd rfl (Or.inl rfl)) (pgs_cons (pg_name (i := 9) sc_law.nd rfl (Or.inl rfl)) (pgs_cons (pg_name (i := 10) sc_law.nd rfl (Or.inl rfl)) pgs_nil)))))
      (pss_one (ps_if (PW.pt (pw_or (pt_cmpR op_isN (pv 9) pe_non (nomark _)) (pw_or (pt_cmpR op_ne (pe_ix ix_tup (pv 9) pe_int (fun _ _ => rfl)) pe_str (nomark _)) (pw_or (pt_cmpR (op_neDD hr.in1.units hr.units0) (pe_ix ix_tup (pv 9) pe_int (fun _ _ => rfl)) (pv 1) (nomark _)) (pw_or1 (pt_not (pt_val (pv 10))))))))
        (pss_one (ps_ret pe_bl))
        pss_nil))))))))))
    (pss_one (ps_ret pe_bl)))))), ?_⟩
    refine fun S hS => ⟨by show 3 ≤ sizeLine; decide, fun l hl => ⟨l, rfl, ⟨_, SqL.of upd_same⟩, ?_⟩⟩
    have sl := sameAt (o := .lst ws3) (Same.refl _) hl
    have hS0 : upd (upd H S (.dK [])) l (.lst ws3) S = some (.dK []) := sl _ _ upd_same
    have a0 : SqL K (upd (upd H S (.dK [])) l (.lst ws3)) a (ns.map V.int) := SqL.sm ha ((sameAt (o := .dK []) (Same.refl H) hS).trans sl)
    refine for_it (walk_list (K := K) (a := l) (xs := ws3)) (fun i σ H1 => (∃ x2 x3, σ = [some (.ref a), some (.ref S), x2, x3, none, none, none, none, none, none, none]) ∧ ShgAt K H1 S i ∧ H1 l = some (.lst ws3) ∧ SqL K H1 a (ns.map V.int)) ⟨⟨_, _, rfl⟩, hS0, upd_same, a0⟩ (fun i σ H1 _ hv => SqL.of hv.2.2.1) ?_ ?_
    · rintro i x σ H1x H1 hi ⟨⟨x2, x3, rfl⟩, hs, hl1, ha1⟩ ⟨rfl, hx⟩
      have hi : i < 3 := hi
      obtain ⟨z, rfl, hno⟩ := ws_ix hi hx
      refine ⟨_, rfl, (by show 3 ≤ sizeLine; decide), fun l2 hl2 => ?_⟩
      have s2 := sameAt (o := .lst ws3) (Same.refl H1) hl2
      refine ⟨.inl ⟨rfl, _, SqL.of upd_same⟩, _, rfl, l2, ws3, .str z, i, .str z, rfl, rfl, SqL.of upd_same, rfl, rfl, hx, decide_eq_true rfl, hno, ?_⟩
      refine ⟨a, ns, i, rfl, by omega, SqL.sm ha1 s2, hn, fun p H3 hp0 hP s3 => ?_⟩
      refine ⟨_, rfl, _, rfl, rfl, fun sg ok g1 g2 => ⟨_, rfl, p, 5, rfl, hP, by decide, by decide, fun d H4 d0 d5 P4 => ?_⟩⟩
      refine ⟨p, z, sg, d, 6, rfl, P4.now, ok, g1, g2, by decide, by decide, fun lp us ps H5 hlp0 hlp hps n13 hfs P5 => ?_⟩
      have s17 := s2.trans (same_pl s3 hp0 (P4.trans P5))
      obtain ⟨H8, hput, hs8, b8⟩ := shg_put hs hi hx s17 (v := .ref lp) ⟨lp, us, ps, rfl, hlp, hps, n13, hfs⟩
      obtain ⟨ks, hk⟩ := hs.dk
      exact ⟨_, rfl, _, rfl, S, H8, rfl, hput, ⟨_, _, rfl⟩, hs8, b8 _ _ (s17 _ _ hl1) (fun e => by rw [e, hk] at hl1; cases hl1), SqL.but (SqL.sm ha1 s17) ⟨ks, s17 _ _ hk⟩ b8⟩
    · rintro σ H1 ⟨⟨x2, x3, rfl⟩, hs, hl1, ha1⟩
      obtain ⟨v1, v2, v3, hS1, h1, h2, h3⟩ := (show ShgAt K H1 S 3 from hs)
      clear hs
      obtain ⟨l1, us1, ps1, qs1, rfl, b1, c1, d1, e1, f1, g1⟩ := h1.sha
      obtain ⟨l2, us2, ps2, qs2, rfl, b2, c2, d2, e2, f2, g2⟩ := h2.sha
      obtain ⟨l3, us3, ps3, qs3, rfl, b3, c3, d3, e3, f3, g3⟩ := h3.sha
      refine ⟨_, rfl, S, _, rfl, DGet.k (k := Sum.inr "row") hS1, _, rfl, S, _, rfl, DGet.k (k := Sum.inr "fix") hS1, _, rfl, S, _, rfl, DGet.k (k := Sum.inr "gone") hS1, fun y dx hy hdx hne => ?_⟩
      have sN : Same H1 (upd (upd H1 dx (.own y)) y (.ins CF dx [])) := sameAt (sameAt (Same.refl H1) hdx) hy
      have back : ∀ {H'}, Keep y (upd (upd H1 dx (.own y)) y (.ins CF dx [])) H' → Same H1 H' := fun hK c o hc => hK c o (sN c o hc) (fun e => by rw [e, hy] at hc; cases hc)
      refine ⟨y, dx, .ref l1, .ref l2, .ref l3, .row ps1, .row ps2, .row ps3, rfl, upd_same, c1.ev sN, c2.ev sN, c3.ev sN, .inl ⟨d1, d2, d3, fun vs1 vs2 vs3 H2 r1 r2 r3 hF hK => ⟨rfl, ?_⟩⟩⟩
      have s12 := back hK
      have e1' : vs1 = us1 := rwa_eq (sN _ _ b1) r1
      have e2' : vs2 = us2 := rwa_eq (sN _ _ b2) r2
      have e3' : vs3 = us3 := rwa_eq (sN _ _ b3) r3
      subst e1' e2' e3'
      have ev12 := Ev.same s12
      obtain ⟨qs, hL, hFQ⟩ : ∃ qs : Str → List (Str × Str), (∀ z : Str, z = "row" ∨ z = "fix" ∨ z = "gone" → ∃ lz usz, (∀ H', Same H2 H' → DGet H' S (.str z) (some (.ref lz))) ∧ H2 lz = some (.lst usz) ∧ PrsAt H2 usz (qs z) ∧ GoodQ (flds z) (qs z) ∧ (qs z).length ≤ 15) ∧ FormQ CF H2 y qs := by
        refine ⟨fun z => if z = "row" then qs1 else if z = "fix" then qs2 else qs3, fun z cz => ?_, vs1, vs2, vs3, hF, fun z us hz => ?_⟩
        · rcases cz with rfl | rfl | rfl
          · exact ⟨l1, vs1, fun _ s => DGet.k (k := Sum.inr "row") (s _ _ (s12 _ _ hS1)), s12 _ _ b1, e1.ev ev12, f1, g1⟩
          · exact ⟨l2, vs2, fun _ s => DGet.k (k := Sum.inr "fix") (s _ _ (s12 _ _ hS1)), s12 _ _ b2, e2.ev ev12, f2, g2⟩
          · exact ⟨l3, vs3, fun _ s => DGet.k (k := Sum.inr "gone") (s _ _ (s12 _ _ hS1)), s12 _ _ b3, e3.ev ev12, f3, g3⟩
        · unfold pickW at hz
          by_cases c1 : z = "row"
          · subst c1
            cases hz
            exact ⟨e1.ev ev12, f1, g1⟩
          · rw [if_neg c1] at hz
            by_cases c2 : z = "fix"
            · subst c2
              cases hz
              exact ⟨e2.ev ev12, f2, g2⟩
            · rw [if_neg c2] at hz
              by_cases c3 : z = "gone"
              · subst c3
                cases hz
                exact ⟨e3.ev ev12, f3, g3⟩
              · rw [if_neg c3] at hz
                cases hz
      have hS2 := s12 _ _ hS1
      have ha2 := SqL.sm ha1 s12
      have D1 : ∀ {H'}, Same H2 H' → Dp K H' (.ref l1) (.list (qs1.map pdt)) := fun s => .lst (SqL.of (s _ _ (s12 _ _ b1))) ((e1.ev ev12).ev (Ev.same s)).dp
      have D2 : ∀ {H'}, Same H2 H' → Dp K H' (.ref l2) (.list (qs2.map pdt)) := fun s => .lst (SqL.of (s _ _ (s12 _ _ b2))) ((e2.ev ev12).ev (Ev.same s)).dp
      have D3 : ∀ {H'}, Same H2 H' → Dp K H' (.ref l3) (.list (qs3.map pdt)) := fun s => .lst (SqL.of (s _ _ (s12 _ _ b3))) ((e3.ev ev12).ev (Ev.same s)).dp
      have F1 := prsL_shaped e1.ok
      have F2 := prsL_shaped e2.ok
      have F3 := prsL_shaped e3.ok
      clear b1 b2 b3 c1 c2 c3 d1 d2 d3 e1 e2 e3 f1 f2 f3 g1 g2 g3 h1 h2 h3 r1 r2 r3 hK back sN hF hl1 ha1 hS1 s12 ev12 a0 hS0 sl
      refine ⟨_, rfl, a, _, rfl, .inl ha2, _, _, rfl, _, _, rfl, ?_⟩
      rw [List.length_map]
      obtain ⟨m, hm, m4, m15⟩ : ∃ m : Int, (if (if (15 : Int) < (ns.length : Int) then (15 : Int) else (ns.length : Int)) > 4 then (if (15 : Int) < (ns.length : Int) then (15 : Int) else (ns.length : Int)) else 4) = m ∧ 4 ≤ m ∧ m ≤ 15 := ⟨_, rfl, by split <;> omega, by split <;> (try split) <;> omega⟩
      rw [hm]
      refine ⟨3, m, rfl, ⟨by omega, by omega, by omega, by omega⟩, ?_⟩
      refine for_range (n := (m - 3).toNat) (fun i σ H3 => (∃ x2 x3 x5 x6 x7 x8 x9 x10, σ = [some (.ref a), some (.ref S), x2, x3, some (.ref y), x5, x6, x7, x8, x9, x10]) ∧ Same H2 H3) ⟨⟨_, _, _, _, _, _, _, _, rfl⟩, Same.refl _⟩ ?_ ?_
      · rintro i σ H3 hi ⟨⟨x2, x3, x5, x6, x7, x8, x9, x10, rfl⟩, s3⟩
        have i20 : 3 + i ≤ 20 := by omega
        refine ⟨_, rfl, _, rfl, a, ns, 3 + i, (by rw [show ((3 + i : Nat) : Int) = 3 + (i : Int) by omega]; rfl), i20, SqL.sm ha2 s3, hn, fun p H4 hp0 hP s4 => ?_⟩
        refine ⟨_, rfl, p, 2, rfl, hP, by decide, by decide, fun d H5 d0 d2 P5 => ?_⟩
        refine ⟨_, rfl, p, rfl, P5.now, fun t us is H6 ht0 ht hI l3 l8 P6 => ?_⟩
        refine ⟨fun σ H7 => ∃ v th, σ = [some (.ref a), some (.ref S), x2, some (.ref p), some (.ref y), some (.int (3 + i)), some (.int d), some v, x8, x9, x10] ∧ ThA K H7 v th ∧ Pl H4 H7 p, ?_, ?_⟩
        · refine ⟨_, rfl, rfl, _, rfl, ite2 (fun c => ⟨_, rfl, _, rfl, p, t, us, is, rfl, P6.now, ht, hI, l3, l8, fun v th H7 hv P7 => ⟨v, th, rfl, hv, (P5.trans P6).trans P7⟩⟩) (fun c => ⟨.ref t, .tup is, rfl, ⟨t, us, rfl, ht, hI _, by omega⟩, P5.trans P6⟩)⟩
        · rintro σ H7 ⟨v, th, rfl, hT, P7⟩
          have s7 := s3.trans (same_pl s4 hp0 P7)
          clear P7 P6 P5 ht hI l3 l8 ht0
          refine ⟨fun σ H8 => ∃ t8 t9, σ = [some (.ref a), some (.ref S), x2, some (.ref p), some (.ref y), some (.int (3 + i)), some (.int d), some v, some t8, some t9, some (.bl true)] ∧ Same H2 H8 ∧ ThA K H8 v th ∧ ((gT th = false ∧ ∃ r, t8 = .non ∧ t9 = .ref r ∧ H8 r = some (.tup [.str "entry", .int 0])) ∨ (gT th = true ∧ ∃ z vals, th = .tup (.str z :: vals) ∧ t8 = .str (lineS z vals (qs z)) ∧ t9 = .non)), ?_, ?_⟩
          · refine ⟨_, rfl, _, rfl, y, v, rfl, .inl ⟨qs, th, hFQ.same s7, hT, fun eg t r H8 s8 ht hr => ?_, fun z vals t H8 et eg s8 ht => ?_⟩⟩
            · exact ⟨t, _, rfl, SqT.of ht, rfl, _, _, rfl, _, _, rfl, _, _, rfl, rfl, _, _, rfl, s7.trans s8, hT.same s8, .inl ⟨eg, r, rfl, rfl, hr⟩⟩
            · exact ⟨t, _, rfl, SqT.of ht, rfl, _, _, rfl, _, _, rfl, _, _, rfl, rfl, _, _, rfl, s7.trans s8, hT.same s8, .inr ⟨eg, z, vals, et, rfl, rfl⟩⟩
          · rintro σ H8 ⟨t8, t9, rfl, s8, hT8, hR⟩
            refine ⟨fun σ H9 => (∃ y8 y9 y10, σ = [some (.ref a), some (.ref S), x2, some (.ref p), some (.ref y), some (.int (3 + i)), some (.int d), some v, y8, y9, y10]) ∧ Same H2 H9 ∧ ThA K H9 v th, ?_, ?_⟩
            · refine ⟨_, rfl, v, th, rfl, hT8, fun H9 s9 => ⟨_, rfl, ?_⟩⟩
              have s29 := s8.trans s9
              rcases hR with ⟨eg, r, rfl, rfl, hr⟩ | ⟨eg, z, vals, et, rfl, rfl⟩
              · refine iteN eg ?_
                refine ⟨_, rfl, (by show 2 ≤ sizeLine; decide), fun r2 hr2 => ?_⟩
                have sr := sameAt (o := .tup [.str "entry", .int 0]) (Same.refl H9) hr2
                have dp1 : Dp K (upd H9 r2 (.tup [.str "entry", .int 0])) (.ref r) (.tuple [.str "entry", .int 0]) := .tup (SqT.of (sr _ _ (s9 _ _ hr))) (.cons (.str _) (.cons (.int _) .nil))
                have dp2 : Dp K (upd H9 r2 (.tup [.str "entry", .int 0])) (.ref r2) (.tuple [.str "entry", .int 0]) := .tup (SqT.of upd_same) (.cons (.str _) (.cons (.int _) .nil))
                have sh : SeqAt.shaped (.tuple [.str "entry", .int 0]) = true := by decide +kernel
                refine ⟨_, _, dp1, dp2, sh, sh, _, rfl, iteN (by rw [SeqAt.eqv_refl _ (SeqAt.canLay_of_shaped sh)]; rfl) ?_⟩
                exact ⟨_, rfl, _, rfl, iteN rfl ⟨⟨_, _, _, rfl⟩, s29.trans sr, (hT8.same s9).same sr⟩⟩
              · refine iteP eg ?_
                subst et
                obtain ⟨e, us, rfl, he, hI, l9⟩ := id hT8
                obtain ⟨z', vals', et, cz, lv, wr⟩ := gE_inv eg
                cases et
                cases hI with
                | @cons v0 _ vr _ h0 hI =>
                obtain ⟨rfl, zl⟩ := h0
                obtain ⟨lz, usz, g1, g2, g3, g4, g5⟩ := hL z cz
                have at0 : atI (V.str z :: vr) 0 = some (.str z) := atI_nat (j := 0) rfl
                refine ⟨_, rfl, rfl, _, rfl, iteN rfl ⟨_, rfl, _, _, _, _, true, rfl, .ty _, .base (.str _), kit_ty (by decide +kernel), _, rfl, iteN rfl ⟨_, rfl, _, rfl, _, rfl, _, _, _, _, rfl, rfl, SqT.of (s9 _ _ he), at0, S, .ref lz, rfl, g1 _ s29, _, rfl, ?_⟩⟩⟩
                refine ⟨lz, e, usz, vr, qs z, z, vals, rfl, s29 _ _ g2, g3.ev (Ev.same s29), g4, g5, s9 _ _ he, hI.same s9, lv, wr, fun H10 s10 => ⟨rfl, _, rfl, iteN (by rw [decide_eq_true rfl]; rfl) ⟨⟨_, _, _, rfl⟩, s29.trans s10, (hT8.same s9).same s10⟩⟩⟩
            · rintro σ H9 ⟨⟨y8, y9, y10, rfl⟩, s9, hT9⟩
              refine ⟨_, rfl, _, rfl, S, v, rfl, .inr ⟨⟨_, s9 _ _ hS2⟩, fun t r H10 s10 ht hr => ⟨t, _, rfl, SqT.of ht, rfl, _, _, rfl, _, _, rfl, _, _, rfl, rfl, ?_⟩⟩⟩
              have sA := s9.trans s10
              have hS10 := sA _ _ hS2
              refine ⟨_, rfl, rfl, _, rfl, iteN rfl ⟨_, rfl, _, _, _, _, rfl, rfl, SqT.of hr, rfl, rfl, _, rfl, iteN rfl ⟨_, rfl, _, _, _, _, rfl, rfl, SqT.of hr, rfl, _, rfl, S, S, _, _, _, rfl, rfl, hS10, hS10, rfl, .hit (y := .ref l1) rfl (D1 sA) (D1 sA) F1 F1 (.hit (y := .ref l2) rfl (D2 sA) (D2 sA) F2 F2 (.hit (y := .ref l3) rfl (D3 sA) (D3 sA) F3 F3 .nil)), _, rfl, iteN ?_ ⟨_, rfl, _, rfl, iteN rfl ⟨⟨_, _, _, _, _, _, _, _, rfl⟩, sA⟩⟩⟩⟩⟩
              rw [SeqAt.eqv_refl _ (SeqAt.canLay_of_shaped F1), SeqAt.eqv_refl _ (SeqAt.canLay_of_shaped F2), SeqAt.eqv_refl _ (SeqAt.canLay_of_shaped F3)]
              rfl
      · rintro σ H3 ⟨_, s3⟩
        exact q H3
end
end Ash

set_option Elab.async false
set_option linter.all false
set_option maxRecDepth 100000
set_option maxHeartbeats 4000000
namespace Ash
open PySem PySem.Spec PyProof.Rows L2
/-! ### what the top has written -/
/-- a def of the top -/
structure D1 (K : PySem.W.Frag) (mg : Str → Option Value) (x : Str) (st : Stmt) : Prop where
  ex : ∃ (f : Addr) (fd : FuncData), mg x = some (.ref f) ∧ Fun K x x st f fd
/-- a method -/
structure DM (K : PySem.W.Frag) (C : Addr) (m qual : Str) (st : Stmt) : Prop where
  ex : ∃ (f : Addr) (fd : FuncData), Meth K C m f ∧ Fun K m qual st f fd
/-- a method at a known place -/
structure DQ (K : PySem.W.Frag) (C f : Addr) (m qual : Str) (st : Stmt) : Prop where
  ex : ∃ fd : FuncData, Meth K C m f ∧ Fun K m qual st f fd
/-- an __init__ with one default -/
structure DD (K : PySem.W.Frag) (C a : Addr) (qual : Str) (st : Stmt) : Prop where
  ex : ∃ (f : Addr) (fd : FuncData), Mk K C f ∧ FunD K "__init__" qual (defArgs st) (defBody st) (defScope st) [.ref a] [] f fd
section
variable {K : PySem.W.Frag} {h : Heap} {mg : Str → Option Value} {x qual : Str} {st : Stmt} {f C : Addr} {oc kV dc pm cdv ct : Value} {od an : Option Addr} {sl : Array (Option Value)}
theorem d1 (X : K.In h) (G : h.Ns mainGlobals mg) (a : PySem.W.nsIn K mainGlobals x = some (some (.ref f))) (l : K.lookup f = some ⟨oc, od, .func (PySem.W.fnOf x x (defArgs st) (defBody st) (defScope st) .none kV dc pm an cdv ct), sl⟩) (c : PySem.W.codeIn K cdv x = true) (k : PySem.W.keepIn K (.ref f) = true) : D1 K mg x st :=
  ⟨f, _, PySem.W.mg_of X G a, fun_mk l c k⟩
theorem dm (a : PySem.W.findIn K (.ref C) x = some (some (.ref f))) (i : PySem.W.isFn K (.ref f) = true) (l : K.lookup f = some ⟨oc, od, .func (PySem.W.fnOf x qual (defArgs st) (defBody st) (defScope st) .none kV dc pm an cdv ct), sl⟩) (c : PySem.W.codeIn K cdv qual = true) (k : PySem.W.keepIn K (.ref f) = true) : DM K C x qual st :=
  ⟨f, _, ⟨a, i, k⟩, fun_mk l c k⟩
theorem dq (a : PySem.W.findIn K (.ref C) x = some (some (.ref f))) (i : PySem.W.isFn K (.ref f) = true) (l : K.lookup f = some ⟨oc, od, .func (PySem.W.fnOf x qual (defArgs st) (defBody st) (defScope st) .none kV dc pm an cdv ct), sl⟩) (c : PySem.W.codeIn K cdv qual = true) (k : PySem.W.keepIn K (.ref f) = true) : DQ K C f x qual st :=
  ⟨_, ⟨a, i, k⟩, fun_mk l c k⟩
theorem dd {a T : Addr} {oT : Value} {dT : Option Addr} {slT : Array (Option Value)} {n : Nat} (m1 : PySem.W.makesIn K C = true) (m2 : PySem.W.findIn K (.ref C) "__init__" = some (some (.ref f))) (m3 : PySem.W.isFn K (.ref f) = true) (m4 : PySem.W.keepIn K (.ref C) = true)
    (l : K.lookup f = some ⟨oc, od, .func (PySem.W.fnOf "__init__" qual (defArgs st) (defBody st) (defScope st) (.ref T) kV dc pm an cdv ct), sl⟩) (lT : K.lookup T = some ⟨oT, dT, .seq #[.ref a] n, slT⟩) (c : PySem.W.codeIn K cdv qual = true) (k : PySem.W.keepIn K (.ref f) = true) : DD K C a qual st :=
  ⟨f, _, ⟨m1, m2, m3, m4⟩, ⟨⟨oc, od, .ref T, kV, dc, pm, an, cdv, ct, sl, rfl, l, c, .inr ⟨by simp, T, _, [.ref a], n, rfl, lT, rfl, .cons rfl .nil⟩, .inl rfl⟩, k⟩⟩
theorem sq_of {a : Addr} {d : Option Addr} {n : Nat} (l : K.lookup a = some ⟨.type "tuple", d, .seq #[] n, sl⟩) (H : Hp) : SqT K H a [] := .inr ⟨_, #[], n, l, rfl, rfl, Nat.zero_le _, .nil⟩
theorem tt_mk {a : Addr} {d : Option Addr} {n : Nat} (l : K.lookup a = some ⟨.type "tuple", d, .seq #[] n, sl⟩) : ∃ (o : Obj) (n : Nat), K.lookup a = some o ∧ o.cls = .type "tuple" ∧ o.data = .seq #[] n := ⟨_, n, l, rfl, rfl⟩
end
section
variable {P : Program} {w : World} {K : PySem.W.Frag} {mg : Str → Option Value} {base : Heap} {CX : CXT} {x : Str} {st : Stmt} {ps : List Str} {k : Nat} {sp : Sp}
theorem cal_of (D : D1 K mg x st) (hb : ∀ (kV doc pm : Value) (an : Option Addr) (cdv ct : Value) (us : List Value), us.length = ps.length → bindArgs (PySem.W.fnOf x x (defArgs st) (defBody st) (defScope st) .none kV doc pm an cdv ct) ⟨us, []⟩ = pure (ps.zip us))
    (ok : ∀ f fd, Fun K x x st f fd → FnOk P w K mg base CX k f fd ps sp) : Cal P w K mg base CX x k ps sp := by
  obtain ⟨f, fd, hm, F⟩ := D.ex
  exact ⟨f, fd, hm, F.kp, F.binds hb, ok f fd F⟩
end
/-- a class is what its instances are -/
structure BkI (K : PySem.W.Frag) (CB : Addr) : Prop where
  ha : PySem.W.findIn K (.ref CB) "__class__" = some (some (.builtin "object.__class__"))
  hn : PySem.W.specialIn K (.builtin "object.__class__") "__get__" = some (some (.builtin "getset_descriptor.__get__"))
  ht : PySem.W.takesIn K (.builtin "object.__class__") = some true
  hm : PySem.W.mroIn K CB (.type "object") = some true
theorem kit_ref {K : PySem.W.Frag} {C : Addr} {T : String} {b : Bool} (hm : PySem.W.kitMeta T = true) (h : PySem.W.subIn K (.ref C) (.type T) = some b) : PySem.W.kitOne K (.ref C) (.type T) = some b := by
  have e : (Value.ref C == Value.type T) = false := rfl
  unfold PySem.W.kitOne PySem.W.kitCls
  rw [e, if_neg Bool.false_ne_true]
  show (if PySem.W.kitMeta T = true then _ else _) = _
  rw [if_pos hm]
  exact h
theorem exm_me {K : PySem.W.Frag} {C : Addr} (h1 : PySem.W.subIn K (.ref C) (.type "BaseException") = some true) (h2 : PySem.W.isClsIn K C = true) (h3 : PySem.W.typeIn K (.ref C) = some (.type "type")) (h4 : PySem.W.subIn K (.ref C) (.ref C) = some true) : PySem.W.exmOne K (.ref C) (.ref C) = some true := by
  have h2' : (PySem.W.clsIn K C).isSome = true := h2
  simp [PySem.W.exmOne, PySem.W.kitCls, h1, h2', h3, h4]
theorem exm_no {K : PySem.W.Frag} {C D : Addr} (h1 : PySem.W.subIn K (.ref D) (.type "BaseException") = some true) (h2 : PySem.W.isClsIn K D = true) (h3 : PySem.W.typeIn K (.ref D) = some (.type "type")) (h4 : PySem.W.subIn K (.ref C) (.ref D) = some false) : PySem.W.exmOne K (.ref C) (.ref D) = some false := by
  have h2' : (PySem.W.clsIn K D).isSome = true := h2
  simp [PySem.W.exmOne, PySem.W.kitCls, h1, h2', h3, h4]
open PySem.W PySem.Calls PySem.HandSPX in
/-- the facts of an own error's class -/
theorem txt_mk {P : Program} {K : PySem.W.Frag} {h : Heap} {mg : Str → Option Value} {par fl : Str} {C fI N cda cc : Addr} {nm q qual tx file : Str} {bs bm sub : List Value} {sn : List Str} {ab : Bool} {col : Option Bool} {dd : Option Addr} {m0 m1 m2 m3 m5 : Option Value}
    {oc doc pm ct ccl cl : Value} {od an cdd cld : Option Addr} {osl ccs csl : Array (Option Value)} {vs : Array Value} {pa : Arguments} {p0 p1 p2 p3 p4 p5 p6 p7 p8 p9 : Pos} {j : Nat} {a0 : Arg} {tf : Nat} (X : K.In h) (G : h.Ns mainGlobals mg)
    (cls : K.lookup C = some (excClassObj nm q C N bs bm true sn sub ab col dd m0 m1 m2 m3 m5 "ValueError.__new__")) (ref : PySem.HandSPX.refsVE bm = true)
    (sa : PySem.W.findIn K (.ref C) "__setattr__" = some (some (.builtin "object.__setattr__"))) (ga : PySem.W.findIn K (.ref C) "__getattribute__" = some (some (.builtin "BaseException.__getattribute__"))) (gg : PySem.W.findIn K (.ref C) "__getattr__" = some none) (noN : PySem.W.findIn K (.ref C) fl = some none)
    (iC : PySem.W.findIn K (.ref C) "__init__" = some (some (.ref fI))) (tC : PySem.W.typeIn K (.ref fI) = some (.type "function")) (kC : PySem.W.keepIn K (.ref C) = true) (exC : PySem.W.subIn K (.ref C) (.type "BaseException") = some true) (veC : PySem.W.subIn K (.ref C) (.type "ValueError") = some true)
    (slf : PySem.W.mroIn K C (.ref C) = some true) (tyC : PySem.W.typeIn K (.ref C) = some (.type "type")) (hdC : PySem.W.hasDictIn K C = true) (isC : PySem.W.isClsIn K C = true) (sC : PySem.W.subIn K (.ref C) (.ref C) = some true)
    (along : PySem.W.ks_superIn K C C "__init__" = some (some (.builtin "ValueError.__init__"))) (opq : PySem.W.nsIn K cStatics "thirdparty.any" = some none) (sup : PySem.W.nsIn K mainGlobals "super" = some none) (top : (P.main.scope.names.lookup ("super" : Str)).isSome = false)
    (lf : K.lookup fI = some ⟨oc, od, .func (PySem.W.ksFn "__init__" qual pa (PySem.BadX.shape tx par fl p0 p1 p2 p3 p4 p5 p6 p7 p8 p9 j) (PySem.BadX.sco par) .none .none doc pm an (.ref cda) ct cc), osl⟩) (cd : PySem.W.codeIn K (.ref cda) qual = true) (ha0 : (pa.posonlyargs ++ pa.args).head? = some a0) (ha1 : a0.arg = "self")
    (bd : ∀ (s : Shared) (u v : Value), BindsTo s (PySem.W.ksFn "__init__" qual pa (PySem.BadX.shape tx par fl p0 p1 p2 p3 p4 p5 p6 p7 p8 p9 j) (PySem.BadX.sco par) .none .none doc pm an (.ref cda) ct cc) ⟨[u, v], []⟩ [("self", u), (par, v)])
    (lc : K.lookup cda = some ⟨ccl, cdd, .fields vs, ccs⟩) (hvs : vs[2]? = some (.str file tf)) (hfile : ((P.main.file : Str) == file) = true) (hpe : (p2.endLine == p4.line) = true) (lcc : K.lookup cc = some ⟨cl, cld, .cell (some (.ref C)), csl⟩) : PySem.BadX.Txt P K mg par fl C fI :=
  { cls := ⟨nm, q, N, bs, bm, sn, sub, ab, col, dd, m0, m1, m2, m3, m5, cls, ref⟩, sa := sa, ga := ga, gg := gg, noN := noN, iC := iC, tC := tC, kC := kC, exC := exC, veC := veC, slf := slf, tyC := tyC, hdC := hdC, te := exm_me exC isC tyC sC, along := along, opq := opq, sup := PySem.W.mg_none_of X G sup, top := top,
    fn := ⟨oc, od, qual, tx, doc, pm, an, cda, cc, ct, osl, pa, p0, p1, p2, p3, p4, p5, p6, p7, p8, p9, j, a0, lf, cd, ha0, ha1, bd, ⟨ccl, cdd, vs, ccs, file, tf, lc, hvs, hfile⟩, hpe, ⟨cl, cld, csl, lcc⟩⟩ }
theorem ex_int {K : PySem.W.Frag} {h : Heap} {mg : Str → Option Value} {x : Str} {n : Int} {t : Tok} (X : K.In h) (G : h.Ns mainGlobals mg) (a : PySem.W.nsIn K mainGlobals x = some (some (.int n t))) : ∃ t, mg x = some (.int n t) := ⟨_, PySem.W.mg_of X G a⟩
theorem ex_str {K : PySem.W.Frag} {h : Heap} {mg : Str → Option Value} {x z : Str} {t : Tok} (X : K.In h) (G : h.Ns mainGlobals mg) (a : PySem.W.nsIn K mainGlobals x = some (some (.str z t))) : ∃ t, mg x = some (.str z t) := ⟨_, PySem.W.mg_of X G a⟩
end Ash

set_option Elab.async false
set_option linter.all false
set_option maxRecDepth 100000
set_option maxHeartbeats 400000
namespace Ash
open PySem PySem.Spec PyProof.Rows L2
theorem kit_yes {K : PySem.W.Frag} {a b : Addr} (h2 : PySem.W.isClsIn K b = true) (h3 : PySem.W.typeIn K (.ref b) = some (.type "type")) (h4 : PySem.W.subIn K (.ref a) (.ref b) = some true) : PySem.W.kitOne K (.ref a) (.ref b) = some true := by
  have h2' : (PySem.W.clsIn K b).isSome = true := h2
  unfold PySem.W.kitOne
  split
  · rfl
  · simp [PySem.W.kitCls, h2', h3, h4]
theorem kit_noT {K : PySem.W.Frag} {T : String} {b : Addr} (h2 : PySem.W.isClsIn K b = true) (h3 : PySem.W.typeIn K (.ref b) = some (.type "type")) (h4 : PySem.W.subIn K (.type T) (.ref b) = some false) : PySem.W.kitOne K (.type T) (.ref b) = some false := by
  have h2' : (PySem.W.clsIn K b).isSome = true := h2
  simp [PySem.W.kitOne, PySem.W.kitCls, h2', h3, h4]
theorem nf_me {K : PySem.W.Frag} {a : Addr} : PySem.W.notFirst K a (.ref a) = true := by
  unfold PySem.W.notFirst
  simp
theorem kit_self {K : PySem.W.Frag} {a : Addr} : PySem.W.kitOne K (.ref a) (.ref a) = some true := by
  unfold PySem.W.kitOne
  simp
theorem kd_mk {K : PySem.W.Frag} {w : World} {a b : Addr} {x : Str} {es : Array DictEntry} {n : Nat} (l : K.lookup a = some ⟨.type "dict", none, .dict es n, #[]⟩) (k : PySem.W.KeysLit w.params es.toList) (e : PySem.W.nsIn K a x = some (some (.ref b))) : KDct K w a x (.ref b) := ⟨es, n, .ref b, l, k, e, rfl⟩
theorem sqt_mk {K : PySem.W.Frag} {a : Addr} {d : Option Addr} {its : Array Value} {n : Nat} {sl : Array (Option Value)} {xs : List V} (l : K.lookup a = some ⟨.type "tuple", d, .seq its n, sl⟩) (v : Vals xs its.toList) (z : its.size ≤ sizeLine) : ∀ H, SqT K H a xs := fun H => .inr ⟨_, its, n, l, rfl, rfl, z, v⟩
def F1 : List V := [.str "id", .str "stream", .str "key", .str "moment", .str "amount", .str "arrival"]
def F2 : List V := [.str "id", .str "moment", .str "amount", .str "arrival"]
def F3 : List V := [.str "id", .str "arrival"]
theorem flds1 : (flds "row").map V.str = F1 := by unfold flds; rw [if_pos rfl]; rfl
theorem flds2 : (flds "fix").map V.str = F2 := by unfold flds; rw [if_neg (by decide +kernel), if_pos rfl]; rfl
theorem flds3 : (flds "gone").map V.str = F3 := by unfold flds; rw [if_neg (by decide +kernel), if_neg (by decide +kernel)]; rfl
theorem fl_mk {K : PySem.W.Frag} {w : World} {mg : Str → Option Value} {aF a1 a2 a3 : Addr} (g : mg "FIELDS" = some (.ref aF)) (k1 : KDct K w aF "row" (.ref a1)) (k2 : KDct K w aF "fix" (.ref a2)) (k3 : KDct K w aF "gone" (.ref a3)) (h1 : ∀ H, SqT K H a1 F1) (h2 : ∀ H, SqT K H a2 F2) (h3 : ∀ H, SqT K H a3 F3) : Fl K w mg aF := ⟨g, fun z hz => by
  rcases hz with rfl | rfl | rfl
  · exact ⟨a1, k1, fun H => flds1 ▸ h1 H⟩
  · exact ⟨a2, k2, fun H => flds2 ▸ h2 H⟩
  · exact ⟨a3, k3, fun H => flds3 ▸ h3 H⟩⟩
end Ash

set_option Elab.async false
set_option linter.all false
set_option maxRecDepth 100000
set_option maxHeartbeats 4000000
namespace Ash
open PySem PySem.Spec PyProof.Rows L2
section
variable {P : Program} {w : World} {K : PySem.W.Frag} {mg : Str → Option Value} {base : Heap}
theorem all_ok {CForm CE CX1 CH fE fX aF a1 a2 a3 : Addr}
    (B : Blt mg)
    (zN : mg "zip" = none)
    (ND : PySem.W.nsIn K cStatics "sys.int_max_str_digits" = some none)
    (cF : Cls K CForm)
    (nF : NoAttr K CForm "_shapes")
    (gF : mg "Form" = some (.ref CForm))
    (gE : mg "BadEntry" = some (.ref CE))
    (gX : mg "BadForm" = some (.ref CX1))
    (gH : mg "HallError" = some (.ref CH))
    (bk : BkI K CForm)
    (TE : PySem.BadX.Txt P K mg "at" "at" CE fE)
    (TX : PySem.BadX.Txt P K mg "value" "value" CX1 fX)
    (XE : ExcC K CE)
    (XX : ExcC K CX1)
    (hcE : PySem.W.isClsIn K CE = true)
    (hcX : PySem.W.isClsIn K CX1 = true)
    (kE : PySem.W.kitOne K (.ref CE) (.ref CH) = some true)
    (kX : PySem.W.kitOne K (.ref CX1) (.ref CH) = some true)
    (nXE : PySem.W.exmOne K (.ref CX1) (.ref CE) = some false)
    (kD : PySem.W.kitOne K (.type "dict") (.ref CForm) = some false)
    (gFd : mg "FIELDS" = some (.ref aF))
    (kd1 : KDct K w aF "row" (.ref a1))
    (kd2 : KDct K w aF "fix" (.ref a2))
    (kd3 : KDct K w aF "gone" (.ref a3))
    (sq1 : ∀ H, SqT K H a1 F1)
    (sq2 : ∀ H, SqT K H a2 F2)
    (sq3 : ∀ H, SqT K H a3 F3)
    (xL : ∃ t, mg "LETTERS" = some (.str abc t))
    (xN : ∃ t, mg "LONGEST_NAME" = some (.int 8 t))
    (xLM : ∃ t, mg "LONGEST_MARK" = some (.int 6 t))
    (xMP : ∃ t, mg "MOST_PIECES" = some (.int 15 t))
    (mk : PySem.W.makesIn K CForm = true)
    (kp : PySem.W.keepIn K (.ref CForm) = true)
    (d__law_stream : D1 K mg "_law_stream" s_l_stream)
    (d__law_draw : D1 K mg "_law_draw" s_l_draw)
    (d__law_word : D1 K mg "_law_word" s_l_word)
    (d__law_fields : D1 K mg "_law_fields" s_l_fields)
    (d__law_order : D1 K mg "_law_order" s_l_order)
    (d__law_mark : D1 K mg "_law_mark" s_l_mark)
    (d__law_signs : D1 K mg "_law_signs" s_l_signs)
    (d__law_shape : D1 K mg "_law_shape" s_l_shape)
    (d__law_integer : D1 K mg "_law_integer" s_l_integer)
    (d__law_drawn : D1 K mg "_law_drawn" s_l_drawn)
    (d__law_spoiled : D1 K mg "_law_spoiled" s_l_spoiled)
    (d_is_integer : D1 K mg "is_integer" s_is_integer)
    (d__law_is_integer : D1 K mg "_law_is_integer" s_l_is_integer)
    (d_is_natural : D1 K mg "is_natural" s_is_natural)
    (d_is_name : D1 K mg "is_name" s_is_name)
    (d_are_integers : D1 K mg "are_integers" s_are_integers)
    (d_is_entry : D1 K mg "is_entry" s_is_entry)
    (d__law_is_name : D1 K mg "_law_is_name" s_l_is_name)
    (d__law_is_entry : D1 K mg "_law_is_entry" s_l_is_entry)
    (d_is_row : D1 K mg "is_row" s_is_row)
    (d_is_mark : D1 K mg "is_mark" s_is_mark)
    (d_is_shape : D1 K mg "is_shape" s_is_shape)
    (d_check_form : D1 K mg "check_form" s_check_form)
    (d_write_line : D1 K mg "write_line" s_write_line)
    (d__law_due : D1 K mg "_law_due" s_l_due)
    (d__law_asked : D1 K mg "_law_asked" s_l_asked)
    (m_FI : DM K CForm "__init__" "Form.__init__" s_Form_init)
    (m_SH : DM K CForm "shape" "Form.shape" s_Form_shape)
    {f : Addr} {fd : FuncData} (F_law : Fun K "law" "law" s_law f fd) : FnOk P w K mg base CX0 6 f fd ["script"] (spLaw K) := by
  have c__law_stream := cal_of (P := P) (w := w) (base := base) (ps := ["script", "k"]) d__law_stream (fun _ _ _ _ _ _ us hl => match us, hl with | [_, _], _ => rfl) fun f fd F => ok_stream F B
  have c__law_draw := cal_of (P := P) (w := w) (base := base) (ps := ["stream", "many"]) d__law_draw (fun _ _ _ _ _ _ us hl => match us, hl with | [_, _], _ => rfl) fun f fd F => ok_draw F B
  have c__law_fields := cal_of (P := P) (w := w) (base := base) (ps := ["word"]) d__law_fields (fun _ _ _ _ _ _ us hl => match us, hl with | [_], _ => rfl) fun f fd F => ok_fields F B
  have g1 : G1 P w K mg base := ⟨c__law_draw⟩
  have gs : GS P w K mg base := ⟨c__law_draw⟩
  have gu : GU P w K mg base := ⟨c__law_fields⟩
  have c__law_word := cal_of (P := P) (w := w) (base := base) (ps := ["stream", "most"]) d__law_word (fun _ _ _ _ _ _ us hl => match us, hl with | [_, _], _ => rfl) fun f fd F => ok_word F B g1
  have c__law_order := cal_of (P := P) (w := w) (base := base) (ps := ["stream", "items"]) d__law_order (fun _ _ _ _ _ _ us hl => match us, hl with | [_, _], _ => rfl) fun f fd F => ok_order F B g1
  have c__law_mark := cal_of (P := P) (w := w) (base := base) (ps := ["stream", "signs", "most"]) d__law_mark (fun _ _ _ _ _ _ us hl => match us, hl with | [_, _, _], _ => rfl) fun f fd F => ok_mark F B g1
  have c__law_signs := cal_of (P := P) (w := w) (base := base) (ps := []) d__law_signs (fun _ _ _ _ _ _ us hl => match us, hl with | [], _ => rfl) fun f fd F => ok_signs F B
  have g2 : G2 P w K mg base := { toG1 := g1, law_fields := c__law_fields, law_order := c__law_order, law_mark := c__law_mark }
  have c__law_shape := cal_of (P := P) (w := w) (base := base) (ps := ["stream", "word", "signs", "often", "most"]) d__law_shape (fun _ _ _ _ _ _ us hl => match us, hl with | [_, _, _, _, _], _ => rfl) fun f fd F => ok_lshape F B g2
  have c__law_integer := cal_of (P := P) (w := w) (base := base) (ps := ["stream"]) d__law_integer (fun _ _ _ _ _ _ us hl => match us, hl with | [_], _ => rfl) fun f fd F => ok_integer F B ND g1
  have gd : GD P w K mg base := { toG1 := g1, law_word := c__law_word, law_integer := c__law_integer }
  have c__law_drawn := cal_of (P := P) (w := w) (base := base) (ps := ["stream"]) d__law_drawn (fun _ _ _ _ _ _ us hl => match us, hl with | [_], _ => rfl) fun f fd F => ok_drawn F B gd
  have c__law_spoiled := cal_of (P := P) (w := w) (base := base) (ps := ["stream", "entry"]) d__law_spoiled (fun _ _ _ _ _ _ us hl => match us, hl with | [_, _], _ => rfl) fun f fd F => ok_spoil F B gs
  have c_is_integer := cal_of (P := P) (w := w) (base := base) (ps := ["thing"]) d_is_integer (fun _ _ _ _ _ _ us hl => match us, hl with | [_], _ => rfl) fun f fd F => ok_isint F B
  have c__law_is_integer := cal_of (P := P) (w := w) (base := base) (ps := ["thing"]) d__law_is_integer (fun _ _ _ _ _ _ us hl => match us, hl with | [_], _ => rfl) fun f fd F => ok_lisint F B
  have gi : GI P w K mg base := ⟨c_is_integer, c__law_is_integer⟩
  have c_is_natural := cal_of (P := P) (w := w) (base := base) (ps := ["thing"]) d_is_natural (fun _ _ _ _ _ _ us hl => match us, hl with | [_], _ => rfl) fun f fd F => ok_isnat F B gi
  have c_is_name := cal_of (P := P) (w := w) (base := base) (ps := ["thing"]) d_is_name (fun _ _ _ _ _ _ us hl => match us, hl with | [_], _ => rfl) fun f fd F => ok_isname F B xL xN
  have c_are_integers := cal_of (P := P) (w := w) (base := base) (ps := ["things"]) d_are_integers (fun _ _ _ _ _ _ us hl => match us, hl with | [_], _ => rfl) fun f fd F => ok_areA F B gi
  have ge : GE P w K mg base := ⟨c_is_natural, c_is_name, c_are_integers⟩
  have c_is_entry := cal_of (P := P) (w := w) (base := base) (ps := ["thing"]) d_is_entry (fun _ _ _ _ _ _ us hl => match us, hl with | [_], _ => rfl) fun f fd F => ok_isentry F B ge
  have c__law_is_name := cal_of (P := P) (w := w) (base := base) (ps := ["thing"]) d__law_is_name (fun _ _ _ _ _ _ us hl => match us, hl with | [_], _ => rfl) fun f fd F => ok_lisname F B
  have gl1 : GL1 P w K mg base := ⟨c__law_is_integer, c__law_is_name, c__law_fields⟩
  have c__law_is_entry := cal_of (P := P) (w := w) (base := base) (ps := ["thing"]) d__law_is_entry (fun _ _ _ _ _ _ us hl => match us, hl with | [_], _ => rfl) fun f fd F => ok_lisentry F B gl1
  have c_is_row := cal_of (P := P) (w := w) (base := base) (ps := ["thing"]) d_is_row (fun _ _ _ _ _ _ us hl => match us, hl with | [_], _ => rfl) fun f fd F => ok_is_row F B
  have c_is_mark := cal_of (P := P) (w := w) (base := base) (ps := ["text"]) d_is_mark (fun _ _ _ _ _ _ us hl => match us, hl with | [_], _ => rfl) fun f fd F => ok_is_mark F B xLM
  have g4 : G4 P w K mg base := ⟨c_is_row, c_is_mark⟩
  have c_is_shape := cal_of (P := P) (w := w) (base := base) (ps := ["thing", "fields"]) d_is_shape (fun _ _ _ _ _ _ us hl => match us, hl with | [_, _], _ => rfl) fun f fd F => ok_is_shape F B g4 xMP
  have g6 : G6 P w K mg base := ⟨c_is_shape⟩
  have fl := fl_mk gFd kd1 kd2 kd3 sq1 sq2 sq3
  obtain ⟨fFI, fdFI, mFI, FFI⟩ := m_FI.ex
  have bFI : Binds K fdFI ["self", "row", "fix", "gone"] [] := FFI.binds (ps := ["self", "row", "fix", "gone"]) fun _ _ _ _ _ _ us hl => match us, hl with | [_, _, _, _], _ => rfl
  have oFI := ok_form (P := P) (w := w) (base := base) FFI B g6 TX gX fl cF nF
  obtain ⟨fSH, fdSH, mSH, FSH⟩ := m_SH.ex
  have bSH : Binds K fdSH ["self", "word"] [] := FSH.binds (ps := ["self", "word"]) fun _ _ _ _ _ _ us hl => match us, hl with | [_, _], _ => rfl
  have oSH := ok_fshape (P := P) (w := w) (base := base) FSH B TX gX cF nF
  have bF : ∀ {H : Hp} {a dx : Addr} {fs : List (Str × V)}, H a = some (.ins CForm dx fs) → TyX K H (.ref a) (.ref CForm) := fun e => .base (.ins e cF bk.ha bk.hn bk.ht bk.hm)
  have c_check_form := cal_of (P := P) (w := w) (base := base) (ps := ["form"]) d_check_form (fun _ _ _ _ _ _ us hl => match us, hl with | [_], _ => rfl) fun f fd F => ok_check F B TX gX gF kit_self kD bF
  have gw : GW P w K mg base CForm CX1 := { check_form := c_check_form, is_entry := c_is_entry, shape := ⟨fSH, fdSH, mSH, bSH, oSH⟩ }
  have c_write_line := cal_of (P := P) (w := w) (base := base) (ps := ["form", "entry"]) d_write_line (fun _ _ _ _ _ _ us hl => match us, hl with | [_, _], _ => rfl) fun f fd F => ok_write F B ND zN fl TE gE cF gw
  have c__law_due := cal_of (P := P) (w := w) (base := base) (ps := ["pieces", "entry"]) d__law_due (fun _ _ _ _ _ _ us hl => match us, hl with | [_, _], _ => rfl) fun f fd F => ok_due F B ND gu
  have ga : GA P w K mg base CForm CE CX1 := ⟨c_write_line⟩
  have c__law_asked := cal_of (P := P) (w := w) (base := base) (ps := ["form", "entry"]) d__law_asked (fun _ _ _ _ _ _ us hl => match us, hl with | [_, _], _ => rfl) fun f fd F => ok_asked F B TE TX gE gX gH XE XX hcE hcX kE kX nXE ga
  have gl : GL P w K mg base CForm CX1 := { law_stream := c__law_stream, law_draw := c__law_draw, law_signs := c__law_signs, law_shape := c__law_shape, Form := ⟨fFI, fdFI, ⟨mk, mFI.at_, mFI.fn, kp⟩, gF, bFI, oFI⟩, law_drawn := c__law_drawn, law_spoiled := c__law_spoiled, law_asked := c__law_asked, law_is_entry := c__law_is_entry, law_due := c__law_due }
  exact ok_law F_law B gl
end
theorem all_mk {P : Program} {w : World} {K : PySem.W.Frag} {h : Heap} {mg : Str → Option Value} {fa CForm CE CX1 CH fE fX aF a1 a2 a3 f4 : Addr} {oc4 kV4 dc4 pm4 cd4 ct4 : Value} {od4 an4 : Option Addr} {sl4 : Array (Option Value)} (X : K.In h) (G : h.Ns mainGlobals mg) (hfa : mg "law" = some (.ref fa))
    (a4 : PySem.W.nsIn K mainGlobals "law" = some (some (.ref f4))) (l4 : K.lookup f4 = some ⟨oc4, od4, .func (PySem.W.fnOf "law" "law" (defArgs s_law) (defBody s_law) (defScope s_law) .none kV4 dc4 pm4 an4 cd4 ct4), sl4⟩) (c4 : PySem.W.codeIn K cd4 "law" = true) (k4 : PySem.W.keepIn K (.ref f4) = true)
    (B : Blt mg)
    (zN : mg "zip" = none)
    (ND : PySem.W.nsIn K cStatics "sys.int_max_str_digits" = some none)
    (cF : Cls K CForm)
    (nF : NoAttr K CForm "_shapes")
    (gF : mg "Form" = some (.ref CForm))
    (gE : mg "BadEntry" = some (.ref CE))
    (gX : mg "BadForm" = some (.ref CX1))
    (gH : mg "HallError" = some (.ref CH))
    (bk : BkI K CForm)
    (TE : PySem.BadX.Txt P K mg "at" "at" CE fE)
    (TX : PySem.BadX.Txt P K mg "value" "value" CX1 fX)
    (XE : ExcC K CE)
    (XX : ExcC K CX1)
    (hcE : PySem.W.isClsIn K CE = true)
    (hcX : PySem.W.isClsIn K CX1 = true)
    (kE : PySem.W.kitOne K (.ref CE) (.ref CH) = some true)
    (kX : PySem.W.kitOne K (.ref CX1) (.ref CH) = some true)
    (nXE : PySem.W.exmOne K (.ref CX1) (.ref CE) = some false)
    (kD : PySem.W.kitOne K (.type "dict") (.ref CForm) = some false)
    (gFd : mg "FIELDS" = some (.ref aF))
    (kd1 : KDct K w aF "row" (.ref a1))
    (kd2 : KDct K w aF "fix" (.ref a2))
    (kd3 : KDct K w aF "gone" (.ref a3))
    (sq1 : ∀ H, SqT K H a1 F1)
    (sq2 : ∀ H, SqT K H a2 F2)
    (sq3 : ∀ H, SqT K H a3 F3)
    (xL : ∃ t, mg "LETTERS" = some (.str abc t))
    (xN : ∃ t, mg "LONGEST_NAME" = some (.int 8 t))
    (xLM : ∃ t, mg "LONGEST_MARK" = some (.int 6 t))
    (xMP : ∃ t, mg "MOST_PIECES" = some (.int 15 t))
    (mk : PySem.W.makesIn K CForm = true)
    (kp : PySem.W.keepIn K (.ref CForm) = true)
    (d__law_stream : D1 K mg "_law_stream" s_l_stream)
    (d__law_draw : D1 K mg "_law_draw" s_l_draw)
    (d__law_word : D1 K mg "_law_word" s_l_word)
    (d__law_fields : D1 K mg "_law_fields" s_l_fields)
    (d__law_order : D1 K mg "_law_order" s_l_order)
    (d__law_mark : D1 K mg "_law_mark" s_l_mark)
    (d__law_signs : D1 K mg "_law_signs" s_l_signs)
    (d__law_shape : D1 K mg "_law_shape" s_l_shape)
    (d__law_integer : D1 K mg "_law_integer" s_l_integer)
    (d__law_drawn : D1 K mg "_law_drawn" s_l_drawn)
    (d__law_spoiled : D1 K mg "_law_spoiled" s_l_spoiled)
    (d_is_integer : D1 K mg "is_integer" s_is_integer)
    (d__law_is_integer : D1 K mg "_law_is_integer" s_l_is_integer)
    (d_is_natural : D1 K mg "is_natural" s_is_natural)
    (d_is_name : D1 K mg "is_name" s_is_name)
    (d_are_integers : D1 K mg "are_integers" s_are_integers)
    (d_is_entry : D1 K mg "is_entry" s_is_entry)
    (d__law_is_name : D1 K mg "_law_is_name" s_l_is_name)
    (d__law_is_entry : D1 K mg "_law_is_entry" s_l_is_entry)
    (d_is_row : D1 K mg "is_row" s_is_row)
    (d_is_mark : D1 K mg "is_mark" s_is_mark)
    (d_is_shape : D1 K mg "is_shape" s_is_shape)
    (d_check_form : D1 K mg "check_form" s_check_form)
    (d_write_line : D1 K mg "write_line" s_write_line)
    (d__law_due : D1 K mg "_law_due" s_l_due)
    (d__law_asked : D1 K mg "_law_asked" s_l_asked)
    (m_FI : DM K CForm "__init__" "Form.__init__" s_Form_init)
    (m_SH : DM K CForm "shape" "Form.shape" s_Form_shape)
    : ∃ fd : FuncData, (∀ (s : Shared) (v : Value), BindsTo s fd ⟨[v], []⟩ [("script", v)]) ∧ ∀ base : Heap, K.In base → base.Ns mainGlobals mg → FnOk P w K mg base CX0 6 fa fd ["script"] (spLaw K) := by
  have e := hfa.symm.trans (PySem.W.mg_of X G a4)
  cases e
  exact ⟨PySem.W.fnOf "law" "law" (defArgs s_law) (defBody s_law) (defScope s_law) .none kV4 dc4 pm4 an4 cd4 ct4, fun s v => .of_eq rfl, fun base _ _ => all_ok B zN ND cF nF gF gE gX gH bk TE TX XE XX hcE hcX kE kX nXE kD gFd kd1 kd2 kd3 sq1 sq2 sq3 xL xN xLM xMP mk kp d__law_stream d__law_draw d__law_word d__law_fields d__law_order d__law_mark d__law_signs d__law_shape d__law_integer d__law_drawn d__law_spoiled d_is_integer d__law_is_integer d_is_natural d_is_name d_are_integers d_is_entry d__law_is_name d__law_is_entry d_is_row d_is_mark d_is_shape d_check_form d_write_line d__law_due d__law_asked m_FI m_SH (fun_mk l4 c4 k4)⟩
theorem walk {l : PySem.W.OpenLaw} {q : Program} {loose : List Str} {XP : (Str → Option Value) → Heap → Prop} {YP : World → Heap → Prop} {d : DefRec} {K : Params → PySem.W.Frag} (hn : l.most = some 63) (hdf : d.params.defaults = [])
    (hY : ∀ (w : World) (h : Heap), YP w h → (K w.params).In h)
    (F : ∀ (w : World) (mg : Str → Option Value) (fa : Addr) (h : Heap), (K w.params).In h → h.Ns mainGlobals mg → mg d.name = some (.ref fa) →
      ∃ fd : FuncData, (∀ (s : Shared) (u : Value), BindsTo s fd ⟨[u], []⟩ [("script", u)]) ∧ ∀ base : Heap, (K w.params).In base → base.Ns mainGlobals mg → FnOk l.prog w (K w.params) mg base CX0 6 fa fd ["script"] (spLaw (K w.params))) :
    PySem.W.WalkO q loose XP YP l.row.toRowW d [] (fun f vs => PySem.call f vs) :=
  L2.walk_of (n := 63) (k := 6) (x := "script") (CX := fun _ => CX0) (sp := fun w => spLaw (K w.params)) hn (by decide) hdf ⟨rfl, by decide, by decide⟩ hY F (fun _ _ a ns hl _ hS => ⟨a, ns, rfl, hS, hl, fun _ => rfl⟩) fun _ _ _ _ _ z => z
end Ash

set_option Elab.async false
open PySem PySem.W PyProof.Rows
/-! names that are taken: the head makes no twins of these parts of the heap -/
theorem PySem.W.Fast.tw3992307918095939327 : True := trivial
theorem PySem.W.Fast.tw1259716895936393586 : True := trivial
theorem PySem.W.Fast.tw15672016796479460040 : True := trivial
theorem PySem.W.Fast.tw14476661197538117076 : True := trivial
theorem PySem.W.Fast.tw10626519199701980705 : True := trivial
theorem PySem.W.Fast.tw6697184527241551293 : True := trivial
theorem PySem.W.Fast.tw5944573682870882176 : True := trivial
theorem PySem.W.Fast.tw15664543996738036365 : True := trivial
theorem PySem.W.Fast.tw12502717826633685913 : True := trivial
theorem PySem.W.Fast.tw10262087692608435204 : True := trivial
theorem PySem.W.Fast.tw14052524194704655856 : True := trivial
theorem PySem.W.Fast.tw5223482902759005293 : True := trivial
theorem PySem.W.Fast.tw7366659405639985097 : True := trivial
theorem PySem.W.Fast.tw7926108135322089244 : True := trivial
theorem PySem.W.Fast.tw5307853082577820903 : True := trivial
theorem PySem.W.Fast.tw11384752573804347573 : True := trivial
theorem PySem.W.Fast.tw488695995295405872 : True := trivial
theorem PySem.W.Fast.tw16292345734281746230 : True := trivial
theorem PySem.W.Fast.tw18179263486059881736 : True := trivial
theorem PySem.W.Fast.tw14453321726458166021 : True := trivial
theorem PySem.W.Fast.tw15306829529479665317 : True := trivial
theorem PySem.W.Fast.tw1145947863152669371 : True := trivial
theorem PySem.W.Fast.tw1250393462999776226 : True := trivial
theorem PySem.W.Fast.tw14290260146876314715 : True := trivial
theorem PySem.W.Fast.tw13798992291839369236 : True := trivial
theorem PySem.W.Fast.tw14362049220482531566 : True := trivial
theorem PySem.W.Fast.tw4640496931788586374 : True := trivial
theorem PySem.W.Fast.tw2271629288531386120 : True := trivial
theorem PySem.W.Fast.tw9010972804564580516 : True := trivial
theorem PySem.W.Fast.tw11236431191644903918 : True := trivial
theorem PySem.W.Fast.tw15599745555027141688 : True := trivial
theorem PySem.W.Fast.tw11913496117176220113 : True := trivial
theorem PySem.W.Fast.tw5737935129465022665 : True := trivial
theorem PySem.W.Fast.tw15897529445480711382 : True := trivial
theorem PySem.W.Fast.tw7957286372741845126 : True := trivial
theorem PySem.W.Fast.tw6843252401636231543 : True := trivial
theorem PySem.W.Fast.tw16729842012273456256 : True := trivial
theorem PySem.W.Fast.tw16697077685572307095 : True := trivial
theorem PySem.W.Fast.tw11795533711810286984 : True := trivial
theorem PySem.W.Fast.tw2832790676675690540 : True := trivial
theorem PySem.W.Fast.tw7315523352059854405 : True := trivial
theorem PySem.W.Fast.tw1315274099311173810 : True := trivial
theorem PySem.W.Fast.tw4901358217862201453 : True := trivial
theorem PySem.W.Fast.tw15314430000605218214 : True := trivial
theorem PySem.W.Fast.tw13229592514906549360 : True := trivial
theorem PySem.W.Fast.tw8796654454383645589 : True := trivial
theorem PySem.W.Fast.tw10914222631337464708 : True := trivial
theorem PySem.W.Fast.tw16665192142866409 : True := trivial
theorem PySem.W.Fast.tw13167041936158175733 : True := trivial
theorem PySem.W.Fast.tw13917040519465946573 : True := trivial
theorem PySem.W.Fast.tw9447658237248707299 : True := trivial
theorem PySem.W.Fast.tw10440504662135989934 : True := trivial
theorem PySem.W.Fast.tw17670520978724452441 : True := trivial
theorem PySem.W.Fast.tw18007289329934350332 : True := trivial
theorem PySem.W.Fast.tw12739524767664857201 : True := trivial
theorem PySem.W.Fast.tw15798582346189222939 : True := trivial
theorem PySem.W.Fast.tw3882488326836862624 : True := trivial
theorem PySem.W.Fast.tw11768345152697142669 : True := trivial
theorem PySem.W.Fast.tw18011183105631418583 : True := trivial
theorem PySem.W.Fast.tw18276434598397173422 : True := trivial
theorem PySem.W.Fast.tw6099711960802164523 : True := trivial
theorem PySem.W.Fast.tw11896487896308573436 : True := trivial
theorem PySem.W.Fast.tw16170064016011325106 : True := trivial
theorem PySem.W.Fast.tw1411579894504898159 : True := trivial
theorem PySem.W.Fast.tw10013952557468924638 : True := trivial
theorem PySem.W.Fast.tw17511897549564719751 : True := trivial
theorem PySem.W.Fast.tw3837355435334854783 : True := trivial
theorem PySem.W.Fast.tw11214316885679558165 : True := trivial
theorem PySem.W.Fast.tw4254002770557367469 : True := trivial
theorem PySem.W.Fast.tw3919597121089262177 : True := trivial
theorem PySem.W.Fast.tw2804357208002045536 : True := trivial
theorem PySem.W.Fast.tw12415040911787724566 : True := trivial
theorem PySem.W.Fast.tw16303743694230578182 : True := trivial
theorem PySem.W.Fast.tw12316391802588981416 : True := trivial
theorem PySem.W.Fast.tw9167740911049722929 : True := trivial
theorem PySem.W.Fast.tw1827660643533400749 : True := trivial
theorem PySem.W.Fast.tw2027370926637335851 : True := trivial
theorem PySem.W.Fast.tw14080937676225616152 : True := trivial
theorem PySem.W.Fast.tw9657858758386482397 : True := trivial
theorem PySem.W.Fast.tw14400568937368630828 : True := trivial
theorem PySem.W.Fast.tw8676895592792383263 : True := trivial
theorem PySem.W.Fast.tw3131072322859250258 : True := trivial
theorem PySem.W.Fast.tw14611626711891863175 : True := trivial
theorem PySem.W.Fast.tw2019700302438428460 : True := trivial
theorem PySem.W.Fast.tw5416046794482947440 : True := trivial
theorem PySem.W.Fast.tw10327874329635001562 : True := trivial
theorem PySem.W.Fast.tw13681385096526465094 : True := trivial
theorem PySem.W.Fast.tw869966191267578828 : True := trivial
theorem PySem.W.Fast.tw11107793375643726761 : True := trivial
theorem PySem.W.Fast.tw9056643686199132066 : True := trivial
theorem PySem.W.Fast.tw17606004075465040940 : True := trivial
theorem PySem.W.Fast.tw501164269312387489 : True := trivial
theorem PySem.W.Fast.tw6957533934717515879 : True := trivial
theorem PySem.W.Fast.tw10853683131158122441 : True := trivial
theorem PySem.W.Fast.tw16346432731943597529 : True := trivial
theorem PySem.W.Fast.tw10962191653571424509 : True := trivial
theorem PySem.W.Fast.tw5585178531242384884 : True := trivial
theorem PySem.W.Fast.tw14240118492224737936 : True := trivial
theorem PySem.W.Fast.tw8435123207307536396 : True := trivial
theorem PySem.W.Fast.tw8278444582267383704 : True := trivial
theorem PySem.W.Fast.tw17030717395810615085 : True := trivial
theorem PySem.W.Fast.tw2470808169329739741 : True := trivial
theorem PySem.W.Fast.tw5566383207506952682 : True := trivial
theorem PySem.W.Fast.tw15686693250262715384 : True := trivial
theorem PySem.W.Fast.tw13289123030593958564 : True := trivial
theorem PySem.W.Fast.tw15609605480986201009 : True := trivial
theorem PySem.W.Fast.tw2209433970521840294 : True := trivial
theorem PySem.W.Fast.tw8412000413027847244 : True := trivial
theorem PySem.W.Fast.tw10924980182897489190 : True := trivial
theorem PySem.W.Fast.tw5324938452512639985 : True := trivial
theorem PySem.W.Fast.tw18216459816430401102 : True := trivial
theorem PySem.W.Fast.tw11019975387008493714 : True := trivial
theorem PySem.W.Fast.tw9249667066763478524 : True := trivial
theorem PySem.W.Fast.tw10769390769176635228 : True := trivial
theorem PySem.W.Fast.tw9025544290332394377 : True := trivial
theorem PySem.W.Fast.tw2043078784535868304 : True := trivial
theorem PySem.W.Fast.tw12604230659223761623 : True := trivial
theorem PySem.W.Fast.tw4196222120678696037 : True := trivial
theorem PySem.W.Fast.tw11957208572648823985 : True := trivial
theorem PySem.W.Fast.tw6377376701606654244 : True := trivial
theorem PySem.W.Fast.tw2025695776940575645 : True := trivial
theorem PySem.W.Fast.tw13316838302162596260 : True := trivial
theorem PySem.W.Fast.tw7412751777074480814 : True := trivial
theorem PySem.W.Fast.tw12720282698816075777 : True := trivial
theorem PySem.W.Fast.tw15565779243520244653 : True := trivial
theorem PySem.W.Fast.tw1764861178180202589 : True := trivial
theorem PySem.W.Fast.tw1945014670126824736 : True := trivial
theorem PySem.W.Fast.tw13149998757506181024 : True := trivial
theorem PySem.W.Fast.tw659384256862451207 : True := trivial
theorem PySem.W.Fast.tw621722478491490439 : True := trivial
theorem PySem.W.Fast.tw9606191460756579090 : True := trivial
theorem PySem.W.Fast.tw12152427378187666561 : True := trivial
theorem PySem.W.Fast.tw16664375111281220984 : True := trivial
theorem PySem.W.Fast.tw14368726010935110887 : True := trivial
theorem PySem.W.Fast.tw1735111924181708131 : True := trivial
theorem PySem.W.Fast.tw5946131223445910875 : True := trivial
theorem PySem.W.Fast.tw9294356824806532998 : True := trivial
theorem PySem.W.Fast.tw6526076398139169820 : True := trivial
theorem PySem.W.Fast.tw3572397656574759716 : True := trivial
theorem PySem.W.Fast.tw6566526279645703838 : True := trivial
theorem PySem.W.Fast.tw12599504324401679292 : True := trivial
theorem PySem.W.Fast.tw6679422823989552101 : True := trivial
theorem PySem.W.Fast.tw9326936911196591534 : True := trivial
theorem PySem.W.Fast.tw7722507739682652871 : True := trivial
theorem PySem.W.Fast.tw17524558439150752870 : True := trivial
theorem PySem.W.Fast.tw8547136704172894164 : True := trivial
theorem PySem.W.Fast.tw7606588344259879740 : True := trivial
theorem PySem.W.Fast.tw6447530262916871680 : True := trivial
theorem PySem.W.Fast.tw12247254710679389640 : True := trivial
theorem PySem.W.Fast.tw16072190265683647498 : True := trivial
theorem PySem.W.Fast.tw14093719936705958250 : True := trivial
theorem PySem.W.Fast.tw3455134514818736509 : True := trivial
theorem PySem.W.Fast.tw18231577718318316313 : True := trivial
theorem PySem.W.Fast.tw1309457167345161836 : True := trivial
theorem PySem.W.Fast.tw12337126411196336568 : True := trivial
theorem PySem.W.Fast.tw5653106841524480099 : True := trivial
theorem PySem.W.Fast.tw15608108427979347689 : True := trivial
theorem PySem.W.Fast.tw7560502083137580862 : True := trivial
theorem PySem.W.Fast.tw5351013978707276689 : True := trivial
theorem PySem.W.Fast.tw18107419895516241232 : True := trivial
theorem PySem.W.Fast.tw17557235218714624823 : True := trivial
theorem PySem.W.Fast.tw2652944437991609711 : True := trivial
theorem PySem.W.Fast.tw17803853599266119167 : True := trivial
theorem PySem.W.Fast.tw4488913919751353201 : True := trivial
theorem PySem.W.Fast.tw7379750978556251587 : True := trivial
theorem PySem.W.Fast.tw11246594139129251340 : True := trivial
theorem PySem.W.Fast.tw5211892216481941567 : True := trivial
theorem PySem.W.Fast.tw11148687233574120979 : True := trivial
theorem PySem.W.Fast.tw8205734242489796955 : True := trivial
theorem PySem.W.Fast.tw9463765946975303009 : True := trivial
theorem PySem.W.Fast.tw16444427817532588518 : True := trivial
theorem PySem.W.Fast.tw13926190098052911313 : True := trivial
theorem PySem.W.Fast.tw9013349174002181670 : True := trivial
theorem PySem.W.Fast.tw2246241342073362050 : True := trivial
theorem PySem.W.Fast.tw12591719424201299364 : True := trivial
theorem PySem.W.Fast.tw574244583042116038 : True := trivial
theorem PySem.W.Fast.tw7298842014480324837 : True := trivial
theorem PySem.W.Fast.tw9732781338617138977 : True := trivial
theorem PySem.W.Fast.tw16116806260091630117 : True := trivial
theorem PySem.W.Fast.tw9704721708139814063 : True := trivial
theorem PySem.W.Fast.tw3219344510823727567 : True := trivial
theorem PySem.W.Fast.tw3206759494012781280 : True := trivial
theorem PySem.W.Fast.tw17000950084771143843 : True := trivial
theorem PySem.W.Fast.tw625609356779477732 : True := trivial
theorem PySem.W.Fast.tw5764351289377121998 : True := trivial
theorem PySem.W.Fast.tw9928079802285041347 : True := trivial
theorem PySem.W.Fast.tw14907634742609799382 : True := trivial
theorem PySem.W.Fast.tw617428563178005080 : True := trivial
theorem PySem.W.Fast.tw9090508065553295524 : True := trivial
theorem PySem.W.Fast.tw17675952303492235198 : True := trivial
theorem PySem.W.Fast.tw5709608893735602339 : True := trivial
theorem PySem.W.Fast.tw7690399968982624927 : True := trivial
theorem PySem.W.Fast.tw17155968226161941503 : True := trivial
theorem PySem.W.Fast.tw10927906576920140366 : True := trivial
theorem PySem.W.Fast.tw4162406217811679345 : True := trivial
theorem PySem.W.Fast.tw8173141319544143485 : True := trivial
theorem PySem.W.Fast.tw7505619853905005519 : True := trivial
theorem PySem.W.Fast.tw14317724199527002079 : True := trivial
theorem PySem.W.Fast.tw9577551406826459497 : True := trivial
theorem PySem.W.Fast.tw8604494580822312659 : True := trivial
theorem PySem.W.Fast.tw5442870319243666557 : True := trivial
theorem PySem.W.Fast.tw7756931558419378992 : True := trivial
theorem PySem.W.Fast.tw3109342221393596284 : True := trivial
theorem PySem.W.Fast.tw14870361082179452254 : True := trivial
theorem PySem.W.Fast.tw4792203792771292194 : True := trivial
theorem PySem.W.Fast.tw17128433938555035626 : True := trivial
theorem PySem.W.Fast.tw8069144425143086116 : True := trivial
theorem PySem.W.Fast.tw2781608789166515602 : True := trivial
theorem PySem.W.Fast.tw318981931231943796 : True := trivial
theorem PySem.W.Fast.tw16219617991749413813 : True := trivial
theorem PySem.W.Fast.tw1276731405540097704 : True := trivial
theorem PySem.W.Fast.tw7738379103036138608 : True := trivial
theorem PySem.W.Fast.tw2441825683821569469 : True := trivial
theorem PySem.W.Fast.tw13250096770633357753 : True := trivial
theorem PySem.W.Fast.tw1483524496624781406 : True := trivial
theorem PySem.W.Fast.tw8938047145629946383 : True := trivial
theorem PySem.W.Fast.tw14874843448853684715 : True := trivial
theorem PySem.W.Fast.tw17689856181264419427 : True := trivial
theorem PySem.W.Fast.tw4385478304177236047 : True := trivial
theorem PySem.W.Fast.tw1506508480768252214 : True := trivial
theorem PySem.W.Fast.tw13639450103577579683 : True := trivial
theorem PySem.W.Fast.tw8538443165468447573 : True := trivial
theorem PySem.W.Fast.tw3327607950097254641 : True := trivial
theorem PySem.W.Fast.tw16579372486681650730 : True := trivial
theorem PySem.W.Fast.tw12473884572488747168 : True := trivial
theorem PySem.W.Fast.tw6942380688437535359 : True := trivial
theorem PySem.W.Fast.tw8080930582402848939 : True := trivial
theorem PySem.W.Fast.tw16497941778270162636 : True := trivial
theorem PySem.W.Fast.tw1142839763287384085 : True := trivial
theorem PySem.W.Fast.tw4071411697935649826 : True := trivial
theorem PySem.W.Fast.tw14328068460961043712 : True := trivial
theorem PySem.W.Fast.tw8379880931477649418 : True := trivial
theorem PySem.W.Fast.tw5315803360536438346 : True := trivial
theorem PySem.W.Fast.tw17496920886357251709 : True := trivial
theorem PySem.W.Fast.tw10737705667339963556 : True := trivial
theorem PySem.W.Fast.tw1997930217768135589 : True := trivial
theorem PySem.W.Fast.tw13240025310344736727 : True := trivial
theorem PySem.W.Fast.tw15674429103478260095 : True := trivial
theorem PySem.W.Fast.tw13375056048460456560 : True := trivial
theorem PySem.W.Fast.tw12601114893631056163 : True := trivial
theorem PySem.W.Fast.tw8646789024130413368 : True := trivial
theorem PySem.W.Fast.tw9148074564100141173 : True := trivial
theorem PySem.W.Fast.tw16024600450490341541 : True := trivial
theorem PySem.W.Fast.tw146532726420229629 : True := trivial
theorem PySem.W.Fast.tw7099511303672305897 : True := trivial
theorem PySem.W.Fast.tw11593188365476836859 : True := trivial
theorem PySem.W.Fast.tw13683235432180187951 : True := trivial
theorem PySem.W.Fast.tw12490812784290094163 : True := trivial
theorem PySem.W.Fast.tw9915278137632425412 : True := trivial
theorem PySem.W.Fast.tw10886000002460132106 : True := trivial
theorem PySem.W.Fast.tw15500729347851140284 : True := trivial
theorem PySem.W.Fast.tw9254136641933294010 : True := trivial
theorem PySem.W.Fast.tw14200892712741895052 : True := trivial
theorem PySem.W.Fast.tw10854466850932303910 : True := trivial
theorem PySem.W.Fast.tw14344139647230786105 : True := trivial
theorem PySem.W.Fast.tw9044567777193041173 : True := trivial
theorem PySem.W.Fast.tw16766998274274301605 : True := trivial
theorem PySem.W.Fast.tw9594728245135392290 : True := trivial
theorem PySem.W.Fast.tw3583138425522694032 : True := trivial
theorem PySem.W.Fast.tw13786490306538512956 : True := trivial
theorem PySem.W.Fast.tw5372300744407173356 : True := trivial
theorem PySem.W.Fast.tw7964173060999343921 : True := trivial
theorem PySem.W.Fast.tw15946420101424036285 : True := trivial
theorem PySem.W.Fast.tw963147480367137327 : True := trivial
theorem PySem.W.Fast.tw5359344221199339769 : True := trivial
theorem PySem.W.Fast.tw10686613252143191080 : True := trivial
theorem PySem.W.Fast.tw8223392082043191237 : True := trivial
theorem PySem.W.Fast.tw14604061786762954687 : True := trivial
theorem PySem.W.Fast.tw2416714912297818303 : True := trivial
theorem PySem.W.Fast.tw803435880507706341 : True := trivial
theorem PySem.W.Fast.tw15334293730909722360 : True := trivial
theorem PySem.W.Fast.tw6015387729761137944 : True := trivial
theorem PySem.W.Fast.tw16482598544627437472 : True := trivial
theorem PySem.W.Fast.tw18337676109722935352 : True := trivial
theorem PySem.W.Fast.tw17101485114278561804 : True := trivial
theorem PySem.W.Fast.tw10693169499357476365 : True := trivial
theorem PySem.W.Fast.tw12801734191828831322 : True := trivial
theorem PySem.W.Fast.tw9753315504583352790 : True := trivial
theorem PySem.W.Fast.tw6835001389291850282 : True := trivial
theorem PySem.W.Fast.tw17922143569245491376 : True := trivial
theorem PySem.W.Fast.tw17113829787912741471 : True := trivial
theorem PySem.W.Fast.tw9812664232688239489 : True := trivial
theorem PySem.W.Fast.tw347902780660675553 : True := trivial
theorem PySem.W.Fast.tw9963746570638497053 : True := trivial
theorem PySem.W.Fast.tw3626217832819127524 : True := trivial
theorem PySem.W.Fast.tw17762419104285064767 : True := trivial
theorem PySem.W.Fast.tw4297653344707220260 : True := trivial
theorem PySem.W.Fast.tw17977094280100280614 : True := trivial
theorem PySem.W.Fast.tw4678610402981462669 : True := trivial
theorem PySem.W.Fast.tw7277044666388986168 : True := trivial
theorem PySem.W.Fast.tw6337876339659097494 : True := trivial
theorem PySem.W.Fast.tw3945435409966299473 : True := trivial
theorem PySem.W.Fast.tw14608728072882639571 : True := trivial
theorem PySem.W.Fast.tw17753275351050151349 : True := trivial
theorem PySem.W.Fast.tw3031956357431461808 : True := trivial
theorem PySem.W.Fast.tw12772370299878570230 : True := trivial
theorem PySem.W.Fast.tw12655549291856972479 : True := trivial
theorem PySem.W.Fast.tw18143021127862719156 : True := trivial
theorem PySem.W.Fast.tw13250056065867327976 : True := trivial
theorem PySem.W.Fast.tw1387103125732272937 : True := trivial
theorem PySem.W.Fast.tw5719137932985312965 : True := trivial
theorem PySem.W.Fast.tw3207165050843568702 : True := trivial
theorem PySem.W.Fast.tw6504001363261146335 : True := trivial
theorem PySem.W.Fast.tw6672339666785711586 : True := trivial
theorem PySem.W.Fast.tw14447294647379505305 : True := trivial
theorem PySem.W.Fast.tw12035571510350997003 : True := trivial
theorem PySem.W.Fast.tw13380668674013937560 : True := trivial
theorem PySem.W.Fast.tw15432260065005673755 : True := trivial
theorem PySem.W.Fast.tw4930057096270168205 : True := trivial
theorem PySem.W.Fast.tw8479167003169071335 : True := trivial
theorem PySem.W.Fast.tw2912954196654199984 : True := trivial
theorem PySem.W.Fast.tw5590179209439420183 : True := trivial
theorem PySem.W.Fast.tw17598063094334062406 : True := trivial
theorem PySem.W.Fast.tw18023871911805429158 : True := trivial
theorem PySem.W.Fast.tw14515834215234697811 : True := trivial
theorem PySem.W.Fast.tw5599662438900932799 : True := trivial
theorem PySem.W.Fast.tw10846532665927845184 : True := trivial
theorem PySem.W.Fast.tw387087226956978143 : True := trivial
theorem PySem.W.Fast.tw6071999001182104660 : True := trivial
theorem PySem.W.Fast.tw4596033879791061702 : True := trivial
theorem PySem.W.Fast.tw4115356644393084214 : True := trivial
theorem PySem.W.Fast.tw4513345225777302600 : True := trivial
theorem PySem.W.Fast.tw13224245556678932059 : True := trivial
theorem PySem.W.Fast.tw1226288022219393826 : True := trivial
theorem PySem.W.Fast.tw18386215043386734809 : True := trivial
theorem PySem.W.Fast.tw593840286840930300 : True := trivial
theorem PySem.W.Fast.tw8297680569596115598 : True := trivial
theorem PySem.W.Fast.tw5298141339534448187 : True := trivial
theorem PySem.W.Fast.tw8380813934147302517 : True := trivial
theorem PySem.W.Fast.tw14080803559068301726 : True := trivial
theorem PySem.W.Fast.tw6421040423348349032 : True := trivial
theorem PySem.W.Fast.tw1762898185053867682 : True := trivial
theorem PySem.W.Fast.tw14598586592166718063 : True := trivial
theorem PySem.W.Fast.tw3645832416552723482 : True := trivial
theorem PySem.W.Fast.tw17093238483315787826 : True := trivial
theorem PySem.W.Fast.tw10241451224499575514 : True := trivial
theorem PySem.W.Fast.tw4463061828950730743 : True := trivial
theorem PySem.W.Fast.tw4445582500368469770 : True := trivial
theorem PySem.W.Fast.tw6029406766059389998 : True := trivial
theorem PySem.W.Fast.tw13991698881583369424 : True := trivial
theorem PySem.W.Fast.tw14862343920621960483 : True := trivial
theorem PySem.W.Fast.tw17253666695049919022 : True := trivial
theorem PySem.W.Fast.tw14028584241733367328 : True := trivial
theorem PySem.W.Fast.tw18277651828280920357 : True := trivial
theorem PySem.W.Fast.tw12495631909514806001 : True := trivial
theorem PySem.W.Fast.tw3900129243615097844 : True := trivial
theorem PySem.W.Fast.tw12150011790611081341 : True := trivial
theorem PySem.W.Fast.tw16185300582806911143 : True := trivial
theorem PySem.W.Fast.tw8639670994907708315 : True := trivial
theorem PySem.W.Fast.tw17790330686854791166 : True := trivial
theorem PySem.W.Fast.tw1551079592764099622 : True := trivial
theorem PySem.W.Fast.tw11023643217052908290 : True := trivial
theorem PySem.W.Fast.tw17998655415589143106 : True := trivial
theorem PySem.W.Fast.tw16272916522881873942 : True := trivial
theorem PySem.W.Fast.tw8905524131758003212 : True := trivial
theorem PySem.W.Fast.tw12390580515838708152 : True := trivial
theorem PySem.W.Fast.tw16531439026993334612 : True := trivial
theorem PySem.W.Fast.tw1752402279066898689 : True := trivial
theorem PySem.W.Fast.tw13430702450461316378 : True := trivial
theorem PySem.W.Fast.tw18170569304507067682 : True := trivial
theorem PySem.W.Fast.tw5844626376277665336 : True := trivial
theorem PySem.W.Fast.tw6144198690890499924 : True := trivial
theorem PySem.W.Fast.tw10377902909752956893 : True := trivial
theorem PySem.W.Fast.tw892606559675130713 : True := trivial
theorem PySem.W.Fast.tw4925078418517190013 : True := trivial
theorem PySem.W.Fast.tw13039491735180742293 : True := trivial
theorem PySem.W.Fast.tw499258000664224369 : True := trivial
theorem PySem.W.Fast.tw14141269557133888961 : True := trivial
theorem PySem.W.Fast.tw13604652136387744830 : True := trivial
theorem PySem.W.Fast.tw3427663806516419695 : True := trivial
theorem PySem.W.Fast.tw13348525711057694536 : True := trivial
theorem PySem.W.Fast.tw11104682269628149657 : True := trivial
theorem PySem.W.Fast.tw14836902470531992337 : True := trivial
theorem PySem.W.Fast.tw9410936832609428835 : True := trivial
theorem PySem.W.Fast.tw12587729535304347983 : True := trivial
theorem PySem.W.Fast.tw5260273720181782428 : True := trivial
theorem PySem.W.Fast.tw9197859150685044338 : True := trivial
theorem PySem.W.Fast.tw12602314711951476739 : True := trivial
theorem PySem.W.Fast.tw11880443433935540095 : True := trivial
theorem PySem.W.Fast.tw15052713026061580598 : True := trivial
theorem PySem.W.Fast.tw1629210643902899227 : True := trivial
theorem PySem.W.Fast.tw6591367221497631649 : True := trivial
theorem PySem.W.Fast.tw9777089090172373475 : True := trivial
theorem PySem.W.Fast.tw11506806281686309901 : True := trivial
theorem PySem.W.Fast.tw10090176736004917206 : True := trivial
theorem PySem.W.Fast.tw11971386282215185694 : True := trivial
theorem PySem.W.Fast.tw16372323143954537485 : True := trivial
theorem PySem.W.Fast.tw17020504982178078906 : True := trivial
theorem PySem.W.Fast.tw6303716585135870575 : True := trivial
theorem PySem.W.Fast.tw12222145561654432194 : True := trivial
theorem PySem.W.Fast.tw3860945043697218585 : True := trivial
theorem PySem.W.Fast.tw8455693202106031636 : True := trivial
theorem PySem.W.Fast.tw8327386819929272792 : True := trivial
theorem PySem.W.Fast.tw6692355375755303787 : True := trivial
theorem PySem.W.Fast.tw8380962835320523557 : True := trivial
theorem PySem.W.Fast.tw16937755975341507708 : True := trivial
theorem PySem.W.Fast.tw4702570079107367124 : True := trivial
theorem PySem.W.Fast.tw11133893381264760668 : True := trivial
theorem PySem.W.Fast.tw5956031075818558953 : True := trivial
theorem PySem.W.Fast.tw15546055963433494434 : True := trivial
theorem PySem.W.Fast.tw17316892073760390605 : True := trivial
theorem PySem.W.Fast.tw10771847379454046792 : True := trivial
theorem PySem.W.Fast.tw10455466262124353505 : True := trivial
theorem PySem.W.Fast.tw8905412669707778345 : True := trivial
theorem PySem.W.Fast.tw6016754615785296117 : True := trivial
theorem PySem.W.Fast.tw3582153755042899316 : True := trivial
theorem PySem.W.Fast.tw11353738866022934557 : True := trivial
theorem PySem.W.Fast.tw1311009659962186786 : True := trivial
theorem PySem.W.Fast.tw11684213553946712985 : True := trivial
theorem PySem.W.Fast.tw6361163220826257901 : True := trivial
theorem PySem.W.Fast.tw7359196017668377221 : True := trivial
theorem PySem.W.Fast.tw6780788622904909626 : True := trivial
theorem PySem.W.Fast.tw4643734265891809860 : True := trivial
theorem PySem.W.Fast.tw16824717673238687025 : True := trivial
theorem PySem.W.Fast.tw13060577514112084166 : True := trivial
theorem PySem.W.Fast.tw13303630458019131786 : True := trivial
theorem PySem.W.Fast.tw10284887097246613342 : True := trivial
theorem PySem.W.Fast.tw5304728800071166166 : True := trivial
theorem PySem.W.Fast.tw15364533402953208703 : True := trivial
theorem PySem.W.Fast.tw5926567778042838424 : True := trivial
theorem PySem.W.Fast.tw8380575977324356289 : True := trivial
theorem PySem.W.Fast.tw11463601229125540760 : True := trivial
theorem PySem.W.Fast.tw8315547756970946519 : True := trivial
theorem PySem.W.Fast.tw9974400412066494867 : True := trivial
theorem PySem.W.Fast.tw7856075229569996408 : True := trivial
theorem PySem.W.Fast.tw8374572695663571771 : True := trivial
theorem PySem.W.Fast.tw3901129255492288204 : True := trivial
theorem PySem.W.Fast.tw7436420457573048790 : True := trivial
theorem PySem.W.Fast.tw17695734347947739463 : True := trivial
theorem PySem.W.Fast.tw12894842062032886259 : True := trivial
theorem PySem.W.Fast.tw1059505075613406686 : True := trivial
theorem PySem.W.Fast.tw17644931107100445061 : True := trivial
theorem PySem.W.Fast.tw6977826393043793691 : True := trivial
theorem PySem.W.Fast.tw9783966727855487175 : True := trivial
theorem PySem.W.Fast.tw3300533634403871157 : True := trivial
theorem PySem.W.Fast.tw5007329911648601076 : True := trivial
theorem PySem.W.Fast.tw15166457762814369273 : True := trivial
theorem PySem.W.Fast.tw5096660415651945101 : True := trivial
theorem PySem.W.Fast.tw17083462520641338476 : True := trivial
theorem PySem.W.Fast.tw2613412701547713936 : True := trivial
theorem PySem.W.Fast.tw11921233651326585597 : True := trivial
theorem PySem.W.Fast.tw10676900902056628892 : True := trivial
theorem PySem.W.Fast.tw8511466973794222431 : True := trivial
theorem PySem.W.Fast.tw5241385530753386600 : True := trivial
theorem PySem.W.Fast.tw180833141923525672 : True := trivial
theorem PySem.W.Fast.tw10072258152537023459 : True := trivial
theorem PySem.W.Fast.tw2638165836958357445 : True := trivial
theorem PySem.W.Fast.tw4816422787599874620 : True := trivial
theorem PySem.W.Fast.tw16639338099585255802 : True := trivial
theorem PySem.W.Fast.tw9939851474549312946 : True := trivial
theorem PySem.W.Fast.tw2976059357763112089 : True := trivial
theorem PySem.W.Fast.tw9846543851680034084 : True := trivial
theorem PySem.W.Fast.tw5129551319965813287 : True := trivial
theorem PySem.W.Fast.tw14740979310013523209 : True := trivial
theorem PySem.W.Fast.tw8606062229738274779 : True := trivial
theorem PySem.W.Fast.tw11265322957837445574 : True := trivial
theorem PySem.W.Fast.tw11591784675700446268 : True := trivial
theorem PySem.W.Fast.tw11487141294321088385 : True := trivial
theorem PySem.W.Fast.tw5061410336657507304 : True := trivial
theorem PySem.W.Fast.tw16058356474912128801 : True := trivial
theorem PySem.W.Fast.tw7404799704430598106 : True := trivial
theorem PySem.W.Fast.tw6581108456987153931 : True := trivial
theorem PySem.W.Fast.tw3116624757603679030 : True := trivial
theorem PySem.W.Fast.tw16720142203844726999 : True := trivial
theorem PySem.W.Fast.tw2289557938382881568 : True := trivial
theorem PySem.W.Fast.tw8765760929603782266 : True := trivial
theorem PySem.W.Fast.tw454584242391163892 : True := trivial
theorem PySem.W.Fast.tw7249279467700882513 : True := trivial
theorem PySem.W.Fast.tw10583865454109653169 : True := trivial
theorem PySem.W.Fast.tw9981756132298886097 : True := trivial
theorem PySem.W.Fast.tw2180115980761100055 : True := trivial
theorem PySem.W.Fast.tw11442009077920977933 : True := trivial
theorem PySem.W.Fast.tw619497045026662466 : True := trivial
theorem PySem.W.Fast.tw6178692673200427756 : True := trivial
theorem PySem.W.Fast.tw13568688226139585322 : True := trivial
theorem PySem.W.Fast.tw12264712157343398232 : True := trivial
theorem PySem.W.Fast.tw3940641204079463134 : True := trivial
theorem PySem.W.Fast.tw2138255651791053425 : True := trivial
theorem PySem.W.Fast.tw1290240533760275148 : True := trivial
theorem PySem.W.Fast.tw15467256019534854786 : True := trivial
theorem PySem.W.Fast.tw7880042745569075180 : True := trivial
theorem PySem.W.Fast.tw12627277481579254549 : True := trivial
theorem PySem.W.Fast.tw5416916605299307833 : True := trivial
theorem PySem.W.Fast.tw10999122263637862712 : True := trivial
theorem PySem.W.Fast.tw2221042943554954493 : True := trivial
theorem PySem.W.Fast.tw4685385261350653790 : True := trivial
theorem PySem.W.Fast.tw14364647833266792239 : True := trivial
theorem PySem.W.Fast.tw17079770289885727973 : True := trivial
theorem PySem.W.Fast.tw5195774972209235195 : True := trivial
theorem PySem.W.Fast.tw17091574762139039850 : True := trivial
theorem PySem.W.Fast.tw14601753589036139211 : True := trivial
theorem PySem.W.Fast.tw17985347490706549670 : True := trivial
theorem PySem.W.Fast.tw8825972948981333453 : True := trivial
theorem PySem.W.Fast.tw9080278727002234183 : True := trivial
theorem PySem.W.Fast.tw3148766862765057577 : True := trivial
theorem PySem.W.Fast.tw12606362441001889694 : True := trivial
theorem PySem.W.Fast.tw15658767763005409106 : True := trivial
theorem PySem.W.Fast.tw7636371428535063640 : True := trivial
theorem PySem.W.Fast.tw16153928210897917641 : True := trivial
theorem PySem.W.Fast.tw6439918541338116844 : True := trivial
theorem PySem.W.Fast.tw299441450773188492 : True := trivial
theorem PySem.W.Fast.tw3051365782871652983 : True := trivial
theorem PySem.W.Fast.tw14292203166943984790 : True := trivial
theorem PySem.W.Fast.tw14771796159826838404 : True := trivial
theorem PySem.W.Fast.tw13763280658679481277 : True := trivial
theorem PySem.W.Fast.tw9420088302290772686 : True := trivial
theorem PySem.W.Fast.tw3699472754410977011 : True := trivial
theorem PySem.W.Fast.tw7916788121403728059 : True := trivial
theorem PySem.W.Fast.tw13983243562503281707 : True := trivial
theorem PySem.W.Fast.tw4570935395020873298 : True := trivial
theorem PySem.W.Fast.tw4617696200183925830 : True := trivial
theorem PySem.W.Fast.tw17682658340045536652 : True := trivial
theorem PySem.W.Fast.tw1961841002709528264 : True := trivial
theorem PySem.W.Fast.tw2256298176505325839 : True := trivial
theorem PySem.W.Fast.tw7269572811650878291 : True := trivial
theorem PySem.W.Fast.tw10406220219313905459 : True := trivial
theorem PySem.W.Fast.tw4032348038062989730 : True := trivial
theorem PySem.W.Fast.tw644807723996862403 : True := trivial
theorem PySem.W.Fast.tw6457845211448675011 : True := trivial
theorem PySem.W.Fast.tw18397092213391189735 : True := trivial
theorem PySem.W.Fast.tw16883993313973047205 : True := trivial
theorem PySem.W.Fast.tw3609037426267219647 : True := trivial
theorem PySem.W.Fast.tw16483316969071396435 : True := trivial
theorem PySem.W.Fast.tw6373964553516040746 : True := trivial
theorem PySem.W.Fast.tw4260983151643124123 : True := trivial
theorem PySem.W.Fast.tw9012026457115636895 : True := trivial
theorem PySem.W.Fast.tw2930782464947010050 : True := trivial
theorem PySem.W.Fast.tw6605934286378589473 : True := trivial
theorem PySem.W.Fast.tw13330723471483337045 : True := trivial
theorem PySem.W.Fast.tw15933084094753031259 : True := trivial
theorem PySem.W.Fast.tw16003659165725347126 : True := trivial
theorem PySem.W.Fast.tw643786754183228916 : True := trivial
theorem PySem.W.Fast.tw3720776291452375400 : True := trivial
theorem PySem.W.Fast.tw1567915766612834506 : True := trivial
theorem PySem.W.Fast.tw8204584601400640775 : True := trivial
theorem PySem.W.Fast.tw7335707085211758399 : True := trivial
theorem PySem.W.Fast.tw1330832275303736435 : True := trivial
theorem PySem.W.Fast.tw13934007991591874053 : True := trivial
theorem PySem.W.Fast.tw9016041715548701185 : True := trivial
theorem PySem.W.Fast.tw447784427441548294 : True := trivial
theorem PySem.W.Fast.tw9712659308060169990 : True := trivial
theorem PySem.W.Fast.tw3905431033448458466 : True := trivial
theorem PySem.W.Fast.tw9975287584575417295 : True := trivial
theorem PySem.W.Fast.tw12936437535520416482 : True := trivial
theorem PySem.W.Fast.tw6768540589456910222 : True := trivial
theorem PySem.W.Fast.tw16479142721859025176 : True := trivial
theorem PySem.W.Fast.tw17347288609368950502 : True := trivial
theorem PySem.W.Fast.tw11691839004911399097 : True := trivial
theorem PySem.W.Fast.tw11348401743508755823 : True := trivial
theorem PySem.W.Fast.tw18170020074432442293 : True := trivial
theorem PySem.W.Fast.tw9001980018754983767 : True := trivial
theorem PySem.W.Fast.tw6634699401319953231 : True := trivial
theorem PySem.W.Fast.tw6445793604333840357 : True := trivial
theorem PySem.W.Fast.tw614457248881421811 : True := trivial
theorem PySem.W.Fast.tw15146951492942484993 : True := trivial
theorem PySem.W.Fast.tw8372373220589813448 : True := trivial
theorem PySem.W.Fast.tw15983226178290451368 : True := trivial
theorem PySem.W.Fast.tw10490785215726625914 : True := trivial
theorem PySem.W.Fast.tw1820698297797601806 : True := trivial
theorem PySem.W.Fast.tw13715629302306447387 : True := trivial
theorem PySem.W.Fast.tw10123092244091841714 : True := trivial
theorem PySem.W.Fast.tw10185866747163636389 : True := trivial
theorem PySem.W.Fast.tw10705645166765685560 : True := trivial
theorem PySem.W.Fast.tw9820835947238778719 : True := trivial
theorem PySem.W.Fast.tw14814241033533565976 : True := trivial
theorem PySem.W.Fast.tw12857965380135576062 : True := trivial
theorem PySem.W.Fast.tw3295150428337079993 : True := trivial
theorem PySem.W.Fast.tw1246401997019728815 : True := trivial
theorem PySem.W.Fast.tw15904262588239016759 : True := trivial
theorem PySem.W.Fast.tw713008381368244276 : True := trivial
theorem PySem.W.Fast.tw2245530222920955363 : True := trivial
theorem PySem.W.Fast.tw8575643573247488808 : True := trivial
theorem PySem.W.Fast.tw17654047091112377818 : True := trivial
theorem PySem.W.Fast.tw11690637227855858234 : True := trivial
theorem PySem.W.Fast.tw4931429906041907401 : True := trivial
theorem PySem.W.Fast.tw13000650230443885992 : True := trivial
theorem PySem.W.Fast.tw16310961082964396730 : True := trivial
theorem PySem.W.Fast.tw9104329933422163394 : True := trivial
theorem PySem.W.Fast.tw17899792850312263463 : True := trivial
theorem PySem.W.Fast.tw11809075190306440055 : True := trivial
theorem PySem.W.Fast.tw17459452432919007242 : True := trivial
theorem PySem.W.Fast.tw11953129830750166198 : True := trivial
theorem PySem.W.Fast.tw2898318278695599300 : True := trivial
theorem PySem.W.Fast.tw1909594803607691766 : True := trivial
theorem PySem.W.Fast.tw13432681220542491298 : True := trivial
theorem PySem.W.Fast.tw3423831690405119923 : True := trivial
theorem PySem.W.Fast.tw203517582022940187 : True := trivial
theorem PySem.W.Fast.tw12363049832903301385 : True := trivial
theorem PySem.W.Fast.tw5735975185236749359 : True := trivial
theorem PySem.W.Fast.tw15500946756416663892 : True := trivial
theorem PySem.W.Fast.tw3399409908765664088 : True := trivial
theorem PySem.W.Fast.tw9161004681727980796 : True := trivial
theorem PySem.W.Fast.tw3868850278807468112 : True := trivial
theorem PySem.W.Fast.tw12414212245619523297 : True := trivial
theorem PySem.W.Fast.tw16375120460524541671 : True := trivial
theorem PySem.W.Fast.tw3331469554651004926 : True := trivial
theorem PySem.W.Fast.tw7042379495101190585 : True := trivial
theorem PySem.W.Fast.tw11569126200244642476 : True := trivial
theorem PySem.W.Fast.tw14603836533295999194 : True := trivial
theorem PySem.W.Fast.tw18231675738575427001 : True := trivial
theorem PySem.W.Fast.tw12819561068234716357 : True := trivial
theorem PySem.W.Fast.tw15252065971423742182 : True := trivial
theorem PySem.W.Fast.tw15909625228314471604 : True := trivial
theorem PySem.W.Fast.tw3280062531372780049 : True := trivial
theorem PySem.W.Fast.tw927956920026344694 : True := trivial
theorem PySem.W.Fast.tw7277487222061009532 : True := trivial
theorem PySem.W.Fast.tw7124942809342155717 : True := trivial
theorem PySem.W.Fast.tw6499864215341560818 : True := trivial
theorem PySem.W.Fast.tw7230080913708248432 : True := trivial
theorem PySem.W.Fast.tw7302882948272123075 : True := trivial
theorem PySem.W.Fast.tw15676441794520381493 : True := trivial
theorem PySem.W.Fast.tw14445080044801293743 : True := trivial
theorem PySem.W.Fast.tw12660260155735507595 : True := trivial
theorem PySem.W.Fast.tw6948479302666718001 : True := trivial
theorem PySem.W.Fast.tw16990328806452461664 : True := trivial
theorem PySem.W.Fast.tw18335651281657510618 : True := trivial
theorem PySem.W.Fast.tw8707933868857855168 : True := trivial
theorem PySem.W.Fast.tw18184076769130344324 : True := trivial
theorem PySem.W.Fast.tw17142353571072457314 : True := trivial
theorem PySem.W.Fast.tw2403563905746653267 : True := trivial
theorem PySem.W.Fast.tw17900442335118759642 : True := trivial
theorem PySem.W.Fast.tw10964034309956088090 : True := trivial
theorem PySem.W.Fast.tw13294480960318934610 : True := trivial
theorem PySem.W.Fast.tw6415726435355844419 : True := trivial
theorem PySem.W.Fast.tw12927662692576567959 : True := trivial
theorem PySem.W.Fast.tw2565751962008050958 : True := trivial
theorem PySem.W.Fast.tw11899233979024227181 : True := trivial
theorem PySem.W.Fast.tw14313838581005159680 : True := trivial
theorem PySem.W.Fast.tw8168584276900651383 : True := trivial
theorem PySem.W.Fast.tw11442691633946107068 : True := trivial
theorem PySem.W.Fast.tw13038568962983938881 : True := trivial
theorem PySem.W.Fast.tw2589334725801663680 : True := trivial
theorem PySem.W.Fast.tw17851510417141011883 : True := trivial
theorem PySem.W.Fast.tw2764948073532688324 : True := trivial
theorem PySem.W.Fast.tw3763504264819057723 : True := trivial
theorem PySem.W.Fast.tw16535795261401195897 : True := trivial
theorem PySem.W.Fast.tw6525336331275356477 : True := trivial
theorem PySem.W.Fast.tw9951288692010909146 : True := trivial
theorem PySem.W.Fast.tw14199696017051381381 : True := trivial
theorem PySem.W.Fast.tw1601294412639857195 : True := trivial
theorem PySem.W.Fast.tw6080709402025640852 : True := trivial
theorem PySem.W.Fast.tw1970458246580190063 : True := trivial
theorem PySem.W.Fast.tw13282368054256048495 : True := trivial
theorem PySem.W.Fast.tw5364717506872894015 : True := trivial
theorem PySem.W.Fast.tw6597928980463606198 : True := trivial
theorem PySem.W.Fast.tw5862696265627207206 : True := trivial
theorem PySem.W.Fast.tw8114309069278794046 : True := trivial
theorem PySem.W.Fast.tw12767862644387196654 : True := trivial
theorem PySem.W.Fast.tw6987765600557015310 : True := trivial
theorem PySem.W.Fast.tw5283647793273539858 : True := trivial
theorem PySem.W.Fast.tw5261876576009814566 : True := trivial
theorem PySem.W.Fast.tw9625032769274376759 : True := trivial
theorem PySem.W.Fast.tw4746041443458837939 : True := trivial
theorem PySem.W.Fast.tw14520996524678015704 : True := trivial
theorem PySem.W.Fast.tw8353099904406787529 : True := trivial
theorem PySem.W.Fast.tw14720432583163901945 : True := trivial
theorem PySem.W.Fast.tw2765519373952954284 : True := trivial
theorem PySem.W.Fast.tw11526789291809879567 : True := trivial
theorem PySem.W.Fast.tw3906127576312485334 : True := trivial
theorem PySem.W.Fast.tw5810405412633138236 : True := trivial
theorem PySem.W.Fast.tw15366183801379947899 : True := trivial
theorem PySem.W.Fast.tw2344635062976977380 : True := trivial
theorem PySem.W.Fast.tw5808277627567762885 : True := trivial
theorem PySem.W.Fast.tw2199845551142938654 : True := trivial
theorem PySem.W.Fast.tw105192168290168860 : True := trivial
theorem PySem.W.Fast.tw12693125883885798241 : True := trivial
theorem PySem.W.Fast.tw11888466564604409281 : True := trivial
theorem PySem.W.Fast.tw7004226449301826180 : True := trivial
theorem PySem.W.Fast.tw856527694147886791 : True := trivial
theorem PySem.W.Fast.tw15925758985967830270 : True := trivial
theorem PySem.W.Fast.tw10653081394052552164 : True := trivial
theorem PySem.W.Fast.tw6202428566715370619 : True := trivial
theorem PySem.W.Fast.tw7792830303694542384 : True := trivial
theorem PySem.W.Fast.tw17586307432505408935 : True := trivial
theorem PySem.W.Fast.tw12426051467411223298 : True := trivial
theorem PySem.W.Fast.tw4122451434269169774 : True := trivial
theorem PySem.W.Fast.tw7948396326898150565 : True := trivial
theorem PySem.W.Fast.tw14400560906385866319 : True := trivial
theorem PySem.W.Fast.tw12415982384238241445 : True := trivial
theorem PySem.W.Fast.tw10862399894660917963 : True := trivial
theorem PySem.W.Fast.tw8296571069431679521 : True := trivial
theorem PySem.W.Fast.tw14784238117622511699 : True := trivial
theorem PySem.W.Fast.tw7325860415956479948 : True := trivial
theorem PySem.W.Fast.tw11377722912692066665 : True := trivial
theorem PySem.W.Fast.tw11081618960118478203 : True := trivial
theorem PySem.W.Fast.tw12490130103014896310 : True := trivial
theorem PySem.W.Fast.tw7520928732096154667 : True := trivial
theorem PySem.W.Fast.tw4951565117097942804 : True := trivial
theorem PySem.W.Fast.tw359705145484154653 : True := trivial
theorem PySem.W.Fast.tw6399561861757279943 : True := trivial
theorem PySem.W.Fast.tw12119823070935140340 : True := trivial
theorem PySem.W.Fast.tw9039528322815528191 : True := trivial
theorem PySem.W.Fast.tw13375475191345280247 : True := trivial
theorem PySem.W.Fast.tw17349407954879299802 : True := trivial
theorem PySem.W.Fast.tw4135989076504968983 : True := trivial
theorem PySem.W.Fast.tw1740730203109798442 : True := trivial
theorem PySem.W.Fast.tw7093342714866671616 : True := trivial
theorem PySem.W.Fast.tw14771330419189882102 : True := trivial
theorem PySem.W.Fast.tw7111384302827442043 : True := trivial
theorem PySem.W.Fast.tw10638990938835179091 : True := trivial
theorem PySem.W.Fast.tw4842371945078710093 : True := trivial
theorem PySem.W.Fast.tw8765711264644956676 : True := trivial
theorem PySem.W.Fast.tw15822151569763547010 : True := trivial
theorem PySem.W.Fast.tw2773349697657652421 : True := trivial
theorem PySem.W.Fast.tw15544817229086682070 : True := trivial
theorem PySem.W.Fast.tw12543364002302984947 : True := trivial
theorem PySem.W.Fast.tw17810490984358993781 : True := trivial
theorem PySem.W.Fast.tw5265431455345380987 : True := trivial
theorem PySem.W.Fast.tw16524356202116328442 : True := trivial
theorem PySem.W.Fast.tw5581935936600966338 : True := trivial
theorem PySem.W.Fast.tw1300626352964192585 : True := trivial
theorem PySem.W.Fast.tw6506536577788818709 : True := trivial
theorem PySem.W.Fast.tw2021896036970061823 : True := trivial
theorem PySem.W.Fast.tw4949974239850840888 : True := trivial
theorem PySem.W.Fast.tw1895557075214052409 : True := trivial
theorem PySem.W.Fast.tw15366241742589743895 : True := trivial
theorem PySem.W.Fast.tw15125040478218002266 : True := trivial
theorem PySem.W.Fast.tw16402660528096475801 : True := trivial
theorem PySem.W.Fast.tw13980987982599144485 : True := trivial
theorem PySem.W.Fast.tw13631858707043580777 : True := trivial
theorem PySem.W.Fast.tw3597756173683309894 : True := trivial
theorem PySem.W.Fast.tw8987013691919867705 : True := trivial
theorem PySem.W.Fast.tw15298888558949936147 : True := trivial
theorem PySem.W.Fast.tw8041394918179331656 : True := trivial
theorem PySem.W.Fast.tw12416410505325474835 : True := trivial
theorem PySem.W.Fast.tw12910557380003198264 : True := trivial
theorem PySem.W.Fast.tw14340875439986319355 : True := trivial
theorem PySem.W.Fast.tw5022585805710248100 : True := trivial
theorem PySem.W.Fast.tw1948411822260291048 : True := trivial
theorem PySem.W.Fast.tw15274687009291647755 : True := trivial
theorem PySem.W.Fast.tw2605133975159812931 : True := trivial
theorem PySem.W.Fast.tw17417328707240190646 : True := trivial
theorem PySem.W.Fast.tw10294120754889665264 : True := trivial
theorem PySem.W.Fast.tw17190095951669650904 : True := trivial
theorem PySem.W.Fast.tw7309872445769756178 : True := trivial
theorem PySem.W.Fast.tw5597366461098200168 : True := trivial
theorem PySem.W.Fast.tw18093081174247209304 : True := trivial
theorem PySem.W.Fast.tw15391766414511060372 : True := trivial
theorem PySem.W.Fast.tw4132630306640841688 : True := trivial
theorem PySem.W.Fast.tw17872278658243664644 : True := trivial
theorem PySem.W.Fast.tw10113352004696952010 : True := trivial
theorem PySem.W.Fast.tw8608861819479059718 : True := trivial
theorem PySem.W.Fast.tw12374715342161608259 : True := trivial
theorem PySem.W.Fast.tw17960352680208690298 : True := trivial
theorem PySem.W.Fast.tw7793063287613022649 : True := trivial
theorem PySem.W.Fast.tw18036582445431431469 : True := trivial
theorem PySem.W.Fast.tw11334737235283877098 : True := trivial
theorem PySem.W.Fast.tw3004798477268453470 : True := trivial
theorem PySem.W.Fast.tw154271955096533833 : True := trivial
theorem PySem.W.Fast.tw3727354215929893662 : True := trivial
theorem PySem.W.Fast.tw14120276393439880946 : True := trivial
theorem PySem.W.Fast.tw10177760229388131975 : True := trivial
theorem PySem.W.Fast.tw14065509011005337106 : True := trivial
theorem PySem.W.Fast.tw17942943789316497992 : True := trivial
theorem PySem.W.Fast.tw7811541119314811227 : True := trivial
theorem PySem.W.Fast.tw833189723672350780 : True := trivial
theorem PySem.W.Fast.tw9521456128699963730 : True := trivial
theorem PySem.W.Fast.tw16695059037995738780 : True := trivial
theorem PySem.W.Fast.tw5565792927742367429 : True := trivial
theorem PySem.W.Fast.tw10071003202678624954 : True := trivial
theorem PySem.W.Fast.tw8160371633169035046 : True := trivial
theorem PySem.W.Fast.tw3762194645987714770 : True := trivial
theorem PySem.W.Fast.tw7677465511784773228 : True := trivial
theorem PySem.W.Fast.tw15671640995139704390 : True := trivial
theorem PySem.W.Fast.tw9130325452570984140 : True := trivial
theorem PySem.W.Fast.tw11010913744205087577 : True := trivial
theorem PySem.W.Fast.tw2305710842175674224 : True := trivial
theorem PySem.W.Fast.tw1716259859785005291 : True := trivial
theorem PySem.W.Fast.tw14761240920137186719 : True := trivial
theorem PySem.W.Fast.tw17325701115589569230 : True := trivial
theorem PySem.W.Fast.tw3477766892391304632 : True := trivial
theorem PySem.W.Fast.tw8140686717403863045 : True := trivial
theorem PySem.W.Fast.tw12487984545391089674 : True := trivial
theorem PySem.W.Fast.tw3990256323648356048 : True := trivial
theorem PySem.W.Fast.tw7477461057296779449 : True := trivial
theorem PySem.W.Fast.tw3849050525161937473 : True := trivial
theorem PySem.W.Fast.tw13900013717659994848 : True := trivial
theorem PySem.W.Fast.tw17606193662961421654 : True := trivial
theorem PySem.W.Fast.tw11039368446704548014 : True := trivial
theorem PySem.W.Fast.tw17155208964330500444 : True := trivial
theorem PySem.W.Fast.tw17042735502013286714 : True := trivial
theorem PySem.W.Fast.tw3837857917808876199 : True := trivial
theorem PySem.W.Fast.tw644257156452424699 : True := trivial
theorem PySem.W.Fast.tw14748751369315875545 : True := trivial
theorem PySem.W.Fast.tw13988677086783486303 : True := trivial
theorem PySem.W.Fast.tw13084268460829920521 : True := trivial
theorem PySem.W.Fast.tw4991679782291826226 : True := trivial
theorem PySem.W.Fast.tw5124238190341918619 : True := trivial
theorem PySem.W.Fast.tw7123143079578046971 : True := trivial
theorem PySem.W.Fast.tw5575199719317761902 : True := trivial
theorem PySem.W.Fast.tw843089052234028590 : True := trivial
theorem PySem.W.Fast.tw12031243307507674247 : True := trivial
theorem PySem.W.Fast.tw1136263642878892606 : True := trivial
theorem PySem.W.Fast.tw4345041562943323591 : True := trivial
theorem PySem.W.Fast.tw8701530385152598257 : True := trivial
theorem PySem.W.Fast.tw2511845065978583097 : True := trivial
theorem PySem.W.Fast.tw11581238370414412679 : True := trivial
theorem PySem.W.Fast.tw7891921814821894320 : True := trivial
theorem PySem.W.Fast.tw1302675552613700322 : True := trivial
theorem PySem.W.Fast.tw16261295325743042635 : True := trivial
theorem PySem.W.Fast.tw2423948423336020470 : True := trivial
theorem PySem.W.Fast.tw8443784507809978651 : True := trivial
theorem PySem.W.Fast.tw12934826078219573711 : True := trivial
theorem PySem.W.Fast.tw5701875991870293370 : True := trivial
theorem PySem.W.Fast.tw8928981598498403966 : True := trivial
theorem PySem.W.Fast.tw9691772101205836185 : True := trivial
theorem PySem.W.Fast.tw6142462606741027713 : True := trivial
theorem PySem.W.Fast.tw13987448070818071528 : True := trivial
theorem PySem.W.Fast.tw9100312412756575927 : True := trivial
theorem PySem.W.Fast.tw8717144332567232974 : True := trivial
theorem PySem.W.Fast.tw12847334936008032496 : True := trivial
theorem PySem.W.Fast.tw15290473226185988469 : True := trivial
theorem PySem.W.Fast.tw14440515881603133496 : True := trivial
theorem PySem.W.Fast.tw15322649258271592772 : True := trivial
theorem PySem.W.Fast.tw12086290933103449626 : True := trivial
theorem PySem.W.Fast.tw13018792807641311447 : True := trivial
theorem PySem.W.Fast.tw7914385223272488078 : True := trivial
theorem PySem.W.Fast.tw11079895336451740280 : True := trivial
theorem PySem.W.Fast.tw1870498742307866527 : True := trivial
theorem PySem.W.Fast.tw8433022536924087512 : True := trivial
theorem PySem.W.Fast.tw9411678874040101644 : True := trivial
theorem PySem.W.Fast.tw18070459542493313175 : True := trivial
theorem PySem.W.Fast.tw2975570263576090875 : True := trivial
theorem PySem.W.Fast.tw8470805313836533991 : True := trivial
theorem PySem.W.Fast.tw4007816224586045032 : True := trivial
theorem PySem.W.Fast.tw17049891794762145432 : True := trivial
theorem PySem.W.Fast.tw609316902392208451 : True := trivial
theorem PySem.W.Fast.tw9979866826713562966 : True := trivial
theorem PySem.W.Fast.tw14634965340378796395 : True := trivial
theorem PySem.W.Fast.tw14267044925775031227 : True := trivial
theorem PySem.W.Fast.tw17034491047241057545 : True := trivial
theorem PySem.W.Fast.tw7721969454028498521 : True := trivial
theorem PySem.W.Fast.tw1951550693466595050 : True := trivial
theorem PySem.W.Fast.tw10519947068158724382 : True := trivial
theorem PySem.W.Fast.tw2160253789543485635 : True := trivial
theorem PySem.W.Fast.tw9770644348395851673 : True := trivial
theorem PySem.W.Fast.tw4046036728807219424 : True := trivial
theorem PySem.W.Fast.tw14888077838767485727 : True := trivial
theorem PySem.W.Fast.tw8774619878604323879 : True := trivial
theorem PySem.W.Fast.tw626813423091657273 : True := trivial
theorem PySem.W.Fast.tw13349545906141192696 : True := trivial
theorem PySem.W.Fast.tw3583065000755547327 : True := trivial
theorem PySem.W.Fast.tw5575158597112581094 : True := trivial
theorem PySem.W.Fast.tw3860667957521547604 : True := trivial
theorem PySem.W.Fast.tw674424523184029830 : True := trivial
theorem PySem.W.Fast.tw10445434253041213064 : True := trivial
theorem PySem.W.Fast.tw35819352440011813 : True := trivial
theorem PySem.W.Fast.tw4409176129550096637 : True := trivial
theorem PySem.W.Fast.tw7947003794613980515 : True := trivial
theorem PySem.W.Fast.tw10673910271987900223 : True := trivial
theorem PySem.W.Fast.tw8042223338852897325 : True := trivial
theorem PySem.W.Fast.tw10418958913309607923 : True := trivial
theorem PySem.W.Fast.tw12986965885220208064 : True := trivial
theorem PySem.W.Fast.tw6194882983083101462 : True := trivial
theorem PySem.W.Fast.tw12338011057992123893 : True := trivial
theorem PySem.W.Fast.tw15280859120010767391 : True := trivial
theorem PySem.W.Fast.tw12737339690764536623 : True := trivial
theorem PySem.W.Fast.tw16763055920095588482 : True := trivial
theorem PySem.W.Fast.tw8993967486701863307 : True := trivial
theorem PySem.W.Fast.tw1539981692862940525 : True := trivial
theorem PySem.W.Fast.tw7895053054088691488 : True := trivial
theorem PySem.W.Fast.tw2137509258920055653 : True := trivial
theorem PySem.W.Fast.tw18227704159896734678 : True := trivial
theorem PySem.W.Fast.tw15576437583434102627 : True := trivial
theorem PySem.W.Fast.tw15457570944886386384 : True := trivial
theorem PySem.W.Fast.tw6668584485688132001 : True := trivial
theorem PySem.W.Fast.tw4834389236954810336 : True := trivial
theorem PySem.W.Fast.tw9484127127320476292 : True := trivial
theorem PySem.W.Fast.tw6331102977382809461 : True := trivial
theorem PySem.W.Fast.tw8584547109475550413 : True := trivial
theorem PySem.W.Fast.tw7694551288927599050 : True := trivial
theorem PySem.W.Fast.tw6886669017639804402 : True := trivial
theorem PySem.W.Fast.tw17532529962652007071 : True := trivial
theorem PySem.W.Fast.tw2668450040623998589 : True := trivial
theorem PySem.W.Fast.tw16547464096303684716 : True := trivial
theorem PySem.W.Fast.tw16269591915777535499 : True := trivial
theorem PySem.W.Fast.tw15497250459631738983 : True := trivial
theorem PySem.W.Fast.tw17725039458563138846 : True := trivial
theorem PySem.W.Fast.tw17789757380370885651 : True := trivial
theorem PySem.W.Fast.tw11113578698799397240 : True := trivial
theorem PySem.W.Fast.tw3644109116785142470 : True := trivial
theorem PySem.W.Fast.tw8883982183662261289 : True := trivial
theorem PySem.W.Fast.tw9624586606206137497 : True := trivial
theorem PySem.W.Fast.tw15841611629305941683 : True := trivial
theorem PySem.W.Fast.tw9350418505703492852 : True := trivial
theorem PySem.W.Fast.tw12519506254402049635 : True := trivial
theorem PySem.W.Fast.tw2108986017091775729 : True := trivial
theorem PySem.W.Fast.tw9753017146500368762 : True := trivial
theorem PySem.W.Fast.tw17795310717933334023 : True := trivial
theorem PySem.W.Fast.tw16930713848968554947 : True := trivial
theorem PySem.W.Fast.tw11713372917959603970 : True := trivial
theorem PySem.W.Fast.tw1897165196617536262 : True := trivial
theorem PySem.W.Fast.tw6078143358470042360 : True := trivial
theorem PySem.W.Fast.tw11130956291340364586 : True := trivial
theorem PySem.W.Fast.tw2792189021296221070 : True := trivial
theorem PySem.W.Fast.tw6530116607006457768 : True := trivial
theorem PySem.W.Fast.tw17922220078638192333 : True := trivial
theorem PySem.W.Fast.tw9309336162212335520 : True := trivial
theorem PySem.W.Fast.tw18090708636811095422 : True := trivial
theorem PySem.W.Fast.tw98357321648648040 : True := trivial
theorem PySem.W.Fast.tw5709622070048831326 : True := trivial
theorem PySem.W.Fast.tw2061754723412682856 : True := trivial
theorem PySem.W.Fast.tw7041554501796166713 : True := trivial
theorem PySem.W.Fast.tw799628313543391347 : True := trivial
theorem PySem.W.Fast.tw7658504985096154833 : True := trivial
theorem PySem.W.Fast.tw8263537887488433592 : True := trivial
theorem PySem.W.Fast.tw3026782013189878836 : True := trivial
theorem PySem.W.Fast.tw13694806974286958093 : True := trivial
theorem PySem.W.Fast.tw2146033238702684163 : True := trivial
theorem PySem.W.Fast.tw15318036252756097445 : True := trivial
theorem PySem.W.Fast.tw12234009384633781499 : True := trivial
theorem PySem.W.Fast.tw2189236613258943666 : True := trivial
theorem PySem.W.Fast.tw8849505478610345666 : True := trivial
theorem PySem.W.Fast.tw7713740387812383472 : True := trivial
theorem PySem.W.Fast.tw14163729253613830563 : True := trivial
theorem PySem.W.Fast.tw578770598242132586 : True := trivial
theorem PySem.W.Fast.tw1704638810816264968 : True := trivial
theorem PySem.W.Fast.tw18051594815536043353 : True := trivial
theorem PySem.W.Fast.tw17381540935359433212 : True := trivial
theorem PySem.W.Fast.tw5196705811973735753 : True := trivial
theorem PySem.W.Fast.tw7852696401180041785 : True := trivial
theorem PySem.W.Fast.tw2384236499692913736 : True := trivial
theorem PySem.W.Fast.tw12010840742594707542 : True := trivial
theorem PySem.W.Fast.tw13583116353632789060 : True := trivial
theorem PySem.W.Fast.tw17269051040065476001 : True := trivial
theorem PySem.W.Fast.tw774195787800804314 : True := trivial
theorem PySem.W.Fast.tw11824884289879775050 : True := trivial
theorem PySem.W.Fast.tw3293572013033140153 : True := trivial
theorem PySem.W.Fast.tw16870022836131320140 : True := trivial
theorem PySem.W.Fast.tw4980808922663547158 : True := trivial
theorem PySem.W.Fast.tw3647411961909869753 : True := trivial
theorem PySem.W.Fast.tw14018552242954891192 : True := trivial
theorem PySem.W.Fast.tw12510548288784035656 : True := trivial
theorem PySem.W.Fast.tw15887653899840829139 : True := trivial
theorem PySem.W.Fast.tw10347841336931532247 : True := trivial
theorem PySem.W.Fast.tw8193030747458371277 : True := trivial
theorem PySem.W.Fast.tw7937068440084858407 : True := trivial
theorem PySem.W.Fast.tw5634926512969660431 : True := trivial
theorem PySem.W.Fast.tw890410423713551600 : True := trivial
theorem PySem.W.Fast.tw10791657201615666791 : True := trivial
theorem PySem.W.Fast.tw17954667694420936506 : True := trivial
theorem PySem.W.Fast.tw13053114521457831522 : True := trivial
theorem PySem.W.Fast.tw14362660061517750425 : True := trivial
theorem PySem.W.Fast.tw15903449272924671583 : True := trivial
theorem PySem.W.Fast.tw99808507996046065 : True := trivial
theorem PySem.W.Fast.tw2320950638289744829 : True := trivial
theorem PySem.W.Fast.tw6104478394470971421 : True := trivial
theorem PySem.W.Fast.tw14306495798176669599 : True := trivial
theorem PySem.W.Fast.tw6909211595017724695 : True := trivial
theorem PySem.W.Fast.tw5200630487142292680 : True := trivial
theorem PySem.W.Fast.tw4573137559296451718 : True := trivial
theorem PySem.W.Fast.tw14510243414715206628 : True := trivial
theorem PySem.W.Fast.tw10924281653905786148 : True := trivial
theorem PySem.W.Fast.tw10828089891196530420 : True := trivial
theorem PySem.W.Fast.tw15362560225886929306 : True := trivial
theorem PySem.W.Fast.tw2618357757478149125 : True := trivial
theorem PySem.W.Fast.tw16419198483638131828 : True := trivial
theorem PySem.W.Fast.tw6636951667748526024 : True := trivial
theorem PySem.W.Fast.tw3069524013842318877 : True := trivial
theorem PySem.W.Fast.tw6049617137894116945 : True := trivial
theorem PySem.W.Fast.tw18013802895396071408 : True := trivial
theorem PySem.W.Fast.tw15772446076122758768 : True := trivial
theorem PySem.W.Fast.tw13169297879008839762 : True := trivial
theorem PySem.W.Fast.tw4135824414966474832 : True := trivial
theorem PySem.W.Fast.tw10872461153374754241 : True := trivial
theorem PySem.W.Fast.tw9781760204238874140 : True := trivial
theorem PySem.W.Fast.tw6479582068190638463 : True := trivial
theorem PySem.W.Fast.tw441474566286807558 : True := trivial
theorem PySem.W.Fast.tw14177097846609823780 : True := trivial
theorem PySem.W.Fast.tw7689374267566606752 : True := trivial
theorem PySem.W.Fast.tw4119156254580546428 : True := trivial
theorem PySem.W.Fast.tw12502192019210266882 : True := trivial
theorem PySem.W.Fast.tw15434925968636729791 : True := trivial
theorem PySem.W.Fast.tw10646001143865736965 : True := trivial
theorem PySem.W.Fast.tw254130540123314481 : True := trivial
theorem PySem.W.Fast.tw4201957385906365187 : True := trivial
theorem PySem.W.Fast.tw6043714359322003635 : True := trivial
theorem PySem.W.Fast.tw15209103177434766906 : True := trivial
theorem PySem.W.Fast.tw898693074212767328 : True := trivial
theorem PySem.W.Fast.tw654957302458053016 : True := trivial
theorem PySem.W.Fast.tw7665526768320060664 : True := trivial
theorem PySem.W.Fast.tw12897503612579140422 : True := trivial
theorem PySem.W.Fast.tw16051692635800084236 : True := trivial
theorem PySem.W.Fast.tw11161526091332123754 : True := trivial
theorem PySem.W.Fast.tw13562027900726868657 : True := trivial
theorem PySem.W.Fast.tw11603498695312815851 : True := trivial
theorem PySem.W.Fast.tw2878383120763920055 : True := trivial
theorem PySem.W.Fast.tw17747465495336806866 : True := trivial
theorem PySem.W.Fast.tw14121653208738675709 : True := trivial
theorem PySem.W.Fast.tw1428226444475177728 : True := trivial
theorem PySem.W.Fast.tw1197956987236943892 : True := trivial
theorem PySem.W.Fast.tw1857122319903240286 : True := trivial
theorem PySem.W.Fast.tw14806312647157543438 : True := trivial
theorem PySem.W.Fast.tw12436413920246300325 : True := trivial
theorem PySem.W.Fast.tw11872490920961467710 : True := trivial
theorem PySem.W.Fast.tw2887559757181758818 : True := trivial
theorem PySem.W.Fast.tw17574385285063540107 : True := trivial
theorem PySem.W.Fast.tw5656869980767530504 : True := trivial
theorem PySem.W.Fast.tw15309335489698733642 : True := trivial
theorem PySem.W.Fast.tw17435276983677201712 : True := trivial
theorem PySem.W.Fast.tw4904879070972996163 : True := trivial
theorem PySem.W.Fast.tw16859061718193291694 : True := trivial
theorem PySem.W.Fast.tw11039029600165278202 : True := trivial
theorem PySem.W.Fast.tw2680306432520251862 : True := trivial
theorem PySem.W.Fast.tw15294162600919225651 : True := trivial
theorem PySem.W.Fast.tw3003763210790745253 : True := trivial
theorem PySem.W.Fast.tw17408357148419513010 : True := trivial
theorem PySem.W.Fast.tw5446140303184756903 : True := trivial
theorem PySem.W.Fast.tw10158355559782639083 : True := trivial
theorem PySem.W.Fast.tw15507238410640504376 : True := trivial
theorem PySem.W.Fast.tw309714196326297717 : True := trivial
theorem PySem.W.Fast.tw9914463177163101533 : True := trivial
theorem PySem.W.Fast.tw15716841104217125398 : True := trivial
theorem PySem.W.Fast.tw13091088909863955731 : True := trivial
theorem PySem.W.Fast.tw15591645879175884644 : True := trivial
theorem PySem.W.Fast.tw4411094581328075373 : True := trivial
theorem PySem.W.Fast.tw1479085380364846421 : True := trivial
theorem PySem.W.Fast.tw10267526307013147300 : True := trivial
theorem PySem.W.Fast.tw14137678512273403247 : True := trivial
theorem PySem.W.Fast.tw11857655997183284557 : True := trivial
theorem PySem.W.Fast.tw11399284214856148585 : True := trivial
theorem PySem.W.Fast.tw3961760650320738895 : True := trivial
theorem PySem.W.Fast.tw6351951173846865239 : True := trivial
theorem PySem.W.Fast.tw1244341410763900360 : True := trivial
theorem PySem.W.Fast.tw5553459020924741696 : True := trivial
theorem PySem.W.Fast.tw12455203570667407131 : True := trivial
theorem PySem.W.Fast.tw9157436732975590811 : True := trivial
theorem PySem.W.Fast.tw9921911371473434061 : True := trivial
theorem PySem.W.Fast.tw3698369716327484844 : True := trivial
theorem PySem.W.Fast.tw17189590490738197226 : True := trivial
theorem PySem.W.Fast.tw7126304564398033593 : True := trivial
theorem PySem.W.Fast.tw15653347936170986317 : True := trivial
theorem PySem.W.Fast.tw3872386526266126655 : True := trivial
theorem PySem.W.Fast.tw579725327608277496 : True := trivial
theorem PySem.W.Fast.tw6375161707580001783 : True := trivial
theorem PySem.W.Fast.tw9024711502820096120 : True := trivial
theorem PySem.W.Fast.tw270046062801824526 : True := trivial
theorem PySem.W.Fast.tw2949332289185065618 : True := trivial
theorem PySem.W.Fast.tw8331433678613291712 : True := trivial
theorem PySem.W.Fast.tw13477601187766481198 : True := trivial
theorem PySem.W.Fast.tw8785672792005131790 : True := trivial
theorem PySem.W.Fast.tw14000268621600014373 : True := trivial
theorem PySem.W.Fast.tw7457848677970249372 : True := trivial
theorem PySem.W.Fast.tw9203736495771477480 : True := trivial
theorem PySem.W.Fast.tw14405412252242269307 : True := trivial
theorem PySem.W.Fast.tw12706971570618195230 : True := trivial
theorem PySem.W.Fast.tw18164954097641767754 : True := trivial
theorem PySem.W.Fast.tw8028953533536506944 : True := trivial
theorem PySem.W.Fast.tw17031046106266606843 : True := trivial
theorem PySem.W.Fast.tw740300231987067531 : True := trivial
theorem PySem.W.Fast.tw5715198474862330112 : True := trivial
theorem PySem.W.Fast.tw15949702541757763852 : True := trivial
theorem PySem.W.Fast.tw6616214465223057334 : True := trivial
theorem PySem.W.Fast.tw621833630634775295 : True := trivial
theorem PySem.W.Fast.tw6144277886124463105 : True := trivial
theorem PySem.W.Fast.tw6603638116466334195 : True := trivial
theorem PySem.W.Fast.tw473543520070804162 : True := trivial
theorem PySem.W.Fast.tw2273824737902318061 : True := trivial
theorem PySem.W.Fast.tw12613229475286016875 : True := trivial
theorem PySem.W.Fast.tw1982952126837699763 : True := trivial
theorem PySem.W.Fast.tw10483556902694647497 : True := trivial
theorem PySem.W.Fast.tw4609563536800175910 : True := trivial
theorem PySem.W.Fast.tw566085140624601483 : True := trivial
theorem PySem.W.Fast.tw15122855334913321347 : True := trivial
theorem PySem.W.Fast.tw11647310923055551404 : True := trivial
theorem PySem.W.Fast.tw698508700622244449 : True := trivial
theorem PySem.W.Fast.tw1140398587434673688 : True := trivial
theorem PySem.W.Fast.tw10297442333247677941 : True := trivial
theorem PySem.W.Fast.tw2375547610559945481 : True := trivial
theorem PySem.W.Fast.tw10846199998674488487 : True := trivial
theorem PySem.W.Fast.tw15763591685354665858 : True := trivial
theorem PySem.W.Fast.tw4089239035251950520 : True := trivial
theorem PySem.W.Fast.tw5011880798051160239 : True := trivial
theorem PySem.W.Fast.tw17226328901207020959 : True := trivial
theorem PySem.W.Fast.tw40258712581248217 : True := trivial
theorem PySem.W.Fast.tw12515046562377034322 : True := trivial
theorem PySem.W.Fast.tw7632227732260149795 : True := trivial
theorem PySem.W.Fast.tw14988170863567210386 : True := trivial
theorem PySem.W.Fast.tw13040149084620531308 : True := trivial
theorem PySem.W.Fast.tw6774254343707833797 : True := trivial
theorem PySem.W.Fast.tw17053964197277193856 : True := trivial
theorem PySem.W.Fast.tw9766188351116315988 : True := trivial
theorem PySem.W.Fast.tw11686430245498767844 : True := trivial
theorem PySem.W.Fast.tw3580089538456300693 : True := trivial
theorem PySem.W.Fast.tw13029447007137299347 : True := trivial
theorem PySem.W.Fast.tw3093277242007604765 : True := trivial
theorem PySem.W.Fast.tw5445722911891630119 : True := trivial
theorem PySem.W.Fast.tw3804192629558152145 : True := trivial
theorem PySem.W.Fast.tw5760640387766595575 : True := trivial
theorem PySem.W.Fast.tw8437481311866290992 : True := trivial
theorem PySem.W.Fast.tw5306823109872734880 : True := trivial
theorem PySem.W.Fast.tw7670010206260316037 : True := trivial
theorem PySem.W.Fast.tw990830226988633644 : True := trivial
theorem PySem.W.Fast.tw782500622642107659 : True := trivial
theorem PySem.W.Fast.tw3870661896701309056 : True := trivial
theorem PySem.W.Fast.tw14300184841743741874 : True := trivial
theorem PySem.W.Fast.tw7169321363991082379 : True := trivial
theorem PySem.W.Fast.tw2726397847524213113 : True := trivial
theorem PySem.W.Fast.tw3236837774336240527 : True := trivial
theorem PySem.W.Fast.tw1927297860099980732 : True := trivial
theorem PySem.W.Fast.tw4750943076559649574 : True := trivial
theorem PySem.W.Fast.tw15967899450855916073 : True := trivial
theorem PySem.W.Fast.tw8941593108211775259 : True := trivial
theorem PySem.W.Fast.tw5114551043910089602 : True := trivial
theorem PySem.W.Fast.tw657888310703115866 : True := trivial
theorem PySem.W.Fast.tw12480648910481048481 : True := trivial
theorem PySem.W.Fast.tw11302638818298616510 : True := trivial
theorem PySem.W.Fast.tw12125996834416531569 : True := trivial
theorem PySem.W.Fast.tw3698130821242612328 : True := trivial
theorem PySem.W.Fast.tw6337701019581160250 : True := trivial
theorem PySem.W.Fast.tw8042739370822596359 : True := trivial
theorem PySem.W.Fast.tw1002735694071274039 : True := trivial
theorem PySem.W.Fast.tw3701813809244649589 : True := trivial
theorem PySem.W.Fast.tw13642894431846896776 : True := trivial
theorem PySem.W.Fast.tw15981598410692921676 : True := trivial
theorem PySem.W.Fast.tw10659976752598695748 : True := trivial
theorem PySem.W.Fast.tw18214262486178227016 : True := trivial
theorem PySem.W.Fast.tw15728568884061264692 : True := trivial
theorem PySem.W.Fast.tw10550583345723205024 : True := trivial
theorem PySem.W.Fast.tw13479823880644122177 : True := trivial
theorem PySem.W.Fast.tw7418106881062619732 : True := trivial
theorem PySem.W.Fast.tw3085737857281345762 : True := trivial
theorem PySem.W.Fast.tw9282590256828712016 : True := trivial
theorem PySem.W.Fast.tw11131428112410559776 : True := trivial
theorem PySem.W.Fast.tw13302598954362577672 : True := trivial
theorem PySem.W.Fast.tw14986327848153163518 : True := trivial
theorem PySem.W.Fast.tw15550909558107406863 : True := trivial
theorem PySem.W.Fast.tw14976877937273633043 : True := trivial
theorem PySem.W.Fast.tw15717570478080369669 : True := trivial
theorem PySem.W.Fast.tw11057305088538927449 : True := trivial
theorem PySem.W.Fast.tw4619198442258138408 : True := trivial
theorem PySem.W.Fast.tw4581789294478672283 : True := trivial
theorem PySem.W.Fast.tw296126399593128933 : True := trivial
theorem PySem.W.Fast.tw10843556638517389414 : True := trivial
theorem PySem.W.Fast.tw2512477775199655966 : True := trivial
theorem PySem.W.Fast.tw13298308812010434664 : True := trivial
theorem PySem.W.Fast.tw7288365876535375687 : True := trivial
theorem PySem.W.Fast.tw18157839569032617384 : True := trivial
theorem PySem.W.Fast.tw10489035344003855284 : True := trivial
theorem PySem.W.Fast.tw6359488346320186221 : True := trivial
theorem PySem.W.Fast.tw16301143951270935261 : True := trivial
theorem PySem.W.Fast.tw2968360114356548480 : True := trivial
theorem PySem.W.Fast.tw15245239695600980957 : True := trivial
theorem PySem.W.Fast.tw1694506414772911907 : True := trivial
theorem PySem.W.Fast.tw16860733419631446624 : True := trivial
theorem PySem.W.Fast.tw7709997759775644437 : True := trivial
theorem PySem.W.Fast.tw14511377095604073511 : True := trivial
theorem PySem.W.Fast.tw12507250102465634281 : True := trivial
theorem PySem.W.Fast.tw9473190434465521074 : True := trivial
theorem PySem.W.Fast.tw8020447899890448268 : True := trivial
theorem PySem.W.Fast.tw7079641646623723269 : True := trivial
theorem PySem.W.Fast.tw15686341524628985981 : True := trivial
theorem PySem.W.Fast.tw164201081557964892 : True := trivial
theorem PySem.W.Fast.tw2193898198994999673 : True := trivial
theorem PySem.W.Fast.tw13602158343310209740 : True := trivial
theorem PySem.W.Fast.tw2338592261943289353 : True := trivial
theorem PySem.W.Fast.tw7672101999902495691 : True := trivial
theorem PySem.W.Fast.tw9662484375523862922 : True := trivial
theorem PySem.W.Fast.tw5898463819902536821 : True := trivial
theorem PySem.W.Fast.tw7825375765989587373 : True := trivial
theorem PySem.W.Fast.tw12492413028332359120 : True := trivial
theorem PySem.W.Fast.tw6849131571845398749 : True := trivial
theorem PySem.W.Fast.tw17472512340740678064 : True := trivial
theorem PySem.W.Fast.tw15060298220604681004 : True := trivial
theorem PySem.W.Fast.tw14936188728026897039 : True := trivial
theorem PySem.W.Fast.tw12696235888083477463 : True := trivial
theorem PySem.W.Fast.tw4840039486478313812 : True := trivial
theorem PySem.W.Fast.tw15639196583166757498 : True := trivial
theorem PySem.W.Fast.tw10568313067603091554 : True := trivial
theorem PySem.W.Fast.tw589599356846516156 : True := trivial
theorem PySem.W.Fast.tw1036377418864573695 : True := trivial
theorem PySem.W.Fast.tw11879900383944662103 : True := trivial
theorem PySem.W.Fast.tw10007879196701064573 : True := trivial
theorem PySem.W.Fast.tw11684769538655317916 : True := trivial
theorem PySem.W.Fast.tw572804192153643166 : True := trivial
theorem PySem.W.Fast.tw14658495865577445906 : True := trivial
theorem PySem.W.Fast.tw12280037504233147181 : True := trivial
theorem PySem.W.Fast.tw6039391904135262361 : True := trivial
theorem PySem.W.Fast.tw18143287230286981771 : True := trivial
theorem PySem.W.Fast.tw12198106591308406878 : True := trivial
theorem PySem.W.Fast.tw5932616446832835005 : True := trivial
theorem PySem.W.Fast.tw12534857493438408744 : True := trivial
theorem PySem.W.Fast.tw2617089258476034096 : True := trivial
theorem PySem.W.Fast.tw8063012192795247571 : True := trivial
theorem PySem.W.Fast.tw8959373078717195523 : True := trivial
theorem PySem.W.Fast.tw9994353041088466981 : True := trivial
theorem PySem.W.Fast.tw17550172880872426904 : True := trivial
theorem PySem.W.Fast.tw846023579694760028 : True := trivial
theorem PySem.W.Fast.tw13210368023940525399 : True := trivial
theorem PySem.W.Fast.tw15059363765827642125 : True := trivial
theorem PySem.W.Fast.tw2967908347002595831 : True := trivial
theorem PySem.W.Fast.tw4651984651716961599 : True := trivial
theorem PySem.W.Fast.tw1571377625629355792 : True := trivial
theorem PySem.W.Fast.tw17770104588126730359 : True := trivial
theorem PySem.W.Fast.tw4085289829983160845 : True := trivial
theorem PySem.W.Fast.tw3343422702123427211 : True := trivial
theorem PySem.W.Fast.tw2428903841276705833 : True := trivial
theorem PySem.W.Fast.tw17355906928072010976 : True := trivial
theorem PySem.W.Fast.tw3288009271274778496 : True := trivial
theorem PySem.W.Fast.tw8209160239070184083 : True := trivial
theorem PySem.W.Fast.tw9132313096718580836 : True := trivial
theorem PySem.W.Fast.tw2958597161836521889 : True := trivial
theorem PySem.W.Fast.tw12942880343078302442 : True := trivial
theorem PySem.W.Fast.tw5124906107510775142 : True := trivial
theorem PySem.W.Fast.tw8569865342677877216 : True := trivial
theorem PySem.W.Fast.tw11083473060392066762 : True := trivial
theorem PySem.W.Fast.tw8619936328721863446 : True := trivial
theorem PySem.W.Fast.tw17763123098447533307 : True := trivial
theorem PySem.W.Fast.tw7503576041412813984 : True := trivial
theorem PySem.W.Fast.tw3765536910967091163 : True := trivial
theorem PySem.W.Fast.tw15159670880567167210 : True := trivial
theorem PySem.W.Fast.tw17822828824335450306 : True := trivial
theorem PySem.W.Fast.tw12107227147817366417 : True := trivial
theorem PySem.W.Fast.tw4095460924232849989 : True := trivial
theorem PySem.W.Fast.tw17686254280288357020 : True := trivial
theorem PySem.W.Fast.tw9022971304731259855 : True := trivial
theorem PySem.W.Fast.tw5217862398202919816 : True := trivial
theorem PySem.W.Fast.tw10785744289701472944 : True := trivial
theorem PySem.W.Fast.tw3602777190922293317 : True := trivial
theorem PySem.W.Fast.tw6604498656726831295 : True := trivial
theorem PySem.W.Fast.tw7084844166536161360 : True := trivial
theorem PySem.W.Fast.tw11410056433178471684 : True := trivial
theorem PySem.W.Fast.tw8087013445271487593 : True := trivial
theorem PySem.W.Fast.tw10537704003716366144 : True := trivial
theorem PySem.W.Fast.tw9330850642101719377 : True := trivial
theorem PySem.W.Fast.tw10615090788888459973 : True := trivial
theorem PySem.W.Fast.tw3395288400831711826 : True := trivial
theorem PySem.W.Fast.tw6054584936440882297 : True := trivial
theorem PySem.W.Fast.tw9418710448706349561 : True := trivial
theorem PySem.W.Fast.tw5483126334390159795 : True := trivial
theorem PySem.W.Fast.tw7981515463826777982 : True := trivial
theorem PySem.W.Fast.tw4800231471136170009 : True := trivial
theorem PySem.W.Fast.tw13008620834383516066 : True := trivial
theorem PySem.W.Fast.tw17591637143911341946 : True := trivial
theorem PySem.W.Fast.tw7435993548897440528 : True := trivial
theorem PySem.W.Fast.tw5051270319208778348 : True := trivial
theorem PySem.W.Fast.tw12483568433471317299 : True := trivial
theorem PySem.W.Fast.tw17488890740919391410 : True := trivial
theorem PySem.W.Fast.tw15396484727432548133 : True := trivial
theorem PySem.W.Fast.tw6162606719142724310 : True := trivial
theorem PySem.W.Fast.tw12303978008736565311 : True := trivial
theorem PySem.W.Fast.tw7137920861472565341 : True := trivial
theorem PySem.W.Fast.tw6545954196534235921 : True := trivial
theorem PySem.W.Fast.tw2738163758742591152 : True := trivial
theorem PySem.W.Fast.tw13839847241216247100 : True := trivial
theorem PySem.W.Fast.tw5487891143263298759 : True := trivial
theorem PySem.W.Fast.tw4965203412880753531 : True := trivial
theorem PySem.W.Fast.tw12549789156542008708 : True := trivial
theorem PySem.W.Fast.tw4216830391593119865 : True := trivial
theorem PySem.W.Fast.tw4893389904718349658 : True := trivial
theorem PySem.W.Fast.tw8095926849961833271 : True := trivial
theorem PySem.W.Fast.tw11153572452217695377 : True := trivial
theorem PySem.W.Fast.tw14156644936242853111 : True := trivial
theorem PySem.W.Fast.tw8668519676616199328 : True := trivial
theorem PySem.W.Fast.tw5807093534341554436 : True := trivial
theorem PySem.W.Fast.tw7883399889781251369 : True := trivial
theorem PySem.W.Fast.tw7650454615990359767 : True := trivial
theorem PySem.W.Fast.tw18214089343088224408 : True := trivial
theorem PySem.W.Fast.tw12512891285305710145 : True := trivial
theorem PySem.W.Fast.tw5005573034750034082 : True := trivial
theorem PySem.W.Fast.tw433111145564311180 : True := trivial
theorem PySem.W.Fast.tw12601768186071229303 : True := trivial
theorem PySem.W.Fast.tw18031765346388498792 : True := trivial
theorem PySem.W.Fast.tw8084389908612222521 : True := trivial
theorem PySem.W.Fast.tw14795482955668048537 : True := trivial
theorem PySem.W.Fast.tw10370650627382480636 : True := trivial
theorem PySem.W.Fast.tw7411030472152128529 : True := trivial
theorem PySem.W.Fast.tw14267210650973693464 : True := trivial
theorem PySem.W.Fast.tw11743004812494203068 : True := trivial
theorem PySem.W.Fast.tw10139961763791984129 : True := trivial
theorem PySem.W.Fast.tw12842649612836071304 : True := trivial
theorem PySem.W.Fast.tw12647093752971933107 : True := trivial
theorem PySem.W.Fast.tw15150097803823882281 : True := trivial
theorem PySem.W.Fast.tw4209550136409488405 : True := trivial
theorem PySem.W.Fast.tw249801752197137306 : True := trivial
theorem PySem.W.Fast.tw16712708540494001862 : True := trivial
theorem PySem.W.Fast.tw1941293943287095258 : True := trivial
theorem PySem.W.Fast.tw5484396023109998103 : True := trivial
theorem PySem.W.Fast.tw3050113285102832818 : True := trivial
theorem PySem.W.Fast.tw4132650665999456291 : True := trivial
theorem PySem.W.Fast.tw12935262976063406692 : True := trivial
theorem PySem.W.Fast.tw7127346880878268537 : True := trivial
theorem PySem.W.Fast.tw15833380611348655200 : True := trivial
theorem PySem.W.Fast.tw10108280366888284053 : True := trivial
theorem PySem.W.Fast.tw303100371787182828 : True := trivial
theorem PySem.W.Fast.tw11792781692489387149 : True := trivial
theorem PySem.W.Fast.tw5823858223945262954 : True := trivial
theorem PySem.W.Fast.tw4239165391131487691 : True := trivial
theorem PySem.W.Fast.tw726357883511256991 : True := trivial
theorem PySem.W.Fast.tw16486908552265608711 : True := trivial
theorem PySem.W.Fast.tw636005565364295588 : True := trivial
theorem PySem.W.Fast.tw7592457763498607928 : True := trivial
theorem PySem.W.Fast.tw12216302553020304523 : True := trivial
theorem PySem.W.Fast.tw12208756928830034748 : True := trivial
theorem PySem.W.Fast.tw3941293590820211418 : True := trivial
theorem PySem.W.Fast.tw8763649493157594938 : True := trivial
theorem PySem.W.Fast.tw9180872337322793302 : True := trivial
theorem PySem.W.Fast.tw18345812412504736574 : True := trivial
theorem PySem.W.Fast.tw16448845816863624143 : True := trivial
theorem PySem.W.Fast.tw17482622847933531446 : True := trivial
theorem PySem.W.Fast.tw11390747176052530214 : True := trivial
theorem PySem.W.Fast.tw8568425496024955622 : True := trivial
theorem PySem.W.Fast.tw821021202233748534 : True := trivial
theorem PySem.W.Fast.tw12663662964729170627 : True := trivial
theorem PySem.W.Fast.tw420975147792570563 : True := trivial
theorem PySem.W.Fast.tw14465786404552761919 : True := trivial
theorem PySem.W.Fast.tw10193917266529199315 : True := trivial
theorem PySem.W.Fast.tw12956770238879381908 : True := trivial
theorem PySem.W.Fast.tw4246898473220949177 : True := trivial
theorem PySem.W.Fast.tw3901535523434403036 : True := trivial
theorem PySem.W.Fast.tw4407470374641543759 : True := trivial
theorem PySem.W.Fast.tw13634272528648760085 : True := trivial
theorem PySem.W.Fast.tw7438543926475681594 : True := trivial
theorem PySem.W.Fast.tw4248621361633212624 : True := trivial
theorem PySem.W.Fast.tw1133911973752317773 : True := trivial
theorem PySem.W.Fast.tw15277898595725604008 : True := trivial
theorem PySem.W.Fast.tw2408438338736533917 : True := trivial
theorem PySem.W.Fast.tw2019680734065793081 : True := trivial
theorem PySem.W.Fast.tw6008487329223247586 : True := trivial
theorem PySem.W.Fast.tw13333119735242524211 : True := trivial
theorem PySem.W.Fast.tw17125276634445749741 : True := trivial
theorem PySem.W.Fast.tw5412882117342202610 : True := trivial
theorem PySem.W.Fast.tw8528822395570231546 : True := trivial
theorem PySem.W.Fast.tw334538331134429403 : True := trivial
theorem PySem.W.Fast.tw12904382408225945771 : True := trivial
theorem PySem.W.Fast.tw17240152847584790594 : True := trivial
theorem PySem.W.Fast.tw1910202943256998788 : True := trivial
theorem PySem.W.Fast.tw11609328572791418094 : True := trivial
theorem PySem.W.Fast.tw4595637088072229708 : True := trivial
theorem PySem.W.Fast.tw8136328535265650162 : True := trivial
theorem PySem.W.Fast.tw1017732501524123265 : True := trivial
theorem PySem.W.Fast.tw17087373772707411065 : True := trivial
theorem PySem.W.Fast.tw6955366516339157106 : True := trivial
theorem PySem.W.Fast.tw9824473616564377375 : True := trivial
theorem PySem.W.Fast.tw11651404167320367376 : True := trivial
theorem PySem.W.Fast.tw9211055527782524902 : True := trivial
theorem PySem.W.Fast.tw11070229078900817446 : True := trivial
theorem PySem.W.Fast.tw11311587738144895278 : True := trivial
theorem PySem.W.Fast.tw4440524683996722400 : True := trivial
theorem PySem.W.Fast.tw1935215097211036132 : True := trivial
theorem PySem.W.Fast.tw15167565206748468735 : True := trivial
theorem PySem.W.Fast.tw4822025407619522432 : True := trivial
theorem PySem.W.Fast.tw7756875870951402341 : True := trivial
theorem PySem.W.Fast.tw1116435203488402451 : True := trivial
theorem PySem.W.Fast.tw9298763971646243798 : True := trivial
theorem PySem.W.Fast.tw14361357099769241103 : True := trivial
theorem PySem.W.Fast.tw12148010068352969913 : True := trivial
theorem PySem.W.Fast.tw2381658639407436879 : True := trivial
theorem PySem.W.Fast.tw12518672196566384136 : True := trivial
theorem PySem.W.Fast.tw16991082751524730268 : True := trivial
theorem PySem.W.Fast.tw2981161835536825641 : True := trivial
theorem PySem.W.Fast.tw17271916375024458910 : True := trivial
theorem PySem.W.Fast.tw12775512181766997732 : True := trivial
theorem PySem.W.Fast.tw12650463675612734678 : True := trivial
theorem PySem.W.Fast.tw3861387729752783717 : True := trivial
theorem PySem.W.Fast.tw4779361582424009631 : True := trivial
theorem PySem.W.Fast.tw14626117459991445258 : True := trivial
theorem PySem.W.Fast.tw14767220802527701874 : True := trivial
theorem PySem.W.Fast.tw7198560014764764616 : True := trivial
theorem PySem.W.Fast.tw11932798156006314270 : True := trivial
theorem PySem.W.Fast.tw4720713698118157497 : True := trivial
theorem PySem.W.Fast.tw18395876130454413147 : True := trivial
theorem PySem.W.Fast.tw16470955592305868634 : True := trivial
theorem PySem.W.Fast.tw11498970300435756413 : True := trivial
theorem PySem.W.Fast.tw4610286836333426084 : True := trivial
theorem PySem.W.Fast.tw15913225888004379813 : True := trivial
theorem PySem.W.Fast.tw4253315204433700515 : True := trivial
theorem PySem.W.Fast.tw299392095227126987 : True := trivial
theorem PySem.W.Fast.tw11703083201809281476 : True := trivial
theorem PySem.W.Fast.tw9398237858397205022 : True := trivial
theorem PySem.W.Fast.tw4897600418012420461 : True := trivial
theorem PySem.W.Fast.tw3313905373600081750 : True := trivial
theorem PySem.W.Fast.tw15435399083626057641 : True := trivial
theorem PySem.W.Fast.tw8532815056532879410 : True := trivial
theorem PySem.W.Fast.tw4084809055249276713 : True := trivial
theorem PySem.W.Fast.tw6437401041819832624 : True := trivial
theorem PySem.W.Fast.tw10998868757658875174 : True := trivial
theorem PySem.W.Fast.tw1956341887603250968 : True := trivial
theorem PySem.W.Fast.tw7911093109182737600 : True := trivial
theorem PySem.W.Fast.tw11249546107365769507 : True := trivial
theorem PySem.W.Fast.tw12799876522879400237 : True := trivial
theorem PySem.W.Fast.tw2439720267317053242 : True := trivial
theorem PySem.W.Fast.tw13423844779384350418 : True := trivial
theorem PySem.W.Fast.tw9672403096808046247 : True := trivial
theorem PySem.W.Fast.tw11878176882432163088 : True := trivial
theorem PySem.W.Fast.tw2908543902363428025 : True := trivial
theorem PySem.W.Fast.tw8142061482355356668 : True := trivial
theorem PySem.W.Fast.tw4149656978249628170 : True := trivial
theorem PySem.W.Fast.tw6409538065436472411 : True := trivial
theorem PySem.W.Fast.tw13130321085005983785 : True := trivial
theorem PySem.W.Fast.tw14161556299556598074 : True := trivial
theorem PySem.W.Fast.tw8154982488809946329 : True := trivial
theorem PySem.W.Fast.tw9248534532554602330 : True := trivial
theorem PySem.W.Fast.tw3458316481250044325 : True := trivial
theorem PySem.W.Fast.tw8876337880762011797 : True := trivial
theorem PySem.W.Fast.tw2424288883148987631 : True := trivial
theorem PySem.W.Fast.tw12468016331932845736 : True := trivial
theorem PySem.W.Fast.tw13594790831737744899 : True := trivial
theorem PySem.W.Fast.tw9737802600094669378 : True := trivial
theorem PySem.W.Fast.tw3533336710517790112 : True := trivial
theorem PySem.W.Fast.tw6672609042875860697 : True := trivial
theorem PySem.W.Fast.tw1451488539983497815 : True := trivial
theorem PySem.W.Fast.tw6108132001669122326 : True := trivial
theorem PySem.W.Fast.tw8963727862612683619 : True := trivial
theorem PySem.W.Fast.tw2493087905899620003 : True := trivial
theorem PySem.W.Fast.tw6192693004170536127 : True := trivial
theorem PySem.W.Fast.tw2506951474302422225 : True := trivial
theorem PySem.W.Fast.tw2147791710891821140 : True := trivial
theorem PySem.W.Fast.tw9042445641100980755 : True := trivial
theorem PySem.W.Fast.tw12657819013309721952 : True := trivial
theorem PySem.W.Fast.tw18423430822798195156 : True := trivial
theorem PySem.W.Fast.tw4594266414244865346 : True := trivial
theorem PySem.W.Fast.tw6092470200030372115 : True := trivial
theorem PySem.W.Fast.tw14585459260546097908 : True := trivial
theorem PySem.W.Fast.tw5947480406287060211 : True := trivial
theorem PySem.W.Fast.tw106529952294520320 : True := trivial
theorem PySem.W.Fast.tw7228184696140393788 : True := trivial
theorem PySem.W.Fast.tw8951148490098924435 : True := trivial
theorem PySem.W.Fast.tw8384536965975795452 : True := trivial
theorem PySem.W.Fast.tw7737543497726919516 : True := trivial
theorem PySem.W.Fast.tw1830920112371518777 : True := trivial
theorem PySem.W.Fast.tw13153668336875173141 : True := trivial
theorem PySem.W.Fast.tw10767450223028893193 : True := trivial
theorem PySem.W.Fast.tw2554653845725470675 : True := trivial
theorem PySem.W.Fast.tw397754681080251979 : True := trivial
theorem PySem.W.Fast.tw10040201547667226056 : True := trivial
theorem PySem.W.Fast.tw13493245181663864029 : True := trivial
theorem PySem.W.Fast.tw10870023562047961789 : True := trivial
theorem PySem.W.Fast.tw6922223891034686691 : True := trivial
theorem PySem.W.Fast.tw619847869541202317 : True := trivial
theorem PySem.W.Fast.tw5681066166814682518 : True := trivial
theorem PySem.W.Fast.tw14838753231321975097 : True := trivial
theorem PySem.W.Fast.tw3887324050591127356 : True := trivial
theorem PySem.W.Fast.tw10480532625720266798 : True := trivial
theorem PySem.W.Fast.tw6578636042955981953 : True := trivial
theorem PySem.W.Fast.tw17295231398166828478 : True := trivial
theorem PySem.W.Fast.tw8476646286909217944 : True := trivial
theorem PySem.W.Fast.tw2209782849600904138 : True := trivial
theorem PySem.W.Fast.tw14791427672733658337 : True := trivial
theorem PySem.W.Fast.tw3452454282575926775 : True := trivial
theorem PySem.W.Fast.tw15147863241603344237 : True := trivial
theorem PySem.W.Fast.tw656468985902734927 : True := trivial
theorem PySem.W.Fast.tw13350025200446878929 : True := trivial
theorem PySem.W.Fast.tw4249692798123611991 : True := trivial
theorem PySem.W.Fast.tw14603683816023577706 : True := trivial
theorem PySem.W.Fast.tw9357297408971985160 : True := trivial
theorem PySem.W.Fast.tw12669577488842281214 : True := trivial
theorem PySem.W.Fast.tw12076458911339526992 : True := trivial
theorem PySem.W.Fast.tw13039251606364103217 : True := trivial
theorem PySem.W.Fast.tw12965081388043405428 : True := trivial
theorem PySem.W.Fast.tw681383445228207830 : True := trivial
theorem PySem.W.Fast.tw1423279360174355007 : True := trivial
theorem PySem.W.Fast.tw6055757949613583326 : True := trivial
theorem PySem.W.Fast.tw85465750110123633 : True := trivial
theorem PySem.W.Fast.tw9567667935310789893 : True := trivial
theorem PySem.W.Fast.tw10223879214656192089 : True := trivial
theorem PySem.W.Fast.tw11402646354264963458 : True := trivial
theorem PySem.W.Fast.tw18367597586884345179 : True := trivial
theorem PySem.W.Fast.tw1777225651617012631 : True := trivial
theorem PySem.W.Fast.tw2886968935565123844 : True := trivial
theorem PySem.W.Fast.tw3133604082740591731 : True := trivial
theorem PySem.W.Fast.tw3702188938417388522 : True := trivial
theorem PySem.W.Fast.tw14963974429820650917 : True := trivial
theorem PySem.W.Fast.tw3295121070691418502 : True := trivial
theorem PySem.W.Fast.tw10152051776218448616 : True := trivial
theorem PySem.W.Fast.tw1366911067025072533 : True := trivial
theorem PySem.W.Fast.tw11556854406776890298 : True := trivial
theorem PySem.W.Fast.tw18070783785353929953 : True := trivial
theorem PySem.W.Fast.tw9090829615965713881 : True := trivial
theorem PySem.W.Fast.tw12501926720106393285 : True := trivial
theorem PySem.W.Fast.tw11356732765080963083 : True := trivial
theorem PySem.W.Fast.tw405229031230192648 : True := trivial
theorem PySem.W.Fast.tw6588823637227556786 : True := trivial
theorem PySem.W.Fast.tw14276443566645697924 : True := trivial
theorem PySem.W.Fast.tw13854575351228566385 : True := trivial
theorem PySem.W.Fast.tw11518729847082046588 : True := trivial
theorem PySem.W.Fast.tw34913622540961504 : True := trivial
theorem PySem.W.Fast.tw10226054365821240508 : True := trivial
theorem PySem.W.Fast.tw16841943382204978710 : True := trivial
theorem PySem.W.Fast.tw10130052618072011524 : True := trivial
theorem PySem.W.Fast.tw13190628167403295740 : True := trivial
theorem PySem.W.Fast.tw12906759261887046392 : True := trivial
theorem PySem.W.Fast.tw9789362930696404052 : True := trivial
theorem PySem.W.Fast.tw4515392742747237582 : True := trivial
theorem PySem.W.Fast.tw7712968730534515730 : True := trivial
theorem PySem.W.Fast.tw9649902512060620742 : True := trivial
theorem PySem.W.Fast.tw8296447738396707901 : True := trivial
theorem PySem.W.Fast.tw6291390602100127224 : True := trivial
theorem PySem.W.Fast.tw6234210243683555826 : True := trivial
theorem PySem.W.Fast.tw7499232642711501123 : True := trivial
theorem PySem.W.Fast.tw18405750158113824663 : True := trivial
theorem PySem.W.Fast.tw8119890896634184888 : True := trivial
theorem PySem.W.Fast.tw9776974035763425203 : True := trivial
theorem PySem.W.Fast.tw12812998571206443163 : True := trivial
theorem PySem.W.Fast.tw17506269901176552518 : True := trivial
theorem PySem.W.Fast.tw15908976623381915748 : True := trivial
theorem PySem.W.Fast.tw503261912512992957 : True := trivial
theorem PySem.W.Fast.tw9639307663484713748 : True := trivial
theorem PySem.W.Fast.tw12222720408644841642 : True := trivial
theorem PySem.W.Fast.tw12295406426277230424 : True := trivial
theorem PySem.W.Fast.tw12607258536871438529 : True := trivial
theorem PySem.W.Fast.tw18056123306926954060 : True := trivial
theorem PySem.W.Fast.tw17673935121589319415 : True := trivial
theorem PySem.W.Fast.tw5601660912111977220 : True := trivial
theorem PySem.W.Fast.tw8864866169942525859 : True := trivial
theorem PySem.W.Fast.tw10988431107373780101 : True := trivial
theorem PySem.W.Fast.tw5030351805341701720 : True := trivial
theorem PySem.W.Fast.tw10473625540399431278 : True := trivial
theorem PySem.W.Fast.tw478907178699209283 : True := trivial
theorem PySem.W.Fast.tw15896739457136227779 : True := trivial
theorem PySem.W.Fast.tw15647767389498766895 : True := trivial
theorem PySem.W.Fast.tw6940233617933067743 : True := trivial
theorem PySem.W.Fast.tw8697161524503853514 : True := trivial
theorem PySem.W.Fast.tw15394951593812681452 : True := trivial
theorem PySem.W.Fast.tw658208252126060644 : True := trivial
theorem PySem.W.Fast.tw12390992718995498249 : True := trivial
theorem PySem.W.Fast.tw872598809366143288 : True := trivial
theorem PySem.W.Fast.tw1070382423981543658 : True := trivial
theorem PySem.W.Fast.tw11392826911170330404 : True := trivial
theorem PySem.W.Fast.tw13736711830879796234 : True := trivial
theorem PySem.W.Fast.tw4993316326733422442 : True := trivial
theorem PySem.W.Fast.tw13142184950877647761 : True := trivial
theorem PySem.W.Fast.tw4962041274918950421 : True := trivial
theorem PySem.W.Fast.tw4456880097587814246 : True := trivial
theorem PySem.W.Fast.tw8447351885507039584 : True := trivial
theorem PySem.W.Fast.tw6425921534713686324 : True := trivial
theorem PySem.W.Fast.tw6769347490268490452 : True := trivial
theorem PySem.W.Fast.tw2245772897865578544 : True := trivial
theorem PySem.W.Fast.tw17401955561695247386 : True := trivial
theorem PySem.W.Fast.tw8868239820436943722 : True := trivial
theorem PySem.W.Fast.tw32641350478728594 : True := trivial
theorem PySem.W.Fast.tw2599354432811973337 : True := trivial
theorem PySem.W.Fast.tw15942866402074291261 : True := trivial
theorem PySem.W.Fast.tw4012996954962373866 : True := trivial
theorem PySem.W.Fast.tw15564190319279849600 : True := trivial
theorem PySem.W.Fast.tw4974620586712057811 : True := trivial
theorem PySem.W.Fast.tw2531721127479077181 : True := trivial
theorem PySem.W.Fast.tw7104110672630155276 : True := trivial
theorem PySem.W.Fast.tw5361122554539847792 : True := trivial
theorem PySem.W.Fast.tw2257783729201041060 : True := trivial
theorem PySem.W.Fast.tw8420628999441275864 : True := trivial
theorem PySem.W.Fast.tw5051519593967690771 : True := trivial
theorem PySem.W.Fast.tw3580351312240619056 : True := trivial
theorem PySem.W.Fast.tw1544126702034925905 : True := trivial
theorem PySem.W.Fast.tw16531546931441954589 : True := trivial
theorem PySem.W.Fast.tw8777483439057399671 : True := trivial
theorem PySem.W.Fast.tw9419895215553087769 : True := trivial
theorem PySem.W.Fast.tw13704287185535838844 : True := trivial
theorem PySem.W.Fast.tw386927559011097103 : True := trivial
theorem PySem.W.Fast.tw5724410060718015978 : True := trivial
theorem PySem.W.Fast.tw13297709160470987008 : True := trivial
theorem PySem.W.Fast.tw3349425351808947781 : True := trivial
theorem PySem.W.Fast.tw14010042209692452559 : True := trivial
theorem PySem.W.Fast.tw6118866682831849374 : True := trivial
theorem PySem.W.Fast.tw3602090562080729681 : True := trivial
theorem PySem.W.Fast.tw9776829491970986849 : True := trivial
theorem PySem.W.Fast.tw1589070804598619023 : True := trivial
theorem PySem.W.Fast.tw8038998020886844524 : True := trivial
theorem PySem.W.Fast.tw9883584188562344320 : True := trivial
theorem PySem.W.Fast.tw7960896514692692294 : True := trivial
theorem PySem.W.Fast.tw18315566704734619937 : True := trivial
theorem PySem.W.Fast.tw13312512490545576974 : True := trivial
theorem PySem.W.Fast.tw17592225121545389703 : True := trivial
theorem PySem.W.Fast.tw804593190064132842 : True := trivial
theorem PySem.W.Fast.tw11512855895907718568 : True := trivial
theorem PySem.W.Fast.tw13443969901568133672 : True := trivial
theorem PySem.W.Fast.tw4501691102351377006 : True := trivial
theorem PySem.W.Fast.tw4704721564343246116 : True := trivial
theorem PySem.W.Fast.tw12460394813173490252 : True := trivial
theorem PySem.W.Fast.tw4538677098596472838 : True := trivial
theorem PySem.W.Fast.tw4277195523277048485 : True := trivial
theorem PySem.W.Fast.tw14600518866164371286 : True := trivial
theorem PySem.W.Fast.tw9513523479202269767 : True := trivial
theorem PySem.W.Fast.tw3774780097463875324 : True := trivial
theorem PySem.W.Fast.tw14111804546187532531 : True := trivial
theorem PySem.W.Fast.tw94142381342895168 : True := trivial
theorem PySem.W.Fast.tw7575190777332780477 : True := trivial
theorem PySem.W.Fast.tw8566282183303602857 : True := trivial
theorem PySem.W.Fast.tw15769494290285420094 : True := trivial
theorem PySem.W.Fast.tw5695647485244511235 : True := trivial
theorem PySem.W.Fast.tw10481679858984905076 : True := trivial
theorem PySem.W.Fast.tw5484806771480760221 : True := trivial
theorem PySem.W.Fast.tw8421177993394057490 : True := trivial
theorem PySem.W.Fast.tw13291997754360269910 : True := trivial
theorem PySem.W.Fast.tw78296928746723767 : True := trivial
theorem PySem.W.Fast.tw10693362346284847817 : True := trivial
theorem PySem.W.Fast.tw11029055640744094093 : True := trivial
theorem PySem.W.Fast.tw11685281036670816582 : True := trivial
theorem PySem.W.Fast.tw9077247770112689520 : True := trivial
theorem PySem.W.Fast.tw16312836952095722597 : True := trivial
theorem PySem.W.Fast.tw17034533939083371535 : True := trivial
theorem PySem.W.Fast.tw16470795215256148435 : True := trivial
theorem PySem.W.Fast.tw5205413234625831053 : True := trivial
theorem PySem.W.Fast.tw8332360560449380109 : True := trivial
theorem PySem.W.Fast.tw6590395026476676330 : True := trivial
theorem PySem.W.Fast.tw3597696619728696528 : True := trivial
theorem PySem.W.Fast.tw4030229045611483551 : True := trivial
theorem PySem.W.Fast.tw9278550092841273901 : True := trivial
theorem PySem.W.Fast.tw17330829377700250385 : True := trivial
theorem PySem.W.Fast.tw3433061425769847361 : True := trivial
theorem PySem.W.Fast.tw472949395708464442 : True := trivial
theorem PySem.W.Fast.tw12512828181144003329 : True := trivial
theorem PySem.W.Fast.tw602236550907993628 : True := trivial
theorem PySem.W.Fast.tw1171186543727266949 : True := trivial
theorem PySem.W.Fast.tw7871169842589582601 : True := trivial
theorem PySem.W.Fast.tw4855294345646637541 : True := trivial
theorem PySem.W.Fast.tw18253918140748363549 : True := trivial
theorem PySem.W.Fast.tw6621577242000573535 : True := trivial
theorem PySem.W.Fast.tw10550868684180720241 : True := trivial
theorem PySem.W.Fast.tw8082368363455919709 : True := trivial
theorem PySem.W.Fast.tw2965565517670759383 : True := trivial
theorem PySem.W.Fast.tw2713694602005405179 : True := trivial
theorem PySem.W.Fast.tw25605076093785327 : True := trivial
theorem PySem.W.Fast.tw9928426278558715366 : True := trivial
theorem PySem.W.Fast.tw4203538776223366992 : True := trivial
theorem PySem.W.Fast.tw18198678020916289057 : True := trivial
theorem PySem.W.Fast.tw2278803841421434587 : True := trivial
theorem PySem.W.Fast.tw8772377690987817711 : True := trivial
theorem PySem.W.Fast.tw429663533310136346 : True := trivial
theorem PySem.W.Fast.tw4638337618640246 : True := trivial
theorem PySem.W.Fast.tw16962007639758443670 : True := trivial
theorem PySem.W.Fast.tw10876408722853553113 : True := trivial
theorem PySem.W.Fast.tw17149973450166969737 : True := trivial
theorem PySem.W.Fast.tw2927822643396585743 : True := trivial
theorem PySem.W.Fast.tw4863607194794549722 : True := trivial
theorem PySem.W.Fast.tw8284224115334891600 : True := trivial
theorem PySem.W.Fast.tw15430815276127607811 : True := trivial
theorem PySem.W.Fast.tw18018255471540619185 : True := trivial
theorem PySem.W.Fast.tw16949868226223517646 : True := trivial
theorem PySem.W.Fast.tw14409994923607266917 : True := trivial
theorem PySem.W.Fast.tw10931127935053611239 : True := trivial
theorem PySem.W.Fast.tw11996973930573868368 : True := trivial
theorem PySem.W.Fast.tw14152470305250661778 : True := trivial
theorem PySem.W.Fast.tw6446829388295044842 : True := trivial
theorem PySem.W.Fast.tw15744856102655056863 : True := trivial
theorem PySem.W.Fast.tw12840461694265530686 : True := trivial
theorem PySem.W.Fast.tw4753919617352020296 : True := trivial
theorem PySem.W.Fast.tw12772106486790668751 : True := trivial
theorem PySem.W.Fast.tw6750376288115456603 : True := trivial
theorem PySem.W.Fast.tw15031484747279973554 : True := trivial
theorem PySem.W.Fast.tw2303321332204142436 : True := trivial
theorem PySem.W.Fast.tw8963471108646848277 : True := trivial
theorem PySem.W.Fast.tw7777096232215264304 : True := trivial
theorem PySem.W.Fast.tw6817946595160035809 : True := trivial
theorem PySem.W.Fast.tw11474910306724648001 : True := trivial
theorem PySem.W.Fast.tw11006958213410454259 : True := trivial
theorem PySem.W.Fast.tw611383373192862780 : True := trivial
theorem PySem.W.Fast.tw8578013221495346817 : True := trivial
theorem PySem.W.Fast.tw4068028880354207352 : True := trivial
theorem PySem.W.Fast.tw13367513655738064750 : True := trivial
theorem PySem.W.Fast.tw3490071817828069642 : True := trivial
theorem PySem.W.Fast.tw13386171488011793086 : True := trivial
theorem PySem.W.Fast.tw4879348579772812515 : True := trivial
theorem PySem.W.Fast.tw16209712850067529456 : True := trivial
theorem PySem.W.Fast.tw604057036211395945 : True := trivial
theorem PySem.W.Fast.tw5753472170502229107 : True := trivial
theorem PySem.W.Fast.tw10189356480931812524 : True := trivial
theorem PySem.W.Fast.tw4104870080693662055 : True := trivial
theorem PySem.W.Fast.tw268213120291703475 : True := trivial
theorem PySem.W.Fast.tw6110311286656869714 : True := trivial
theorem PySem.W.Fast.tw1566766394320151624 : True := trivial
theorem PySem.W.Fast.tw15968104610442399215 : True := trivial
theorem PySem.W.Fast.tw14144501540444311844 : True := trivial
theorem PySem.W.Fast.tw18322033920852432551 : True := trivial
theorem PySem.W.Fast.tw6948805502249882013 : True := trivial
theorem PySem.W.Fast.tw4734800228711439314 : True := trivial
theorem PySem.W.Fast.tw3021132318033427154 : True := trivial
theorem PySem.W.Fast.tw2059479853478993855 : True := trivial
theorem PySem.W.Fast.tw16174941089930021998 : True := trivial
theorem PySem.W.Fast.tw14141891253645583937 : True := trivial
theorem PySem.W.Fast.tw16372642358133255264 : True := trivial
theorem PySem.W.Fast.tw10099623524157318897 : True := trivial
theorem PySem.W.Fast.tw5366199185126268651 : True := trivial
theorem PySem.W.Fast.tw4260213996917608198 : True := trivial
theorem PySem.W.Fast.tw8284516524511162024 : True := trivial
theorem PySem.W.Fast.tw15687481677137339770 : True := trivial
theorem PySem.W.Fast.tw15993370551311739326 : True := trivial
theorem PySem.W.Fast.tw7969879120315043285 : True := trivial
theorem PySem.W.Fast.tw11727560461378320141 : True := trivial
theorem PySem.W.Fast.tw16958088644804941734 : True := trivial
theorem PySem.W.Fast.tw6085296477739440000 : True := trivial
theorem PySem.W.Fast.tw5912507594344823915 : True := trivial
theorem PySem.W.Fast.tw2644377384767601087 : True := trivial
theorem PySem.W.Fast.tw168857438745713534 : True := trivial
theorem PySem.W.Fast.tw7692042164798935816 : True := trivial
theorem PySem.W.Fast.tw11528541318138689556 : True := trivial
theorem PySem.W.Fast.tw7715086195692764827 : True := trivial
theorem PySem.W.Fast.tw17623934847662650760 : True := trivial
theorem PySem.W.Fast.tw2473256898984230837 : True := trivial
theorem PySem.W.Fast.tw8365974443651511351 : True := trivial
theorem PySem.W.Fast.tw12268619504957227430 : True := trivial
theorem PySem.W.Fast.tw192364014060868859 : True := trivial
theorem PySem.W.Fast.tw8853716918607603754 : True := trivial
theorem PySem.W.Fast.tw15330370161479337709 : True := trivial
theorem PySem.W.Fast.tw8904614635808639896 : True := trivial
theorem PySem.W.Fast.tw12206815484308895304 : True := trivial
theorem PySem.W.Fast.tw17947525867595598129 : True := trivial
theorem PySem.W.Fast.tw1575257747223125361 : True := trivial
theorem PySem.W.Fast.tw8053036974702239533 : True := trivial
theorem PySem.W.Fast.tw11115563556967626641 : True := trivial
theorem PySem.W.Fast.tw18440209719253714467 : True := trivial
theorem PySem.W.Fast.tw3040878739819527555 : True := trivial
theorem PySem.W.Fast.tw16296555263003666064 : True := trivial
theorem PySem.W.Fast.tw12262486938037619366 : True := trivial
theorem PySem.W.Fast.tw17745243874806887825 : True := trivial
theorem PySem.W.Fast.tw9058665132936023929 : True := trivial
theorem PySem.W.Fast.tw6966625144278705625 : True := trivial
theorem PySem.W.Fast.tw5836999711069159165 : True := trivial
theorem PySem.W.Fast.tw14827030643318500929 : True := trivial
theorem PySem.W.Fast.tw8898253572766436334 : True := trivial
theorem PySem.W.Fast.tw7958990662583474486 : True := trivial
theorem PySem.W.Fast.tw6037597026841904864 : True := trivial
theorem PySem.W.Fast.tw16620292867129456261 : True := trivial
theorem PySem.W.Fast.tw6798128297838312684 : True := trivial
theorem PySem.W.Fast.tw5470377176063132532 : True := trivial
theorem PySem.W.Fast.tw5195406690545596327 : True := trivial
theorem PySem.W.Fast.tw15849212152235961202 : True := trivial
theorem PySem.W.Fast.tw13469201896199528119 : True := trivial
theorem PySem.W.Fast.tw9619136023535043960 : True := trivial
theorem PySem.W.Fast.tw17766715072249411254 : True := trivial
theorem PySem.W.Fast.tw10410568435290740611 : True := trivial
theorem PySem.W.Fast.tw16827803264918257994 : True := trivial
theorem PySem.W.Fast.tw7521646332208778725 : True := trivial
theorem PySem.W.Fast.tw3943594661093056610 : True := trivial
theorem PySem.W.Fast.tw4410583366869065446 : True := trivial
theorem PySem.W.Fast.tw4644411641044117911 : True := trivial
theorem PySem.W.Fast.tw16697500281853589592 : True := trivial
theorem PySem.W.Fast.tw11895040565283993463 : True := trivial
theorem PySem.W.Fast.tw14867796830561228306 : True := trivial
theorem PySem.W.Fast.tw14598005417399521411 : True := trivial
theorem PySem.W.Fast.tw14681781314634032361 : True := trivial
theorem PySem.W.Fast.tw17525965105408035875 : True := trivial
theorem PySem.W.Fast.tw6322944452960313732 : True := trivial
theorem PySem.W.Fast.tw6141624995826950384 : True := trivial
theorem PySem.W.Fast.tw16792533891480290100 : True := trivial
theorem PySem.W.Fast.tw10441389026101442455 : True := trivial
theorem PySem.W.Fast.tw9010488923185352484 : True := trivial
theorem PySem.W.Fast.tw350780337662937627 : True := trivial
theorem PySem.W.Fast.tw8906803237951577775 : True := trivial
theorem PySem.W.Fast.tw3726431788251355248 : True := trivial
theorem PySem.W.Fast.tw5243750691470633039 : True := trivial
theorem PySem.W.Fast.tw17003329277495071625 : True := trivial
theorem PySem.W.Fast.tw13541051536361901763 : True := trivial
theorem PySem.W.Fast.tw15877210157869987490 : True := trivial
theorem PySem.W.Fast.tw15857193244643602454 : True := trivial
theorem PySem.W.Fast.tw1232943999500316593 : True := trivial
theorem PySem.W.Fast.tw437942802257273094 : True := trivial
theorem PySem.W.Fast.tw8096196034429713520 : True := trivial
theorem PySem.W.Fast.tw5353821152872774534 : True := trivial
theorem PySem.W.Fast.tw13776276678842326638 : True := trivial
theorem PySem.W.Fast.tw17115421941474004415 : True := trivial
theorem PySem.W.Fast.tw14289504053591526416 : True := trivial
theorem PySem.W.Fast.tw9499256361091077484 : True := trivial
theorem PySem.W.Fast.tw1511555611440006307 : True := trivial
theorem PySem.W.Fast.tw3082292106852115408 : True := trivial
theorem PySem.W.Fast.tw8563501434936331693 : True := trivial
theorem PySem.W.Fast.tw12477401758706106890 : True := trivial
theorem PySem.W.Fast.tw7766658859202254174 : True := trivial
theorem PySem.W.Fast.tw15778561736904142571 : True := trivial
theorem PySem.W.Fast.tw11825062873161835148 : True := trivial
theorem PySem.W.Fast.tw13864052505645498243 : True := trivial
theorem PySem.W.Fast.tw7303937307358890345 : True := trivial
theorem PySem.W.Fast.tw3453281301922499497 : True := trivial
theorem PySem.W.Fast.tw4807774252014343882 : True := trivial
theorem PySem.W.Fast.tw3427567698315850043 : True := trivial
theorem PySem.W.Fast.tw13144793173709897631 : True := trivial
theorem PySem.W.Fast.tw12491848951373057021 : True := trivial
theorem PySem.W.Fast.tw17778821698416767754 : True := trivial
theorem PySem.W.Fast.tw12375429088458467707 : True := trivial
theorem PySem.W.Fast.tw14646432222823301268 : True := trivial
theorem PySem.W.Fast.tw12653097687481725420 : True := trivial
theorem PySem.W.Fast.tw11953177262291500826 : True := trivial
theorem PySem.W.Fast.tw363560506132618893 : True := trivial
theorem PySem.W.Fast.tw8446965226224976196 : True := trivial
theorem PySem.W.Fast.tw5639742560586046386 : True := trivial
theorem PySem.W.Fast.tw422521458286912929 : True := trivial
theorem PySem.W.Fast.tw3175799160401674512 : True := trivial
theorem PySem.W.Fast.tw9427143497467219147 : True := trivial
theorem PySem.W.Fast.tw2845768814585488106 : True := trivial
theorem PySem.W.Fast.tw971686172617443518 : True := trivial
theorem PySem.W.Fast.tw807367957812943733 : True := trivial
theorem PySem.W.Fast.tw7845914421338705315 : True := trivial
theorem PySem.W.Fast.tw852957791438618870 : True := trivial
theorem PySem.W.Fast.tw10719452178081978578 : True := trivial
theorem PySem.W.Fast.tw4740419953062358339 : True := trivial
theorem PySem.W.Fast.tw14500252560498861486 : True := trivial
theorem PySem.W.Fast.tw6019688874433093244 : True := trivial
theorem PySem.W.Fast.tw13353542513630910950 : True := trivial
theorem PySem.W.Fast.tw12871979676925895415 : True := trivial
theorem PySem.W.Fast.tw18066713771177739639 : True := trivial
theorem PySem.W.Fast.tw1741535776058624079 : True := trivial
theorem PySem.W.Fast.tw4337589369283998339 : True := trivial
theorem PySem.W.Fast.tw15079616242458955686 : True := trivial
theorem PySem.W.Fast.tw12867954813784142571 : True := trivial
theorem PySem.W.Fast.tw7392042485872341070 : True := trivial
theorem PySem.W.Fast.tw13873231817677047703 : True := trivial
theorem PySem.W.Fast.tw11761774357614200879 : True := trivial
theorem PySem.W.Fast.tw12448930575352991431 : True := trivial
theorem PySem.W.Fast.tw15194203474964116490 : True := trivial
theorem PySem.W.Fast.tw1001657351568381111 : True := trivial
theorem PySem.W.Fast.tw4058573198508627449 : True := trivial
theorem PySem.W.Fast.tw5680133829419417067 : True := trivial
theorem PySem.W.Fast.tw2047110463545104106 : True := trivial
theorem PySem.W.Fast.tw4495820864994350695 : True := trivial
theorem PySem.W.Fast.tw627132651263522051 : True := trivial
theorem PySem.W.Fast.tw9358133514140375047 : True := trivial
theorem PySem.W.Fast.tw9435696375021653173 : True := trivial
theorem PySem.W.Fast.tw327647262060985750 : True := trivial
theorem PySem.W.Fast.tw10150697913167832223 : True := trivial
theorem PySem.W.Fast.tw1046896542760150349 : True := trivial
theorem PySem.W.Fast.tw10489660211950803823 : True := trivial
theorem PySem.W.Fast.tw5983677562228123721 : True := trivial
theorem PySem.W.Fast.tw14334618655589622273 : True := trivial
theorem PySem.W.Fast.tw9060393790780465432 : True := trivial
theorem PySem.W.Fast.tw16787238378905968565 : True := trivial
theorem PySem.W.Fast.tw14640204799658264874 : True := trivial
theorem PySem.W.Fast.tw448719808800531675 : True := trivial
theorem PySem.W.Fast.tw12677141370724131273 : True := trivial
theorem PySem.W.Fast.tw1485469885152926026 : True := trivial
theorem PySem.W.Fast.tw5429212807670809887 : True := trivial
theorem PySem.W.Fast.tw4003020166735799448 : True := trivial
theorem PySem.W.Fast.tw1404736694480242429 : True := trivial
theorem PySem.W.Fast.tw400185330810233910 : True := trivial
theorem PySem.W.Fast.tw9515113915622478820 : True := trivial
theorem PySem.W.Fast.tw5302464066693701005 : True := trivial
theorem PySem.W.Fast.tw18066288503342062736 : True := trivial
theorem PySem.W.Fast.tw6055329544643851117 : True := trivial
theorem PySem.W.Fast.tw3072894371628132875 : True := trivial
theorem PySem.W.Fast.tw5140942347867093824 : True := trivial
theorem PySem.W.Fast.tw3012114906767614426 : True := trivial
theorem PySem.W.Fast.tw3128635380578376499 : True := trivial
theorem PySem.W.Fast.tw14698817571260272510 : True := trivial
theorem PySem.W.Fast.tw6723910883662199234 : True := trivial
theorem PySem.W.Fast.tw8526178501961239582 : True := trivial
theorem PySem.W.Fast.tw9582963935075224715 : True := trivial
theorem PySem.W.Fast.tw17451418365721190227 : True := trivial
theorem PySem.W.Fast.tw8656305435181979024 : True := trivial
theorem PySem.W.Fast.tw6033288140296954831 : True := trivial
theorem PySem.W.Fast.tw17316328638755083117 : True := trivial
theorem PySem.W.Fast.tw13327989492150067711 : True := trivial
theorem PySem.W.Fast.tw14393900362265475060 : True := trivial
theorem PySem.W.Fast.tw11362440674698650251 : True := trivial
theorem PySem.W.Fast.tw5326208799403432896 : True := trivial
theorem PySem.W.Fast.tw50816822621902432 : True := trivial
theorem PySem.W.Fast.tw2593848887827999709 : True := trivial
theorem PySem.W.Fast.tw2250215835183688323 : True := trivial
theorem PySem.W.Fast.tw16802071539809742418 : True := trivial
theorem PySem.W.Fast.tw16869061589398651100 : True := trivial
theorem PySem.W.Fast.tw17447528323014429359 : True := trivial
theorem PySem.W.Fast.tw6297121664518334889 : True := trivial
theorem PySem.W.Fast.tw13814074447774059913 : True := trivial
theorem PySem.W.Fast.tw8419555958185827290 : True := trivial
theorem PySem.W.Fast.tw2690626792467741477 : True := trivial
theorem PySem.W.Fast.tw10572973847471364641 : True := trivial
theorem PySem.W.Fast.tw413738663123403094 : True := trivial
theorem PySem.W.Fast.tw6962083798568301901 : True := trivial
theorem PySem.W.Fast.tw11575271815734881210 : True := trivial
theorem PySem.W.Fast.tw4303624338179194802 : True := trivial
theorem PySem.W.Fast.tw11879160696512661239 : True := trivial
theorem PySem.W.Fast.tw10059532436069084903 : True := trivial
theorem PySem.W.Fast.tw7254585090792205988 : True := trivial
theorem PySem.W.Fast.tw12318824974483099862 : True := trivial
theorem PySem.W.Fast.tw13085773554025549358 : True := trivial
theorem PySem.W.Fast.tw14464310642197599147 : True := trivial
theorem PySem.W.Fast.tw1574489330098033294 : True := trivial
theorem PySem.W.Fast.tw7134924094816527398 : True := trivial
theorem PySem.W.Fast.tw17707866615919579828 : True := trivial
theorem PySem.W.Fast.tw2261107532101671600 : True := trivial
theorem PySem.W.Fast.tw1124135073145107765 : True := trivial
theorem PySem.W.Fast.tw10536142810780694465 : True := trivial
theorem PySem.W.Fast.tw9043174252086667086 : True := trivial
theorem PySem.W.Fast.tw3188237137824721532 : True := trivial
theorem PySem.W.Fast.tw5793946625694556213 : True := trivial
theorem PySem.W.Fast.tw17605585072456953450 : True := trivial
theorem PySem.W.Fast.tw9150389667803749816 : True := trivial
theorem PySem.W.Fast.tw16129937904027827174 : True := trivial
theorem PySem.W.Fast.tw5563828593761408612 : True := trivial
theorem PySem.W.Fast.tw9753914876026177801 : True := trivial
theorem PySem.W.Fast.tw15691966323002749822 : True := trivial
theorem PySem.W.Fast.tw9335608674013382741 : True := trivial
theorem PySem.W.Fast.tw5956267180386441933 : True := trivial
theorem PySem.W.Fast.tw4736070218040095044 : True := trivial
theorem PySem.W.Fast.tw8421483131178720866 : True := trivial
theorem PySem.W.Fast.tw13543906665513501546 : True := trivial
theorem PySem.W.Fast.tw16907920334151184124 : True := trivial
theorem PySem.W.Fast.tw11837652328049962776 : True := trivial
theorem PySem.W.Fast.tw11941791728965880799 : True := trivial
theorem PySem.W.Fast.tw7206401761034051889 : True := trivial
theorem PySem.W.Fast.tw12616771337058736051 : True := trivial
theorem PySem.W.Fast.tw1654451226015381553 : True := trivial
theorem PySem.W.Fast.tw10186638688995629660 : True := trivial
theorem PySem.W.Fast.tw16629706633006143040 : True := trivial
theorem PySem.W.Fast.tw14693908197408851025 : True := trivial
theorem PySem.W.Fast.tw847477173066666068 : True := trivial
theorem PySem.W.Fast.tw4147762370620120309 : True := trivial
theorem PySem.W.Fast.tw13782758812206067103 : True := trivial
theorem PySem.W.Fast.tw16328599163300421389 : True := trivial
theorem PySem.W.Fast.tw14796446068030338807 : True := trivial
theorem PySem.W.Fast.tw2748360077829597598 : True := trivial
theorem PySem.W.Fast.tw240818805736964586 : True := trivial
theorem PySem.W.Fast.tw10823049262981745 : True := trivial
theorem PySem.W.Fast.tw655407000250470370 : True := trivial
theorem PySem.W.Fast.tw9554752718307675990 : True := trivial
theorem PySem.W.Fast.tw890335158412750125 : True := trivial
theorem PySem.W.Fast.tw7739957713700507704 : True := trivial
theorem PySem.W.Fast.tw2232136673212389424 : True := trivial
theorem PySem.W.Fast.tw4296937754710779500 : True := trivial
theorem PySem.W.Fast.tw9811285806568488176 : True := trivial
theorem PySem.W.Fast.tw11267943425850963332 : True := trivial
theorem PySem.W.Fast.tw5028059956643409605 : True := trivial
theorem PySem.W.Fast.tw15657452517168293285 : True := trivial
theorem PySem.W.Fast.tw372222678680584207 : True := trivial
theorem PySem.W.Fast.tw845068578395392027 : True := trivial
theorem PySem.W.Fast.tw12456114748037115712 : True := trivial
theorem PySem.W.Fast.tw25178287500068133 : True := trivial
theorem PySem.W.Fast.tw11540397240412782086 : True := trivial
theorem PySem.W.Fast.tw3600579936210028641 : True := trivial
theorem PySem.W.Fast.tw9549916350149497770 : True := trivial
theorem PySem.W.Fast.tw302527023365938087 : True := trivial
theorem PySem.W.Fast.tw4917737449348373627 : True := trivial
theorem PySem.W.Fast.tw7623894865192455321 : True := trivial
theorem PySem.W.Fast.tw5632957270453764027 : True := trivial
theorem PySem.W.Fast.tw14294505550631904568 : True := trivial
theorem PySem.W.Fast.tw15213589210225862892 : True := trivial
theorem PySem.W.Fast.tw7733871742504021764 : True := trivial
theorem PySem.W.Fast.tw16156124979593243672 : True := trivial
theorem PySem.W.Fast.tw7920232167505918011 : True := trivial
theorem PySem.W.Fast.tw17293053527625071674 : True := trivial
theorem PySem.W.Fast.tw10576072712610298162 : True := trivial
theorem PySem.W.Fast.tw1052106280464431615 : True := trivial
theorem PySem.W.Fast.tw7795464582254217945 : True := trivial
theorem PySem.W.Fast.tw14875699962692389594 : True := trivial
theorem PySem.W.Fast.tw7152725899646222546 : True := trivial
theorem PySem.W.Fast.tw17128419256891795929 : True := trivial
theorem PySem.W.Fast.tw9693798685547301513 : True := trivial
theorem PySem.W.Fast.tw10334984438479251559 : True := trivial
theorem PySem.W.Fast.tw6538789351900325879 : True := trivial
theorem PySem.W.Fast.tw4470481410453271261 : True := trivial
theorem PySem.W.Fast.tw9994152395651244911 : True := trivial
theorem PySem.W.Fast.tw5420471553507822350 : True := trivial
theorem PySem.W.Fast.tw15337240591084250972 : True := trivial
theorem PySem.W.Fast.tw1890917324549604509 : True := trivial
theorem PySem.W.Fast.tw16383770405066191559 : True := trivial
theorem PySem.W.Fast.tw7327137465564513708 : True := trivial
theorem PySem.W.Fast.tw10567247903717934532 : True := trivial
theorem PySem.W.Fast.tw11564045294510175835 : True := trivial
theorem PySem.W.Fast.tw3467198915063677151 : True := trivial
theorem PySem.W.Fast.tw8890625547017093222 : True := trivial
theorem PySem.W.Fast.tw6044816153254050178 : True := trivial
theorem PySem.W.Fast.tw6294926248034305568 : True := trivial
theorem PySem.W.Fast.tw4776970724836946999 : True := trivial
theorem PySem.W.Fast.tw6103476544884479096 : True := trivial
theorem PySem.W.Fast.tw9509733309395906622 : True := trivial
theorem PySem.W.Fast.tw17380870667896622867 : True := trivial
theorem PySem.W.Fast.tw8952542853073597231 : True := trivial
theorem PySem.W.Fast.tw16293450055218350608 : True := trivial
theorem PySem.W.Fast.tw1575801307504455869 : True := trivial
theorem PySem.W.Fast.tw10302713105732832327 : True := trivial
theorem PySem.W.Fast.tw544263907357685290 : True := trivial
theorem PySem.W.Fast.tw17846908910263777016 : True := trivial
theorem PySem.W.Fast.tw5753561562663529525 : True := trivial
theorem PySem.W.Fast.tw9146677940270485125 : True := trivial
theorem PySem.W.Fast.tw3947383398887312793 : True := trivial
theorem PySem.W.Fast.tw150659387163223605 : True := trivial
theorem PySem.W.Fast.tw845409382796059663 : True := trivial
theorem PySem.W.Fast.tw17607165325570776820 : True := trivial
theorem PySem.W.Fast.tw7525877204654442359 : True := trivial
theorem PySem.W.Fast.tw6177806976814782279 : True := trivial
theorem PySem.W.Fast.tw232531639550574580 : True := trivial
theorem PySem.W.Fast.tw1778875483572994661 : True := trivial
theorem PySem.W.Fast.tw1913575310884196219 : True := trivial
theorem PySem.W.Fast.tw17278652262713452181 : True := trivial
theorem PySem.W.Fast.tw10450993512450755636 : True := trivial
theorem PySem.W.Fast.tw12419309059112440334 : True := trivial
theorem PySem.W.Fast.tw18278313599232801310 : True := trivial
theorem PySem.W.Fast.tw13983942676748098819 : True := trivial
theorem PySem.W.Fast.tw16598612842618119163 : True := trivial
theorem PySem.W.Fast.tw16729103670139139234 : True := trivial
theorem PySem.W.Fast.tw14048071866684383280 : True := trivial
theorem PySem.W.Fast.tw17229508500114231120 : True := trivial
theorem PySem.W.Fast.tw16188945918344287230 : True := trivial
theorem PySem.W.Fast.tw7877514953976769340 : True := trivial
theorem PySem.W.Fast.tw5766240323818090990 : True := trivial
theorem PySem.W.Fast.tw1993952502971759266 : True := trivial
theorem PySem.W.Fast.tw3600328777351269392 : True := trivial
theorem PySem.W.Fast.tw15721604927274071208 : True := trivial
theorem PySem.W.Fast.tw5167525128390178614 : True := trivial
theorem PySem.W.Fast.tw5632610833822211795 : True := trivial
theorem PySem.W.Fast.tw3769225439900354211 : True := trivial
theorem PySem.W.Fast.tw4988234597424510934 : True := trivial
theorem PySem.W.Fast.tw9244219126870096268 : True := trivial
theorem PySem.W.Fast.tw2070883618872327985 : True := trivial
theorem PySem.W.Fast.tw14604728940035123675 : True := trivial
theorem PySem.W.Fast.tw5917651420176272655 : True := trivial
theorem PySem.W.Fast.tw6215890327267429190 : True := trivial
theorem PySem.W.Fast.tw12576516740476479379 : True := trivial
theorem PySem.W.Fast.tw4810342205536951268 : True := trivial
theorem PySem.W.Fast.tw18094180524048344745 : True := trivial
theorem PySem.W.Fast.tw11375570284269759505 : True := trivial
theorem PySem.W.Fast.tw17090018253267320218 : True := trivial
theorem PySem.W.Fast.tw7251181067931099188 : True := trivial
theorem PySem.W.Fast.tw12615283312321776722 : True := trivial
theorem PySem.W.Fast.tw11309341390838761827 : True := trivial
theorem PySem.W.Fast.tw173946687267563389 : True := trivial
theorem PySem.W.Fast.tw11444017834117351502 : True := trivial
theorem PySem.W.Fast.tw6326576713751859353 : True := trivial
theorem PySem.W.Fast.tw10240591205077961184 : True := trivial
theorem PySem.W.Fast.tw13701304066338179280 : True := trivial
theorem PySem.W.Fast.tw9426005168368660778 : True := trivial
theorem PySem.W.Fast.tw2920423006048263469 : True := trivial
theorem PySem.W.Fast.tw10641799129731269491 : True := trivial
theorem PySem.W.Fast.tw6036501351224381895 : True := trivial
theorem PySem.W.Fast.tw18274768246701158168 : True := trivial
theorem PySem.W.Fast.tw11953738797776777750 : True := trivial
theorem PySem.W.Fast.tw14015716772669941683 : True := trivial
theorem PySem.W.Fast.tw17110865785865217904 : True := trivial
theorem PySem.W.Fast.tw7336848035352901098 : True := trivial
theorem PySem.W.Fast.tw16770526846775500055 : True := trivial
theorem PySem.W.Fast.tw13743171789736086933 : True := trivial
theorem PySem.W.Fast.tw14037340100421435789 : True := trivial
theorem PySem.W.Fast.tw17051610378030068476 : True := trivial
theorem PySem.W.Fast.tw755629848166752768 : True := trivial
theorem PySem.W.Fast.tw8372170904787707059 : True := trivial
theorem PySem.W.Fast.tw10982599082987808374 : True := trivial
theorem PySem.W.Fast.tw15559143461276761071 : True := trivial
theorem PySem.W.Fast.tw5325174523894527773 : True := trivial
theorem PySem.W.Fast.tw8980401829352083955 : True := trivial
theorem PySem.W.Fast.tw5601755474130445621 : True := trivial
theorem PySem.W.Fast.tw16214894058901932456 : True := trivial
theorem PySem.W.Fast.tw12682295792598702546 : True := trivial
theorem PySem.W.Fast.tw18030932305511654801 : True := trivial
theorem PySem.W.Fast.tw16724708940048091285 : True := trivial
theorem PySem.W.Fast.tw676268904725759816 : True := trivial
theorem PySem.W.Fast.tw12621245479249143813 : True := trivial
theorem PySem.W.Fast.tw3267626590568924373 : True := trivial
theorem PySem.W.Fast.tw14331343773140835518 : True := trivial
theorem PySem.W.Fast.tw18114631648983952314 : True := trivial
theorem PySem.W.Fast.tw8494987411413842973 : True := trivial
theorem PySem.W.Fast.tw6689870242915374551 : True := trivial
theorem PySem.W.Fast.tw5383227580649900038 : True := trivial
theorem PySem.W.Fast.tw3211829632889209807 : True := trivial
theorem PySem.W.Fast.tw15659810009080187935 : True := trivial
theorem PySem.W.Fast.tw11686558438260083007 : True := trivial
theorem PySem.W.Fast.tw17221469715085900938 : True := trivial
theorem PySem.W.Fast.tw15689583577155533489 : True := trivial
theorem PySem.W.Fast.tw5004528404381643438 : True := trivial
theorem PySem.W.Fast.tw7525669182989203702 : True := trivial
theorem PySem.W.Fast.tw802864518943335178 : True := trivial
theorem PySem.W.Fast.tw17788318688910527867 : True := trivial
theorem PySem.W.Fast.tw8768447676823076805 : True := trivial
theorem PySem.W.Fast.tw869714518496399043 : True := trivial
theorem PySem.W.Fast.tw10029451389859337993 : True := trivial
theorem PySem.W.Fast.tw10368290136470987103 : True := trivial
theorem PySem.W.Fast.tw5620779830791047348 : True := trivial
theorem PySem.W.Fast.tw6255091903244939544 : True := trivial
theorem PySem.W.Fast.tw17103690906308402868 : True := trivial
theorem PySem.W.Fast.tw1574311194029321335 : True := trivial
theorem PySem.W.Fast.tw14580129632694645313 : True := trivial
theorem PySem.W.Fast.tw16738940868103743485 : True := trivial
theorem PySem.W.Fast.tw4455956356677444372 : True := trivial
theorem PySem.W.Fast.tw4555502264563919135 : True := trivial
theorem PySem.W.Fast.tw11973767299025268009 : True := trivial
theorem PySem.W.Fast.tw4889854147700349067 : True := trivial
theorem PySem.W.Fast.tw16669271026321016088 : True := trivial
theorem PySem.W.Fast.tw10470324416996308692 : True := trivial
theorem PySem.W.Fast.tw14483306664946793730 : True := trivial
theorem PySem.W.Fast.tw15045632437673021758 : True := trivial
theorem PySem.W.Fast.tw11235220749009990311 : True := trivial
theorem PySem.W.Fast.tw17244366443693723396 : True := trivial
theorem PySem.W.Fast.tw10640014616256573905 : True := trivial
theorem PySem.W.Fast.tw3965424787472340636 : True := trivial
theorem PySem.W.Fast.tw17388803050956053417 : True := trivial
theorem PySem.W.Fast.tw12197361510485623048 : True := trivial
theorem PySem.W.Fast.tw12627617096079201081 : True := trivial
theorem PySem.W.Fast.tw2533439467247650556 : True := trivial
theorem PySem.W.Fast.tw9935295843953952416 : True := trivial
theorem PySem.W.Fast.tw9177344490794724870 : True := trivial
theorem PySem.W.Fast.tw14584807616218123833 : True := trivial
theorem PySem.W.Fast.tw1141218428622578231 : True := trivial
theorem PySem.W.Fast.tw17907820233066450465 : True := trivial
theorem PySem.W.Fast.tw3544243768799690653 : True := trivial
theorem PySem.W.Fast.tw4678999484897942790 : True := trivial
theorem PySem.W.Fast.tw8201981100630076218 : True := trivial
theorem PySem.W.Fast.tw1479091763875046353 : True := trivial
theorem PySem.W.Fast.tw9519878051784030184 : True := trivial
theorem PySem.W.Fast.tw491495794571381287 : True := trivial
theorem PySem.W.Fast.tw13104387961647790856 : True := trivial
theorem PySem.W.Fast.tw12905506552757085722 : True := trivial
theorem PySem.W.Fast.tw5146216263007230013 : True := trivial
theorem PySem.W.Fast.tw1721856158530877551 : True := trivial
theorem PySem.W.Fast.tw6647588456870399701 : True := trivial
theorem PySem.W.Fast.tw5467551977493897202 : True := trivial
theorem PySem.W.Fast.tw918157650754788669 : True := trivial
theorem PySem.W.Fast.tw3776983272474951209 : True := trivial
theorem PySem.W.Fast.tw3584290972653117757 : True := trivial
theorem PySem.W.Fast.tw6589016568215231972 : True := trivial
theorem PySem.W.Fast.tw11459512824587820894 : True := trivial
theorem PySem.W.Fast.tw6177990965135515277 : True := trivial
theorem PySem.W.Fast.tw17726721991883235041 : True := trivial
theorem PySem.W.Fast.tw4367243646723760668 : True := trivial
theorem PySem.W.Fast.tw6872245641828207465 : True := trivial
theorem PySem.W.Fast.tw12703927960791530271 : True := trivial
theorem PySem.W.Fast.tw4332141272089483065 : True := trivial
theorem PySem.W.Fast.tw5089189786061516312 : True := trivial
theorem PySem.W.Fast.tw12731026972156135892 : True := trivial
theorem PySem.W.Fast.tw736629280388082991 : True := trivial
theorem PySem.W.Fast.tw12424573590444248436 : True := trivial
theorem PySem.W.Fast.tw13321894603509229166 : True := trivial
theorem PySem.W.Fast.tw12888717797172365410 : True := trivial
theorem PySem.W.Fast.tw13462931801724787360 : True := trivial
theorem PySem.W.Fast.tw1956587305137201433 : True := trivial
theorem PySem.W.Fast.tw7627460920449715027 : True := trivial
theorem PySem.W.Fast.tw2563639411109608970 : True := trivial
theorem PySem.W.Fast.tw12364528661584548364 : True := trivial
theorem PySem.W.Fast.tw5437003731702340241 : True := trivial
theorem PySem.W.Fast.tw14454544324659903536 : True := trivial
theorem PySem.W.Fast.tw15882045973083474114 : True := trivial
theorem PySem.W.Fast.tw6459931956168135297 : True := trivial
theorem PySem.W.Fast.tw4453878628405352073 : True := trivial
theorem PySem.W.Fast.tw9658779347231640075 : True := trivial
theorem PySem.W.Fast.tw9544767239849690959 : True := trivial
theorem PySem.W.Fast.tw6779288935424983288 : True := trivial
theorem PySem.W.Fast.tw2191649983449358671 : True := trivial
theorem PySem.W.Fast.tw5311133608469287129 : True := trivial
theorem PySem.W.Fast.tw1794006177160594563 : True := trivial
theorem PySem.W.Fast.tw4547432190841979654 : True := trivial
theorem PySem.W.Fast.tw15539458527832703209 : True := trivial
theorem PySem.W.Fast.tw14155097445427106108 : True := trivial
theorem PySem.W.Fast.tw4712568076018452351 : True := trivial
theorem PySem.W.Fast.tw483415148055171713 : True := trivial
theorem PySem.W.Fast.tw10265391013943088454 : True := trivial
theorem PySem.W.Fast.tw12498395326258979197 : True := trivial
theorem PySem.W.Fast.tw10216835223489148441 : True := trivial
theorem PySem.W.Fast.tw915627849048658310 : True := trivial
theorem PySem.W.Fast.tw12481900549072936640 : True := trivial
theorem PySem.W.Fast.tw16677734816087947245 : True := trivial
theorem PySem.W.Fast.tw7604486934781151636 : True := trivial
theorem PySem.W.Fast.tw15746842980063369435 : True := trivial
theorem PySem.W.Fast.tw14791587410777715425 : True := trivial
theorem PySem.W.Fast.tw16216272463464685196 : True := trivial
theorem PySem.W.Fast.tw5221806781757252406 : True := trivial
theorem PySem.W.Fast.tw12377757320638011500 : True := trivial
theorem PySem.W.Fast.tw11322029038944707730 : True := trivial
theorem PySem.W.Fast.tw15798067227894781472 : True := trivial
theorem PySem.W.Fast.tw7170894151371945803 : True := trivial
theorem PySem.W.Fast.tw16582190672374983654 : True := trivial
theorem PySem.W.Fast.tw1478117920428984091 : True := trivial
theorem PySem.W.Fast.tw6549164772427259814 : True := trivial
theorem PySem.W.Fast.tw14623692959513984363 : True := trivial
theorem PySem.W.Fast.tw16958963704830166273 : True := trivial
theorem PySem.W.Fast.tw11840797841681054503 : True := trivial
theorem PySem.W.Fast.tw12550354801986250608 : True := trivial
theorem PySem.W.Fast.tw2601083219669674129 : True := trivial
theorem PySem.W.Fast.tw13695377625881510104 : True := trivial
theorem PySem.W.Fast.tw1777244756559129169 : True := trivial
theorem PySem.W.Fast.tw12455065886956080743 : True := trivial
theorem PySem.W.Fast.tw10464341738395783074 : True := trivial
theorem PySem.W.Fast.tw2451733868740947089 : True := trivial
theorem PySem.W.Fast.tw2882240670679914068 : True := trivial
theorem PySem.W.Fast.tw9812007679345548543 : True := trivial
theorem PySem.W.Fast.tw13795310046967691160 : True := trivial
theorem PySem.W.Fast.tw2165523833508635272 : True := trivial
theorem PySem.W.Fast.tw5901541952081176059 : True := trivial
theorem PySem.W.Fast.tw8935291081990769295 : True := trivial
theorem PySem.W.Fast.tw4857234480935068501 : True := trivial
theorem PySem.W.Fast.tw15598814604403017866 : True := trivial
theorem PySem.W.Fast.tw5060368948330085384 : True := trivial
theorem PySem.W.Fast.tw8454475275640036996 : True := trivial
theorem PySem.W.Fast.tw13785561178318447588 : True := trivial
theorem PySem.W.Fast.tw8426629299382474766 : True := trivial
theorem PySem.W.Fast.tw12169907449430103972 : True := trivial
theorem PySem.W.Fast.tw8607273079834379612 : True := trivial
theorem PySem.W.Fast.tw1029201205636713963 : True := trivial
theorem PySem.W.Fast.tw6374918906988232304 : True := trivial
theorem PySem.W.Fast.tw11272135824171489563 : True := trivial
theorem PySem.W.Fast.tw11373980980427878211 : True := trivial
theorem PySem.W.Fast.tw14307322370144929290 : True := trivial
theorem PySem.W.Fast.tw2216713844007694851 : True := trivial
theorem PySem.W.Fast.tw13224097504604389438 : True := trivial
theorem PySem.W.Fast.tw13615213792891844336 : True := trivial
theorem PySem.W.Fast.tw8983820364119093283 : True := trivial
theorem PySem.W.Fast.tw13814661318995560823 : True := trivial
theorem PySem.W.Fast.tw14551145294241908426 : True := trivial
theorem PySem.W.Fast.tw1810754005154627391 : True := trivial
theorem PySem.W.Fast.tw1869402331911235875 : True := trivial
theorem PySem.W.Fast.tw7265435901832724192 : True := trivial
theorem PySem.W.Fast.tw8941749490145240655 : True := trivial
theorem PySem.W.Fast.tw11827087987351680714 : True := trivial
theorem PySem.W.Fast.tw4978625960316630629 : True := trivial
theorem PySem.W.Fast.tw8330978876837807224 : True := trivial
theorem PySem.W.Fast.tw11207450180039052409 : True := trivial
theorem PySem.W.Fast.tw1994197656808775232 : True := trivial
theorem PySem.W.Fast.tw2598345923767834339 : True := trivial
theorem PySem.W.Fast.tw18443196707680696969 : True := trivial
theorem PySem.W.Fast.tw18073066446911255715 : True := trivial
theorem PySem.W.Fast.tw13572917954866173585 : True := trivial
theorem PySem.W.Fast.tw7942668616952627001 : True := trivial
theorem PySem.W.Fast.tw17437395943260385368 : True := trivial
theorem PySem.W.Fast.tw2275150089316944845 : True := trivial
theorem PySem.W.Fast.tw2816522631000765718 : True := trivial
theorem PySem.W.Fast.tw8052927469842870353 : True := trivial
theorem PySem.W.Fast.tw13199589353646933989 : True := trivial
theorem PySem.W.Fast.tw9113529830068803397 : True := trivial
theorem PySem.W.Fast.tw8792396621680777862 : True := trivial
theorem PySem.W.Fast.tw4416692224851031005 : True := trivial
theorem PySem.W.Fast.tw16728388353137527148 : True := trivial
theorem PySem.W.Fast.tw18001786373304272047 : True := trivial
theorem PySem.W.Fast.tw6604349892293552531 : True := trivial
theorem PySem.W.Fast.tw4659337217953851200 : True := trivial
theorem PySem.W.Fast.tw5807025924436092952 : True := trivial
theorem PySem.W.Fast.tw15755300150647683378 : True := trivial
theorem PySem.W.Fast.tw8296782099855332475 : True := trivial
theorem PySem.W.Fast.tw876949814187732192 : True := trivial
theorem PySem.W.Fast.tw11377508410487471629 : True := trivial
theorem PySem.W.Fast.tw7332563378552330481 : True := trivial
theorem PySem.W.Fast.tw3367433680418214717 : True := trivial
theorem PySem.W.Fast.tw3902471579724600578 : True := trivial
theorem PySem.W.Fast.tw6304103930862857955 : True := trivial
theorem PySem.W.Fast.tw6812937695648989646 : True := trivial
theorem PySem.W.Fast.tw4397872347328107699 : True := trivial
theorem PySem.W.Fast.tw3899496058145823546 : True := trivial
theorem PySem.W.Fast.tw10635544831089963479 : True := trivial
theorem PySem.W.Fast.tw11974572430058988313 : True := trivial
theorem PySem.W.Fast.tw2170913596663506168 : True := trivial
theorem PySem.W.Fast.tw5084050533997944319 : True := trivial
theorem PySem.W.Fast.tw6992787250562378954 : True := trivial
theorem PySem.W.Fast.tw7866685342833272406 : True := trivial
theorem PySem.W.Fast.tw18425013462188477648 : True := trivial
theorem PySem.W.Fast.tw8533319413543353353 : True := trivial
theorem PySem.W.Fast.tw10696030274758589469 : True := trivial
theorem PySem.W.Fast.tw9170014867905437977 : True := trivial
theorem PySem.W.Fast.tw1182911687771044984 : True := trivial
theorem PySem.W.Fast.tw13549493943880585219 : True := trivial
theorem PySem.W.Fast.tw15308487355131578895 : True := trivial
theorem PySem.W.Fast.tw367445883983497298 : True := trivial
theorem PySem.W.Fast.tw16455893109890690676 : True := trivial
theorem PySem.W.Fast.tw11611269118657649206 : True := trivial
theorem PySem.W.Fast.tw8358297908612466334 : True := trivial
theorem PySem.W.Fast.tw11403453777354089913 : True := trivial
theorem PySem.W.Fast.tw18075574212932360500 : True := trivial
theorem PySem.W.Fast.tw16071430855466688570 : True := trivial
theorem PySem.W.Fast.tw12928803764387031483 : True := trivial
theorem PySem.W.Fast.tw6704698838759300800 : True := trivial
theorem PySem.W.Fast.tw13695978318732025149 : True := trivial
theorem PySem.W.Fast.tw15924027284629351881 : True := trivial
theorem PySem.W.Fast.tw12134245350077478042 : True := trivial
theorem PySem.W.Fast.tw18281564395187936028 : True := trivial
theorem PySem.W.Fast.tw2285910420767253707 : True := trivial
theorem PySem.W.Fast.tw14032553600271181497 : True := trivial
theorem PySem.W.Fast.tw16804725306871915513 : True := trivial
theorem PySem.W.Fast.tw2170576092090154750 : True := trivial
theorem PySem.W.Fast.tw2333759547066709246 : True := trivial
theorem PySem.W.Fast.tw10502898522379220267 : True := trivial
theorem PySem.W.Fast.tw8530970983737496900 : True := trivial
theorem PySem.W.Fast.tw12217196777729200788 : True := trivial
theorem PySem.W.Fast.tw11470782804513600560 : True := trivial
theorem PySem.W.Fast.tw13747553040453348238 : True := trivial
theorem PySem.W.Fast.tw5456109179999958939 : True := trivial
theorem PySem.W.Fast.tw2125710249132502500 : True := trivial
theorem PySem.W.Fast.tw1240149047291773539 : True := trivial
theorem PySem.W.Fast.tw8769216191157055974 : True := trivial
theorem PySem.W.Fast.tw15795728678353117318 : True := trivial
theorem PySem.W.Fast.tw11047076525243693187 : True := trivial
theorem PySem.W.Fast.tw384033160024550724 : True := trivial
theorem PySem.W.Fast.tw10942072594721591586 : True := trivial
theorem PySem.W.Fast.tw12826192210664844291 : True := trivial
theorem PySem.W.Fast.tw13405830237194284993 : True := trivial
theorem PySem.W.Fast.tw13406234479015577874 : True := trivial
theorem PySem.W.Fast.tw9324951399749253798 : True := trivial
theorem PySem.W.Fast.tw2620350165766803503 : True := trivial
theorem PySem.W.Fast.tw8693278895525285794 : True := trivial
theorem PySem.W.Fast.tw7275372384074998817 : True := trivial
theorem PySem.W.Fast.tw12041378792430279369 : True := trivial
theorem PySem.W.Fast.tw10880769628894728779 : True := trivial
theorem PySem.W.Fast.tw15195887076786204010 : True := trivial
theorem PySem.W.Fast.tw5507991245918446932 : True := trivial
theorem PySem.W.Fast.tw2429972709771775140 : True := trivial
theorem PySem.W.Fast.tw6737999030551357746 : True := trivial
theorem PySem.W.Fast.tw16586336198519335367 : True := trivial
theorem PySem.W.Fast.tw2884750175982819451 : True := trivial
theorem PySem.W.Fast.tw12879223787507774288 : True := trivial
theorem PySem.W.Fast.tw14099165664819240835 : True := trivial
theorem PySem.W.Fast.tw4413126614184000705 : True := trivial
theorem PySem.W.Fast.tw11885190833449139354 : True := trivial
theorem PySem.W.Fast.tw1556521844666889595 : True := trivial
theorem PySem.W.Fast.tw5311832714821832726 : True := trivial
theorem PySem.W.Fast.tw8839086156939243252 : True := trivial
theorem PySem.W.Fast.tw13634325160064228199 : True := trivial
theorem PySem.W.Fast.tw9987833267912368261 : True := trivial
theorem PySem.W.Fast.tw13172415667517230687 : True := trivial
theorem PySem.W.Fast.tw14325662906628560330 : True := trivial
theorem PySem.W.Fast.tw2172060498732519098 : True := trivial
theorem PySem.W.Fast.tw13742536457029065955 : True := trivial
theorem PySem.W.Fast.tw11249282426661981230 : True := trivial
theorem PySem.W.Fast.tw5832422794436349098 : True := trivial
theorem PySem.W.Fast.tw430992996660093863 : True := trivial
theorem PySem.W.Fast.tw12935515199240448474 : True := trivial
theorem PySem.W.Fast.tw3494112930624285221 : True := trivial
theorem PySem.W.Fast.tw1098440607229107842 : True := trivial
theorem PySem.W.Fast.tw8659539566153284730 : True := trivial
theorem PySem.W.Fast.tw11974753214188740148 : True := trivial
theorem PySem.W.Fast.tw12148915699461363425 : True := trivial
theorem PySem.W.Fast.tw11118597889362308853 : True := trivial
theorem PySem.W.Fast.tw3853586485051927312 : True := trivial
theorem PySem.W.Fast.tw3287263433656795471 : True := trivial
theorem PySem.W.Fast.tw7538346497493347652 : True := trivial
theorem PySem.W.Fast.tw10144190417978668689 : True := trivial
theorem PySem.W.Fast.tw3055684539707967974 : True := trivial
theorem PySem.W.Fast.tw3977931148329448851 : True := trivial
theorem PySem.W.Fast.tw7056996335369426503 : True := trivial
theorem PySem.W.Fast.tw10264093472377042031 : True := trivial
theorem PySem.W.Fast.tw16249031832115388671 : True := trivial
theorem PySem.W.Fast.tw8019764291769894174 : True := trivial
theorem PySem.W.Fast.tw16094201009315558800 : True := trivial
theorem PySem.W.Fast.tw10735512299613264211 : True := trivial
theorem PySem.W.Fast.tw8291048619051405725 : True := trivial
theorem PySem.W.Fast.tw8692409639488335454 : True := trivial
theorem PySem.W.Fast.tw9209702952856313049 : True := trivial
theorem PySem.W.Fast.tw3553223999936615067 : True := trivial
theorem PySem.W.Fast.tw4642871427256715307 : True := trivial
theorem PySem.W.Fast.tw4973879369599399467 : True := trivial
theorem PySem.W.Fast.tw11824688682982444877 : True := trivial
theorem PySem.W.Fast.tw1410848004576135904 : True := trivial
theorem PySem.W.Fast.tw10790763940403762234 : True := trivial
theorem PySem.W.Fast.tw14852140803910761176 : True := trivial
theorem PySem.W.Fast.tw18151172038559851688 : True := trivial
theorem PySem.W.Fast.tw6100207303431099202 : True := trivial
theorem PySem.W.Fast.tw15011975985842861879 : True := trivial
theorem PySem.W.Fast.tw9665265031245475186 : True := trivial
theorem PySem.W.Fast.tw11796110884666288885 : True := trivial
theorem PySem.W.Fast.tw4299658414350417216 : True := trivial
theorem PySem.W.Fast.tw14419029585880769527 : True := trivial
theorem PySem.W.Fast.tw11803308922957072848 : True := trivial
theorem PySem.W.Fast.tw1209138283899115497 : True := trivial
theorem PySem.W.Fast.tw7120731060034370587 : True := trivial
theorem PySem.W.Fast.tw8955995151012570630 : True := trivial
theorem PySem.W.Fast.tw9501952699602855909 : True := trivial
theorem PySem.W.Fast.tw9468792906659242551 : True := trivial
theorem PySem.W.Fast.tw12206495844257714915 : True := trivial
theorem PySem.W.Fast.tw6123236350794693650 : True := trivial
theorem PySem.W.Fast.tw6493162653523742823 : True := trivial
theorem PySem.W.Fast.tw5538691941017451386 : True := trivial
theorem PySem.W.Fast.tw6785573259645178053 : True := trivial
theorem PySem.W.Fast.tw8001013995825297490 : True := trivial
theorem PySem.W.Fast.tw12222755842105263069 : True := trivial
theorem PySem.W.Fast.tw7003740141823712044 : True := trivial
theorem PySem.W.Fast.tw16671994739978783801 : True := trivial
theorem PySem.W.Fast.tw8431375494585837744 : True := trivial
theorem PySem.W.Fast.tw3829601048184557195 : True := trivial
theorem PySem.W.Fast.tw4253446229583662363 : True := trivial
theorem PySem.W.Fast.tw12470525703499322620 : True := trivial
theorem PySem.W.Fast.tw6058631850851995541 : True := trivial
theorem PySem.W.Fast.tw12789018852971731103 : True := trivial
theorem PySem.W.Fast.tw4382597729684764750 : True := trivial
theorem PySem.W.Fast.tw8809487750388710363 : True := trivial
theorem PySem.W.Fast.tw15153179579694239176 : True := trivial
theorem PySem.W.Fast.tw17810833872708225366 : True := trivial
theorem PySem.W.Fast.tw6923269750695336420 : True := trivial
theorem PySem.W.Fast.tw5338843053496160224 : True := trivial
theorem PySem.W.Fast.tw5723289177219906186 : True := trivial
theorem PySem.W.Fast.tw5974742732822570983 : True := trivial
theorem PySem.W.Fast.tw16960760645875722255 : True := trivial
theorem PySem.W.Fast.tw9680141573600933508 : True := trivial
theorem PySem.W.Fast.tw16355107755592651063 : True := trivial
theorem PySem.W.Fast.tw13264851364432939997 : True := trivial
theorem PySem.W.Fast.tw7846298003524679560 : True := trivial
theorem PySem.W.Fast.tw5714562704484213037 : True := trivial
theorem PySem.W.Fast.tw7912598156166248200 : True := trivial
theorem PySem.W.Fast.tw8855356300746588394 : True := trivial
theorem PySem.W.Fast.tw8800725789620218836 : True := trivial
theorem PySem.W.Fast.tw18321235151853514998 : True := trivial
theorem PySem.W.Fast.tw2169098042669643361 : True := trivial
theorem PySem.W.Fast.tw8366331782839403464 : True := trivial
theorem PySem.W.Fast.tw6167942613057188101 : True := trivial
theorem PySem.W.Fast.tw13671363140246459505 : True := trivial
theorem PySem.W.Fast.tw4074971775139317437 : True := trivial
theorem PySem.W.Fast.tw15697908612719689380 : True := trivial
theorem PySem.W.Fast.tw8297087680721864155 : True := trivial
theorem PySem.W.Fast.tw4399629832589412578 : True := trivial
theorem PySem.W.Fast.tw14318179530062086140 : True := trivial
theorem PySem.W.Fast.tw5366083939975509685 : True := trivial
theorem PySem.W.Fast.tw4782107927695980793 : True := trivial
theorem PySem.W.Fast.tw6078638865100627113 : True := trivial
theorem PySem.W.Fast.tw6150130543133721708 : True := trivial
theorem PySem.W.Fast.tw9382118290086609054 : True := trivial
theorem PySem.W.Fast.tw4342799585992546404 : True := trivial
theorem PySem.W.Fast.tw16544298218997270567 : True := trivial
theorem PySem.W.Fast.tw12626437845249202514 : True := trivial
theorem PySem.W.Fast.tw7078578969543642999 : True := trivial
theorem PySem.W.Fast.tw10834660180779921798 : True := trivial
theorem PySem.W.Fast.tw14517381897149804179 : True := trivial
theorem PySem.W.Fast.tw6639799555896089270 : True := trivial
theorem PySem.W.Fast.tw10049288846850794771 : True := trivial
theorem PySem.W.Fast.tw2741571853626720911 : True := trivial
theorem PySem.W.Fast.tw2644052283784986898 : True := trivial
theorem PySem.W.Fast.tw18406277933136579812 : True := trivial
theorem PySem.W.Fast.tw2555449836773456139 : True := trivial
theorem PySem.W.Fast.tw3762047042900816845 : True := trivial
theorem PySem.W.Fast.tw14142344637624138596 : True := trivial
theorem PySem.W.Fast.tw16851425613748906930 : True := trivial
theorem PySem.W.Fast.tw5077615734728296075 : True := trivial
theorem PySem.W.Fast.tw2391362601188523144 : True := trivial
theorem PySem.W.Fast.tw2939004442478599809 : True := trivial
theorem PySem.W.Fast.tw230820665591296941 : True := trivial
theorem PySem.W.Fast.tw11944818579007726521 : True := trivial
theorem PySem.W.Fast.tw11867415874829418827 : True := trivial
theorem PySem.W.Fast.tw4848624582287765855 : True := trivial
theorem PySem.W.Fast.tw17929855729790781400 : True := trivial
theorem PySem.W.Fast.tw12290434795756812942 : True := trivial
theorem PySem.W.Fast.tw12744569691071481150 : True := trivial
theorem PySem.W.Fast.tw17646690200090956691 : True := trivial
theorem PySem.W.Fast.tw17693296169360474854 : True := trivial
theorem PySem.W.Fast.tw266341820025112157 : True := trivial
theorem PySem.W.Fast.tw13944488218386864839 : True := trivial
theorem PySem.W.Fast.tw16494796913710071913 : True := trivial
theorem PySem.W.Fast.tw6156762552669357374 : True := trivial
theorem PySem.W.Fast.tw13216813583860160885 : True := trivial
theorem PySem.W.Fast.tw13609149741800611263 : True := trivial
theorem PySem.W.Fast.tw11299272004248347577 : True := trivial
theorem PySem.W.Fast.tw563118550758208284 : True := trivial
theorem PySem.W.Fast.tw16932009854929345419 : True := trivial
theorem PySem.W.Fast.tw6388805184748483815 : True := trivial
theorem PySem.W.Fast.tw8447292375798640092 : True := trivial
theorem PySem.W.Fast.tw13272664227921559750 : True := trivial
theorem PySem.W.Fast.tw1634001293078024458 : True := trivial
theorem PySem.W.Fast.tw358683894364983814 : True := trivial
theorem PySem.W.Fast.tw2713845696005950424 : True := trivial
theorem PySem.W.Fast.tw15916568411727577075 : True := trivial
theorem PySem.W.Fast.tw14825955685241558485 : True := trivial
theorem PySem.W.Fast.tw4144066321908107496 : True := trivial
theorem PySem.W.Fast.tw15176315685850214016 : True := trivial
theorem PySem.W.Fast.tw17521797819567973007 : True := trivial
theorem PySem.W.Fast.tw6678966715175593918 : True := trivial
theorem PySem.W.Fast.tw3017639350507180685 : True := trivial
theorem PySem.W.Fast.tw7059502319864114403 : True := trivial
theorem PySem.W.Fast.tw4394747239572204655 : True := trivial
theorem PySem.W.Fast.tw494075079682868219 : True := trivial
theorem PySem.W.Fast.tw193215901046076513 : True := trivial
theorem PySem.W.Fast.tw14005010584244928079 : True := trivial
theorem PySem.W.Fast.tw1364146426133880862 : True := trivial
theorem PySem.W.Fast.tw17726877582375587212 : True := trivial
theorem PySem.W.Fast.tw8660233313711125396 : True := trivial
theorem PySem.W.Fast.tw1239919032240940664 : True := trivial
theorem PySem.W.Fast.tw8946742005238802476 : True := trivial
theorem PySem.W.Fast.tw1324345970194510066 : True := trivial
theorem PySem.W.Fast.tw3047264991786511283 : True := trivial
theorem PySem.W.Fast.tw4389541412704013286 : True := trivial
theorem PySem.W.Fast.tw17610751734355456811 : True := trivial
theorem PySem.W.Fast.tw2935363964310436025 : True := trivial
theorem PySem.W.Fast.tw7882699161257664717 : True := trivial
theorem PySem.W.Fast.tw11903006585118578075 : True := trivial
theorem PySem.W.Fast.tw10251893227885125348 : True := trivial
theorem PySem.W.Fast.tw14596789115354953292 : True := trivial
theorem PySem.W.Fast.tw14678043755158781409 : True := trivial
theorem PySem.W.Fast.tw2799774813793211471 : True := trivial
theorem PySem.W.Fast.tw9441197454742566282 : True := trivial
theorem PySem.W.Fast.tw216395632404762145 : True := trivial
theorem PySem.W.Fast.tw5653465174571550962 : True := trivial
theorem PySem.W.Fast.tw813381522086666392 : True := trivial
theorem PySem.W.Fast.tw16711590505046530920 : True := trivial
theorem PySem.W.Fast.tw14385273724326785171 : True := trivial
theorem PySem.W.Fast.tw9567037721757960945 : True := trivial
theorem PySem.W.Fast.tw8349096613236802441 : True := trivial
theorem PySem.W.Fast.tw261911449996992815 : True := trivial
theorem PySem.W.Fast.tw156925650489695966 : True := trivial
theorem PySem.W.Fast.tw8702772763581471608 : True := trivial
theorem PySem.W.Fast.tw4938910118652623879 : True := trivial
theorem PySem.W.Fast.tw12488025235031899168 : True := trivial
theorem PySem.W.Fast.tw5169303137923440037 : True := trivial
theorem PySem.W.Fast.tw6762000651543832310 : True := trivial
theorem PySem.W.Fast.tw6817781565122602502 : True := trivial
theorem PySem.W.Fast.tw14949085871159691428 : True := trivial
theorem PySem.W.Fast.tw7383019713956893222 : True := trivial
theorem PySem.W.Fast.tw9784316175903874824 : True := trivial
theorem PySem.W.Fast.tw9140648331670983933 : True := trivial
theorem PySem.W.Fast.tw3598621842122785691 : True := trivial
theorem PySem.W.Fast.tw3857731979387391327 : True := trivial
theorem PySem.W.Fast.tw11465992343145790627 : True := trivial
theorem PySem.W.Fast.tw16851032777893760803 : True := trivial
theorem PySem.W.Fast.tw6134740843612673133 : True := trivial
theorem PySem.W.Fast.tw15933140468295630148 : True := trivial
theorem PySem.W.Fast.tw10145030984978559773 : True := trivial
theorem PySem.W.Fast.tw10846744096725728799 : True := trivial
theorem PySem.W.Fast.tw321451116437514493 : True := trivial
theorem PySem.W.Fast.tw5860211637243717027 : True := trivial
theorem PySem.W.Fast.tw11377203329138982252 : True := trivial
theorem PySem.W.Fast.tw15851377497995134261 : True := trivial
theorem PySem.W.Fast.tw16111906299194599148 : True := trivial
theorem PySem.W.Fast.tw6191501103259568546 : True := trivial
theorem PySem.W.Fast.tw8543898653738698 : True := trivial
theorem PySem.W.Fast.tw1084681859780353257 : True := trivial
theorem PySem.W.Fast.tw1633808731229651087 : True := trivial
theorem PySem.W.Fast.tw10898527826692512958 : True := trivial
theorem PySem.W.Fast.tw2541187867305062467 : True := trivial
theorem PySem.W.Fast.tw16789299232118354157 : True := trivial
theorem PySem.W.Fast.tw7231391091705578574 : True := trivial
theorem PySem.W.Fast.tw15744376044536323149 : True := trivial
theorem PySem.W.Fast.tw7728710747893603608 : True := trivial
theorem PySem.W.Fast.tw10212364501421106246 : True := trivial
theorem PySem.W.Fast.tw11324023192896161574 : True := trivial
theorem PySem.W.Fast.tw6479676681737587696 : True := trivial
theorem PySem.W.Fast.tw4863764368391622555 : True := trivial
theorem PySem.W.Fast.tw3531294614474389465 : True := trivial
theorem PySem.W.Fast.tw4020075891631025321 : True := trivial
theorem PySem.W.Fast.tw14796812139471227008 : True := trivial
theorem PySem.W.Fast.tw18074544579964787604 : True := trivial
theorem PySem.W.Fast.tw3866763600389869007 : True := trivial
theorem PySem.W.Fast.tw18402884147779883918 : True := trivial
theorem PySem.W.Fast.tw2061376845785554165 : True := trivial
theorem PySem.W.Fast.tw13295311660488351144 : True := trivial
theorem PySem.W.Fast.tw9362849465582411690 : True := trivial
theorem PySem.W.Fast.tw3382745666679861784 : True := trivial
theorem PySem.W.Fast.tw4653550644142096280 : True := trivial
theorem PySem.W.Fast.tw12218856507843022034 : True := trivial
theorem PySem.W.Fast.tw11335604024583646233 : True := trivial
theorem PySem.W.Fast.tw14182550073421439287 : True := trivial
theorem PySem.W.Fast.tw1463488467380565923 : True := trivial
theorem PySem.W.Fast.tw6403490918565710903 : True := trivial
theorem PySem.W.Fast.tw3444867837303326805 : True := trivial
theorem PySem.W.Fast.tw17614204174278841280 : True := trivial
theorem PySem.W.Fast.tw5575793022696282711 : True := trivial
theorem PySem.W.Fast.tw16021776683868965959 : True := trivial
theorem PySem.W.Fast.tw7159767926931380033 : True := trivial
theorem PySem.W.Fast.tw8628876832294068969 : True := trivial
theorem PySem.W.Fast.tw250075527429646895 : True := trivial
theorem PySem.W.Fast.tw10687189762866925380 : True := trivial
theorem PySem.W.Fast.tw4225663040537544698 : True := trivial
theorem PySem.W.Fast.tw2333997622526877005 : True := trivial
theorem PySem.W.Fast.tw11113849480304089275 : True := trivial
theorem PySem.W.Fast.tw4382200359930818437 : True := trivial
theorem PySem.W.Fast.tw7953086158225603732 : True := trivial
theorem PySem.W.Fast.tw11057453460759952551 : True := trivial
theorem PySem.W.Fast.tw5361332953767324867 : True := trivial
theorem PySem.W.Fast.tw4014687481257181608 : True := trivial
theorem PySem.W.Fast.tw4383719101653551204 : True := trivial
theorem PySem.W.Fast.tw660315758982126423 : True := trivial
theorem PySem.W.Fast.tw14118351526404054223 : True := trivial
theorem PySem.W.Fast.tw14801736815313856758 : True := trivial
theorem PySem.W.Fast.tw10828241049591205501 : True := trivial
theorem PySem.W.Fast.tw6495993895001301508 : True := trivial
theorem PySem.W.Fast.tw1172545500132385131 : True := trivial
theorem PySem.W.Fast.tw8311027554894094549 : True := trivial
theorem PySem.W.Fast.tw3682790967672327788 : True := trivial
theorem PySem.W.Fast.tw17939732373733015245 : True := trivial
theorem PySem.W.Fast.tw8106842703828442050 : True := trivial
theorem PySem.W.Fast.tw3430881419120195211 : True := trivial
theorem PySem.W.Fast.tw10858863818805572640 : True := trivial
theorem PySem.W.Fast.tw16300273841447532126 : True := trivial
theorem PySem.W.Fast.tw4056522824037918629 : True := trivial
theorem PySem.W.Fast.tw2119756393711135832 : True := trivial
theorem PySem.W.Fast.tw14058587330951253828 : True := trivial
theorem PySem.W.Fast.tw5257961356642003541 : True := trivial
theorem PySem.W.Fast.tw14279169465227182502 : True := trivial
theorem PySem.W.Fast.tw16496339764507382564 : True := trivial
theorem PySem.W.Fast.tw5699660429136071781 : True := trivial
theorem PySem.W.Fast.tw11102203766749336764 : True := trivial
theorem PySem.W.Fast.tw219542007677418308 : True := trivial
theorem PySem.W.Fast.tw2658391274082361863 : True := trivial
theorem PySem.W.Fast.tw7239198063601664881 : True := trivial
theorem PySem.W.Fast.tw11633065097741233063 : True := trivial
theorem PySem.W.Fast.tw17125262270680812272 : True := trivial
theorem PySem.W.Fast.tw9685478249363998718 : True := trivial
theorem PySem.W.Fast.tw10282974935000398438 : True := trivial
theorem PySem.W.Fast.tw1590942864318959045 : True := trivial
theorem PySem.W.Fast.tw7614728140553781282 : True := trivial
theorem PySem.W.Fast.tw11670519908827081775 : True := trivial
theorem PySem.W.Fast.tw9550003580982004315 : True := trivial
theorem PySem.W.Fast.tw17620156427682397845 : True := trivial
theorem PySem.W.Fast.tw1863125467945677898 : True := trivial
theorem PySem.W.Fast.tw12148142429973912103 : True := trivial
theorem PySem.W.Fast.tw3539230585579198719 : True := trivial
theorem PySem.W.Fast.tw11112132463295336463 : True := trivial
theorem PySem.W.Fast.tw7234460820655218380 : True := trivial
theorem PySem.W.Fast.tw6654071770269256490 : True := trivial
theorem PySem.W.Fast.tw12420634474767865783 : True := trivial
theorem PySem.W.Fast.tw16949804636276630741 : True := trivial
theorem PySem.W.Fast.tw3083681660440243371 : True := trivial
theorem PySem.W.Fast.tw8086625263484159641 : True := trivial
theorem PySem.W.Fast.tw4711431259071804819 : True := trivial
theorem PySem.W.Fast.tw12904111374032795880 : True := trivial
theorem PySem.W.Fast.tw2511598690581792935 : True := trivial
theorem PySem.W.Fast.tw13200536704766283470 : True := trivial
theorem PySem.W.Fast.tw6668388619616038118 : True := trivial
theorem PySem.W.Fast.tw17918697930877626021 : True := trivial
theorem PySem.W.Fast.tw12771896186229791468 : True := trivial
theorem PySem.W.Fast.tw3286283118678528843 : True := trivial
theorem PySem.W.Fast.tw13389973452919223040 : True := trivial
theorem PySem.W.Fast.tw5320523329017943565 : True := trivial
theorem PySem.W.Fast.tw6248115900253220327 : True := trivial
theorem PySem.W.Fast.tw14437251077671608593 : True := trivial
theorem PySem.W.Fast.tw4292596716094476644 : True := trivial
theorem PySem.W.Fast.tw993756973956138911 : True := trivial
theorem PySem.W.Fast.tw10849644969496894369 : True := trivial
theorem PySem.W.Fast.tw330125114281466199 : True := trivial
theorem PySem.W.Fast.tw8298626260143351941 : True := trivial
theorem PySem.W.Fast.tw10897515290047420139 : True := trivial
theorem PySem.W.Fast.tw18026209693494946196 : True := trivial
theorem PySem.W.Fast.tw3255515453186978566 : True := trivial
theorem PySem.W.Fast.tw11729011246291229520 : True := trivial
theorem PySem.W.Fast.tw4560945299676380391 : True := trivial
theorem PySem.W.Fast.tw13078487730658422929 : True := trivial
theorem PySem.W.Fast.tw15197945354095534191 : True := trivial
theorem PySem.W.Fast.tw2177506834586429344 : True := trivial
theorem PySem.W.Fast.tw840413068211644160 : True := trivial
theorem PySem.W.Fast.tw9558903929057543449 : True := trivial
theorem PySem.W.Fast.tw149562544176827053 : True := trivial
theorem PySem.W.Fast.tw8991997223480127779 : True := trivial
theorem PySem.W.Fast.tw14729527695120269388 : True := trivial
theorem PySem.W.Fast.tw4346784580629511918 : True := trivial
theorem PySem.W.Fast.tw13516389135949081692 : True := trivial
theorem PySem.W.Fast.tw9028856497102358958 : True := trivial
theorem PySem.W.Fast.tw4522490101899096764 : True := trivial
theorem PySem.W.Fast.tw6563110757018164888 : True := trivial
theorem PySem.W.Fast.tw14523341623855127755 : True := trivial
theorem PySem.W.Fast.tw13328196435826973380 : True := trivial
theorem PySem.W.Fast.tw11640207387928445891 : True := trivial
theorem PySem.W.Fast.tw5176873725214069309 : True := trivial
theorem PySem.W.Fast.tw13401412839837014137 : True := trivial
theorem PySem.W.Fast.tw11990481109531952538 : True := trivial
theorem PySem.W.Fast.tw13893814291386820736 : True := trivial
theorem PySem.W.Fast.tw13690169794076697589 : True := trivial
theorem PySem.W.Fast.tw15003834771651157447 : True := trivial
theorem PySem.W.Fast.tw15164686092498744080 : True := trivial
theorem PySem.W.Fast.tw7689332798311175899 : True := trivial
theorem PySem.W.Fast.tw15340532711088652634 : True := trivial
theorem PySem.W.Fast.tw978977276236339187 : True := trivial
theorem PySem.W.Fast.tw1957338564375285167 : True := trivial
theorem PySem.W.Fast.tw3996365593833600543 : True := trivial
theorem PySem.W.Fast.tw16904083396011155925 : True := trivial
theorem PySem.W.Fast.tw16847444062951488511 : True := trivial
theorem PySem.W.Fast.tw1025809240966940863 : True := trivial
theorem PySem.W.Fast.tw13465418063942226809 : True := trivial
theorem PySem.W.Fast.tw5801973035139896894 : True := trivial
theorem PySem.W.Fast.tw4220834129815944867 : True := trivial
theorem PySem.W.Fast.tw6668339397270836356 : True := trivial
theorem PySem.W.Fast.tw8128331433695956496 : True := trivial
theorem PySem.W.Fast.tw111703957167555804 : True := trivial
theorem PySem.W.Fast.tw3380571823374347807 : True := trivial
theorem PySem.W.Fast.tw3751127655486114253 : True := trivial
theorem PySem.W.Fast.tw12565584026510582001 : True := trivial
theorem PySem.W.Fast.tw7157721432076680502 : True := trivial
theorem PySem.W.Fast.tw8229651875166419655 : True := trivial
theorem PySem.W.Fast.tw13391366468176854258 : True := trivial
theorem PySem.W.Fast.tw13137558467647272217 : True := trivial
theorem PySem.W.Fast.tw2440586872271249751 : True := trivial
theorem PySem.W.Fast.tw16975745199430839326 : True := trivial
theorem PySem.W.Fast.tw11896268141449594786 : True := trivial
theorem PySem.W.Fast.tw7465899358508808552 : True := trivial
theorem PySem.W.Fast.tw14065842257971900546 : True := trivial
theorem PySem.W.Fast.tw4012099593759596487 : True := trivial
theorem PySem.W.Fast.tw12155844549102948805 : True := trivial
theorem PySem.W.Fast.tw15747452396092395154 : True := trivial
theorem PySem.W.Fast.tw11136879719835833285 : True := trivial
theorem PySem.W.Fast.tw3731186697578645999 : True := trivial
theorem PySem.W.Fast.tw11858786319564121159 : True := trivial
theorem PySem.W.Fast.tw8557185778871088945 : True := trivial
theorem PySem.W.Fast.tw16221288358887156043 : True := trivial
theorem PySem.W.Fast.tw16506351540103466761 : True := trivial
theorem PySem.W.Fast.tw5976607818932225072 : True := trivial
theorem PySem.W.Fast.tw6434443367227794607 : True := trivial
theorem PySem.W.Fast.tw7284193725926123409 : True := trivial
theorem PySem.W.Fast.tw18045384158313815626 : True := trivial
theorem PySem.W.Fast.tw18293250977604018561 : True := trivial
theorem PySem.W.Fast.tw7913801434710434558 : True := trivial
theorem PySem.W.Fast.tw18176529752599363836 : True := trivial
theorem PySem.W.Fast.tw3646989828741481030 : True := trivial
theorem PySem.W.Fast.tw6515681285995635337 : True := trivial
theorem PySem.W.Fast.tw6820824268167583369 : True := trivial
theorem PySem.W.Fast.tw4114413711425651337 : True := trivial
theorem PySem.W.Fast.tw4518150538617289445 : True := trivial
theorem PySem.W.Fast.tw17241161004424044492 : True := trivial
theorem PySem.W.Fast.tw1286511588226575955 : True := trivial
theorem PySem.W.Fast.tw7399680555022931403 : True := trivial
theorem PySem.W.Fast.tw8167469820662993514 : True := trivial
theorem PySem.W.Fast.tw3755145214021060314 : True := trivial
theorem PySem.W.Fast.tw6470417260893407243 : True := trivial
theorem PySem.W.Fast.tw13065744442876234150 : True := trivial
theorem PySem.W.Fast.tw273555152475634353 : True := trivial
theorem PySem.W.Fast.tw14463075075760600523 : True := trivial
theorem PySem.W.Fast.tw2690844620681751892 : True := trivial
theorem PySem.W.Fast.tw14072701254141356103 : True := trivial
theorem PySem.W.Fast.tw15817790270774419664 : True := trivial
theorem PySem.W.Fast.tw3603545341007926126 : True := trivial
theorem PySem.W.Fast.tw10977984033261161597 : True := trivial
theorem PySem.W.Fast.tw13410773134091210383 : True := trivial
theorem PySem.W.Fast.tw9721726528244728734 : True := trivial
theorem PySem.W.Fast.tw6126167027609548407 : True := trivial
theorem PySem.W.Fast.tw12566079486519452629 : True := trivial
theorem PySem.W.Fast.tw774706759964381500 : True := trivial
theorem PySem.W.Fast.tw13529550792863272129 : True := trivial
theorem PySem.W.Fast.tw8163917931377150026 : True := trivial
theorem PySem.W.Fast.tw2241336073315643067 : True := trivial
theorem PySem.W.Fast.tw14811007612231669102 : True := trivial
theorem PySem.W.Fast.tw7559016513205936579 : True := trivial
theorem PySem.W.Fast.tw15957114066794025657 : True := trivial
theorem PySem.W.Fast.tw18308215263566433 : True := trivial
theorem PySem.W.Fast.tw15753866531671675653 : True := trivial
theorem PySem.W.Fast.tw13433386517702896978 : True := trivial
theorem PySem.W.Fast.tw11814112913141066894 : True := trivial
theorem PySem.W.Fast.tw11640262239462276328 : True := trivial
theorem PySem.W.Fast.tw7013548691862098871 : True := trivial
theorem PySem.W.Fast.tw4755118616402554787 : True := trivial
theorem PySem.W.Fast.tw904596592542913077 : True := trivial
theorem PySem.W.Fast.tw3735412959030502998 : True := trivial
theorem PySem.W.Fast.tw7727267759520336862 : True := trivial
theorem PySem.W.Fast.tw8996964627492715517 : True := trivial
theorem PySem.W.Fast.tw4875223869427681258 : True := trivial
theorem PySem.W.Fast.tw1934382032483539377 : True := trivial
theorem PySem.W.Fast.tw17053423630961814529 : True := trivial
theorem PySem.W.Fast.tw17194001948420047518 : True := trivial
theorem PySem.W.Fast.tw2567097552955829706 : True := trivial
theorem PySem.W.Fast.tw13029222693464941182 : True := trivial
theorem PySem.W.Fast.tw5445655254649735739 : True := trivial
theorem PySem.W.Fast.tw465268935771162832 : True := trivial
theorem PySem.W.Fast.tw2251977493073695805 : True := trivial
theorem PySem.W.Fast.tw13358039444382579519 : True := trivial
theorem PySem.W.Fast.tw15521253125021042926 : True := trivial
theorem PySem.W.Fast.tw8570944538256904547 : True := trivial
theorem PySem.W.Fast.tw6979711704878867147 : True := trivial
theorem PySem.W.Fast.tw17000097320573466790 : True := trivial
theorem PySem.W.Fast.tw13880243767636420565 : True := trivial
theorem PySem.W.Fast.tw5155628736715799881 : True := trivial
theorem PySem.W.Fast.tw12561078269169557358 : True := trivial
theorem PySem.W.Fast.tw9686835002075778401 : True := trivial
theorem PySem.W.Fast.tw15807392277657072003 : True := trivial
theorem PySem.W.Fast.tw16988549534693307973 : True := trivial
theorem PySem.W.Fast.tw1736772120972408958 : True := trivial
theorem PySem.W.Fast.tw15464453552258129576 : True := trivial
theorem PySem.W.Fast.tw2535057692642182839 : True := trivial
theorem PySem.W.Fast.tw7296359114585264750 : True := trivial
theorem PySem.W.Fast.tw7229106113730626721 : True := trivial
theorem PySem.W.Fast.tw1166499215871449229 : True := trivial
theorem PySem.W.Fast.tw8547650630018955067 : True := trivial
theorem PySem.W.Fast.tw329136852420924238 : True := trivial
theorem PySem.W.Fast.tw14392922734779305540 : True := trivial
theorem PySem.W.Fast.tw17689803411761664799 : True := trivial
theorem PySem.W.Fast.tw724712972313729620 : True := trivial
theorem PySem.W.Fast.tw1220946696708069935 : True := trivial
theorem PySem.W.Fast.tw2393041028594726908 : True := trivial
theorem PySem.W.Fast.tw180552215119463623 : True := trivial
theorem PySem.W.Fast.tw12705160324453924730 : True := trivial
theorem PySem.W.Fast.tw13442381417433533633 : True := trivial
theorem PySem.W.Fast.tw4743547820465478251 : True := trivial
theorem PySem.W.Fast.tw16844171149409299682 : True := trivial
theorem PySem.W.Fast.tw10074637370102479877 : True := trivial
theorem PySem.W.Fast.tw647196893683833923 : True := trivial
theorem PySem.W.Fast.tw7006128856927153796 : True := trivial
theorem PySem.W.Fast.tw8305410393607056185 : True := trivial
theorem PySem.W.Fast.tw10103575902301231651 : True := trivial
theorem PySem.W.Fast.tw18001628779317527611 : True := trivial
theorem PySem.W.Fast.tw3851250900557022526 : True := trivial
theorem PySem.W.Fast.tw18446542416129367451 : True := trivial
theorem PySem.W.Fast.tw3024621388655448008 : True := trivial
theorem PySem.W.Fast.tw14365053720318848604 : True := trivial
theorem PySem.W.Fast.tw5951732745040030809 : True := trivial
theorem PySem.W.Fast.tw11927078287859287715 : True := trivial
theorem PySem.W.Fast.tw5967078103292822110 : True := trivial
theorem PySem.W.Fast.tw13769530101471858340 : True := trivial
theorem PySem.W.Fast.tw4669263922765173904 : True := trivial
theorem PySem.W.Fast.tw6554780203995835286 : True := trivial
theorem PySem.W.Fast.tw7265512137378086694 : True := trivial
theorem PySem.W.Fast.tw15598309702370043522 : True := trivial
theorem PySem.W.Fast.tw10395275483918798809 : True := trivial
theorem PySem.W.Fast.tw7382549575888606103 : True := trivial
theorem PySem.W.Fast.tw7831300187493934295 : True := trivial
theorem PySem.W.Fast.tw8045819986756286758 : True := trivial
theorem PySem.W.Fast.tw14992978302589931136 : True := trivial
theorem PySem.W.Fast.tw4019760363337690887 : True := trivial
theorem PySem.W.Fast.tw7329451162605859649 : True := trivial
theorem PySem.W.Fast.tw17820604184377599481 : True := trivial
theorem PySem.W.Fast.tw6249357183039687132 : True := trivial
theorem PySem.W.Fast.tw10918314138797645698 : True := trivial
theorem PySem.W.Fast.tw17737527338399264038 : True := trivial
theorem PySem.W.Fast.tw3750212329948901497 : True := trivial
theorem PySem.W.Fast.tw17909138781394634960 : True := trivial
theorem PySem.W.Fast.tw16894711837089892698 : True := trivial
theorem PySem.W.Fast.tw181796386343114431 : True := trivial
theorem PySem.W.Fast.tw878636490816507826 : True := trivial
theorem PySem.W.Fast.tw1051005678269255887 : True := trivial
theorem PySem.W.Fast.tw4477599893977826235 : True := trivial
theorem PySem.W.Fast.tw5910354373471927939 : True := trivial
theorem PySem.W.Fast.tw17093946259081273448 : True := trivial
theorem PySem.W.Fast.tw14419689221464422104 : True := trivial
theorem PySem.W.Fast.tw11479437146199322964 : True := trivial
theorem PySem.W.Fast.tw4988489138679966318 : True := trivial
theorem PySem.W.Fast.tw1802795911692725683 : True := trivial
theorem PySem.W.Fast.tw2881128569760754645 : True := trivial
theorem PySem.W.Fast.tw16759047604281271365 : True := trivial
theorem PySem.W.Fast.tw12236202713937672490 : True := trivial
theorem PySem.W.Fast.tw10312144186781635767 : True := trivial
theorem PySem.W.Fast.tw3509459243498132377 : True := trivial
theorem PySem.W.Fast.tw15191851548466800573 : True := trivial
theorem PySem.W.Fast.tw2059916789734234699 : True := trivial
theorem PySem.W.Fast.tw5060493648973763128 : True := trivial
theorem PySem.W.Fast.tw763396861151484294 : True := trivial
theorem PySem.W.Fast.tw11229127497445882247 : True := trivial
theorem PySem.W.Fast.tw11753306148329636696 : True := trivial
theorem PySem.W.Fast.tw2375859578270946929 : True := trivial
theorem PySem.W.Fast.tw2901882043878215157 : True := trivial
theorem PySem.W.Fast.tw12918834809655410148 : True := trivial
theorem PySem.W.Fast.tw16949757265267332774 : True := trivial
theorem PySem.W.Fast.tw16015384050081773523 : True := trivial
theorem PySem.W.Fast.tw4843404188805068768 : True := trivial
theorem PySem.W.Fast.tw7720813154450714782 : True := trivial
theorem PySem.W.Fast.tw13097300847320211445 : True := trivial
theorem PySem.W.Fast.tw16111317363143477473 : True := trivial
theorem PySem.W.Fast.tw1231196928291133102 : True := trivial
theorem PySem.W.Fast.tw10258433182991388353 : True := trivial
theorem PySem.W.Fast.tw17683656243387105797 : True := trivial
theorem PySem.W.Fast.tw9003603842710913245 : True := trivial
theorem PySem.W.Fast.tw3088257038142944020 : True := trivial
theorem PySem.W.Fast.tw10707596284144067962 : True := trivial
theorem PySem.W.Fast.tw5597910783975769911 : True := trivial
theorem PySem.W.Fast.tw4513820080170374481 : True := trivial
theorem PySem.W.Fast.tw1253971125272171151 : True := trivial
theorem PySem.W.Fast.tw12550992113455937601 : True := trivial
theorem PySem.W.Fast.tw14370236779947595120 : True := trivial
theorem PySem.W.Fast.tw7163750258746812255 : True := trivial
theorem PySem.W.Fast.tw10022516103952677250 : True := trivial
theorem PySem.W.Fast.tw8884149460609193418 : True := trivial
theorem PySem.W.Fast.tw9906895111570214536 : True := trivial
theorem PySem.W.Fast.tw17330303697460597796 : True := trivial
theorem PySem.W.Fast.tw5914973361955320643 : True := trivial
theorem PySem.W.Fast.tw9088836469787104430 : True := trivial
theorem PySem.W.Fast.tw5738990710717894993 : True := trivial
theorem PySem.W.Fast.tw10104408579984020265 : True := trivial
theorem PySem.W.Fast.tw10140491148464985098 : True := trivial
theorem PySem.W.Fast.tw17350573663823440076 : True := trivial
theorem PySem.W.Fast.tw6297167998196628228 : True := trivial
theorem PySem.W.Fast.tw4228507898464484768 : True := trivial
theorem PySem.W.Fast.tw3925816900327744245 : True := trivial
theorem PySem.W.Fast.tw8621603280698200361 : True := trivial
theorem PySem.W.Fast.tw17792249903864523069 : True := trivial
theorem PySem.W.Fast.tw15718563845351661718 : True := trivial
theorem PySem.W.Fast.tw10090845511525360088 : True := trivial
theorem PySem.W.Fast.tw7696191621770456166 : True := trivial
theorem PySem.W.Fast.tw16210564182238009706 : True := trivial
theorem PySem.W.Fast.tw8870161442018653196 : True := trivial
theorem PySem.W.Fast.tw3653982379512454540 : True := trivial
theorem PySem.W.Fast.tw2245822915892227895 : True := trivial
theorem PySem.W.Fast.tw5864075944800929894 : True := trivial
theorem PySem.W.Fast.tw10866312757763254966 : True := trivial
theorem PySem.W.Fast.tw16583968084639704067 : True := trivial
theorem PySem.W.Fast.tw7924761821523650868 : True := trivial
theorem PySem.W.Fast.tw7177408519799962612 : True := trivial
theorem PySem.W.Fast.tw2542500944873219836 : True := trivial
theorem PySem.W.Fast.tw9402285336563767755 : True := trivial
theorem PySem.W.Fast.tw13359664571062536000 : True := trivial
theorem PySem.W.Fast.tw6374739962746787897 : True := trivial
theorem PySem.W.Fast.tw509423797269242769 : True := trivial
theorem PySem.W.Fast.tw3079800887560761802 : True := trivial
theorem PySem.W.Fast.tw360354919877878267 : True := trivial
theorem PySem.W.Fast.tw7079354149061282113 : True := trivial
theorem PySem.W.Fast.tw1097376307547754391 : True := trivial
theorem PySem.W.Fast.tw3502370990052470354 : True := trivial
theorem PySem.W.Fast.tw9806070033825959331 : True := trivial
theorem PySem.W.Fast.tw17035007694173380514 : True := trivial
theorem PySem.W.Fast.tw15734897821098812500 : True := trivial
theorem PySem.W.Fast.tw15611616029134224947 : True := trivial
theorem PySem.W.Fast.tw8610789780393684065 : True := trivial
theorem PySem.W.Fast.tw9666173894234608377 : True := trivial
theorem PySem.W.Fast.tw3915046069164646723 : True := trivial
theorem PySem.W.Fast.tw10187613482295816063 : True := trivial
theorem PySem.W.Fast.tw3559480514067379700 : True := trivial
theorem PySem.W.Fast.tw14166403110078928019 : True := trivial
theorem PySem.W.Fast.tw4382996664678295022 : True := trivial
theorem PySem.W.Fast.tw2381337408119836793 : True := trivial
theorem PySem.W.Fast.tw18233510350278967782 : True := trivial
theorem PySem.W.Fast.tw4386234603441611823 : True := trivial
theorem PySem.W.Fast.tw11278977801862213738 : True := trivial
theorem PySem.W.Fast.tw3561422075260944056 : True := trivial
theorem PySem.W.Fast.tw3029771955552432902 : True := trivial
theorem PySem.W.Fast.tw5177376660931653321 : True := trivial
theorem PySem.W.Fast.tw13343263592964288356 : True := trivial
theorem PySem.W.Fast.tw9216098327774440420 : True := trivial
theorem PySem.W.Fast.tw14909362029288609714 : True := trivial
theorem PySem.W.Fast.tw2365060426273427367 : True := trivial
theorem PySem.W.Fast.tw16834704450299111948 : True := trivial
theorem PySem.W.Fast.tw4185124620104263601 : True := trivial
theorem PySem.W.Fast.tw5957645291380328538 : True := trivial
theorem PySem.W.Fast.tw4671919459059010300 : True := trivial
theorem PySem.W.Fast.tw14009967082523066399 : True := trivial
theorem PySem.W.Fast.tw12513800496601075380 : True := trivial
theorem PySem.W.Fast.tw11164439847953130243 : True := trivial
theorem PySem.W.Fast.tw5399320117727558462 : True := trivial
theorem PySem.W.Fast.tw14482235124896970507 : True := trivial
theorem PySem.W.Fast.tw159801369803277189 : True := trivial
theorem PySem.W.Fast.tw11772597551523446991 : True := trivial
theorem PySem.W.Fast.tw12208375047661171453 : True := trivial
theorem PySem.W.Fast.tw3766228892007745454 : True := trivial
theorem PySem.W.Fast.tw12711831717768994788 : True := trivial
theorem PySem.W.Fast.tw10780425543095055847 : True := trivial
theorem PySem.W.Fast.tw7135872743249542272 : True := trivial
theorem PySem.W.Fast.tw1983331103235559987 : True := trivial
theorem PySem.W.Fast.tw465950357194450707 : True := trivial
theorem PySem.W.Fast.tw4896479559114262043 : True := trivial
theorem PySem.W.Fast.tw9699413553570586144 : True := trivial
theorem PySem.W.Fast.tw6167247282846619513 : True := trivial
theorem PySem.W.Fast.tw9637120311572288225 : True := trivial
theorem PySem.W.Fast.tw16344482235317881437 : True := trivial
theorem PySem.W.Fast.tw11503487599150201510 : True := trivial
theorem PySem.W.Fast.tw8112141515429045565 : True := trivial
theorem PySem.W.Fast.tw13425392876483607340 : True := trivial
theorem PySem.W.Fast.tw14631299351364261119 : True := trivial
theorem PySem.W.Fast.tw12505180820088468585 : True := trivial
theorem PySem.W.Fast.tw1053824616176926782 : True := trivial
theorem PySem.W.Fast.tw6007277506432657032 : True := trivial
theorem PySem.W.Fast.tw17406887547961707830 : True := trivial
theorem PySem.W.Fast.tw4033379262860078241 : True := trivial
theorem PySem.W.Fast.tw11332107313998318508 : True := trivial
theorem PySem.W.Fast.tw5419491555809855834 : True := trivial
theorem PySem.W.Fast.tw13928421463197385509 : True := trivial
theorem PySem.W.Fast.tw2806967849953926927 : True := trivial
theorem PySem.W.Fast.tw5471397547232111403 : True := trivial
theorem PySem.W.Fast.tw14075364228493112974 : True := trivial
theorem PySem.W.Fast.tw5274319490961226783 : True := trivial
theorem PySem.W.Fast.tw99717909145751431 : True := trivial
theorem PySem.W.Fast.tw15873785906930618457 : True := trivial
theorem PySem.W.Fast.tw3618055529726855352 : True := trivial
theorem PySem.W.Fast.tw9825668721868911683 : True := trivial
theorem PySem.W.Fast.tw11584907524396252363 : True := trivial
theorem PySem.W.Fast.tw13459079459263637446 : True := trivial
theorem PySem.W.Fast.tw6478849864231453328 : True := trivial
theorem PySem.W.Fast.tw8405939806251764593 : True := trivial
theorem PySem.W.Fast.tw10229773971424257142 : True := trivial
theorem PySem.W.Fast.tw15273644140393092165 : True := trivial
theorem PySem.W.Fast.tw4625294550603794838 : True := trivial
theorem PySem.W.Fast.tw8149145743541509626 : True := trivial
theorem PySem.W.Fast.tw16515620469969823034 : True := trivial
theorem PySem.W.Fast.tw8704494758484391434 : True := trivial
theorem PySem.W.Fast.tw2375197429766932650 : True := trivial
theorem PySem.W.Fast.tw4043213571647936723 : True := trivial
theorem PySem.W.Fast.tw14737167213716165649 : True := trivial
theorem PySem.W.Fast.tw13184513045231908551 : True := trivial
theorem PySem.W.Fast.tw16672300069579353444 : True := trivial
theorem PySem.W.Fast.tw12372890734127723522 : True := trivial
theorem PySem.W.Fast.tw18082150078803441370 : True := trivial
theorem PySem.W.Fast.tw11441233985057126353 : True := trivial
theorem PySem.W.Fast.tw8151173504418200004 : True := trivial
theorem PySem.W.Fast.tw17026699666697515271 : True := trivial
theorem PySem.W.Fast.tw5708484834297274322 : True := trivial
theorem PySem.W.Fast.tw3294685507847130102 : True := trivial
theorem PySem.W.Fast.tw15818652638830976011 : True := trivial
theorem PySem.W.Fast.tw87755219050782916 : True := trivial
theorem PySem.W.Fast.tw15527095943228257645 : True := trivial
theorem PySem.W.Fast.tw8703573174702951256 : True := trivial
theorem PySem.W.Fast.tw18268504270424199926 : True := trivial
theorem PySem.W.Fast.tw11252931204595745563 : True := trivial
theorem PySem.W.Fast.tw12442196369919825465 : True := trivial
theorem PySem.W.Fast.tw10393787135669179333 : True := trivial
theorem PySem.W.Fast.tw1858638306575435739 : True := trivial
theorem PySem.W.Fast.tw6214998883089794193 : True := trivial
theorem PySem.W.Fast.tw8077688101849651891 : True := trivial
theorem PySem.W.Fast.tw614260000292038157 : True := trivial
theorem PySem.W.Fast.tw1329842808292157440 : True := trivial
theorem PySem.W.Fast.tw4317202109447709007 : True := trivial
theorem PySem.W.Fast.tw5403612117254939690 : True := trivial
theorem PySem.W.Fast.tw8181371791007564681 : True := trivial
theorem PySem.W.Fast.tw17275531563507318794 : True := trivial
theorem PySem.W.Fast.tw8239765454149919595 : True := trivial
theorem PySem.W.Fast.tw8120993013819326550 : True := trivial
theorem PySem.W.Fast.tw16245817071235450314 : True := trivial
theorem PySem.W.Fast.tw5165555711397245919 : True := trivial
theorem PySem.W.Fast.tw7760083424468836791 : True := trivial
theorem PySem.W.Fast.tw14181473863693275110 : True := trivial
theorem PySem.W.Fast.tw6580294488081605040 : True := trivial
theorem PySem.W.Fast.tw13908258923213506963 : True := trivial
theorem PySem.W.Fast.tw3453968949514267399 : True := trivial
theorem PySem.W.Fast.tw2955534307279639762 : True := trivial
theorem PySem.W.Fast.tw7160744516016926373 : True := trivial
theorem PySem.W.Fast.tw4805651396764774482 : True := trivial
theorem PySem.W.Fast.tw13445469992861583808 : True := trivial
theorem PySem.W.Fast.tw12627364707151518093 : True := trivial
theorem PySem.W.Fast.tw10606441272111366267 : True := trivial
theorem PySem.W.Fast.tw5389311499271336050 : True := trivial
theorem PySem.W.Fast.tw16176960949275657798 : True := trivial
theorem PySem.W.Fast.tw7996187283235627353 : True := trivial
theorem PySem.W.Fast.tw18040874184502316033 : True := trivial
theorem PySem.W.Fast.tw7804003568531814938 : True := trivial
theorem PySem.W.Fast.tw12574129626189387015 : True := trivial
theorem PySem.W.Fast.tw15568818974710902458 : True := trivial
theorem PySem.W.Fast.tw1639712187764273136 : True := trivial
theorem PySem.W.Fast.tw9449230670392543630 : True := trivial
theorem PySem.W.Fast.tw13490878891045544789 : True := trivial
theorem PySem.W.Fast.tw6833580324440975361 : True := trivial
theorem PySem.W.Fast.tw4115721226339889475 : True := trivial
theorem PySem.W.Fast.tw9367568343805127026 : True := trivial
theorem PySem.W.Fast.tw11374681613697896805 : True := trivial
theorem PySem.W.Fast.tw18037573695071162857 : True := trivial
theorem PySem.W.Fast.tw8149578792111516190 : True := trivial
theorem PySem.W.Fast.tw15540266382052417883 : True := trivial
theorem PySem.W.Fast.tw12281058013292783227 : True := trivial
theorem PySem.W.Fast.tw1681000208926005015 : True := trivial
theorem PySem.W.Fast.tw3140265260320296665 : True := trivial
theorem PySem.W.Fast.tw11282770799249961309 : True := trivial
theorem PySem.W.Fast.tw7684100390339417398 : True := trivial
theorem PySem.W.Fast.tw16233994280257705822 : True := trivial
theorem PySem.W.Fast.tw13595382595272834903 : True := trivial
theorem PySem.W.Fast.tw16079197795383834173 : True := trivial
theorem PySem.W.Fast.tw3012142789865775266 : True := trivial
theorem PySem.W.Fast.tw6079627924752388579 : True := trivial
theorem PySem.W.Fast.tw16162854058042174397 : True := trivial
theorem PySem.W.Fast.tw12128916939288303497 : True := trivial
theorem PySem.W.Fast.tw5933139223033722750 : True := trivial
theorem PySem.W.Fast.tw10857206305542582686 : True := trivial
theorem PySem.W.Fast.tw12604612214213925287 : True := trivial
theorem PySem.W.Fast.tw748547229835313640 : True := trivial
theorem PySem.W.Fast.tw8150342973805353785 : True := trivial
theorem PySem.W.Fast.tw10089773643700161396 : True := trivial
theorem PySem.W.Fast.tw7531205991070434873 : True := trivial
theorem PySem.W.Fast.tw11342901994829778972 : True := trivial
theorem PySem.W.Fast.tw3288359374868698494 : True := trivial
theorem PySem.W.Fast.tw11768885504631087141 : True := trivial
theorem PySem.W.Fast.tw16137796020548728438 : True := trivial
theorem PySem.W.Fast.tw9996120008506381973 : True := trivial
theorem PySem.W.Fast.tw17261445768278804655 : True := trivial
theorem PySem.W.Fast.tw18323729165915744534 : True := trivial
theorem PySem.W.Fast.tw10636678297636240776 : True := trivial
theorem PySem.W.Fast.tw11307023308428747813 : True := trivial
theorem PySem.W.Fast.tw7537680249910926005 : True := trivial
theorem PySem.W.Fast.tw12637113002414444092 : True := trivial
theorem PySem.W.Fast.tw16486092233280459935 : True := trivial
theorem PySem.W.Fast.tw18228800634985225655 : True := trivial
theorem PySem.W.Fast.tw9098847948056860909 : True := trivial
theorem PySem.W.Fast.tw13410359254368283612 : True := trivial
theorem PySem.W.Fast.tw5666667794998440942 : True := trivial
theorem PySem.W.Fast.tw1702533194067594905 : True := trivial
theorem PySem.W.Fast.tw13447850934419015695 : True := trivial
theorem PySem.W.Fast.tw17155676712897385082 : True := trivial
theorem PySem.W.Fast.tw13733097276779874085 : True := trivial
theorem PySem.W.Fast.tw4093727879273628236 : True := trivial
theorem PySem.W.Fast.tw15776190489276450043 : True := trivial
theorem PySem.W.Fast.tw10911251681152704264 : True := trivial
theorem PySem.W.Fast.tw14935360747619299254 : True := trivial
theorem PySem.W.Fast.tw16530858377668913347 : True := trivial
theorem PySem.W.Fast.tw8446258348962528879 : True := trivial
theorem PySem.W.Fast.tw16628026880304904939 : True := trivial
theorem PySem.W.Fast.tw10218615029873514988 : True := trivial
theorem PySem.W.Fast.tw1277401837509703281 : True := trivial
theorem PySem.W.Fast.tw5882350177349056321 : True := trivial
theorem PySem.W.Fast.tw12590434433085234580 : True := trivial
theorem PySem.W.Fast.tw16480319636194567462 : True := trivial
theorem PySem.W.Fast.tw2939814676183224399 : True := trivial
theorem PySem.W.Fast.tw17357545217174134003 : True := trivial
theorem PySem.W.Fast.tw17206335137082048348 : True := trivial
theorem PySem.W.Fast.tw12670091633824604830 : True := trivial
theorem PySem.W.Fast.tw14648412459898070918 : True := trivial
theorem PySem.W.Fast.tw10229558626129513073 : True := trivial
theorem PySem.W.Fast.tw9635235569474450629 : True := trivial
theorem PySem.W.Fast.tw10513456679408439973 : True := trivial
theorem PySem.W.Fast.tw8781885969428894074 : True := trivial
theorem PySem.W.Fast.tw7566742087378157131 : True := trivial
theorem PySem.W.Fast.tw12430611624147235896 : True := trivial
theorem PySem.W.Fast.tw16771136202178983395 : True := trivial
theorem PySem.W.Fast.tw7686391938640504704 : True := trivial
theorem PySem.W.Fast.tw8293891529959817119 : True := trivial
theorem PySem.W.Fast.tw9767690492864567995 : True := trivial
theorem PySem.W.Fast.tw3178656084679387499 : True := trivial
theorem PySem.W.Fast.tw13699968762690584227 : True := trivial
theorem PySem.W.Fast.tw2090401903181617103 : True := trivial
theorem PySem.W.Fast.tw16805593458833775838 : True := trivial
theorem PySem.W.Fast.tw8150130992856474899 : True := trivial
theorem PySem.W.Fast.tw10107243133903453092 : True := trivial
theorem PySem.W.Fast.tw13463900407367251958 : True := trivial
theorem PySem.W.Fast.tw3077463334722773565 : True := trivial
theorem PySem.W.Fast.tw1577323575768994790 : True := trivial
theorem PySem.W.Fast.tw14348237426463316097 : True := trivial
theorem PySem.W.Fast.tw8573183545983081453 : True := trivial
theorem PySem.W.Fast.tw15140681882616765355 : True := trivial
theorem PySem.W.Fast.tw11231749013816426718 : True := trivial
theorem PySem.W.Fast.tw5043999907962992214 : True := trivial
theorem PySem.W.Fast.tw12451210259233880647 : True := trivial
theorem PySem.W.Fast.tw3029567849311346044 : True := trivial
theorem PySem.W.Fast.tw3204533584202964433 : True := trivial
theorem PySem.W.Fast.tw17531134308327066517 : True := trivial
theorem PySem.W.Fast.tw2169581213198885687 : True := trivial
theorem PySem.W.Fast.tw13220229103757224081 : True := trivial
theorem PySem.W.Fast.tw14217364164240113401 : True := trivial
theorem PySem.W.Fast.tw4563159834256078685 : True := trivial
theorem PySem.W.Fast.tw16793574935574075005 : True := trivial
theorem PySem.W.Fast.tw2540972968763992865 : True := trivial
theorem PySem.W.Fast.tw2465750549201837348 : True := trivial
theorem PySem.W.Fast.tw3348231655255251884 : True := trivial
theorem PySem.W.Fast.tw4000168119456447851 : True := trivial
theorem PySem.W.Fast.tw13088496427396209896 : True := trivial
theorem PySem.W.Fast.tw17363183890734761936 : True := trivial
theorem PySem.W.Fast.tw354374435172953395 : True := trivial
theorem PySem.W.Fast.tw11565187144881391346 : True := trivial
theorem PySem.W.Fast.tw12558632519759186458 : True := trivial
theorem PySem.W.Fast.tw2434380273816097415 : True := trivial
theorem PySem.W.Fast.tw594724220006246928 : True := trivial
theorem PySem.W.Fast.tw16928544394639303735 : True := trivial
theorem PySem.W.Fast.tw4941546650165857773 : True := trivial
theorem PySem.W.Fast.tw5042745054972348590 : True := trivial
theorem PySem.W.Fast.tw10448025547392425621 : True := trivial
theorem PySem.W.Fast.tw9419197375648200109 : True := trivial
theorem PySem.W.Fast.tw15939154294750511880 : True := trivial
theorem PySem.W.Fast.tw2548150303135064183 : True := trivial
theorem PySem.W.Fast.tw6602964998361404686 : True := trivial
theorem PySem.W.Fast.tw11358584924993131152 : True := trivial
theorem PySem.W.Fast.tw8774084401060931515 : True := trivial
theorem PySem.W.Fast.tw12127646093312362984 : True := trivial
theorem PySem.W.Fast.tw9161516402427694606 : True := trivial
theorem PySem.W.Fast.tw17411371691299756602 : True := trivial
theorem PySem.W.Fast.tw7403517092334102370 : True := trivial
theorem PySem.W.Fast.tw14607213271219604198 : True := trivial
theorem PySem.W.Fast.tw12011976996908352837 : True := trivial
theorem PySem.W.Fast.tw5495535142762844883 : True := trivial
theorem PySem.W.Fast.tw16927244384010815748 : True := trivial
theorem PySem.W.Fast.tw11877662502673632796 : True := trivial
theorem PySem.W.Fast.tw16264366919361769198 : True := trivial
theorem PySem.W.Fast.tw16040044990469707094 : True := trivial
theorem PySem.W.Fast.tw2644729341945755248 : True := trivial
theorem PySem.W.Fast.tw10400503153281715433 : True := trivial
theorem PySem.W.Fast.tw14177959043649804547 : True := trivial
theorem PySem.W.Fast.tw12431400386306886025 : True := trivial
theorem PySem.W.Fast.tw18105452861823435315 : True := trivial
theorem PySem.W.Fast.tw17997187893534458356 : True := trivial
theorem PySem.W.Fast.tw11302090743641836505 : True := trivial
theorem PySem.W.Fast.tw15762348787893052329 : True := trivial
theorem PySem.W.Fast.tw4452713850055138896 : True := trivial
theorem PySem.W.Fast.tw14027181219633790843 : True := trivial
theorem PySem.W.Fast.tw8674136650180885327 : True := trivial
theorem PySem.W.Fast.tw17061115795579162458 : True := trivial
theorem PySem.W.Fast.tw17584235744947297328 : True := trivial
theorem PySem.W.Fast.tw7767231631965301967 : True := trivial
theorem PySem.W.Fast.tw2365438455311955721 : True := trivial
theorem PySem.W.Fast.tw16889866892643070540 : True := trivial
theorem PySem.W.Fast.tw234131276637700943 : True := trivial
theorem PySem.W.Fast.tw15956829040511210606 : True := trivial
theorem PySem.W.Fast.tw16110106173574977059 : True := trivial
theorem PySem.W.Fast.tw9038470670612761650 : True := trivial
theorem PySem.W.Fast.tw9976708594088986034 : True := trivial
theorem PySem.W.Fast.tw14366233157669323360 : True := trivial
theorem PySem.W.Fast.tw16273685187725462163 : True := trivial
theorem PySem.W.Fast.tw8668529451201227823 : True := trivial
theorem PySem.W.Fast.tw8136046649102594013 : True := trivial
theorem PySem.W.Fast.tw15816292807277853374 : True := trivial
theorem PySem.W.Fast.tw11769853189556842665 : True := trivial
theorem PySem.W.Fast.tw17200406156815689706 : True := trivial
theorem PySem.W.Fast.tw7651629733844912460 : True := trivial
theorem PySem.W.Fast.tw483807505663955652 : True := trivial
theorem PySem.W.Fast.tw14162490241594034684 : True := trivial
theorem PySem.W.Fast.tw9445135364830695678 : True := trivial
theorem PySem.W.Fast.tw8785258632626223965 : True := trivial
theorem PySem.W.Fast.tw11440385795222240834 : True := trivial
theorem PySem.W.Fast.tw10107395761073782692 : True := trivial
theorem PySem.W.Fast.tw14622275256998164031 : True := trivial
theorem PySem.W.Fast.tw9659009456637775777 : True := trivial
theorem PySem.W.Fast.tw16941756021097004436 : True := trivial
theorem PySem.W.Fast.tw15535658992316585519 : True := trivial
theorem PySem.W.Fast.tw15799880361618735753 : True := trivial
theorem PySem.W.Fast.tw13397066089880611768 : True := trivial
theorem PySem.W.Fast.tw17861862184126067607 : True := trivial
theorem PySem.W.Fast.tw8439533288397750172 : True := trivial
theorem PySem.W.Fast.tw15807384859605235997 : True := trivial
theorem PySem.W.Fast.tw393286309167516388 : True := trivial
theorem PySem.W.Fast.tw12582860547825288367 : True := trivial
theorem PySem.W.Fast.tw386932441186548872 : True := trivial
theorem PySem.W.Fast.tw10751878718358263474 : True := trivial
theorem PySem.W.Fast.tw429258297572070976 : True := trivial
theorem PySem.W.Fast.tw620646480376531509 : True := trivial
theorem PySem.W.Fast.tw12748277248300108103 : True := trivial
theorem PySem.W.Fast.tw14271539285667659979 : True := trivial
theorem PySem.W.Fast.tw8223206886846888244 : True := trivial
theorem PySem.W.Fast.tw8498970319178886462 : True := trivial
theorem PySem.W.Fast.tw379286664646267046 : True := trivial
theorem PySem.W.Fast.tw6314216311016070672 : True := trivial
theorem PySem.W.Fast.tw11727745916091034081 : True := trivial
theorem PySem.W.Fast.tw3689255946116343434 : True := trivial
theorem PySem.W.Fast.tw7253616822020183417 : True := trivial
theorem PySem.W.Fast.tw635284063700719826 : True := trivial
theorem PySem.W.Fast.tw16256544675545822699 : True := trivial
theorem PySem.W.Fast.tw3949961863489811479 : True := trivial
theorem PySem.W.Fast.tw1528418407363767897 : True := trivial
theorem PySem.W.Fast.tw13424330498298403576 : True := trivial
theorem PySem.W.Fast.tw7181686030692132844 : True := trivial
theorem PySem.W.Fast.tw143665562681685947 : True := trivial
theorem PySem.W.Fast.tw5574225247992605873 : True := trivial
theorem PySem.W.Fast.tw8068273680172607528 : True := trivial
theorem PySem.W.Fast.tw17533066791077523504 : True := trivial
theorem PySem.W.Fast.tw6171660839339296272 : True := trivial
theorem PySem.W.Fast.tw1676428895550278070 : True := trivial
theorem PySem.W.Fast.tw3875119076008504912 : True := trivial
theorem PySem.W.Fast.tw5722379741309873291 : True := trivial
theorem PySem.W.Fast.tw5458103339890084015 : True := trivial
theorem PySem.W.Fast.tw8850526343527110093 : True := trivial
theorem PySem.W.Fast.tw16297429348562022891 : True := trivial
theorem PySem.W.Fast.tw1411336264275480838 : True := trivial
theorem PySem.W.Fast.tw2702693046802448349 : True := trivial
theorem PySem.W.Fast.tw11374339541301760449 : True := trivial
theorem PySem.W.Fast.tw14113008617572673287 : True := trivial
theorem PySem.W.Fast.tw9849372342618656806 : True := trivial
theorem PySem.W.Fast.tw2823512150164963615 : True := trivial
theorem PySem.W.Fast.tw5823164790166780258 : True := trivial
theorem PySem.W.Fast.tw7940657694330853058 : True := trivial
theorem PySem.W.Fast.tw7708243588908819353 : True := trivial
theorem PySem.W.Fast.tw18420507779532612338 : True := trivial
theorem PySem.W.Fast.tw12308687375719751958 : True := trivial
theorem PySem.W.Fast.tw12286591706028207856 : True := trivial
theorem PySem.W.Fast.tw8609973745652185344 : True := trivial
theorem PySem.W.Fast.tw14278599011731089216 : True := trivial
theorem PySem.W.Fast.tw10268258433570695286 : True := trivial
theorem PySem.W.Fast.tw16792408204515675336 : True := trivial
theorem PySem.W.Fast.tw17408489314599580810 : True := trivial
theorem PySem.W.Fast.tw1208498981652854267 : True := trivial
theorem PySem.W.Fast.tw12317867147761541 : True := trivial
theorem PySem.W.Fast.tw11577414349059012556 : True := trivial
theorem PySem.W.Fast.tw12747690620320915655 : True := trivial
theorem PySem.W.Fast.tw13783617901497837482 : True := trivial
theorem PySem.W.Fast.tw15083977265314953467 : True := trivial
theorem PySem.W.Fast.tw5720190242229501563 : True := trivial
theorem PySem.W.Fast.tw8842886130323221695 : True := trivial
theorem PySem.W.Fast.tw15164874099902239058 : True := trivial
theorem PySem.W.Fast.tw10432796836980077989 : True := trivial
theorem PySem.W.Fast.tw8442180266169343995 : True := trivial
theorem PySem.W.Fast.tw13599278753052618925 : True := trivial
theorem PySem.W.Fast.tw2580496073068170691 : True := trivial
theorem PySem.W.Fast.tw7696684997217915955 : True := trivial
theorem PySem.W.Fast.tw8310584182970401239 : True := trivial
theorem PySem.W.Fast.tw14206550641907907035 : True := trivial
theorem PySem.W.Fast.tw12289860307889718888 : True := trivial
theorem PySem.W.Fast.tw12597759500960183229 : True := trivial
theorem PySem.W.Fast.tw486501390227984335 : True := trivial
theorem PySem.W.Fast.tw12343176028520916121 : True := trivial
theorem PySem.W.Fast.tw1649016078603419156 : True := trivial
theorem PySem.W.Fast.tw1446214648287170493 : True := trivial
theorem PySem.W.Fast.tw3405556340026072058 : True := trivial
theorem PySem.W.Fast.tw17885796537507525430 : True := trivial
theorem PySem.W.Fast.tw3793911035601571661 : True := trivial
theorem PySem.W.Fast.tw3327733467625281933 : True := trivial
theorem PySem.W.Fast.tw9986489157468356920 : True := trivial
theorem PySem.W.Fast.tw5801004499122359287 : True := trivial
theorem PySem.W.Fast.tw12432952290961637416 : True := trivial
theorem PySem.W.Fast.tw16490830733709247227 : True := trivial
theorem PySem.W.Fast.tw3635467835522491215 : True := trivial
theorem PySem.W.Fast.tw14984296048858195515 : True := trivial
theorem PySem.W.Fast.tw6518870518882897244 : True := trivial
theorem PySem.W.Fast.tw2107542793999935241 : True := trivial
theorem PySem.W.Fast.tw6195779776299371262 : True := trivial
theorem PySem.W.Fast.tw8707782003048834143 : True := trivial
theorem PySem.W.Fast.tw1811264547872265628 : True := trivial
theorem PySem.W.Fast.tw15029127020118925829 : True := trivial
theorem PySem.W.Fast.tw995427059616626471 : True := trivial
theorem PySem.W.Fast.tw2537076916918445721 : True := trivial
theorem PySem.W.Fast.tw15452760892117107162 : True := trivial
theorem PySem.W.Fast.tw13842185046303525073 : True := trivial
theorem PySem.W.Fast.tw1944042936245565830 : True := trivial
theorem PySem.W.Fast.tw354711892730267829 : True := trivial
theorem PySem.W.Fast.tw12431527391869616033 : True := trivial
theorem PySem.W.Fast.tw6553701409340572432 : True := trivial
theorem PySem.W.Fast.tw8393391527543248932 : True := trivial
theorem PySem.W.Fast.tw16682255613052831266 : True := trivial
theorem PySem.W.Fast.tw12788336824395343873 : True := trivial
theorem PySem.W.Fast.tw1318749619990666753 : True := trivial
theorem PySem.W.Fast.tw16163447158798991792 : True := trivial
theorem PySem.W.Fast.tw17352266747508524664 : True := trivial
theorem PySem.W.Fast.tw1920188933401204473 : True := trivial
theorem PySem.W.Fast.tw16804937399753599236 : True := trivial
theorem PySem.W.Fast.tw8441121786840129604 : True := trivial
theorem PySem.W.Fast.tw9012208521445653515 : True := trivial
theorem PySem.W.Fast.tw10908352088437511023 : True := trivial
theorem PySem.W.Fast.tw435475983417501042 : True := trivial
theorem PySem.W.Fast.tw14549416682510058931 : True := trivial
theorem PySem.W.Fast.tw5013498414299666011 : True := trivial
theorem PySem.W.Fast.tw1767331941986445382 : True := trivial
theorem PySem.W.Fast.tw1474833321612196847 : True := trivial
theorem PySem.W.Fast.tw15918547124338972166 : True := trivial
theorem PySem.W.Fast.tw5511728094189574278 : True := trivial
theorem PySem.W.Fast.tw8439812428781501799 : True := trivial
theorem PySem.W.Fast.tw488803451531221160 : True := trivial
theorem PySem.W.Fast.tw14229173095464968209 : True := trivial
theorem PySem.W.Fast.tw8546570992665328156 : True := trivial
theorem PySem.W.Fast.tw11656117252559467654 : True := trivial
theorem PySem.W.Fast.tw946502051059727721 : True := trivial
theorem PySem.W.Fast.tw18020247293640927167 : True := trivial
theorem PySem.W.Fast.tw3736601637125023987 : True := trivial
theorem PySem.W.Fast.tw591607000486414329 : True := trivial
theorem PySem.W.Fast.tw10146914377806620854 : True := trivial
theorem PySem.W.Fast.tw16488475344016313562 : True := trivial
theorem PySem.W.Fast.tw16893307464611854902 : True := trivial
theorem PySem.W.Fast.tw384141915225285895 : True := trivial
theorem PySem.W.Fast.tw16255683218540278080 : True := trivial
theorem PySem.W.Fast.tw9081769407626107847 : True := trivial
theorem PySem.W.Fast.tw6694873482663010284 : True := trivial
theorem PySem.W.Fast.tw3301728707236093621 : True := trivial
theorem PySem.W.Fast.tw1708518641399742144 : True := trivial
theorem PySem.W.Fast.tw4149994343124906538 : True := trivial
theorem PySem.W.Fast.tw5263092590429075442 : True := trivial
theorem PySem.W.Fast.tw15237264912993739430 : True := trivial
theorem PySem.W.Fast.tw16794323590866198263 : True := trivial
theorem PySem.W.Fast.tw13690604830689077076 : True := trivial
theorem PySem.W.Fast.tw7071507674211332982 : True := trivial
theorem PySem.W.Fast.tw9277934223401324394 : True := trivial
theorem PySem.W.Fast.tw17838556460744486543 : True := trivial
theorem PySem.W.Fast.tw14229121449701532359 : True := trivial
theorem PySem.W.Fast.tw5771644757791823385 : True := trivial
theorem PySem.W.Fast.tw13679471749644662201 : True := trivial
theorem PySem.W.Fast.tw2602069751331710983 : True := trivial
theorem PySem.W.Fast.tw12865936760297181468 : True := trivial
theorem PySem.W.Fast.tw15364520145636277370 : True := trivial
theorem PySem.W.Fast.tw14824191716746727050 : True := trivial
theorem PySem.W.Fast.tw9266552408248164517 : True := trivial
theorem PySem.W.Fast.tw10615264654472511906 : True := trivial
theorem PySem.W.Fast.tw14987497036752871136 : True := trivial
theorem PySem.W.Fast.tw4213917190351776653 : True := trivial
theorem PySem.W.Fast.tw5898637893062104365 : True := trivial
theorem PySem.W.Fast.tw8410572937653031270 : True := trivial
theorem PySem.W.Fast.tw3613630043738655496 : True := trivial
theorem PySem.W.Fast.tw3430845311020086326 : True := trivial
theorem PySem.W.Fast.tw3733145833578182578 : True := trivial
theorem PySem.W.Fast.tw8510693102948561984 : True := trivial
theorem PySem.W.Fast.tw17024585871809108075 : True := trivial
theorem PySem.W.Fast.tw6611640713403700547 : True := trivial
theorem PySem.W.Fast.tw4115864799335539315 : True := trivial
theorem PySem.W.Fast.tw15329328616649482586 : True := trivial
theorem PySem.W.Fast.tw10486453392421709895 : True := trivial
theorem PySem.W.Fast.tw2924478903909953875 : True := trivial
theorem PySem.W.Fast.tw533996273898536746 : True := trivial
theorem PySem.W.Fast.tw621976137506325659 : True := trivial
theorem PySem.W.Fast.tw10486117011781818008 : True := trivial
theorem PySem.W.Fast.tw18357854385698360077 : True := trivial
theorem PySem.W.Fast.tw6101924709556826176 : True := trivial
theorem PySem.W.Fast.tw12899875649275730369 : True := trivial
theorem PySem.W.Fast.tw16333528633302522056 : True := trivial
theorem PySem.W.Fast.tw513499912788248950 : True := trivial
theorem PySem.W.Fast.tw12682303902797511775 : True := trivial
theorem PySem.W.Fast.tw2706725859825250314 : True := trivial
theorem PySem.W.Fast.tw9339274053279786664 : True := trivial
theorem PySem.W.Fast.tw4742719449242516131 : True := trivial
theorem PySem.W.Fast.tw12919872856890992394 : True := trivial
theorem PySem.W.Fast.tw5075912535339818165 : True := trivial
theorem PySem.W.Fast.tw8231142714162601097 : True := trivial
theorem PySem.W.Fast.tw13101601480574324083 : True := trivial
theorem PySem.W.Fast.tw14225349563445834946 : True := trivial
theorem PySem.W.Fast.tw13127957047945624041 : True := trivial
theorem PySem.W.Fast.tw10283128315715205416 : True := trivial
theorem PySem.W.Fast.tw12642668609525278026 : True := trivial
theorem PySem.W.Fast.tw16709643381249543281 : True := trivial
theorem PySem.W.Fast.tw7782011456464601439 : True := trivial
theorem PySem.W.Fast.tw7510612435595018318 : True := trivial
theorem PySem.W.Fast.tw4078942945408331981 : True := trivial
theorem PySem.W.Fast.tw5308050053510233008 : True := trivial
theorem PySem.W.Fast.tw5192135417690859417 : True := trivial
theorem PySem.W.Fast.tw9294263906471965740 : True := trivial
theorem PySem.W.Fast.tw11460765444885648072 : True := trivial
theorem PySem.W.Fast.tw9164001843401039582 : True := trivial
theorem PySem.W.Fast.tw17683264211649992723 : True := trivial
theorem PySem.W.Fast.tw17988799787933623823 : True := trivial
theorem PySem.W.Fast.tw12875716906654189041 : True := trivial
theorem PySem.W.Fast.tw12496748028893051595 : True := trivial
theorem PySem.W.Fast.tw6681731523462406497 : True := trivial
theorem PySem.W.Fast.tw533806625043728836 : True := trivial
theorem PySem.W.Fast.tw7032935475171408186 : True := trivial
theorem PySem.W.Fast.tw9654842197023250160 : True := trivial
theorem PySem.W.Fast.tw2115923298497749636 : True := trivial
theorem PySem.W.Fast.tw8070395251886965913 : True := trivial
theorem PySem.W.Fast.tw9518649975650223698 : True := trivial
theorem PySem.W.Fast.tw15905058001712668323 : True := trivial
theorem PySem.W.Fast.tw7261955033523482426 : True := trivial
theorem PySem.W.Fast.tw6440870698644658431 : True := trivial
theorem PySem.W.Fast.tw8714392785233465284 : True := trivial
theorem PySem.W.Fast.tw230300810166541560 : True := trivial
theorem PySem.W.Fast.tw17607529637285834436 : True := trivial
theorem PySem.W.Fast.tw9041126287602288640 : True := trivial
theorem PySem.W.Fast.tw584653008607409785 : True := trivial
theorem PySem.W.Fast.tw4218715403563349249 : True := trivial
theorem PySem.W.Fast.tw13628183894923988806 : True := trivial
theorem PySem.W.Fast.tw12379468065199643640 : True := trivial
theorem PySem.W.Fast.tw12369571798017482392 : True := trivial
theorem PySem.W.Fast.tw8225128899515447174 : True := trivial
theorem PySem.W.Fast.tw7873286079699127822 : True := trivial
theorem PySem.W.Fast.tw14367500586921270277 : True := trivial
theorem PySem.W.Fast.tw1374534573927904977 : True := trivial
theorem PySem.W.Fast.tw15209429890420569554 : True := trivial
theorem PySem.W.Fast.tw10657169981215136558 : True := trivial
theorem PySem.W.Fast.tw11456026619043178881 : True := trivial
theorem PySem.W.Fast.tw13198609418544125437 : True := trivial
theorem PySem.W.Fast.tw6560924851103900580 : True := trivial
theorem PySem.W.Fast.tw12326379193169558233 : True := trivial
theorem PySem.W.Fast.tw7293937790960835101 : True := trivial
theorem PySem.W.Fast.tw8160637250341682260 : True := trivial
theorem PySem.W.Fast.tw14576174622872280537 : True := trivial
theorem PySem.W.Fast.tw9583386772623315155 : True := trivial
theorem PySem.W.Fast.tw9383846332898311704 : True := trivial
theorem PySem.W.Fast.tw8971211555027072086 : True := trivial
theorem PySem.W.Fast.tw5585777207009806583 : True := trivial
theorem PySem.W.Fast.tw3532508809155424583 : True := trivial
theorem PySem.W.Fast.tw18197050221585894180 : True := trivial
theorem PySem.W.Fast.tw15490838480217621746 : True := trivial
theorem PySem.W.Fast.tw8688430509599088440 : True := trivial
theorem PySem.W.Fast.tw17240640325590106446 : True := trivial
theorem PySem.W.Fast.tw13415149951584476370 : True := trivial
theorem PySem.W.Fast.tw10062105431149591183 : True := trivial
theorem PySem.W.Fast.tw13927093827774389404 : True := trivial
theorem PySem.W.Fast.tw17270853402509234052 : True := trivial
theorem PySem.W.Fast.tw12390152042298265675 : True := trivial
theorem PySem.W.Fast.tw5909681556377965081 : True := trivial
theorem PySem.W.Fast.tw7801378291967944642 : True := trivial
theorem PySem.W.Fast.tw12628054263959975255 : True := trivial
theorem PySem.W.Fast.tw5496358768142421297 : True := trivial
theorem PySem.W.Fast.tw11367435621332268530 : True := trivial
theorem PySem.W.Fast.tw11506170771795896351 : True := trivial
theorem PySem.W.Fast.tw15864298337622827766 : True := trivial
theorem PySem.W.Fast.tw8402027360089144061 : True := trivial
theorem PySem.W.Fast.tw7109774690125953687 : True := trivial
theorem PySem.W.Fast.tw6392551061459471318 : True := trivial
theorem PySem.W.Fast.tw16619900668990612419 : True := trivial
theorem PySem.W.Fast.tw1084488111665802755 : True := trivial
theorem PySem.W.Fast.tw3771349119544834364 : True := trivial
theorem PySem.W.Fast.tw10718673138811733546 : True := trivial
theorem PySem.W.Fast.tw10876248427853292114 : True := trivial
theorem PySem.W.Fast.tw5725214132272722129 : True := trivial
theorem PySem.W.Fast.tw16878595659732219676 : True := trivial
theorem PySem.W.Fast.tw16550099915768250293 : True := trivial
theorem PySem.W.Fast.tw15520446857428955299 : True := trivial
theorem PySem.W.Fast.tw5891510945781854616 : True := trivial
theorem PySem.W.Fast.tw17621054620332790556 : True := trivial
theorem PySem.W.Fast.tw8431375009553974855 : True := trivial
theorem PySem.W.Fast.tw13086009802110235511 : True := trivial
theorem PySem.W.Fast.tw1582899588554684604 : True := trivial
theorem PySem.W.Fast.tw185216733691260989 : True := trivial
theorem PySem.W.Fast.tw1781126592156302190 : True := trivial
theorem PySem.W.Fast.tw8043863107221551756 : True := trivial
theorem PySem.W.Fast.tw10631982851985410355 : True := trivial
theorem PySem.W.Fast.tw1555664660006130492 : True := trivial
theorem PySem.W.Fast.tw1312079396738340535 : True := trivial
theorem PySem.W.Fast.tw13792623037096808050 : True := trivial
theorem PySem.W.Fast.tw2700999090713858406 : True := trivial
theorem PySem.W.Fast.tw13035863950418547110 : True := trivial
theorem PySem.W.Fast.tw16938342662725028638 : True := trivial
theorem PySem.W.Fast.tw1784541612880320893 : True := trivial
theorem PySem.W.Fast.tw10468661007227481552 : True := trivial
theorem PySem.W.Fast.tw6343729735293907852 : True := trivial
theorem PySem.W.Fast.tw10664356165580500370 : True := trivial
theorem PySem.W.Fast.tw5819584664731889342 : True := trivial
theorem PySem.W.Fast.tw9784045932982168511 : True := trivial
theorem PySem.W.Fast.tw4155023348859306767 : True := trivial
theorem PySem.W.Fast.tw388919963002141881 : True := trivial
theorem PySem.W.Fast.tw8978047916491846594 : True := trivial
theorem PySem.W.Fast.tw854155282823467630 : True := trivial
theorem PySem.W.Fast.tw13232487454172277501 : True := trivial
theorem PySem.W.Fast.tw15910266586657389739 : True := trivial
theorem PySem.W.Fast.tw15989061079167389832 : True := trivial
theorem PySem.W.Fast.tw10396180101668164841 : True := trivial
theorem PySem.W.Fast.tw2595747042508447173 : True := trivial
theorem PySem.W.Fast.tw17528322209291720240 : True := trivial
theorem PySem.W.Fast.tw3401066590811225545 : True := trivial
theorem PySem.W.Fast.tw16737847924286872849 : True := trivial
theorem PySem.W.Fast.tw10253542731046093447 : True := trivial
theorem PySem.W.Fast.tw15892736812699099042 : True := trivial
theorem PySem.W.Fast.tw2585869295773237616 : True := trivial
theorem PySem.W.Fast.tw10571042530924778466 : True := trivial
theorem PySem.W.Fast.tw7906752513634594462 : True := trivial
theorem PySem.W.Fast.tw1102213461016730249 : True := trivial
theorem PySem.W.Fast.tw12848751688576572221 : True := trivial
theorem PySem.W.Fast.tw10301456376923921743 : True := trivial
theorem PySem.W.Fast.tw8721148874308512969 : True := trivial
theorem PySem.W.Fast.tw6227377065404056585 : True := trivial
theorem PySem.W.Fast.tw9965637815203278684 : True := trivial
theorem PySem.W.Fast.tw9848791282278704298 : True := trivial
theorem PySem.W.Fast.tw12390923220701337986 : True := trivial
theorem PySem.W.Fast.tw10489659516038596781 : True := trivial
theorem PySem.W.Fast.tw16548299903529898929 : True := trivial
theorem PySem.W.Fast.tw13986533064161850313 : True := trivial
theorem PySem.W.Fast.tw13073506265088948344 : True := trivial
theorem PySem.W.Fast.tw1978823767790003920 : True := trivial
theorem PySem.W.Fast.tw9489746040350692028 : True := trivial
theorem PySem.W.Fast.tw10403997559760555252 : True := trivial
theorem PySem.W.Fast.tw3907395120846882971 : True := trivial
theorem PySem.W.Fast.tw7594351781305921269 : True := trivial
theorem PySem.W.Fast.tw5118688640407144829 : True := trivial
theorem PySem.W.Fast.tw7136347127256737800 : True := trivial
theorem PySem.W.Fast.tw5583136108915410651 : True := trivial
theorem PySem.W.Fast.tw1677744939556206392 : True := trivial
theorem PySem.W.Fast.tw16611628721140332331 : True := trivial
theorem PySem.W.Fast.tw7802870157584624882 : True := trivial
theorem PySem.W.Fast.tw4621424883647237028 : True := trivial
theorem PySem.W.Fast.tw13478025889430174032 : True := trivial
theorem PySem.W.Fast.tw12646776391999796387 : True := trivial
theorem PySem.W.Fast.tw14257675643395168285 : True := trivial
theorem PySem.W.Fast.tw7256372499181241823 : True := trivial
theorem PySem.W.Fast.tw4138138302159275412 : True := trivial
theorem PySem.W.Fast.tw1738601959369796373 : True := trivial
theorem PySem.W.Fast.tw8528077387239773400 : True := trivial
theorem PySem.W.Fast.tw9532778789163316161 : True := trivial
theorem PySem.W.Fast.tw16141615598205892502 : True := trivial
theorem PySem.W.Fast.tw5285907523984486586 : True := trivial
theorem PySem.W.Fast.tw17130981300575916339 : True := trivial
theorem PySem.W.Fast.tw175659234625860165 : True := trivial
theorem PySem.W.Fast.tw292422531073682775 : True := trivial
theorem PySem.W.Fast.tw4919325280689805260 : True := trivial
theorem PySem.W.Fast.tw15057445499796921057 : True := trivial
theorem PySem.W.Fast.tw308125982165406276 : True := trivial
theorem PySem.W.Fast.tw7166934665359290780 : True := trivial
theorem PySem.W.Fast.tw15533671312752885506 : True := trivial
theorem PySem.W.Fast.tw5178293580398016971 : True := trivial
theorem PySem.W.Fast.tw5649020891579039411 : True := trivial
theorem PySem.W.Fast.tw11308949605481837097 : True := trivial
theorem PySem.W.Fast.tw12734200841599989890 : True := trivial
theorem PySem.W.Fast.tw10102433447742443821 : True := trivial
theorem PySem.W.Fast.tw5322716048100295560 : True := trivial
theorem PySem.W.Fast.tw11052945104523887325 : True := trivial
theorem PySem.W.Fast.tw3529705061788503435 : True := trivial
theorem PySem.W.Fast.tw17747764096343670252 : True := trivial
theorem PySem.W.Fast.tw282977662619113677 : True := trivial
theorem PySem.W.Fast.tw12253656243557284544 : True := trivial
theorem PySem.W.Fast.tw492090822857111187 : True := trivial
theorem PySem.W.Fast.tw4396032094309021210 : True := trivial
theorem PySem.W.Fast.tw12626706866259484504 : True := trivial
theorem PySem.W.Fast.tw11599103259537108510 : True := trivial
theorem PySem.W.Fast.tw1575122015608558409 : True := trivial
theorem PySem.W.Fast.tw15910978307165782887 : True := trivial
theorem PySem.W.Fast.tw16763422282509842776 : True := trivial
theorem PySem.W.Fast.tw3317372390922494247 : True := trivial
theorem PySem.W.Fast.tw6909816653236321989 : True := trivial
theorem PySem.W.Fast.tw15598052763079620860 : True := trivial
theorem PySem.W.Fast.tw15236550085784252397 : True := trivial
theorem PySem.W.Fast.tw7380507617423178783 : True := trivial
theorem PySem.W.Fast.tw2310126270616883721 : True := trivial
theorem PySem.W.Fast.tw17604205169583557521 : True := trivial
theorem PySem.W.Fast.tw6389378774993006729 : True := trivial
theorem PySem.W.Fast.tw16403491251591356455 : True := trivial
theorem PySem.W.Fast.tw13312739281911419337 : True := trivial
theorem PySem.W.Fast.tw15784522067376895941 : True := trivial
theorem PySem.W.Fast.tw4175485226842110632 : True := trivial
theorem PySem.W.Fast.tw11209034193404109345 : True := trivial
theorem PySem.W.Fast.tw8905519861707451799 : True := trivial
theorem PySem.W.Fast.tw12113895334925438624 : True := trivial
theorem PySem.W.Fast.tw15451971508394205219 : True := trivial
theorem PySem.W.Fast.tw8143533797385959966 : True := trivial
theorem PySem.W.Fast.tw11656844403353533857 : True := trivial
theorem PySem.W.Fast.tw15228610739349282458 : True := trivial
theorem PySem.W.Fast.tw14474965153533555355 : True := trivial
theorem PySem.W.Fast.tw12239248515409284660 : True := trivial
theorem PySem.W.Fast.tw15999712100890529333 : True := trivial
theorem PySem.W.Fast.tw14127670610950902496 : True := trivial
theorem PySem.W.Fast.tw3999712190978685349 : True := trivial
theorem PySem.W.Fast.tw14757208802547931117 : True := trivial
theorem PySem.W.Fast.tw11292941738380028097 : True := trivial
theorem PySem.W.Fast.tw14732176592366049657 : True := trivial
theorem PySem.W.Fast.tw5045796714533665088 : True := trivial
theorem PySem.W.Fast.tw8766714438730402903 : True := trivial
theorem PySem.W.Fast.tw4984574752445906716 : True := trivial
theorem PySem.W.Fast.tw8517895458651147078 : True := trivial
theorem PySem.W.Fast.tw14642719723658961737 : True := trivial
theorem PySem.W.Fast.tw4047746112339853062 : True := trivial
theorem PySem.W.Fast.tw10504515147875799305 : True := trivial
theorem PySem.W.Fast.tw5599764350693068638 : True := trivial
theorem PySem.W.Fast.tw10406845285602592338 : True := trivial
theorem PySem.W.Fast.tw8657008257540713409 : True := trivial
theorem PySem.W.Fast.tw3002814906883519738 : True := trivial
theorem PySem.W.Fast.tw11660636366459479236 : True := trivial
theorem PySem.W.Fast.tw12992003791110584812 : True := trivial
theorem PySem.W.Fast.tw8887839258534907306 : True := trivial
theorem PySem.W.Fast.tw15929507670738820648 : True := trivial
theorem PySem.W.Fast.tw12011915697076726772 : True := trivial
theorem PySem.W.Fast.tw15943381742815325101 : True := trivial
theorem PySem.W.Fast.tw10574149911024422264 : True := trivial
theorem PySem.W.Fast.tw5471895410278770342 : True := trivial
theorem PySem.W.Fast.tw3787687480065060761 : True := trivial
theorem PySem.W.Fast.tw653757977722050148 : True := trivial
theorem PySem.W.Fast.tw8269406050524196529 : True := trivial
theorem PySem.W.Fast.tw14730999233824215888 : True := trivial
theorem PySem.W.Fast.tw15059125630987795851 : True := trivial
theorem PySem.W.Fast.tw17702315138493473911 : True := trivial
theorem PySem.W.Fast.tw7483394982270278414 : True := trivial
theorem PySem.W.Fast.tw2615945770360859328 : True := trivial
theorem PySem.W.Fast.tw13678316613622378778 : True := trivial
theorem PySem.W.Fast.tw12675681575043465739 : True := trivial
theorem PySem.W.Fast.tw11659543859208989596 : True := trivial
theorem PySem.W.Fast.tw12641189645614215369 : True := trivial
theorem PySem.W.Fast.tw2896820691055214668 : True := trivial
theorem PySem.W.Fast.tw9044307660547040123 : True := trivial
theorem PySem.W.Fast.tw13497397394527975437 : True := trivial
theorem PySem.W.Fast.tw2286704687587530832 : True := trivial
theorem PySem.W.Fast.tw5217893631252261081 : True := trivial
theorem PySem.W.Fast.tw15692281891934237048 : True := trivial
theorem PySem.W.Fast.tw10571911384806088617 : True := trivial
theorem PySem.W.Fast.tw1492933721712620175 : True := trivial
theorem PySem.W.Fast.tw12359916804559657896 : True := trivial
theorem PySem.W.Fast.tw2198976298237415261 : True := trivial
theorem PySem.W.Fast.tw13023623059581349007 : True := trivial
theorem PySem.W.Fast.tw3732568410029468468 : True := trivial
theorem PySem.W.Fast.tw7269421959207046841 : True := trivial
theorem PySem.W.Fast.tw15287609036665720113 : True := trivial
theorem PySem.W.Fast.tw6619435516167494562 : True := trivial
theorem PySem.W.Fast.tw18430151280816160043 : True := trivial
theorem PySem.W.Fast.tw12550533959687060738 : True := trivial
theorem PySem.W.Fast.tw17635790080053155980 : True := trivial
theorem PySem.W.Fast.tw9251371204095578894 : True := trivial
theorem PySem.W.Fast.tw12117243240154754624 : True := trivial
theorem PySem.W.Fast.tw14634316453814097737 : True := trivial
theorem PySem.W.Fast.tw12429113369607540834 : True := trivial
theorem PySem.W.Fast.tw4131141341898814169 : True := trivial
theorem PySem.W.Fast.tw2921424986965335822 : True := trivial
theorem PySem.W.Fast.tw10312623243577593079 : True := trivial
theorem PySem.W.Fast.tw2126260799678894014 : True := trivial
theorem PySem.W.Fast.tw5715119832600457057 : True := trivial
theorem PySem.W.Fast.tw5638642538839356556 : True := trivial
theorem PySem.W.Fast.tw3656510404688076403 : True := trivial
theorem PySem.W.Fast.tw1151834048808866208 : True := trivial
theorem PySem.W.Fast.tw5087281088199130758 : True := trivial
theorem PySem.W.Fast.tw119750417722590826 : True := trivial
theorem PySem.W.Fast.tw18223147142692975940 : True := trivial
theorem PySem.W.Fast.tw4478156877527252478 : True := trivial
theorem PySem.W.Fast.tw1599676228713263913 : True := trivial
theorem PySem.W.Fast.tw7162984975637674789 : True := trivial
theorem PySem.W.Fast.tw5568223812982545958 : True := trivial
theorem PySem.W.Fast.tw12836565420202654792 : True := trivial
theorem PySem.W.Fast.tw2847399710716759516 : True := trivial
theorem PySem.W.Fast.tw16528460629300547128 : True := trivial
theorem PySem.W.Fast.tw12078435109345093384 : True := trivial
theorem PySem.W.Fast.tw1087150165205165905 : True := trivial
theorem PySem.W.Fast.tw9193697446517384127 : True := trivial
theorem PySem.W.Fast.tw10583545860532952018 : True := trivial
theorem PySem.W.Fast.tw11125342166805099043 : True := trivial
theorem PySem.W.Fast.tw10213127588788604027 : True := trivial
theorem PySem.W.Fast.tw9274211281929579968 : True := trivial
theorem PySem.W.Fast.tw9294294406396960227 : True := trivial
theorem PySem.W.Fast.tw17603133839806837386 : True := trivial
theorem PySem.W.Fast.tw2940559150667789264 : True := trivial
theorem PySem.W.Fast.tw11755545498993473280 : True := trivial
theorem PySem.W.Fast.tw17670302883928650050 : True := trivial
theorem PySem.W.Fast.tw13836436179329350147 : True := trivial
theorem PySem.W.Fast.tw16933061900255379245 : True := trivial
theorem PySem.W.Fast.tw7161000667615901177 : True := trivial
theorem PySem.W.Fast.tw16474566060680314185 : True := trivial
theorem PySem.W.Fast.tw13596425538047256538 : True := trivial
theorem PySem.W.Fast.tw3699477631616311072 : True := trivial
theorem PySem.W.Fast.tw14983687964103990809 : True := trivial
theorem PySem.W.Fast.tw8167799437612431218 : True := trivial
theorem PySem.W.Fast.tw12715509735391208940 : True := trivial
theorem PySem.W.Fast.tw16212987865568065076 : True := trivial
theorem PySem.W.Fast.tw7156115043751474982 : True := trivial
theorem PySem.W.Fast.tw16186948061470985360 : True := trivial
theorem PySem.W.Fast.tw7568277243880426029 : True := trivial
theorem PySem.W.Fast.tw3590864578347439180 : True := trivial
theorem PySem.W.Fast.tw14640182622444431739 : True := trivial
theorem PySem.W.Fast.tw16587742429680244532 : True := trivial
theorem PySem.W.Fast.tw4924860396229506058 : True := trivial
theorem PySem.W.Fast.tw5891722543307270815 : True := trivial
theorem PySem.W.Fast.tw11424037943516850471 : True := trivial
theorem PySem.W.Fast.tw2969707701440989753 : True := trivial
theorem PySem.W.Fast.tw2963342552883237942 : True := trivial
theorem PySem.W.Fast.tw6311377655483856888 : True := trivial
theorem PySem.W.Fast.tw2937958220302245032 : True := trivial
theorem PySem.W.Fast.tw5371002649164376469 : True := trivial
theorem PySem.W.Fast.tw9136148530151134605 : True := trivial
theorem PySem.W.Fast.tw4614229551949108775 : True := trivial
theorem PySem.W.Fast.tw16524626000133353364 : True := trivial
theorem PySem.W.Fast.tw3618895096014599742 : True := trivial
theorem PySem.W.Fast.tw16909096030731670762 : True := trivial
theorem PySem.W.Fast.tw15226012555595051467 : True := trivial
theorem PySem.W.Fast.tw13735594164043627941 : True := trivial
theorem PySem.W.Fast.tw6975911943504744279 : True := trivial
theorem PySem.W.Fast.tw16527950413290169500 : True := trivial
theorem PySem.W.Fast.tw11659989144498657377 : True := trivial
theorem PySem.W.Fast.tw205547325312432061 : True := trivial
theorem PySem.W.Fast.tw12048295855524351433 : True := trivial
theorem PySem.W.Fast.tw16500871879311106799 : True := trivial
theorem PySem.W.Fast.tw17540285418669487447 : True := trivial
theorem PySem.W.Fast.tw9129903996024460665 : True := trivial
theorem PySem.W.Fast.tw15771828453099945985 : True := trivial
theorem PySem.W.Fast.tw15488176105715288982 : True := trivial
theorem PySem.W.Fast.tw16484619729813982313 : True := trivial
theorem PySem.W.Fast.tw4928003542338770199 : True := trivial
theorem PySem.W.Fast.tw10107453420232882182 : True := trivial
theorem PySem.W.Fast.tw4254178683872490366 : True := trivial
theorem PySem.W.Fast.tw15252295749323278459 : True := trivial
theorem PySem.W.Fast.tw1287466310167188833 : True := trivial
theorem PySem.W.Fast.tw3828376235151514703 : True := trivial
theorem PySem.W.Fast.tw12239378007192969384 : True := trivial
theorem PySem.W.Fast.tw2912241167989981646 : True := trivial
theorem PySem.W.Fast.tw1247642739081229740 : True := trivial
theorem PySem.W.Fast.tw6601788959744305299 : True := trivial
theorem PySem.W.Fast.tw13360923063950534640 : True := trivial
theorem PySem.W.Fast.tw9683566512904236334 : True := trivial
theorem PySem.W.Fast.tw9282363604980325231 : True := trivial
theorem PySem.W.Fast.tw2427529012455906257 : True := trivial
theorem PySem.W.Fast.tw3089944321918134735 : True := trivial
theorem PySem.W.Fast.tw3398046774500020472 : True := trivial
theorem PySem.W.Fast.tw14593984173832493176 : True := trivial
theorem PySem.W.Fast.tw11470687258434028640 : True := trivial
theorem PySem.W.Fast.tw14163543010028885438 : True := trivial
theorem PySem.W.Fast.tw16272426018365210780 : True := trivial
theorem PySem.W.Fast.tw4487526286767929933 : True := trivial
theorem PySem.W.Fast.tw1902642466152859635 : True := trivial
theorem PySem.W.Fast.tw4469992130785761558 : True := trivial
theorem PySem.W.Fast.tw18148857682813910558 : True := trivial
theorem PySem.W.Fast.tw10483848687799730584 : True := trivial
theorem PySem.W.Fast.tw14825242790093880796 : True := trivial
theorem PySem.W.Fast.tw16341594023835181588 : True := trivial
theorem PySem.W.Fast.tw9375354137249214311 : True := trivial
theorem PySem.W.Fast.tw1906165575680989411 : True := trivial
theorem PySem.W.Fast.tw17177301755443142732 : True := trivial
theorem PySem.W.Fast.tw11046531326676691955 : True := trivial
theorem PySem.W.Fast.tw8735160648451097281 : True := trivial
theorem PySem.W.Fast.tw6710632377862552068 : True := trivial
theorem PySem.W.Fast.tw9421353004835293084 : True := trivial
theorem PySem.W.Fast.tw4041143658105004304 : True := trivial
theorem PySem.W.Fast.tw16848702906070674702 : True := trivial
theorem PySem.W.Fast.tw10060482314965263220 : True := trivial
theorem PySem.W.Fast.tw9313333012524804117 : True := trivial
theorem PySem.W.Fast.tw7763738781750103327 : True := trivial
theorem PySem.W.Fast.tw11658899523141358245 : True := trivial
theorem PySem.W.Fast.tw13394277480338726554 : True := trivial
theorem PySem.W.Fast.tw634909168912410869 : True := trivial
theorem PySem.W.Fast.tw14674995252299811562 : True := trivial
theorem PySem.W.Fast.tw783421501611823403 : True := trivial
theorem PySem.W.Fast.tw17787295436090533531 : True := trivial
theorem PySem.W.Fast.tw5581621468876085708 : True := trivial
theorem PySem.W.Fast.tw16991825877957333851 : True := trivial
theorem PySem.W.Fast.tw3043263639631691809 : True := trivial
theorem PySem.W.Fast.tw12997596582681971685 : True := trivial
theorem PySem.W.Fast.tw14888268627845925841 : True := trivial
theorem PySem.W.Fast.tw7456171773547401804 : True := trivial
theorem PySem.W.Fast.tw9057046208883848367 : True := trivial
theorem PySem.W.Fast.tw11440607054460353349 : True := trivial
theorem PySem.W.Fast.tw7759927711757522577 : True := trivial
theorem PySem.W.Fast.tw1646249948113360122 : True := trivial
theorem PySem.W.Fast.tw5199458278301513193 : True := trivial
theorem PySem.W.Fast.tw9254840693787717068 : True := trivial
theorem PySem.W.Fast.tw10350088408573822664 : True := trivial
theorem PySem.W.Fast.tw15317855729951253830 : True := trivial
theorem PySem.W.Fast.tw9263717025751947456 : True := trivial
theorem PySem.W.Fast.tw5998419079876870301 : True := trivial
theorem PySem.W.Fast.tw16242607727867924592 : True := trivial
theorem PySem.W.Fast.tw2437029925982231546 : True := trivial
theorem PySem.W.Fast.tw8607024236925367703 : True := trivial
theorem PySem.W.Fast.tw12867400788482002889 : True := trivial
theorem PySem.W.Fast.tw3392670107675141245 : True := trivial
theorem PySem.W.Fast.tw16764215356768362776 : True := trivial
theorem PySem.W.Fast.tw7511508892461632607 : True := trivial
theorem PySem.W.Fast.tw6132343219488528870 : True := trivial
theorem PySem.W.Fast.tw10040088483007647552 : True := trivial
theorem PySem.W.Fast.tw1633931219126717417 : True := trivial
theorem PySem.W.Fast.tw15888387627194812545 : True := trivial
theorem PySem.W.Fast.tw12878946927090892199 : True := trivial
theorem PySem.W.Fast.tw13679065365483680832 : True := trivial
theorem PySem.W.Fast.tw4189811714617318362 : True := trivial
theorem PySem.W.Fast.tw15374882114067617262 : True := trivial
theorem PySem.W.Fast.tw12642826028641894865 : True := trivial
theorem PySem.W.Fast.tw13599226161166904973 : True := trivial
theorem PySem.W.Fast.tw12330581345533227851 : True := trivial
theorem PySem.W.Fast.tw10193086369822793477 : True := trivial
theorem PySem.W.Fast.tw6379288807340231308 : True := trivial
theorem PySem.W.Fast.tw2831112673855994621 : True := trivial
theorem PySem.W.Fast.tw9046725238953439843 : True := trivial
theorem PySem.W.Fast.tw1111540479387018199 : True := trivial
theorem PySem.W.Fast.tw14868997247553657055 : True := trivial
theorem PySem.W.Fast.tw9672458865396698803 : True := trivial
theorem PySem.W.Fast.tw13039551548324297726 : True := trivial
theorem PySem.W.Fast.tw13628992766055505963 : True := trivial
theorem PySem.W.Fast.tw3766255840602664946 : True := trivial
theorem PySem.W.Fast.tw9221341909340015090 : True := trivial
theorem PySem.W.Fast.tw80415434526997961 : True := trivial
theorem PySem.W.Fast.tw1691063477416537136 : True := trivial
theorem PySem.W.Fast.tw10630434349100494335 : True := trivial
theorem PySem.W.Fast.tw8623363529313892383 : True := trivial
theorem PySem.W.Fast.tw4945949673343402513 : True := trivial
theorem PySem.W.Fast.tw14188597339565380396 : True := trivial
theorem PySem.W.Fast.tw4196516815886255769 : True := trivial
theorem PySem.W.Fast.tw16848659189787395823 : True := trivial
theorem PySem.W.Fast.tw10670698743180286821 : True := trivial
theorem PySem.W.Fast.tw13726254346459675461 : True := trivial
theorem PySem.W.Fast.tw11013101981215885034 : True := trivial
theorem PySem.W.Fast.tw13621946258202934302 : True := trivial
theorem PySem.W.Fast.tw4375348426235532814 : True := trivial
theorem PySem.W.Fast.tw9103243021467784898 : True := trivial
theorem PySem.W.Fast.tw8690637051775860333 : True := trivial
theorem PySem.W.Fast.tw17138708487606459992 : True := trivial
theorem PySem.W.Fast.tw17834146982922237290 : True := trivial
theorem PySem.W.Fast.tw15040494452192389613 : True := trivial
theorem PySem.W.Fast.tw9551115311213711242 : True := trivial
theorem PySem.W.Fast.tw8478414703061363300 : True := trivial
theorem PySem.W.Fast.tw4659385117732836490 : True := trivial
theorem PySem.W.Fast.tw13216483059811226546 : True := trivial
theorem PySem.W.Fast.tw3379013395733860539 : True := trivial
theorem PySem.W.Fast.tw9266523086321055894 : True := trivial
theorem PySem.W.Fast.tw2743088032539159277 : True := trivial
theorem PySem.W.Fast.tw6452213574207357118 : True := trivial
theorem PySem.W.Fast.tw9270790744844219587 : True := trivial
theorem PySem.W.Fast.tw2638404008290841127 : True := trivial
theorem PySem.W.Fast.tw4766271016772822340 : True := trivial
theorem PySem.W.Fast.tw390056983597750697 : True := trivial
theorem PySem.W.Fast.tw234957661845177506 : True := trivial
theorem PySem.W.Fast.tw12887732303608819807 : True := trivial
theorem PySem.W.Fast.tw8616687649455954839 : True := trivial
theorem PySem.W.Fast.tw9904183639772742329 : True := trivial
theorem PySem.W.Fast.tw14286606389616059085 : True := trivial
theorem PySem.W.Fast.tw1805399873802998710 : True := trivial
theorem PySem.W.Fast.tw7750768437432017127 : True := trivial
theorem PySem.W.Fast.tw13781600204487473148 : True := trivial
theorem PySem.W.Fast.tw5467127788811075570 : True := trivial
theorem PySem.W.Fast.tw14956359890628238350 : True := trivial
theorem PySem.W.Fast.tw15834698020518398339 : True := trivial
theorem PySem.W.Fast.tw12675822987678334922 : True := trivial
theorem PySem.W.Fast.tw14208665172345779668 : True := trivial
theorem PySem.W.Fast.tw10870284872980426892 : True := trivial
theorem PySem.W.Fast.tw13258396278686727562 : True := trivial
theorem PySem.W.Fast.tw554463383219380064 : True := trivial
theorem PySem.W.Fast.tw8655060306354611298 : True := trivial
theorem PySem.W.Fast.tw14458522474265253471 : True := trivial
theorem PySem.W.Fast.tw6671171614204180652 : True := trivial
theorem PySem.W.Fast.tw8030999481888437849 : True := trivial
theorem PySem.W.Fast.tw5099768560658368802 : True := trivial
theorem PySem.W.Fast.tw13162817831535276840 : True := trivial
theorem PySem.W.Fast.tw7264908821122988300 : True := trivial
theorem PySem.W.Fast.tw13921527712820649140 : True := trivial
theorem PySem.W.Fast.tw8763069652744948117 : True := trivial
theorem PySem.W.Fast.tw17488389738636507304 : True := trivial
theorem PySem.W.Fast.tw11028973811579409533 : True := trivial
theorem PySem.W.Fast.tw14527278790431558321 : True := trivial
theorem PySem.W.Fast.tw495298077901846629 : True := trivial
theorem PySem.W.Fast.tw11921577287691489644 : True := trivial
theorem PySem.W.Fast.tw13385550208575905312 : True := trivial
theorem PySem.W.Fast.tw15507149045919626486 : True := trivial
theorem PySem.W.Fast.tw13273639010196814920 : True := trivial
theorem PySem.W.Fast.tw11559655320006652995 : True := trivial
theorem PySem.W.Fast.tw16292437758228733314 : True := trivial
theorem PySem.W.Fast.tw2284421898089454978 : True := trivial
theorem PySem.W.Fast.tw5222965349629834533 : True := trivial
theorem PySem.W.Fast.tw7372404301623271863 : True := trivial
theorem PySem.W.Fast.tw15653381134934218795 : True := trivial
theorem PySem.W.Fast.tw9086697349254733631 : True := trivial
theorem PySem.W.Fast.tw15330581243597662471 : True := trivial
theorem PySem.W.Fast.tw11598026913339893507 : True := trivial
theorem PySem.W.Fast.tw11155580356754544977 : True := trivial
theorem PySem.W.Fast.tw4455831339567215752 : True := trivial
theorem PySem.W.Fast.tw5677187915784155585 : True := trivial
theorem PySem.W.Fast.tw6458619201634958733 : True := trivial
theorem PySem.W.Fast.tw2108739556430384370 : True := trivial
theorem PySem.W.Fast.tw14906536797944381277 : True := trivial
theorem PySem.W.Fast.tw9110336077726693673 : True := trivial
theorem PySem.W.Fast.tw17777799176507229231 : True := trivial
theorem PySem.W.Fast.tw16782248741380533038 : True := trivial
theorem PySem.W.Fast.tw8811509312429546310 : True := trivial
theorem PySem.W.Fast.tw10265060788666655828 : True := trivial
theorem PySem.W.Fast.tw14841054292389632346 : True := trivial
theorem PySem.W.Fast.tw17671488078193261018 : True := trivial
theorem PySem.W.Fast.tw5655470346437165350 : True := trivial
theorem PySem.W.Fast.tw1069401369893063003 : True := trivial
theorem PySem.W.Fast.tw1082569196391241765 : True := trivial
theorem PySem.W.Fast.tw3634732788512043854 : True := trivial
theorem PySem.W.Fast.tw10390051502536711919 : True := trivial
theorem PySem.W.Fast.tw12644624989365036758 : True := trivial
theorem PySem.W.Fast.tw8651014597207787785 : True := trivial
theorem PySem.W.Fast.tw9642182376576925184 : True := trivial
theorem PySem.W.Fast.tw5831725692854737089 : True := trivial
theorem PySem.W.Fast.tw14519836387158674058 : True := trivial
theorem PySem.W.Fast.tw7715580344789744697 : True := trivial
theorem PySem.W.Fast.tw3094662677719959703 : True := trivial
theorem PySem.W.Fast.tw11141220662984079320 : True := trivial
theorem PySem.W.Fast.tw5226000753666969592 : True := trivial
theorem PySem.W.Fast.tw1295013926013079456 : True := trivial
theorem PySem.W.Fast.tw13428150041945430782 : True := trivial
theorem PySem.W.Fast.tw11276473546802734746 : True := trivial
theorem PySem.W.Fast.tw6682980539954860215 : True := trivial
theorem PySem.W.Fast.tw8633391746475075735 : True := trivial
theorem PySem.W.Fast.tw8846930227758010895 : True := trivial
theorem PySem.W.Fast.tw7363103847525525616 : True := trivial
theorem PySem.W.Fast.tw2938359691455163560 : True := trivial
theorem PySem.W.Fast.tw10908589249078650902 : True := trivial
theorem PySem.W.Fast.tw3864661583990260905 : True := trivial
theorem PySem.W.Fast.tw5630891093728296935 : True := trivial
theorem PySem.W.Fast.tw16746619285202834060 : True := trivial
theorem PySem.W.Fast.tw15979125483086037436 : True := trivial
theorem PySem.W.Fast.tw15600722646044076843 : True := trivial
theorem PySem.W.Fast.tw11347585415026719603 : True := trivial
theorem PySem.W.Fast.tw17806396048972819623 : True := trivial
theorem PySem.W.Fast.tw5742244112555936239 : True := trivial
theorem PySem.W.Fast.tw13455636164093635351 : True := trivial
theorem PySem.W.Fast.tw16546019211114852770 : True := trivial
theorem PySem.W.Fast.tw16249423806768030404 : True := trivial
theorem PySem.W.Fast.tw2330255219967247608 : True := trivial
theorem PySem.W.Fast.tw626692607110700774 : True := trivial
theorem PySem.W.Fast.tw2549868148500810623 : True := trivial
theorem PySem.W.Fast.tw5633684816522159525 : True := trivial
theorem PySem.W.Fast.tw1240269178364346374 : True := trivial
theorem PySem.W.Fast.tw10732343016103046334 : True := trivial
theorem PySem.W.Fast.tw8453809876148828911 : True := trivial
theorem PySem.W.Fast.tw9751757989196107083 : True := trivial
theorem PySem.W.Fast.tw331685801631311126 : True := trivial
theorem PySem.W.Fast.tw16196135185280022962 : True := trivial
theorem PySem.W.Fast.tw1288790513110291270 : True := trivial
theorem PySem.W.Fast.tw6947382028080233349 : True := trivial
theorem PySem.W.Fast.tw1720312890976568857 : True := trivial
theorem PySem.W.Fast.tw3397238620289138698 : True := trivial
theorem PySem.W.Fast.tw8371924885366069672 : True := trivial
theorem PySem.W.Fast.tw14525245942741010111 : True := trivial
theorem PySem.W.Fast.tw4419708975762188782 : True := trivial
theorem PySem.W.Fast.tw1120430775966184996 : True := trivial
theorem PySem.W.Fast.tw11321536065439344666 : True := trivial
theorem PySem.W.Fast.tw16947018777192530680 : True := trivial
theorem PySem.W.Fast.tw1625813414722192368 : True := trivial
theorem PySem.W.Fast.tw17864121468882237168 : True := trivial
theorem PySem.W.Fast.tw16958538718330444133 : True := trivial
theorem PySem.W.Fast.tw12812601029675320766 : True := trivial
theorem PySem.W.Fast.tw8964653593273223254 : True := trivial
set_option maxRecDepth 100000 in
set_option maxHeartbeats 0 in
theorem PySem.Challenge.cw_asofhall_k77_lines_written_holds : PySem.Challenge.rw_asofhall_k77_lines_written.Holds := by
  w_on; o_law; k_head; (case hw => w_witness2)
  k_fill
  refine Ash.walk (l := PySem.Challenge.rw_asofhall_k77_lines_written) rfl rfl (fun w h Y => PySem.W.kIn_of Y) ?F
  case F =>
    intro w mg fa h KX G hmg
    refine' Ash.all_mk KX G hmg ?law0 ?law1 ?law2 ?law3
      { len := (PySem.W.mg_none_of KX G ?h_B_len), int := (PySem.W.mg_none_of KX G ?h_B_int), bool := (PySem.W.mg_none_of KX G ?h_B_bool), str := (PySem.W.mg_none_of KX G ?h_B_str), list := (PySem.W.mg_none_of KX G ?h_B_list), tuple := (PySem.W.mg_none_of KX G ?h_B_tuple), dict := (PySem.W.mg_none_of KX G ?h_B_dict), isinstance := (PySem.W.mg_none_of KX G ?h_B_isinstance), all := (PySem.W.mg_none_of KX G ?h_B_all), range := (PySem.W.mg_none_of KX G ?h_B_range), enumerate := (PySem.W.mg_none_of KX G ?h_B_enumerate), sorted := (PySem.W.mg_none_of KX G ?h_B_sorted), min := (PySem.W.mg_none_of KX G ?h_B_min), max := (PySem.W.mg_none_of KX G ?h_B_max), set := (PySem.W.mg_none_of KX G ?h_B_set), sum := (PySem.W.mg_none_of KX G ?h_B_sum), abs := (PySem.W.mg_none_of KX G ?h_B_abs) }
      (PySem.W.mg_none_of KX G ?h_zN)
      ?h_ND
      ⟨?h_cF_0, ?h_cF_1, ?h_cF_2, ?h_cF_3⟩
      ?h_nF
      (PySem.W.mg_of KX G ?h_gF)
      (PySem.W.mg_of KX G ?h_gE)
      (PySem.W.mg_of KX G ?h_gX)
      (PySem.W.mg_of KX G ?h_gH)
      ⟨?h_bk_0, ?h_bk_1, ?h_bk_2, ?h_bk_3⟩
      (Ash.txt_mk KX G ?h_TE_0 ?h_TE_1 ?h_TE_2 ?h_TE_3 ?h_TE_4 ?h_TE_5 ?h_TE_6 ?h_TE_7 ?h_TE_8 ?h_TE_9 ?h_TE_10 ?h_TE_11 ?h_TE_12 ?h_TE_13 ?h_TE_14 ?h_TE_15 ?h_TE_16 ?h_TE_17 ?h_TE_18 ?h_TE_19 ?h_TE_20 ?h_TE_21 ?h_TE_22 ?h_TE_23 ?h_TE_24 ?h_TE_25 ?h_TE_26 ?h_TE_27 ?h_TE_28 ?h_TE_29)
      (Ash.txt_mk KX G ?h_TX_0 ?h_TX_1 ?h_TX_2 ?h_TX_3 ?h_TX_4 ?h_TX_5 ?h_TX_6 ?h_TX_7 ?h_TX_8 ?h_TX_9 ?h_TX_10 ?h_TX_11 ?h_TX_12 ?h_TX_13 ?h_TX_14 ?h_TX_15 ?h_TX_16 ?h_TX_17 ?h_TX_18 ?h_TX_19 ?h_TX_20 ?h_TX_21 ?h_TX_22 ?h_TX_23 ?h_TX_24 ?h_TX_25 ?h_TX_26 ?h_TX_27 ?h_TX_28 ?h_TX_29)
      ⟨?h_XE_0, ?h_XE_1, ?h_XE_2, ?h_XE_3, ?h_XE_4, ?h_XE_5, ?h_XE_6, ?h_XE_7⟩
      ⟨?h_XX_0, ?h_XX_1, ?h_XX_2, ?h_XX_3, ?h_XX_4, ?h_XX_5, ?h_XX_6, ?h_XX_7⟩
      ?h_hcE
      ?h_hcX
      (Ash.kit_yes ?h_kE_0 ?h_kE_1 ?h_kE_2)
      (Ash.kit_yes ?h_kX_0 ?h_kX_1 ?h_kX_2)
      (Ash.exm_no ?h_nXE_0 ?h_nXE_1 ?h_nXE_2 ?h_nXE_3)
      (Ash.kit_noT ?h_kD_0 ?h_kD_1 ?h_kD_2)
      (PySem.W.mg_of KX G ?h_gFd)
      (Ash.kd_mk ?h_kd1_0 ?h_kd1_1 ?h_kd1_2)
      (Ash.kd_mk ?h_kd2_0 ?h_kd2_1 ?h_kd2_2)
      (Ash.kd_mk ?h_kd3_0 ?h_kd3_1 ?h_kd3_2)
      (Ash.sqt_mk ?h_sq1_0 ?h_sq1_1 ?h_sq1_2)
      (Ash.sqt_mk ?h_sq2_0 ?h_sq2_1 ?h_sq2_2)
      (Ash.sqt_mk ?h_sq3_0 ?h_sq3_1 ?h_sq3_2)
      (Ash.ex_str KX G ?h_xL)
      (Ash.ex_int KX G ?h_xN)
      (Ash.ex_int KX G ?h_xLM)
      (Ash.ex_int KX G ?h_xMP)
      ?h_mk
      ?h_kp
      (Ash.d1 KX G ?h_d__law_stream_0 ?h_d__law_stream_1 ?h_d__law_stream_2 ?h_d__law_stream_3)
      (Ash.d1 KX G ?h_d__law_draw_0 ?h_d__law_draw_1 ?h_d__law_draw_2 ?h_d__law_draw_3)
      (Ash.d1 KX G ?h_d__law_word_0 ?h_d__law_word_1 ?h_d__law_word_2 ?h_d__law_word_3)
      (Ash.d1 KX G ?h_d__law_fields_0 ?h_d__law_fields_1 ?h_d__law_fields_2 ?h_d__law_fields_3)
      (Ash.d1 KX G ?h_d__law_order_0 ?h_d__law_order_1 ?h_d__law_order_2 ?h_d__law_order_3)
      (Ash.d1 KX G ?h_d__law_mark_0 ?h_d__law_mark_1 ?h_d__law_mark_2 ?h_d__law_mark_3)
      (Ash.d1 KX G ?h_d__law_signs_0 ?h_d__law_signs_1 ?h_d__law_signs_2 ?h_d__law_signs_3)
      (Ash.d1 KX G ?h_d__law_shape_0 ?h_d__law_shape_1 ?h_d__law_shape_2 ?h_d__law_shape_3)
      (Ash.d1 KX G ?h_d__law_integer_0 ?h_d__law_integer_1 ?h_d__law_integer_2 ?h_d__law_integer_3)
      (Ash.d1 KX G ?h_d__law_drawn_0 ?h_d__law_drawn_1 ?h_d__law_drawn_2 ?h_d__law_drawn_3)
      (Ash.d1 KX G ?h_d__law_spoiled_0 ?h_d__law_spoiled_1 ?h_d__law_spoiled_2 ?h_d__law_spoiled_3)
      (Ash.d1 KX G ?h_d_is_integer_0 ?h_d_is_integer_1 ?h_d_is_integer_2 ?h_d_is_integer_3)
      (Ash.d1 KX G ?h_d__law_is_integer_0 ?h_d__law_is_integer_1 ?h_d__law_is_integer_2 ?h_d__law_is_integer_3)
      (Ash.d1 KX G ?h_d_is_natural_0 ?h_d_is_natural_1 ?h_d_is_natural_2 ?h_d_is_natural_3)
      (Ash.d1 KX G ?h_d_is_name_0 ?h_d_is_name_1 ?h_d_is_name_2 ?h_d_is_name_3)
      (Ash.d1 KX G ?h_d_are_integers_0 ?h_d_are_integers_1 ?h_d_are_integers_2 ?h_d_are_integers_3)
      (Ash.d1 KX G ?h_d_is_entry_0 ?h_d_is_entry_1 ?h_d_is_entry_2 ?h_d_is_entry_3)
      (Ash.d1 KX G ?h_d__law_is_name_0 ?h_d__law_is_name_1 ?h_d__law_is_name_2 ?h_d__law_is_name_3)
      (Ash.d1 KX G ?h_d__law_is_entry_0 ?h_d__law_is_entry_1 ?h_d__law_is_entry_2 ?h_d__law_is_entry_3)
      (Ash.d1 KX G ?h_d_is_row_0 ?h_d_is_row_1 ?h_d_is_row_2 ?h_d_is_row_3)
      (Ash.d1 KX G ?h_d_is_mark_0 ?h_d_is_mark_1 ?h_d_is_mark_2 ?h_d_is_mark_3)
      (Ash.d1 KX G ?h_d_is_shape_0 ?h_d_is_shape_1 ?h_d_is_shape_2 ?h_d_is_shape_3)
      (Ash.d1 KX G ?h_d_check_form_0 ?h_d_check_form_1 ?h_d_check_form_2 ?h_d_check_form_3)
      (Ash.d1 KX G ?h_d_write_line_0 ?h_d_write_line_1 ?h_d_write_line_2 ?h_d_write_line_3)
      (Ash.d1 KX G ?h_d__law_due_0 ?h_d__law_due_1 ?h_d__law_due_2 ?h_d__law_due_3)
      (Ash.d1 KX G ?h_d__law_asked_0 ?h_d__law_asked_1 ?h_d__law_asked_2 ?h_d__law_asked_3)
      (Ash.dm ?h_m_FI_0 ?h_m_FI_1 ?h_m_FI_2 ?h_m_FI_3 ?h_m_FI_4)
      (Ash.dm ?h_m_SH_0 ?h_m_SH_1 ?h_m_SH_2 ?h_m_SH_3 ?h_m_SH_4)
    (case h_gF => k_is)
    (case h_gE => k_is)
    (case h_gX => k_is)
    (case h_gH => k_is)
    (case h_gFd => k_is)
    (case h_xL => k_is)
    (case h_xN => k_is)
    (case h_xLM => k_is)
    (case h_xMP => k_is)
    (case law0 => k_is)
    (case law1 => k_is)
    (case law2 => k_is)
    (case law3 => k_is)
    (case h_B_len => k_is)
    (case h_B_int => k_is)
    (case h_B_bool => k_is)
    (case h_B_str => k_is)
    (case h_B_list => k_is)
    (case h_B_tuple => k_is)
    (case h_B_dict => k_is)
    (case h_B_isinstance => k_is)
    (case h_B_all => k_is)
    (case h_B_range => k_is)
    (case h_B_enumerate => k_is)
    (case h_B_sorted => k_is)
    (case h_B_min => k_is)
    (case h_B_max => k_is)
    (case h_B_set => k_is)
    (case h_B_sum => k_is)
    (case h_B_abs => k_is)
    (case h_zN => k_is)
    (case h_ND => k_is)
    (case h_cF_0 => k_is)
    (case h_cF_1 => k_is)
    (case h_cF_2 => k_is)
    (case h_cF_3 => k_is)
    (case h_nF => delta L2.NoAttr; k_is)
    (case h_bk_0 => k_is)
    (case h_bk_1 => k_is)
    (case h_bk_2 => k_is)
    (case h_bk_3 => k_is)
    (case h_TE_0 => k_is)
    (case h_TE_2 => k_is)
    (case h_TE_3 => k_is)
    (case h_TE_4 => k_is)
    (case h_TE_5 => k_is)
    (case h_TE_6 => k_is)
    (case h_TE_7 => k_is)
    (case h_TE_8 => k_is)
    (case h_TE_9 => k_is)
    (case h_TE_10 => k_is)
    (case h_TE_11 => k_is)
    (case h_TE_12 => k_is)
    (case h_TE_13 => k_is)
    (case h_TE_14 => k_is)
    (case h_TE_15 => k_is)
    (case h_TE_17 => k_is)
    (case h_TE_18 => k_is)
    (case h_TE_20 => k_is)
    (case h_TE_21 => k_is)
    (case h_TE_25 => k_is)
    (case h_TE_29 => k_is)
    (case h_TX_0 => k_is)
    (case h_TX_2 => k_is)
    (case h_TX_3 => k_is)
    (case h_TX_4 => k_is)
    (case h_TX_5 => k_is)
    (case h_TX_6 => k_is)
    (case h_TX_7 => k_is)
    (case h_TX_8 => k_is)
    (case h_TX_9 => k_is)
    (case h_TX_10 => k_is)
    (case h_TX_11 => k_is)
    (case h_TX_12 => k_is)
    (case h_TX_13 => k_is)
    (case h_TX_14 => k_is)
    (case h_TX_15 => k_is)
    (case h_TX_17 => k_is)
    (case h_TX_18 => k_is)
    (case h_TX_20 => k_is)
    (case h_TX_21 => k_is)
    (case h_TX_25 => k_is)
    (case h_TX_29 => k_is)
    (case h_XE_0 => k_is)
    (case h_XE_1 => k_is)
    (case h_XE_2 => k_is)
    (case h_XE_3 => k_is)
    (case h_XE_4 => k_is)
    (case h_XE_5 => k_is)
    (case h_XE_6 => k_is)
    (case h_XE_7 => k_is)
    (case h_XX_0 => k_is)
    (case h_XX_1 => k_is)
    (case h_XX_2 => k_is)
    (case h_XX_3 => k_is)
    (case h_XX_4 => k_is)
    (case h_XX_5 => k_is)
    (case h_XX_6 => k_is)
    (case h_XX_7 => k_is)
    (case h_hcE => k_is)
    (case h_hcX => k_is)
    (case h_kE_0 => k_is)
    (case h_kE_1 => k_is)
    (case h_kE_2 => k_is)
    (case h_kX_0 => k_is)
    (case h_kX_1 => k_is)
    (case h_kX_2 => k_is)
    (case h_nXE_0 => k_is)
    (case h_nXE_1 => k_is)
    (case h_nXE_2 => k_is)
    (case h_nXE_3 => k_is)
    (case h_kD_0 => k_is)
    (case h_kD_1 => k_is)
    (case h_kD_2 => k_is)
    (case h_kd1_0 => k_is)
    (case h_kd1_2 => k_is)
    (case h_kd2_0 => k_is)
    (case h_kd2_2 => k_is)
    (case h_kd3_0 => k_is)
    (case h_kd3_2 => k_is)
    (case h_sq1_0 => k_is)
    (case h_sq2_0 => k_is)
    (case h_sq3_0 => k_is)
    (case h_mk => k_is)
    (case h_kp => k_is)
    (case h_d__law_stream_0 => k_is)
    (case h_d__law_stream_1 => k_is)
    (case h_d__law_stream_2 => k_is)
    (case h_d__law_stream_3 => k_is)
    (case h_d__law_draw_0 => k_is)
    (case h_d__law_draw_1 => k_is)
    (case h_d__law_draw_2 => k_is)
    (case h_d__law_draw_3 => k_is)
    (case h_d__law_word_0 => k_is)
    (case h_d__law_word_1 => k_is)
    (case h_d__law_word_2 => k_is)
    (case h_d__law_word_3 => k_is)
    (case h_d__law_fields_0 => k_is)
    (case h_d__law_fields_1 => k_is)
    (case h_d__law_fields_2 => k_is)
    (case h_d__law_fields_3 => k_is)
    (case h_d__law_order_0 => k_is)
    (case h_d__law_order_1 => k_is)
    (case h_d__law_order_2 => k_is)
    (case h_d__law_order_3 => k_is)
    (case h_d__law_mark_0 => k_is)
    (case h_d__law_mark_1 => k_is)
    (case h_d__law_mark_2 => k_is)
    (case h_d__law_mark_3 => k_is)
    (case h_d__law_signs_0 => k_is)
    (case h_d__law_signs_1 => k_is)
    (case h_d__law_signs_2 => k_is)
    (case h_d__law_signs_3 => k_is)
    (case h_d__law_shape_0 => k_is)
    (case h_d__law_shape_1 => k_is)
    (case h_d__law_shape_2 => k_is)
    (case h_d__law_shape_3 => k_is)
    (case h_d__law_integer_0 => k_is)
    (case h_d__law_integer_1 => k_is)
    (case h_d__law_integer_2 => k_is)
    (case h_d__law_integer_3 => k_is)
    (case h_d__law_drawn_0 => k_is)
    (case h_d__law_drawn_1 => k_is)
    (case h_d__law_drawn_2 => k_is)
    (case h_d__law_drawn_3 => k_is)
    (case h_d__law_spoiled_0 => k_is)
    (case h_d__law_spoiled_1 => k_is)
    (case h_d__law_spoiled_2 => k_is)
    (case h_d__law_spoiled_3 => k_is)
    (case h_d_is_integer_0 => k_is)
    (case h_d_is_integer_1 => k_is)
    (case h_d_is_integer_2 => k_is)
    (case h_d_is_integer_3 => k_is)
    (case h_d__law_is_integer_0 => k_is)
    (case h_d__law_is_integer_1 => k_is)
    (case h_d__law_is_integer_2 => k_is)
    (case h_d__law_is_integer_3 => k_is)
    (case h_d_is_natural_0 => k_is)
    (case h_d_is_natural_1 => k_is)
    (case h_d_is_natural_2 => k_is)
    (case h_d_is_natural_3 => k_is)
    (case h_d_is_name_0 => k_is)
    (case h_d_is_name_1 => k_is)
    (case h_d_is_name_2 => k_is)
    (case h_d_is_name_3 => k_is)
    (case h_d_are_integers_0 => k_is)
    (case h_d_are_integers_1 => k_is)
    (case h_d_are_integers_2 => k_is)
    (case h_d_are_integers_3 => k_is)
    (case h_d_is_entry_0 => k_is)
    (case h_d_is_entry_1 => k_is)
    (case h_d_is_entry_2 => k_is)
    (case h_d_is_entry_3 => k_is)
    (case h_d__law_is_name_0 => k_is)
    (case h_d__law_is_name_1 => k_is)
    (case h_d__law_is_name_2 => k_is)
    (case h_d__law_is_name_3 => k_is)
    (case h_d__law_is_entry_0 => k_is)
    (case h_d__law_is_entry_1 => k_is)
    (case h_d__law_is_entry_2 => k_is)
    (case h_d__law_is_entry_3 => k_is)
    (case h_d_is_row_0 => k_is)
    (case h_d_is_row_1 => k_is)
    (case h_d_is_row_2 => k_is)
    (case h_d_is_row_3 => k_is)
    (case h_d_is_mark_0 => k_is)
    (case h_d_is_mark_1 => k_is)
    (case h_d_is_mark_2 => k_is)
    (case h_d_is_mark_3 => k_is)
    (case h_d_is_shape_0 => k_is)
    (case h_d_is_shape_1 => k_is)
    (case h_d_is_shape_2 => k_is)
    (case h_d_is_shape_3 => k_is)
    (case h_d_check_form_0 => k_is)
    (case h_d_check_form_1 => k_is)
    (case h_d_check_form_2 => k_is)
    (case h_d_check_form_3 => k_is)
    (case h_d_write_line_0 => k_is)
    (case h_d_write_line_1 => k_is)
    (case h_d_write_line_2 => k_is)
    (case h_d_write_line_3 => k_is)
    (case h_d__law_due_0 => k_is)
    (case h_d__law_due_1 => k_is)
    (case h_d__law_due_2 => k_is)
    (case h_d__law_due_3 => k_is)
    (case h_d__law_asked_0 => k_is)
    (case h_d__law_asked_1 => k_is)
    (case h_d__law_asked_2 => k_is)
    (case h_d__law_asked_3 => k_is)
    (case h_m_FI_0 => k_is)
    (case h_m_FI_1 => k_is)
    (case h_m_FI_2 => k_is)
    (case h_m_FI_3 => k_is)
    (case h_m_FI_4 => k_is)
    (case h_m_SH_0 => k_is)
    (case h_m_SH_1 => k_is)
    (case h_m_SH_2 => k_is)
    (case h_m_SH_3 => k_is)
    (case h_m_SH_4 => k_is)
    (case h_TE_1 => decide +kernel)
    (case h_TE_16 => ks_is)
    (case h_TE_19 => decide +kernel)
    (case h_TE_22 => exact rfl)
    (case h_TE_23 => exact rfl)
    (case h_TE_24 => exact fun s u v => .of_eq rfl)
    (case h_TE_26 => exact rfl)
    (case h_TE_27 => decide +kernel)
    (case h_TE_28 => decide +kernel)
    (case h_TX_1 => decide +kernel)
    (case h_TX_16 => ks_is)
    (case h_TX_19 => decide +kernel)
    (case h_TX_22 => exact rfl)
    (case h_TX_23 => exact rfl)
    (case h_TX_24 => exact fun s u v => .of_eq rfl)
    (case h_TX_26 => exact rfl)
    (case h_TX_27 => decide +kernel)
    (case h_TX_28 => decide +kernel)
    (case h_kd1_1 => exact ⟨⟨_, _, rfl, rfl⟩, ⟨_, _, rfl, rfl⟩, ⟨_, _, rfl, rfl⟩, trivial⟩)
    (case h_kd2_1 => exact ⟨⟨_, _, rfl, rfl⟩, ⟨_, _, rfl, rfl⟩, ⟨_, _, rfl, rfl⟩, trivial⟩)
    (case h_kd3_1 => exact ⟨⟨_, _, rfl, rfl⟩, ⟨_, _, rfl, rfl⟩, ⟨_, _, rfl, rfl⟩, trivial⟩)
    (case h_sq1_1 => first | exact .cons ⟨_, rfl⟩ (.cons ⟨_, rfl⟩ .nil) | exact .cons ⟨_, rfl⟩ (.cons ⟨_, rfl⟩ (.cons ⟨_, rfl⟩ (.cons ⟨_, rfl⟩ .nil))) | exact .cons ⟨_, rfl⟩ (.cons ⟨_, rfl⟩ (.cons ⟨_, rfl⟩ (.cons ⟨_, rfl⟩ (.cons ⟨_, rfl⟩ (.cons ⟨_, rfl⟩ .nil))))))
    (case h_sq1_2 => decide)
    (case h_sq2_1 => first | exact .cons ⟨_, rfl⟩ (.cons ⟨_, rfl⟩ .nil) | exact .cons ⟨_, rfl⟩ (.cons ⟨_, rfl⟩ (.cons ⟨_, rfl⟩ (.cons ⟨_, rfl⟩ .nil))) | exact .cons ⟨_, rfl⟩ (.cons ⟨_, rfl⟩ (.cons ⟨_, rfl⟩ (.cons ⟨_, rfl⟩ (.cons ⟨_, rfl⟩ (.cons ⟨_, rfl⟩ .nil))))))
    (case h_sq2_2 => decide)
    (case h_sq3_1 => first | exact .cons ⟨_, rfl⟩ (.cons ⟨_, rfl⟩ .nil) | exact .cons ⟨_, rfl⟩ (.cons ⟨_, rfl⟩ (.cons ⟨_, rfl⟩ (.cons ⟨_, rfl⟩ .nil))) | exact .cons ⟨_, rfl⟩ (.cons ⟨_, rfl⟩ (.cons ⟨_, rfl⟩ (.cons ⟨_, rfl⟩ (.cons ⟨_, rfl⟩ (.cons ⟨_, rfl⟩ .nil))))))
    (case h_sq3_2 => decide)

