import PyProof.Rows.All
import Wide.All
import OpenK.AllK
import Wide.FinOn
import PyProof.EqAt
import PyProof.EqKinds
import PyProof.TupleCall
import KE.KExcIs
import KE.KExcSuper
import HandS.ForMost
import HandS.Exc
import HandS.ExcInit
import HandS.IsInst
import HandS.FStr
import HandS.Wide
import HandS.MakeKwOnly
import HandS.ExcField
import HandS.ExcIs
import PyProof.ReprRoads
import PyProof.FactsAll.bool_1
import PyProof.Rows.RuleN_abs
import PyProof.Rows.FactsU_abs
import Lean
import KE.KStateDown
import HandS.More
import HandS.WordsExc
import HandS.Head0
import HandS.Head1
import HandS.Head2
import HandS.HeadEnd
import HandS.HeadHook1
import HandS.HeadHook2
import HandS.Head3
import KE.KNest
import HandS.ClsMeth
import HandS.ExcValue
import KE.KOpsOwn
import HandS.SlotsOwn
import HandS.Property
import KE.KCallOwn
import PyProof.InstEq
import KE.KFmtOwn
import PyProof.Rows.RuleB_bool
import HandS.Small
import HandS.OwnEq
import HandS.MakeKw
import HandS.Lambda
import HandS.HeadWalk
import HandS.Walk
import KE.GoesEnum
import PyProof.EnumMake
import PyProof.StrBlock
import HandS.Text
import PyProof.StrLawsAffix
import PyProof.Rows.ReprOcc
import HandS.Gcd
import HandS.StrMore
import HandS.RaiseMore
import HandS.Dict
import HandS.Style
import PySem.Challenge.RW_alleyes_k01_names_labels_integers_and_ra
set_option Elab.async false
set_option linter.all false
set_option maxRecDepth 100000
/-! Er1 -/
section
set_option maxHeartbeats 4000000
set_option exponentiation.threshold 10000
/-! An own error's __init__ that begins with super().__init__(..): its frame has the cell __class__. -/
namespace Er
open PySem PySem.Spec PyProof.Rows L2

/-- the context of such a body -/
def cxS (CX : CXT) (P : Program) (w : World) (K : PySem.W.Frag) (mg : Str → Option Value) (base : Heap) (N : List Str) (qual : Str) (scope : Scope) (f : Addr) (cd : Value) (cc : Addr)
    (A : Around) (outer : List Env) (s : Shared) (H : Hp) (E : XK) : Cx :=
  let ev : Env := PySem.W.ksEnv qual scope s.heap.objs.size f cd cc
  { prog := P, w := w, K := K, mg := mg, base := base, A := A.deeper ev, N := N, s_0 := s, H_0 := H, env := ev, outer := outer, stack := ev :: outer, ex := [], calm := true,
    fn := fun x => x != "__class__", pn := [],
    xe := fun e s' => wpAny (model P w) (A.deeper ev) (leaving ev e) (fun _ s2 => CX outer H s E e s2) (fun e' s2 => CX outer H s E e' s2) s' }

structure ScS (N ps : List Str) (sc : Scope) : Prop where
  kind : sc.kind = .function
  co : sc.isCoroutine = false
  gen : sc.isGenerator = false
  nd : N.Nodup
  pre : N.take ps.length = ps
  par : ∀ x ∈ ps, sc.names.lookup x = some .local
  free : ∀ y ∈ sc.names, y.2 = .free → y.1 = "__class__"
  nocell : ∀ y ∈ sc.names, y.2 ≠ .cell

theorem one_cell {cc c : Addr} {x : Str} (h : [(("__class__" : Str), cc)].lookup x = some c) : x = "__class__" ∧ c = cc := by
  by_cases e : x = "__class__"
  · subst e
    have q : [(("__class__" : Str), cc)].lookup ("__class__" : Str) = some cc := by simp [List.lookup]
    rw [q] at h
    exact ⟨rfl, (Option.some.inj h).symm⟩
  · have b : (x == ("__class__" : Str)) = false := by simpa using e
    have q : [(("__class__" : Str), cc)].lookup x = none := by simp [List.lookup, b]
    rw [q] at h
    cases h

theorem zip_rev_get : ∀ {ps : List Str} {us : List Value} {i : Nat} {x : Str} {u : Value}, ps.Nodup → ps[i]? = some x → us[i]? = some u → (ps.zip us).reverse.lookup x = some u := by
  intro ps us i x u nd h1 h2
  have key : ∀ {l : List (Str × Value)}, (l.map (·.1)).Nodup → (x, u) ∈ l → l.lookup x = some u := by
    intro l
    induction l with
    | nil => intro _ h; cases h
    | cons p r ih =>
      intro n h
      obtain ⟨y, v⟩ := p
      rcases List.mem_cons.mp h with e | e
      · cases e
        simp [List.lookup]
      · have ny : x ≠ y := by
          intro z
          have m : x ∈ r.map (·.1) := List.mem_map.mpr ⟨(x, u), e, rfl⟩
          rw [List.map_cons] at n
          exact (List.nodup_cons.mp n).1 (by rw [z] at m; exact m)
        have b : (x == y) = false := by simpa using ny
        rw [List.map_cons] at n
        simp only [List.lookup, b]
        exact ih (List.nodup_cons.mp n).2 e
  refine key ?_ ?_
  · rw [List.map_reverse]
    refine (List.reverse_perm _).nodup_iff.mpr ?_
    have s : ((ps.zip us).map (·.1)).Sublist ps := by
      clear key h1 h2 nd
      induction ps generalizing us with
      | nil => simp
      | cons p r ih =>
        cases us with
        | nil => simp
        | cons v t =>
          show (p :: ((r.zip t).map (·.1))).Sublist (p :: r)
          exact (ih (us := t)).cons_cons p
    exact nd.sublist s
  · refine List.mem_reverse.mpr ?_
    refine List.mem_of_getElem? (i := i) ?_
    rw [List.getElem?_zip_eq_some]
    exact ⟨h1, h2⟩

section
variable {CX : CXT} {P : Program} {w : World} {K : PySem.W.Frag} {mg : Str → Option Value} {base : Heap} {N ps : List Str} {qual : Str} {scope : Scope} {f cc D : Addr} {cd : Value} {A : Around} {outer : List Env} {s : Shared} {H : Hp} {E : XK} {us : List Value} {vs : List V}
theorem inv_s (S : ScS N ps scope) {cl : Value} {cld : Option Addr} {csl : Array (Option Value)} (hcell : K.lookup cc = some ⟨cl, cld, .cell (some (.ref D)), csl⟩) (hd : A.handled = none) (e0 : Env0 P w K mg base A outer s H) (hl : vs.length = ps.length) (r : Vals vs us)
    {h1 : Heap} {t1 : Nat} (hn : h1.Ns s.heap.objs.size fun x => (ps.zip us).reverse.lookup x) (hk : ∀ b o, s.heap.get? b = some o → h1.get? b = some o) :
    Inv (cxS CX P w K mg base N qual scope f cd cc A outer s H E) [] (start N vs) H { s with heap := h1, toks := t1 } := by
  have KX : K.In s.heap := e0.mod.kin.keeps fun b o e => (e0.bs b o e).1
  have cB : base.get? cc = some ⟨cl, cld, .cell (some (.ref D)), csl⟩ := e0.mod.kin _ _ hcell
  have hpl : ps.length ≤ N.length := by have := congrArg List.length S.pre; rw [List.length_take] at this; omega
  have noA : ∀ b : Addr, b ∉ (cxS CX P w K mg base N qual scope f cd cc A outer s H E).ex := fun b z => absurd (show b ∈ ([] : List Addr) from z) (by simp)
  refine ⟨⟨e0.mod, S.kind, rfl, rfl, Nat.le_refl _, fun y z c a b => ?_, fun y hy => ?_, fun y c q a => ?_, fun _ => hd, Around.frames_deeper e0.frames, .inr ⟨rfl, rfl⟩, fun b z => absurd z (noA b), e0.bs, e0.bsz, fun b _ _ => noA b, fun b z => absurd z (noA b), e0.funs, e0.frf⟩,
    rfl, e0.bare, Un.kept hk, ⟨_, hn, fun i y v a b c => ?_⟩, fun y c a => ?_, e0.hok.fresh (Nat.le_refl _), fun y c a => ?_, fun p hp => absurd (show p ∈ ([] : List (Addr × Obj)) from hp) (by simp), e0.hok.kept hk, ?_⟩
  · exact (one_cell a).1.trans (one_cell b).1.symm
  · have hy : scope.names.lookup y = some .cell ∨ scope.names.lookup y = some .free := hy
    rcases hy with hy | hy
    · exact absurd rfl (S.nocell _ (PySem.mem_of_lookup hy))
    · have e := S.free _ (PySem.mem_of_lookup hy) rfl
      have e' : y = "__class__" := e
      subst e'
      exact ⟨cc, by show [(("__class__" : Str), cc)].lookup ("__class__" : Str) = some cc; simp [List.lookup]⟩
  · have e := (one_cell a).1
    subst e
    exact absurd (show (("__class__" : Str) != ("__class__" : Str)) = true from q) (by decide)
  · have hi : i < vs.length := by
      unfold L2.start at b
      by_cases hi : i < vs.length
      · exact hi
      · rw [List.getElem?_append_right (by simpa using hi), List.getElem?_replicate] at b
        split at b <;> cases b
    have ha : vs[i]? = some v := by
      unfold L2.start at b
      rw [List.getElem?_append_left (by simpa using hi), List.getElem?_map] at b
      cases e : vs[i]? with
      | none => rw [e] at b; cases b
      | some z => rw [e] at b; cases b; rfl
    obtain ⟨u, hu, rv⟩ := r.get ha
    have hp : ps[i]? = some y := by
      rw [← S.pre, List.getElem?_take_of_lt (by omega)]; exact a
    have ndP : ps.Nodup := by rw [← S.pre]; exact S.nd.sublist (List.take_sublist _ _)
    exact ⟨u, rv, .inl ⟨S.par y (List.mem_of_getElem? hp), zip_rev_get ndP hp hu⟩⟩
  · obtain ⟨_, e⟩ := one_cell a
    subst e
    exact ⟨_, _, hk _ _ ((e0.bs _ _ cB).1), rfl⟩
  · obtain ⟨_, e⟩ := one_cell a
    subst e
    exact (e0.bs _ _ cB).2
  · unfold L2.start
    show _ = N.length
    rw [List.length_append, List.length_map, List.length_replicate]
    omega
end
end Er
end

/-! Er2 -/
section
set_option maxHeartbeats 4000000
set_option exponentiation.threshold 10000
namespace Er
open PySem PySem.Spec PyProof.Rows L2
/-- what the written part tells of an error's class at C, for super() in the class at D -/
structure SupC (K : PySem.W.Frag) (C D : Addr) : Prop where
  oex : OexC K C
  isD : PySem.W.mroIn K C (.ref D) = some true
  isVE : PySem.W.subIn K (.ref C) (.type "ValueError") = some true
  sup : PySem.W.ks_superIn K C D "__init__" = some (some (.builtin "ValueError.__init__"))

section
variable {X : Cx} {pins : List (Addr × Obj)} {σ : L2.St} {H : Hp} {s : Shared} {x C D u : Addr}
theorem call_mw {rest : List Value} {Q : Value → Shared → Prop} {E : Value → Shared → Prop} (T : OexC X.K C) (I : Inv X pins σ H s) (e : H x = some (exo x C none)) (hu : s.heap.get? u = some (PySem.W.kxs_mw "ValueError.__init__" x)) (hz : rest.length ≤ sizeLine)
    (h : ∀ s2, Inv X pins σ H s2 → Q .none s2) : wpAny (model X.prog X.w) X.A (call (.ref u) rest) Q E s := by
  obtain ⟨nm, q, N, bs, bm, sn, sub, ab, col, dd, k0, k1, k2, k3, k5, hC, hbm⟩ := T.cls
  obtain ⟨t1, ho⟩ := exo_at I.hok e
  have hC' := I.kIn _ _ hC
  obtain ⟨hp, g, d, t, os⟩ := s
  refine wpAny_call (codeAny_of_tree ?_)
  show wpAny _ X.A.in1 (callAny (.ref u) ⟨rest, []⟩) _ _ _
  simp only [callAny]
  refine wpAny_bind (wpAny_load hu ?_)
  have b1 : (Value.type "method-wrapper" == Value.type "method" || Value.type "method-wrapper" == Value.type "builtin_function_or_method" || Value.type "method-wrapper" == Value.type "method-wrapper") = true := by decide
  simp only [PySem.W.kxs_mw, b1, if_true]
  refine PySem.W.KFB.if_so (by decide) ?_
  refine wpAny_bind (PySem.W.check_bound_init F.excBase_ValueError.toExcCallFacts hC' ho rfl ?_)
  refine wpAny_bind (wpAny_pure (wpAny_pure ?_))
  refine ⟨plainId_quiet F.excBase_ValueError.init.plain _, codeAny_builtin F.excBase_ValueError.initEntry ?_⟩
  refine PySem.W.exc_init_tree (cls := .ref C) (t0 := t1) (dv := none) (c2 := .none) (c3 := .none) (b4 := .bool false) ho hz fun h2 k hx _ => ?_
  have J := I.write (t' := t) (x := x) (e := x) (o := exo x C none) (by rw [e]; exact True.intro) (.inl rfl) k ⟨_, hx⟩ (exo_ok hx)
  have eu : upd H x (exo x C none) = H := by
    funext b
    by_cases hb : b = x
    · rw [hb, upd_same, e]
    · rw [upd_ne hb]
  rw [eu] at J
  exact h _ J
/-- x, with pins, tracked as a new thing that nobody else knows -/
theorem inv_pin1 {h1 : Heap} {o : Obj} {t1 : Nat} (I : Inv X pins σ H s) (k : ∀ b v, s.heap.get? b = some v → h1.get? b = some v) (hu : s.heap.objs.size ≤ u) (ho : h1.get? u = some o) (nc : ∀ v, o.data ≠ .cell v) :
    Inv X ((u, o) :: pins) σ H { s with heap := h1, toks := t1 } := by
  have J := I.kept (t' := t1) k
  refine J.pins_of fun p hp => ?_
  rcases List.mem_cons.mp hp with rfl | hp
  · exact ⟨ho, I.hok.fresh hu, fun z => absurd (Nat.lt_of_lt_of_le I.lt (by rw [← z]; exact hu)) (Nat.lt_irrefl _), I.nofs hu, nc⟩
  · exact J.pin p (List.mem_append_right _ hp)
theorem inv_unpin {o : Obj} (I : Inv X ((u, o) :: pins) σ H s) : Inv X pins σ H s := I.pins_of fun p hp => I.pin p (List.mem_append_right _ (List.mem_cons_of_mem _ hp))
end
end Er
end

/-! Er3 -/
section
set_option maxHeartbeats 4000000
set_option exponentiation.threshold 10000
namespace Er
open PySem PySem.Spec PyProof.Rows L2
/-- what stands in the text for a def with the cell __class__ -/
structure SFun (P : Program) (K : PySem.W.Frag) (x qual : Str) (st : Stmt) (f D : Addr) (fd : FuncData) : Prop where
  ex : ∃ (oc : Value) (od : Option Addr) (kV doc pm : Value) (an : Option Addr) (cda : Addr) (ct : Value) (cc : Addr) (osl : Array (Option Value)),
    fd = PySem.W.ksFn x qual (defArgs st) (defBody st) (defScope st) .none kV doc pm an (.ref cda) ct cc ∧ K.lookup f = some ⟨oc, od, .func fd, osl⟩ ∧ PySem.W.codeIn K (.ref cda) qual = true ∧
    (∃ cl cld csl, K.lookup cc = some ⟨cl, cld, .cell (some (.ref D)), csl⟩) ∧ ∃ ccl cdd va ccs file tf, K.lookup cda = some ⟨ccl, cdd, .fields va, ccs⟩ ∧ va[2]? = some (.str file tf) ∧ ((P.main.file : Str) == file) = true
  clsD : ∃ cdD, PySem.W.clsIn K D = some cdD
  noSup : PySem.W.nsIn K mainGlobals "super" = some none
  noTop : (P.main.scope.names.lookup ("super" : Str)).isSome = false
  noThird : PySem.W.nsIn K cStatics "thirdparty.any" = some none

section
variable {P : Program} {w : World} {K : PySem.W.Frag} {mg : Str → Option Value} {base : Heap} {x qual : Str} {st : Stmt} {f D : Addr} {fd : FuncData} {N ps : List Str} {k : Nat} {sp : Sp}
theorem fn_sup (F : SFun P K x qual st f D fd) (S : ScS N ps (defScope st)) (h0 : ps.head? = some ("self" : Str)) (hs1 : (defScope st).names.lookup ("super" : Str) = some .globalImplicit) (hs2 : (defScope st).names.lookup ("__class__" : Str) = some .free)
    {p0 p1 p2 p3 p4 : Pos} {e : Expr} {rest : List Stmt} (hbody : defBody st = .Expr (.Call (.Attribute (.Call (.Name "super" p0) [] [] p1) "__init__" p2) [e] [] p3) p4 :: rest)
    (hpar : ((defArgs st).posonlyargs ++ (defArgs st).args).head?.map (·.arg) = some ("self" : Str)) (len : ∀ vs H Q E, sp vs H Q E → vs.length = ps.length)
    (hc : ∀ env : Env, env.scope = defScope st → eval (.Call (.Attribute (.Call (.Name "super" p0) [] [] p1) "__init__" p2) [e] [] p3) env = (do
      let ov ← attributeBase (.Call (.Name "super" p0) [] [] p1) "__init__" env (eval (.Call (.Name "super" p0) [] [] p1) env)
      standAt p2.atName
      let (g, first) ← holding [ov] (getMethod ov "__init__" (do return (← importBound (.Call (.Name "super" p0) [] [] p1) env).getD true))
      callWith p3 g first (backTo p3 (starEach [e] env)) []))
    (hse : ∀ env : Env, starEach [e] env = (false, eval e env) :: starEach [] env)
    (hb : ∀ (cda cc : Addr) (A : Around) (outer : List Env) (s : Shared) (H : Hp) (vs : List V) (Q : VK) (E : XK), Room k (A.deeper (PySem.W.ksEnv qual (defScope st) s.heap.objs.size f (.ref cda) cc)) → sp vs H Q E →
      ∃ (a C : Addr) (te : TE) (t : TS), vs.head? = some (.ref a) ∧ H a = some (exo a C none) ∧ SupC K C D ∧
        PE (cxS CX0 P w K mg base N qual (defScope st) f (.ref cda) cc A outer s H E).nox e te ∧ PSs (cxS CX0 P w K mg base N qual (defScope st) f (.ref cda) cc A outer s H E).nox rest t ∧
        te (L2.start N vs) H (fun _ H1 => H1 a = some (exo a C none) ∧ t { nx := fun _ H2 => Q .non H2, rt := Q } (L2.start N vs) H1)) :
    FnOk P w K mg base CX0 (k + 1) f fd ps sp := by
  obtain ⟨oc, od, kV, doc, pm, an, cda, ct, cc, osl, rfl, lk, hcd, ⟨cl, cld, csl, hcell⟩, ⟨ccl, cdd, va, ccs, file, tf, hcode, hva, hfile⟩⟩ := F.ex
  obtain ⟨cdD, hD⟩ := F.clsD
  refine ⟨len, fun A outer s H args us vs Q E hr e0 hbi r hsp => ?_⟩
  have hl := len _ _ _ _ hsp
  have KX : K.In s.heap := e0.mod.kin.keeps fun b o e => (e0.bs b o e).1
  have lim : s.heap.NoLimit := e0.mod.nolimit.keeps fun b o e => (e0.bs b o e).1
  obtain ⟨a, C, te, t, hv, ha, SC, he, hrest, hte⟩ := hb cda cc A outer s H vs Q E (hr.deeper _) hsp
  have hloc : ∀ y ∈ ps.zip us, (defScope st).names.lookup y.1 = some .local := fun ⟨n, v⟩ hy => S.par n (List.of_mem_zip hy).1
  refine ks_codeAny_call_defAt (fd := PySem.W.ksFn x qual (defArgs st) (defBody st) (defScope st) .none kV doc pm an (.ref cda) ct cc) (body := defBody st) (binds := ps.zip us) hr.depth (KX _ _ lk) rfl lim (PySem.W.codeRec_of KX hcd) rfl hbi S.nocell hloc (fun h1 hns hk => ?_) S.co S.gen S.kind
  have I : Inv (cxS CX0 P w K mg base N qual (defScope st) f (.ref cda) cc A outer s H E) [] (L2.start N vs) H { s with heap := h1, toks := s.toks + (ps.zip us).length } := inv_s S hcell hr.hd e0 hl r hns hk
  generalize hX : cxS CX0 P w K mg base N qual (defScope st) f (.ref cda) cc A outer s H E = X at I he hrest
  have heq : callEnv (PySem.W.ksFn x qual (defArgs st) (defBody st) (defScope st) .none kV doc pm an (.ref cda) ct cc) s.heap.objs.size f = X.env := by rw [← hX]; rfl
  have hA : A.deeper X.env = X.A := by rw [← hX]; rfl
  have hsc : X.env.scope = defScope st := by rw [← hX]; rfl
  have hxf : X.env.func = some f := by rw [← hX]; rfl
  have hxc : X.env.code = .ref cda := by rw [← hX]; rfl
  have hP : X.prog = P := by rw [← hX]; rfl
  have hw : X.w = w := by rw [← hX]; rfl
  have hK : X.K = K := by rw [← hX]; rfl
  have hxe : X.xe = fun e s' => wpAny (model P w) X.A (leaving X.env e) (fun _ s2 => CX0 outer H s E e s2) (fun e' s2 => CX0 outer H s E e' s2) s' := by rw [← hX]; rfl
  have hb2 : ∀ {u : Flow} {s2 : Shared}, SP X [] { nx := fun _ H2 => Q .non H2, rt := Q } u s2 → CR CX0 outer P w H s Q E (.ok (.ret (match u with | .ret v => v | _ => .none))) s2 := by
    intro u s2 hu
    subst hX
    cases u with
    | ret u =>
      obtain ⟨v, σ2, H2, J, rv, q⟩ := hu
      exact ⟨v, H2, J.os, J.bare, J.base, J.hok, rv, q⟩
    | next =>
      obtain ⟨σ2, H2, J, q⟩ := hu
      exact ⟨.non, H2, J.os, J.bare, J.base, J.hok, rfl, q⟩
    | brk =>
      obtain ⟨_, _, _, q⟩ := hu
      exact False.elim q
    | cont =>
      obtain ⟨_, _, _, q⟩ := hu
      exact False.elim q
  rw [heq, hA]
  show PySem.wpAt (model P w) X.A (.func (defBody st) X.env) (execs (defBody st) X.env) _ _ _
  rw [show execs (defBody st) X.env = execs (.Expr (.Call (.Attribute (.Call (.Name "super" p0) [] [] p1) "__init__" p2) [e] [] p3) p4 :: rest) X.env by rw [hbody]]
  have hint : interactive X.env = false := by
    unfold interactive
    rw [hsc, S.kind]
    rfl
  refine ks_wpAt_execs_cons (ks_wpAt_Expr_any (ks_wpAt_MethodCall ?_ (hc X.env hsc)) hint rfl)
  have hk1 : X.env.kindOf "super" = some .globalImplicit := by rw [← hs1, ← hsc]; rfl
  have hk2 : X.env.kindOf "__class__" = some .free := by rw [← hs2, ← hsc]; rfl
  obtain ⟨ar, har, hself⟩ : ∃ ar, ((defArgs st).posonlyargs ++ (defArgs st).args).head? = some ar ∧ ar.arg = ("self" : Str) := by
    cases z : ((defArgs st).posonlyargs ++ (defArgs st).args).head? with
    | none => rw [z] at hpar; cases hpar
    | some ar =>
      rw [z] at hpar
      exact ⟨ar, rfl, Option.some.inj hpar⟩
  refine ks_wpAt_super_base hk1 hk2 (by decide) hxf (hk _ _ (KX _ _ lk)) rfl har hxc (hk _ _ (KX _ _ hcode)) rfl hva hfile F.noTop ?_
  rw [hself]
  have hmg : X.mg "super" = none := by rw [← hX]; exact PySem.W.mg_none_of e0.mod.kin e0.mod.glob F.noSup
  have hcl : X.env.cells.lookup ("__class__" : Str) = some cc := by
    rw [← hX]
    show [(("__class__" : Str), cc)].lookup ("__class__" : Str) = some cc
    simp [List.lookup]
  have hus : us[0]? = some (.ref a) := by
    cases r with
    | nil => cases hv
    | cons q t =>
      cases hv
      cases (show _ = Value.ref a from q)
      rfl
  have hps : ps[0]? = some ("self" : Str) := by
    cases ps with
    | nil => cases h0
    | cons p t => rw [List.head?_cons] at h0; cases h0; rfl
  have ndP : ps.Nodup := by rw [← S.pre]; exact S.nd.sublist (List.take_sublist _ _)
  have hsl : (ps.zip us).reverse.lookup ("self" : Str) = some (.ref a) := zip_rev_get ndP hps hus
  have hkl : X.env.kindOf "self" = some .local := by
    rw [← S.par "self" (List.mem_of_getElem? hps), ← hsc]
    rfl
  have hnsX : h1.Ns X.env.locals fun x => (ps.zip us).reverse.lookup x := by rw [← hX]; exact hns
  subst hP hw hK
  obtain ⟨mb, b1, b2⟩ := I.mod.blt
  refine PySem.W.ks_loadName_global I.ok.kind hk1 (Calls.loadGlobal_builtin (by rw [I.ok.glob]; exact I.mod.glob.keeps I.bk) hmg (by rw [I.ok.blt]; exact b1.keeps I.bk) ((b2 _ (by decide)).trans (show bootBuiltins "super" = some (.type "super") by decide +kernel)) ⟨rfl, ?_⟩)
  refine wpAny_loadName_free I.ok.kind hk2 hcl ⟨_, hk _ _ (KX _ _ hcell), rfl⟩ ?_
  refine wpAny_loadName_local I.ok.kind hkl hnsX hsl ?_
  obtain ⟨oD, hD1, hD2⟩ : ∃ oD, h1.get? D = some oD ∧ oD.data = .cls cdD := by
    unfold PySem.W.clsIn at hD
    split at hD
    · rename_i c d cd2 sl ho
      cases hD
      exact ⟨_, hk _ _ (KX _ _ ho), rfl⟩
    · cases hD
  refine ks_wpAny_isType_cls hD1 hD2 ⟨rfl, ?_⟩
  obtain ⟨t1, hobj⟩ := exo_at I.hok ha
  have K1 : X.K.In h1 := I.kIn
  refine ks_wpAny_call_super hD1 hD2 hobj rfl (fun c e => nomatch e) (PySem.W.looks_mroIn K1 SC.isD) (fun h2 eso k2 => ?_)
  have K2 : X.K.In h2 := K1.keeps k2
  obtain ⟨cdC, hcC⟩ : ∃ cdC, PySem.W.clsIn X.K C = some cdC := by
    cases z : PySem.W.clsIn X.K C with
    | none =>
      have q := SC.sup
      unfold PySem.W.ks_superIn at q
      rw [z] at q
      cases q
    | some cd => exact ⟨cd, rfl⟩
  have hal : PySem.W.alongIn X.K "__init__" ((cdC.mro.dropWhile (· != .ref D)).drop 1) = some (some (.builtin "ValueError.__init__")) := by
    have q := SC.sup
    unfold PySem.W.ks_superIn at q
    rw [hcC] at q
    exact q
  have naC : a ≠ C := by
    rintro rfl
    unfold PySem.W.clsIn at hcC
    split at hcC
    · rename_i c d cd2 sl ho
      have z := K1 _ _ ho
      rw [hobj] at z
      cases z
    · cases hcC
  have It : PySem.W.InstAt h2 a _ C none := ⟨k2 _ _ hobj, rfl, rfl, trivial⟩
  refine PySem.W.kxs_getMethod PySem.W.kxs_ValueError eso (PySem.W.looks_opaque K2 F.noThird) (l₀ := cdC.mro) (fun A Q E s k q => wpAny_bind ((PySem.W.looks_clsIn K2 hcC) A _ E s k (wpAny_pure q))) rfl K2 hal (It.type.andThen (PySem.W.looks_subIn K2 SC.isVE)) naC (by decide) ?_
  have k3 : ∀ b v, h1.get? b = some v → (h2.push (PySem.W.kxs_mw "ValueError.__init__" a)).get? b = some v := fun b v q => Heap.get?_push_of_some _ (k2 b v q)
  have hu3 : (h2.push (PySem.W.kxs_mw "ValueError.__init__" a)).get? h2.objs.size = some (PySem.W.kxs_mw "ValueError.__init__" a) := Heap.get?_push_at rfl rfl
  have hsz : h1.objs.size ≤ h2.objs.size := Nat.le_of_lt (Nat.lt_of_le_of_lt (Nat.le_refl _) (Heap.lt_size eso))
  have J := inv_pin1 (t1 := s.toks + (ps.zip us).length + 1) I k3 hsz hu3 (fun v z => nomatch z)
  refine PySem.W.kxs_callWith (i := "ValueError.__init__") (x := a) (by rw [hse]; rfl) ?_
  rw [hse]
  have hrun := he.nox.run _ _ _ _ _ J hte
  rw [hxe] at hrun
  show wpAny _ _ (evalArgs _ true ((false, eval e X.env) :: backTo p3 (starEach [] X.env)) []) _ _ _
  refine Calls.evalArgs_plain (Calls.spliced_cons (thn hrun fun v s3 hv3 => ?_))
  obtain ⟨v', H1, I3, rv, ha3, ht3⟩ := hv3
  refine Calls.spliced_nil ⟨(I3.pin _ (List.mem_append_right _ (List.mem_cons_self ..))).1, ?_⟩
  refine call_mw SC.oex I3 ha3 (I3.pin _ (List.mem_append_right _ (List.mem_cons_self ..))).1 (by show [v].length ≤ sizeLine; rw [sizeLine_eq]; exact (by decide : 1 ≤ 16777216)) fun s4 I4 => ?_
  have I5 := inv_unpin I4
  have hrun2 := hrest.nox.run [] s4 _ H1 _ I5 ht3
  rw [hxe] at hrun2
  exact wpAt_of_wpAny (wpAny_mono hrun2 (fun u s5 hu5 => hb2 hu5) fun u s5 hu5 => hu5)
end
end Er
end

/-! Er4 -/
section
set_option maxHeartbeats 4000000
set_option exponentiation.threshold 10000
namespace Er
open PySem PySem.Spec PyProof.Rows L2
/-! C(.., k = v): the keywords go by __new__ and come to the own __init__ -/
section
variable {M : Model} {A : Around} {E : Value → Shared → Prop} {R : Result → Shared → Prop} {hh : Heap} {gg : Array GenState} {dr : Drawn} {tk : Nat} {os : OsState} {prog : Program} {w : World}
variable {nm qn : Str} {C Ns : Addr} {bs bm : List Value} {hdct : Bool} {sn : List Str} {sub : List Value} {ab : Bool} {col : Option Bool} {dd : Option Addr} {k0 k1 k2 k3 k5 : Option Value} {us : List Value} {kw : List (Str × Value)}
abbrev clsO (nm qn : Str) (C Ns : Addr) (bs bm : List Value) (hdct : Bool) (sn : List Str) (sub : List Value) (ab : Bool) (col : Option Bool) (dd : Option Addr) (k0 k1 k2 k3 k5 : Option Value) : Obj :=
  excClassObj nm qn C Ns bs bm hdct sn sub ab col dd k0 k1 k2 k3 k5 "ValueError.__new__"
theorem chk_newK (hm : PySem.HandSPX.refsVE bm = true) {Q : Unit → Shared → Prop} (hC : hh.get? C = some (clsO nm qn C Ns bs bm hdct sn sub ab col dd k0 k1 k2 k3 k5)) (hq : Q () ⟨hh, gg, dr, tk, os⟩) :
    wpAny M A (checkBuiltinCall "ValueError.__new__" ⟨.ref C :: us, kw⟩) Q E ⟨hh, gg, dr, tk, os⟩ := by
  have FF := F.excBase_ValueError
  have hB : (Value.ref C :: bm).contains (.type "ValueError") = true := by
    rw [List.contains_cons, PySem.HandSPX.refsVE_contains _ bm hm, FF.hasB]
    exact Bool.or_true _
  have hs := FF.noStar
  simp only [checkBuiltinCall, FF.newKind, FF.newSplit, FF.newRow]
  repeat (first
    | refine wpAny_loadPart_at hC ?_
    | (refine wpAny_isSubtype_exc hC ?_
       rw [hB])
    | refine wpAny_staticBase_exc hC ?_
    | refine wpAny_madeBy_exc hC ?_
    | simp only [bne_self_eq_false, Bool.false_eq_true, if_false]
    | wp_step)
  exact hq
theorem newK (hm : PySem.HandSPX.refsVE bm = true) (hC : hh.get? C = some (clsO nm qn C Ns bs bm hdct sn sub ab col dd k0 k1 k2 k3 k5)) (hz : us.length ≤ sizeLine)
    (hq : R (.ok (.ret (.ref (hh.objs.size + 1)))) ⟨(hh.push (PySem.W.kdv_tup us)).push (PySem.HandSPX.excO C hh.objs.size), gg, dr, tk, os⟩) :
    codeAny (model prog w) A (.builtin "ValueError.__new__" ⟨.ref C :: us, kw⟩) R ⟨hh, gg, dr, tk, os⟩ := by
  have FF := F.excBase_ValueError
  have he := FF.ends
  have hT := fun X => PySem.HandSPX.refsVE_contains X bm hm
  have c1 : (Value.ref C :: bm).contains (.type "ValueError") = true := by
    rw [List.contains_cons, hT, FF.hasB]
    exact Bool.or_true _
  have c2 : (Value.ref C :: bm).contains (.type "AttributeError") = false := by
    rw [List.contains_cons, hT, FF.noAttr]
    rfl
  have c3 : (Value.ref C :: bm).contains (.type "NameError") = false := by
    rw [List.contains_cons, hT, FF.noName]
    rfl
  refine codeAny_builtinAt FF.entry ?_
  unfold Builtin.«BaseException.__new__»
  refine PySem.wpAt_bind ?_
  show PySem.wpAt _ _ _ (stack >>= _) _ _ _
  refine PySem.wpAt_bind (PySem.wpAt_stack fun _ _ => PySem.wpAt_of_wpAny ?_)
  wp_walk
  refine PySem.wpAt_of_wpAny ?_
  rw [FF.owner]
  repeat (first
    | with_reducible refine wpAny_madeHere_exc FF.canon hC ?_
    | with_reducible refine wpAny_loadPart_at hC ?_
    | (with_reducible refine wpAny_isSubtype_exc hC ?_
       first | rw [c1] | rw [c2] | rw [c3])
    | wp_step)
  show R _ _
  rw [Heap.size_push]
  exact hq
theorem tcallK (hm : PySem.HandSPX.refsVE bm = true) {fI : Addr} {Q : Fin → Shared → Prop} (hC : hh.get? C = some (clsO nm qn C Ns bs bm hdct sn sub ab col dd k0 k1 k2 k3 k5))
    (hi : PySem.W.Looks (model prog w) hh (typeLookup (.ref C) "__init__") (some (.ref fI))) (hb : ∀ me, PySem.W.Looks (model prog w) hh (bindSpecial (.ref fI) me) (.ref fI, [me])) (hz : us.length ≤ sizeLine)
    (hq : codeAny (model prog w) A (.call (.ref fI) ⟨.ref (hh.objs.size + 1) :: us, kw⟩)
      (fun r s2 => match r with | .ok (.ret v) => v = .none ∧ Q (.done (.ret (.ref (hh.objs.size + 1)))) s2 | .ok _ => False | .error e => E e s2)
      ⟨(hh.push (PySem.W.kdv_tup us)).push (PySem.HandSPX.excO C hh.objs.size), gg, dr, tk, os⟩) :
    wpAny (model prog w) A (Builtin.«type.__call__» ⟨.ref C :: us, kw⟩) Q E ⟨hh, gg, dr, tk, os⟩ := by
  repeat (first
    | with_reducible refine wpAny_loadPart_at hC ?_
    | with_reducible refine wpAny_madeBy_exc hC ?_
    | wp_step)
  refine codeAny_call_builtin_code (Code.quiet_builtin _ F.excBase_ValueError.quiet) (chk_newK hm hC ?_)
  refine newK hm hC hz ?_
  show wpAny _ _ _ _ _ _
  have kp : ∀ b o, hh.get? b = some o → ((hh.push (PySem.W.kdv_tup us)).push (PySem.HandSPX.excO C hh.objs.size)).get? b = some o := fun b o q => Heap.get?_push_of_some _ (Heap.get?_push_of_some _ q)
  have hC1 := kp _ _ hC
  have hg : ((hh.push (PySem.W.kdv_tup us)).push (PySem.HandSPX.excO C hh.objs.size)).get? (hh.objs.size + 1) = some (PySem.HandSPX.excO C hh.objs.size) := by heap_get
  have hcC : (Value.ref C :: bm).contains (.ref C) = true := by simp
  have i1 := hi.keeps kp
  have b1 := (hb (.ref (hh.objs.size + 1))).keeps kp
  unfold isInstance
  repeat (first
    | with_reducible refine wpAny_loadPart_at hg ?_
    | (with_reducible refine wpAny_isSubtype_exc hC1 ?_
       rw [hcC])
    | wp_step)
  show wpAny _ _ (typeLookup (.ref C) _) _ _ _
  refine i1.at (wpAny_holding (wpAny_bind (b1.at (wpAny_bind (wpAny_call (codeAny_mono hq fun r s2 z => ?_))))))
  rcases r with e | (v | _ | _ | _) <;> first | exact z | exact z.elim | skip
  obtain ⟨rfl, z⟩ := z
  first
    | exact wpAny_pure (wpAny_pure z)
    | (wp_walk; exact z)
theorem chk_tK {Q : Unit → Shared → Prop} (hC : hh.get? C = some (clsO nm qn C Ns bs bm hdct sn sub ab col dd k0 k1 k2 k3 k5)) (hq : Q () ⟨hh, gg, dr, tk, os⟩) :
    wpAny M A (checkBuiltinCall "type.__call__" ⟨.ref C :: us, kw⟩) Q E ⟨hh, gg, dr, tk, os⟩ := by
  have f3 := PySem.tc_sub
  have hT : (⟨hh, gg, dr, tk, os⟩ : Shared).TypeIs (.ref C) "type" := ⟨_, hC, rfl⟩
  simp only [checkBuiltinCall, PySem.tc_kind, PySem.tc_split]
  repeat (any_goals (first
    | assumption
    | with_reducible refine wpAny_loadPart_at hC ?_
    | with_reducible refine wpAny_onRaise ?_
    | with_reducible refine wpAny_map ?_
    | wp_step))
theorem callK (hm : PySem.HandSPX.refsVE bm = true) {fI : Addr} (hC : hh.get? C = some (clsO nm qn C Ns bs bm hdct sn sub ab col dd k0 k1 k2 k3 k5))
    (hi : PySem.W.Looks (model prog w) hh (typeLookup (.ref C) "__init__") (some (.ref fI))) (hb : ∀ me, PySem.W.Looks (model prog w) hh (bindSpecial (.ref fI) me) (.ref fI, [me])) (hz : us.length ≤ sizeLine)
    (hq : codeAny (model prog w) (A.under (.builtin "type.__call__" ⟨.ref C :: us, kw⟩)) (.call (.ref fI) ⟨.ref (hh.objs.size + 1) :: us, kw⟩) (PySem.W.InitBack (hh.objs.size + 1) R)
      ⟨(hh.push (PySem.W.kdv_tup us)).push (PySem.HandSPX.excO C hh.objs.size), gg, dr, tk, os⟩) :
    codeAny (model prog w) A (.call (.ref C) ⟨us, kw⟩) R ⟨hh, gg, dr, tk, os⟩ := by
  have f1 := PySem.tc_lookup
  have f2 := PySem.tc_bind (.ref C)
  have hTy : (⟨hh, gg, dr, tk, os⟩ : Shared).TypeIs (.ref C) "type" := ⟨_, hC, rfl⟩
  refine codeAny_of_tree ?_
  show wpAny _ _ (callAny (.ref C) _) _ _ _
  repeat (any_goals (first
    | assumption
    | with_reducible refine wpAny_loadPart_at hC ?_
    | wp_step))
  refine ⟨rfl, ?_⟩
  refine codeAny_call_builtin_at (Code.quiet_builtin _ (by decide +kernel)) PySem.entry_typeCall (chk_tK hC (tcallK hm hC hi hb hz ?_))
  exact codeAny_mono hq fun r s2 z => by rcases r with e | (v | _ | _ | _) <;> exact z
end
end Er
end

/-! Er5 -/
section
set_option maxHeartbeats 4000000
set_option exponentiation.threshold 10000
namespace Er
open PySem PySem.Spec PyProof.Rows L2
/-- C(.., k = v, ..): a new error, then its own __init__ -/
def tMkE (C : Addr) (n m : Nat) (sp : Sp) (gV : List V → List V → List V) (t tk : TA) : TE := fun σ H Q => t σ H fun vs H1 => tk σ H1 fun zs H2 => vs.length = n ∧ zs.length = m ∧
  ∀ a, H2 a = none → sp (gV (.ref a :: vs) zs) (upd H2 a (exo a C none)) (fun v H3 => v = .non ∧ Q (.ref a) H3) (fun _ _ _ => False)
structure MkE (K : PySem.W.Frag) (C fI : Addr) : Prop where
  oex : OexC K C
  iC : PySem.W.findIn K (.ref C) "__init__" = some (some (.ref fI))
  tI : PySem.W.typeIn K (.ref fI) = some (.type "function")
section
variable {X : Cx} {k n : Nat} {fI C : Addr} {fd : FuncData} {ps ks : List Str} {sp : Sp} {x : Str} {p pos : Pos} {e : Expr} {es : List Expr} {kws : List Keyword} {t tk : TA} {g : List Value → List Value → List Value} {gV : List V → List V → List V}
theorem run_mkE {pins : List (Addr × Obj)} {σ : L2.St} {H : Hp} {s : Shared} {Q : VK} {us ws : List Value} {vs zs : List V} (M : MkE X.K C fI) (F1 : FnOk X.prog X.w X.K X.mg X.base CX0 k fI fd ps sp) (hr : Room (k + 1) X.A) (hb : KBn X.K fd ps (n + 1) ks g gV)
    (I : Inv X pins σ H s) (r : Vals vs us) (rz : Vals zs ws) (l1 : vs.length = n) (l2 : zs.length = ks.length) (hn1 : n ≤ 1000)
    (h : ∀ a, H a = none → sp (gV (.ref a :: vs) zs) (upd H a (exo a C none)) (fun v H3 => v = .non ∧ Q (.ref a) H3) (fun _ _ _ => False)) :
    wpAny (model X.prog X.w) X.A (call (.ref C) us (ks.zip ws)) (EP X pins σ Q) X.xe s := by
  obtain ⟨nm, q, N, bs, bm, sn, sub, ab, col, dd, k0, k1, k2, k3, k5, hC, hbm⟩ := M.oex.cls
  obtain ⟨hp, gs, dr, tk, os⟩ := s
  have hsz : hp.objs.size ≤ hp.objs.size + 1 := Nat.le_succ _
  have hn : H (hp.objs.size + 1) = none := I.hok.fresh hsz
  have hq := h (hp.objs.size + 1) hn
  have kk : ∀ b o, hp.get? b = some o → ((hp.push (PySem.W.kdv_tup us)).push (PySem.HandSPX.excO C hp.objs.size)).get? b = some o := fun b o e => Heap.get?_push_of_some _ (Heap.get?_push_of_some _ e)
  have hg : ((hp.push (PySem.W.kdv_tup us)).push (PySem.HandSPX.excO C hp.objs.size)).get? (hp.objs.size + 1) = some (PySem.HandSPX.excO C hp.objs.size) := by heap_get
  have I2 : Inv X pins σ (upd H (hp.objs.size + 1) (exo (hp.objs.size + 1) C none)) ⟨(hp.push (PySem.W.kdv_tup us)).push (PySem.HandSPX.excO C hp.objs.size), gs, dr, tk, os⟩ :=
    I.laid (t' := tk) (a := hp.objs.size + 1) (o := exo (hp.objs.size + 1) C none) kk hsz (exo_ok hg)
  have r1 : Vals (V.ref (hp.objs.size + 1) :: vs) (Value.ref (hp.objs.size + 1) :: us) := .cons rfl r
  have r2 := hb.rel r1 rz
  have e1 : (Value.ref (hp.objs.size + 1) :: us).length = n + 1 := r1.length.symm.trans (congrArg Nat.succ l1)
  have e2 : ws.length = ks.length := rz.length.symm.trans l2
  have hus : us.length ≤ sizeLine := by
    rw [← r.length, l1, sizeLine_eq]
    omega
  refine wpAny_call (callK hbm (I.kIn _ _ hC) (PySem.W.looks_findIn I.kIn M.iC) (fun me => PySem.W.bind_fn I.kIn me M.tI) hus
    (codeAny_mono (F1.run _ X.stack _ _ ⟨Value.ref (hp.objs.size + 1) :: us, ks.zip ws⟩ (g (Value.ref (hp.objs.size + 1) :: us) ws) _ _ (fun _ _ _ => False) (hr.make C us (ks.zip ws)) (I2.env0.make C us (ks.zip ws)) (hb.to _ (Value.ref (hp.objs.size + 1) :: us) ws I2.kIn e1 e2) r2 hq) fun r s2 hq2 => ?_))
  cases r with
  | error er => exact False.elim hq2
  | ok fl =>
    cases fl with
    | ret u =>
      obtain ⟨v, H3, I3, rv, ev, q3⟩ := I2.after hq2
      subst ev
      exact ⟨rv, ⟨V.ref (hp.objs.size + 1), H3, I3, rfl, q3⟩⟩
    | next => exact False.elim hq2
    | brk => exact False.elim hq2
    | cont => exact False.elim hq2
theorem pe_mkE (M : MkE X.K C fI) (F1 : FnOk X.prog X.w X.K X.mg X.base CX0 k fI fd ps sp) (hr : Room (k + 1) X.A) (hg : Gl X x) (hm : X.mg x = some (.ref C)) (hb : KBn X.K fd ps (n + 1) [] g gV) (hn1 : n ≤ 1000) (ha : PA X (e :: es) t)
    (hdb : (x == ("__debug__" : Str)) = false := by decide) (he : starEach (e :: es) X.env = (false, eval e X.env) :: starEach es X.env := by rfl) (hpl : (backTo pos (starEach es X.env)).any (·.1) = false := by rfl) :
    PE X (.Call (.Name x p) (e :: es) [] pos) (tMkE C n 0 sp gV t tNil) := by
  refine ⟨fun pins s σ H Q I h => ?_⟩
  refine wpAny_Call_Name_kw (ld_glob I hg hm ?_ hdb)
  refine PySem.W.callWith_K (h₀ := X.base) I.ok.mod.kin M.oex.kC (thn (ha.run pos pins s σ H _ I h) fun us s1 ⟨vs, H1, I1, r1, l1, l2, q1⟩ => ⟨I1.kIn, ?_⟩) he hpl
  exact run_mkE (ks := []) (ws := []) M F1 hr hb I1 r1 .nil l1 rfl hn1 q1
theorem pe_mkE0 (M : MkE X.K C fI) (F1 : FnOk X.prog X.w X.K X.mg X.base CX0 k fI fd ps sp) (hr : Room (k + 1) X.A) (hg : Gl X x) (hm : X.mg x = some (.ref C)) (hb : KBn X.K fd ps 1 [] g gV)
    (hdb : (x == ("__debug__" : Str)) = false := by decide) : PE X (.Call (.Name x p) [] [] pos) (tMkE C 0 0 sp gV tNil tNil) := by
  refine ⟨fun pins s σ H Q I h => ?_⟩
  refine wpAny_Call_Name_kw (ld_glob I hg hm ?_ hdb)
  exact PySem.W.callWith_K0 I.kIn M.oex.kC (run_mkE (us := []) (vs := []) (ks := []) (ws := []) M F1 hr hb I .nil .nil rfl rfl (Nat.zero_le _) h.2.2)
theorem pe_mkEk (M : MkE X.K C fI) (F1 : FnOk X.prog X.w X.K X.mg X.base CX0 k fI fd ps sp) (hr : Room (k + 1) X.A) (hg : Gl X x) (hm : X.mg x = some (.ref C)) (hb : KBn X.K fd ps 1 ks g gV) (hkw : PK X kws tk)
    (hall : (backToKw pos (keywordEach kws X.env)).all (·.1.isSome) = true := by rfl) (hks : (backToKw pos (keywordEach kws X.env)).filterMap (·.1) = ks := by rfl) (hdb : (x == ("__debug__" : Str)) = false := by decide)
    (hpl : ((backTo pos (starEach [] X.env)).any (·.1) || (backToKw pos (keywordEach kws X.env)).any (·.1.isNone)) = false := by rfl) :
    PE X (.Call (.Name x p) [] kws pos) (tMkE C 0 ks.length sp gV tNil tk) := by
  refine ⟨fun pins s σ H Q I h => ?_⟩
  refine wpAny_Call_Name_kw (ld_glob I hg hm ?_ hdb)
  refine PySem.W.callWith_KW0 (h₀ := X.base) I.ok.mod.kin M.oex.kC hall ?_ hpl
  refine thn (hkw.run pos pins s σ H _ I h) fun ws s2 ⟨zs, H2, I2, rz, l1, l2, q2⟩ => ⟨I2.kIn, ?_⟩
  rw [hks]
  exact run_mkE (us := []) (vs := []) M F1 hr hb I2 .nil rz rfl l2 (Nat.zero_le _) q2
end
end Er
end

/-! Er6 -/
section
set_option maxHeartbeats 4000000
set_option exponentiation.threshold 10000
namespace Er
open PySem PySem.Spec PyProof.Rows L2
/-- e.f, e an error that stands in H -/
def tGetE (K : PySem.W.Frag) (f : Str) (te : TE) : TE := fun σ H Q => te σ H fun x H1 => ∃ (a C d : Addr) (fs : List (Str × V)) (v : V), x = .ref a ∧ H1 a = some (exo a C (some d)) ∧ H1 d = some (exd d fs) ∧ fs.lookup f = some v ∧ XfC K C ∧ PySem.W.findIn K (.ref C) f = some none ∧ Q v H1
section
variable {X : Cx} {e : Expr} {te : TE} {pos : Pos} {f : Str}
theorem pe_getE (he : PE X e te) (hb : attributeBase e f X.env (eval e X.env) = eval e X.env := by rfl) : PE X (.Attribute e f pos) (tGetE X.K f te) := by
  refine ⟨fun pins s σ H Q I h => ?_⟩
  refine attr_of hb (thn (he.run pins s σ H _ I h) fun u s1 ⟨x, H1, I1, rx, a, C, d, fs, v, ex, ea, ed, l, T, hno, q⟩ => ?_)
  subst ex
  obtain rfl : u = Value.ref a := rx
  obtain ⟨t0, ho⟩ := exo_at I1.hok ea
  obtain ⟨mA, hns, hr⟩ := exd_at I1.hok ed
  obtain ⟨od, hod, hl⟩ := lookIn_ns hns
  obtain ⟨u, hu, ru⟩ := RelO.some_of (v := v) (o := mA f) (by rw [← l]; exact hr f)
  have J : PySem.W.InstAt s1.heap a _ C (some od) := ⟨ho, rfl, rfl, hod⟩
  exact HandSPX.exc_get I1.kIn J T.ga T.gg T.exC (PySem.W.findObj_own T.hdC hno rfl (by rw [hl, hu])) (handed_of ru) ⟨v, H1, I1.tok _, ru, q⟩
end
end Er
end

/-! Er7 -/
section
set_option maxHeartbeats 4000000
set_option exponentiation.threshold 10000
namespace Er
open PySem PySem.Spec PyProof.Rows L2
/-- isinstance(e, c), e an error that stands in H -/
def rIsX (K : PySem.W.Frag) : List V → Hp → VK → Prop := fun xs H Q => ∃ (a C : Addr) (d : Option Addr) (c : V) (cv : Value) (b : Bool), xs = [.ref a, c] ∧ ClsV c cv ∧ H a = some (exo a C d) ∧ (∀ dx, d = some dx → ∃ fs, H dx = some (exd dx fs)) ∧ ExcC K C ∧ PySem.W.kitOne K (.ref C) cv = some b ∧ Q (.bl b) H
theorem call_isX {X : Cx} : CallR X (.builtin "isinstance") (rIsX X.K) := by
  intro pins s σ H xs us Q I r h
  obtain ⟨a, C, d, c, cv, b, rfl, hcv, ea, hd, T, e, q⟩ := h
  obtain ⟨u1, u2, rfl, r1, r2⟩ := vals2 r
  have e2 := hcv.eq r2
  subst e2
  obtain rfl : u1 = Value.ref a := r1
  obtain ⟨t0, ho⟩ := exo_at I.hok ea
  have hcl : (PySem.W.clsIn X.K C).isSome = true := by
    obtain ⟨cd, hc, _⟩ := PySem.W.any_some T.hd
    rw [hc]
    rfl
  have J : ∃ od, PySem.W.InstAt s.heap a ({ cls := .ref C, dict := d, data := .fields #[.ref t0, .none, .none, .none, .bool false, .none] } : Obj) C od := by
    cases d with
    | none => exact ⟨none, ho, rfl, rfl, trivial⟩
    | some dx =>
      obtain ⟨fs, ed⟩ := hd dx rfl
      obtain ⟨mA, hns, hr⟩ := exd_at I.hok ed
      obtain ⟨od, hod, hl⟩ := lookIn_ns hns
      exact ⟨some od, ho, rfl, rfl, hod⟩
  obtain ⟨od, J⟩ := J
  exact PySem.W.kia_one (PySem.W.kitx_exc hcl T.hg T.hk T.hs T.ha T.hn T.ht T.hm) I.kIn J e (fun z => nomatch z) fun tk => ⟨.bl b, H, I.kept (t' := tk) fun _ _ z => z, rfl, q⟩
end Er
end

/-! Er8 -/
section
set_option maxHeartbeats 4000000
set_option exponentiation.threshold 10000
namespace Er
open PySem PySem.Spec PyProof.Rows L2
/-! ### what a value shows as data -/
def kD : Key → PyData
  | .inl i => .int i
  | .inr x => .str x
mutual
inductive Sh (H : Hp) : V → PyData → Prop
  | non : Sh H .non .none
  | bl (b : Bool) : Sh H (.bl b) (.bool b)
  | int (i : Int) : Sh H (.int i) (.int i)
  | str (x : Str) : Sh H (.str x) (.str x)
  | lst {a : Addr} {xs : List V} {ds : List PyData} (e : H a = some (.lst xs)) (r : Shs H xs ds) : Sh H (.ref a) (.list ds)
  | tup {a : Addr} {xs : List V} {ds : List PyData} (e : H a = some (.tup xs)) (r : Shs H xs ds) : Sh H (.ref a) (.tuple ds)
  | dct {a : Addr} {k : Key} {v : V} {d : PyData} (e : H a = some (.dK [(k, v)])) (r : Sh H v d) : Sh H (.ref a) (.dict [(kD k, d)])
inductive Shs (H : Hp) : List V → List PyData → Prop
  | nil : Shs H [] []
  | cons {v : V} {d : PyData} {vs : List V} {ds : List PyData} (r : Sh H v d) (t : Shs H vs ds) : Shs H (v :: vs) (d :: ds)
end
section
variable {P : Program} {w : World} {H : Hp} {h : Heap}
theorem reads_key {k : Key} {v : Value} (e : keyIs k v = true) : Reads h v (kD k) [] := by
  rcases keyIs_shape e with ⟨i, t, rfl, rfl⟩ | ⟨x, t, rfl, rfl⟩
  · exact .int i t
  · exact .str x t
mutual
theorem Sh.reads (ok : HOk P w H h) (hs : H sysModules = none) : ∀ {v : V} {d : PyData} {u : Value}, Sh H v d → RelV v u → ∃ as, Reads h u d as ∧ sysModules ∉ as
  | _, _, _, .non, r => ⟨[], by cases (show _ = Value.none from r); exact .none, by simp⟩
  | _, _, _, .bl b, r => ⟨[], by cases (show _ = Value.bool b from r); exact .bool b, by simp⟩
  | _, _, _, .int i, r => ⟨[], by obtain ⟨t, e⟩ := (show ∃ t, _ = Value.int i t from r); cases e; exact .int i t, by simp⟩
  | _, _, _, .str x, r => ⟨[], by obtain ⟨t, e⟩ := (show ∃ t, _ = Value.str x t from r); cases e; exact .str x t, by simp⟩
  | _, _, _, .lst (a := a) (xs := xs) e t, r => by
    cases (show _ = Value.ref a from r)
    obtain ⟨_, its, n, rv, ho⟩ := (show ObjOk P w H h a (.lst xs) from ok a _ e)
    obtain ⟨as, ra, na⟩ := Shs.reads ok hs t rv
    refine ⟨a :: as, .list ho rfl rfl ra, fun hm => ?_⟩
    rcases List.mem_cons.mp hm with z | z
    · rw [← z, hs] at e; cases e
    · exact na z
  | _, _, _, .tup (a := a) (xs := xs) e t, r => by
    cases (show _ = Value.ref a from r)
    obtain ⟨_, its, rv, o, ho, hc, n, hd⟩ := (show ObjOk P w H h a (.tup xs) from ok a _ e)
    obtain ⟨as, ra, na⟩ := Shs.reads ok hs t rv
    exact ⟨as, .tuple ho hc hd ra, na⟩
  | _, _, _, .dct (a := a) (k := k) (v := v) (d := d) e t, r => by
    cases (show _ = Value.ref a from r)
    obtain ⟨_, _, vs, kv, o, es, ep, ho, hx, hd, hkeys, hpairs, _⟩ := (show ObjOk P w H h a (.dK [(k, v)]) from ok a _ e)
    cases kv with
    | cons kr kt =>
      cases kt
      rename_i q
      obtain ⟨q1, q2⟩ := q
      obtain ⟨ek, ev⟩ := kr
      have hp : ∃ en, es.toList = [en] ∧ keyIs k en.key = true ∧ RelV v en.val := by
        have gen : ∀ {l : List DictEntry} {m : List (Key × Value)}, Pairs (mixKind P w) l m → ∀ q, m = [q] → k = q.1 → RelV v q.2 → ∃ en, l = [en] ∧ keyIs k en.key = true ∧ RelV v en.val := by
          intro l m hm q e1 e2 e3
          cases hm with
          | nil => cases e1
          | cons p1 p2 p3 =>
            cases e1
            cases p3
            exact ⟨_, rfl, by rw [e2]; exact p1, by rw [p2]; exact e3⟩
        exact gen hpairs _ rfl ek ev
      obtain ⟨en, le, hk, hv⟩ := hp
      obtain ⟨as, ra, na⟩ := Sh.reads ok hs t (u := en.val) hv
      refine ⟨a :: ([] ++ []) ++ (as ++ []), .dict (kvs := [(kD k, d)]) ho hx.1 hd (by rw [le]; exact .cons (reads_key hk) .nil) (by rw [le]; exact .cons ra .nil), fun hm => ?_⟩
      rcases List.mem_cons.mp hm with z | z
      · rw [← z, hs] at e; cases e
      · exact na (by simpa using z)
theorem Shs.reads (ok : HOk P w H h) (hs : H sysModules = none) : ∀ {xs : List V} {ds : List PyData} {us : List Value}, Shs H xs ds → Vals xs us → ∃ as, ReadsAll h us ds as ∧ sysModules ∉ as
  | _, _, _, .nil, .nil => ⟨[], .nil, by simp⟩
  | _, _, _, .cons t ts, .cons r rs => by
    obtain ⟨as, ra, na⟩ := Sh.reads ok hs t r
    obtain ⟨bs, rb, nb⟩ := Shs.reads ok hs ts rs
    exact ⟨as ++ bs, .cons ra rb, fun hm => (List.mem_append.mp hm).elim na nb⟩
end
end
end Er
end

/-! Er9 -/
section
set_option maxHeartbeats 4000000
set_option exponentiation.threshold 10000
namespace Er
open PySem PySem.Spec PyProof.Rows L2
/-- repr(x), x a list or the like that stands in H -/
def rRepr : List V → Hp → VK → Prop := fun xs H Q => ∃ (a : Addr) (d : PyData), xs = [.ref a] ∧ Sh H (.ref a) d ∧ d.showable = true ∧ d.shown.length ≤ sizeLine ∧ d.depth ≤ 20 ∧ Q (.str d.shown) H
section
variable {X : Cx}
theorem call_reprE {k : Nat} (hr : Room k X.A) (hg : X.A.guards = some []) (hm : ∃ o, X.K.lookup sysModules = some o) : CallR X (.builtin "repr") rRepr := by
  intro pins s σ H xs us Q I r h
  obtain ⟨a, d, rfl, sh, hs, hz, hd, q⟩ := h
  obtain ⟨u, rfl, ru⟩ := vals1 r
  obtain rfl : u = Value.ref a := ru
  obtain ⟨o, ho⟩ := hm
  obtain ⟨as, rd, na⟩ := Sh.reads I.hok (I.bs _ _ (I.mod.kin _ _ ho)).2 sh (show RelV (.ref a) (Value.ref a) from rfl)
  refine repr_of_reads' rd hs (fun _ => na) hg (by have := hr.un; omega) (fun _ _ e => e) (fun h2 u2 tk k2 => ?_) hz
  exact ⟨.str d.shown, H, I.kept (t' := tk) k2, ⟨_, rfl⟩, q⟩
end
/-! ### promises that want to know that no repr runs -/
structure FnG (P : Program) (w : World) (K : PySem.W.Frag) (mg : Str → Option Value) (base : Heap) (k : Nat) (f : Addr) (fd : FuncData) (ps : List Str) (sp : Sp) : Prop where
  len : ∀ vs H Q E, sp vs H Q E → vs.length = ps.length
  run : ∀ (A : Around) (outer : List Env) (s : Shared) (H : Hp) (args : Args) (us : List Value) (vs : List V) (Q : VK) (E : XK), Room k A → A.guards = some [] → Env0 P w K mg base A outer s H → BindsTo s fd args (ps.zip us) → Vals vs us → sp vs H Q E →
    codeAny (model P w) A (.call (.ref f) args) (CR CX0 outer P w H s Q E) s
section
variable {P : Program} {w : World} {K : PySem.W.Frag} {mg : Str → Option Value} {base : Heap} {x qual : Str} {st : Stmt} {f : Addr} {fd : FuncData} {N ps : List Str} {k : Nat} {sp : Sp}
theorem Fun_okG (F : Fun K x qual st f fd) (S : FnScope N ps (defScope st)) (len : ∀ vs H Q E, sp vs H Q E → vs.length = ps.length)
    (hbody : ∀ (cdv : Value) (A : Around) (outer : List Env) (s : Shared) (H : Hp) (vs : List V) (Q : VK) (E : XK), Room k (A.deeper (envOfC qual (defScope st) s.heap.objs.size f cdv)) → A.guards = some [] → sp vs H Q E →
      ∃ t, PSs (cxOf CX0 P w K mg base N qual (defScope st) f cdv A outer s H E).nox (defBody st) t ∧ t { nx := fun _ H2 => Q .non H2, rt := Q } (L2.start N vs) H) : FnG P w K mg base (k + 1) f fd ps sp := by
  refine ⟨len, fun A outer s H args us vs Q E hr hg e0 hb r hsp => ?_⟩
  obtain ⟨oc, od, kV, doc, pm, an, cdv, ct, osl, rfl, lk, hcd⟩ := F.ex
  have kp := fun b o e => (e0.bs b o e).1
  have KX : K.In s.heap := e0.mod.kin.keeps kp
  have lim : s.heap.NoLimit := e0.mod.nolimit.keeps kp
  have hl := len _ _ _ _ hsp
  refine codeAny_call_function hr.depth (KX _ _ lk) rfl S.co S.gen rfl (PySem.W.codeRec_of KX hcd) (hb _ _ _ _ ?_)
  refine wpAny_newFunctionEnv_cells S.kind (fun ⟨n, v⟩ hy => (S.par n (List.of_mem_zip hy).1).imp id fun q => ⟨q, PySem.W.cellsFrom_some _ _ _ (.inl q)⟩) fun env he s1 y => ?_
  subst he
  refine ⟨lim.keeps y.toInCall.keep, codeAny_func ?_⟩
  obtain ⟨t, ht, hq⟩ := hbody cdv A outer s H vs Q E (hr.deeper _) hg hsp
  have I := inv_start (CX := CX0) (E := E) (qual := qual) (f := f) (cd := cdv) S hr.hd e0 hl r y
  refine wpAny_mono (ht.nox.run [] s1 (L2.start N vs) H _ I hq) (fun fl s2 hs => ?_) fun e s2 hs => hs
  cases fl with
  | ret u =>
    obtain ⟨v, _, H2, J, rv, q⟩ := hs
    exact ⟨v, H2, J.os, J.bare, J.base, J.hok, rv, q⟩
  | next =>
    obtain ⟨_, H2, J, q⟩ := hs
    exact ⟨.non, H2, J.os, J.bare, J.base, J.hok, rfl, q⟩
  | brk => exact hs.elim fun _ z => z.elim fun _ z => False.elim z.2
  | cont => exact hs.elim fun _ z => z.elim fun _ z => False.elim z.2
end
section
variable {X : Cx} {k : Nat} {f : Addr} {fd : FuncData} {ps : List Str} {sp : Sp} {x : Str} {p pos : Pos} {e : Expr} {es : List Expr} {t : TA}
theorem pe_callG (F : FnG X.prog X.w X.K X.mg X.base k f fd ps sp) (hr : Room k X.A) (hgd : X.A.guards = some []) (hg : Gl X x) (hm : X.mg x = some (.ref f)) (hk : PySem.W.keepIn X.K (.ref f) = true) (hb : Binds X.K fd ps [])
    (ha : PA X (e :: es) t) (hdb : (x == ("__debug__" : Str)) = false := by decide) (he : starEach (e :: es) X.env = (false, eval e X.env) :: starEach es X.env := by rfl) (hpl : (backTo pos (starEach es X.env)).any (·.1) = false := by rfl) :
    PE X (.Call (.Name x p) (e :: es) [] pos) (fun σ H Q => t σ H fun vs H1 => sp vs H1 Q fun _ _ _ => False) := by
  refine ⟨fun pins s σ H Q I h => wpAny_Call_Name_kw (ld_glob I hg hm ?_ hdb)⟩
  refine PySem.W.callWith_K (h₀ := X.base) I.ok.mod.kin hk (thn (ha.run pos pins s σ H _ I h) fun us s1 ⟨vs, H1, I1, r, q⟩ => ⟨I1.kIn, ?_⟩) he hpl
  have hl : us.length = ps.length := by
    rw [← r.length]
    exact F.len _ _ _ _ q
  have hb2 := hb s1 us I1.kIn (by rw [List.append_nil]; exact hl)
  rw [List.append_nil] at hb2
  refine wpAny_call (codeAny_mono (F.run X.A X.stack s1 H1 ⟨us, []⟩ us vs Q _ hr hgd I1.env0 hb2 r q) fun r s2 hq => ?_)
  cases r with
  | error e => exact False.elim hq
  | ok fl =>
    cases fl with
    | ret u => exact I1.after hq
    | next => exact False.elim hq
    | brk => exact False.elim hq
    | cont => exact False.elim hq
end
end Er
end

/-! Er10 -/
section
set_option maxHeartbeats 4000000
set_option exponentiation.threshold 10000
namespace Er
open PySem PySem.Spec PyProof.Rows L2
section
variable {X : Cx}
theorem abs_of_bool {prog : Program} {w : World} {A : Around} {E : Value → Shared → Prop} {s : Shared} {b : Bool} {Q : Value → Shared → Prop} (h : ∀ u tk, Q (.int (if b then 1 else 0) u) { s with toks := tk }) :
    wpAny (model prog w) A (call (.builtin "abs") [.bool b]) Q E s := by
  refine Calls.call_function_entry kind_abs plain_abs entry_abs (args_abs _) ?_
  unfold Builtin.«abs»
  refine wpAny_bind (m := oneArg "abs" _) (wpAny_pure ?_)
  refine wpAny_bind (m := callSpecial? (.bool b) (Str.ofString "__abs__")) (wpAny_callSpecial?_slot (name := Str.ofString "__abs__") (PySem.typeIs_bool s b) F.slot_bool_abs ?_)
  refine wpAny_call_entry F.slot_bool_abs (PySem.typeIs_bool s b) entry_int_abs ?_ (args_int_abs _)
  cases b
  · wp_walk
    exact ⟨_, rfl, wpAny_pure ⟨_, rfl, h _ _⟩⟩
  · wp_walk
    exact ⟨_, rfl, wpAny_pure ⟨_, rfl, h _ _⟩⟩
theorem call_absB : CallR X (.builtin "abs") (fun xs H Q => ∃ b : Bool, xs = [.bl b] ∧ Q (.int (if b then 1 else 0)) H) := by
  intro pins s σ H xs us Q I r h
  obtain ⟨b, rfl, q⟩ := h
  obtain ⟨u, rfl, ru⟩ := vals1 r
  cases (show u = Value.bool b from ru)
  exact abs_of_bool fun u tk => ⟨.int (if b then 1 else 0), H, I.tok _, ⟨_, rfl⟩, q⟩
theorem call_strB : CallR X (.type "str") (fun xs H Q => ∃ b : Bool, xs = [.bl b] ∧ Q (.str (if b then "True" else "False")) H) := by
  intro pins s σ H xs us Q I r h
  obtain ⟨b, rfl, q⟩ := h
  obtain ⟨u, rfl, ru⟩ := vals1 r
  cases (show u = Value.bool b from ru)
  exact PySem.P.str_of_bool ⟨.str (if b then "True" else "False"), H, I.tok _, ⟨_, rfl⟩, q⟩
end
end Er
end

/-! Er11 -/
section
set_option maxHeartbeats 4000000
set_option exponentiation.threshold 10000
namespace Er
open PySem PySem.Spec PyProof.Rows L2
section
variable {X : Cx}
theorem call_absV : CallR X (.builtin "abs") (fun xs H Q => (∃ i : Int, xs = [.int i] ∧ Q (.int (if i < 0 then -i else i)) H) ∨ ∃ b : Bool, xs = [.bl b] ∧ Q (.int (if b then 1 else 0)) H) := by
  intro pins s σ H xs us Q I r h
  rcases h with h | h
  · exact call_abs pins s σ H xs us Q I r h
  · exact call_absB pins s σ H xs us Q I r h
theorem call_strV : CallR X (.type "str") (fun xs H Q => (∃ i : Int, xs = [.int i] ∧ i.natAbs.log2 < 1920 ∧ Q (.str (toString i)) H) ∨ ∃ b : Bool, xs = [.bl b] ∧ Q (.str (if b then "True" else "False")) H) := by
  intro pins s σ H xs us Q I r h
  rcases h with h | h
  · exact call_str_int pins s σ H xs us Q I r h
  · exact call_strB pins s σ H xs us Q I r h
end
/-! ### the values that the law passes -/
inductive Va (H : Hp) : V → PyData → Prop
  | non : Va H .non .none
  | bl (b : Bool) : Va H (.bl b) (.bool b)
  | int (n : Int) (h : n.natAbs < 10 ^ 50) : Va H (.int n) (.int n)
  | str (x : Str) (h : x.length ≤ 10) (h2 : (reprText x).length ≤ 100) : Va H (.str x) (.str x)
  | lst {a : Addr} {n : Int} (e : H a = some (.lst [.int n])) (h : n.natAbs < 10 ^ 50) : Va H (.ref a) (.list [.int n])
  | tup {a : Addr} (e : H a = some (.tup [.int 1, .str "one.a"])) : Va H (.ref a) (.tuple [.int 1, .str "one.a"])
  | dct {a b : Addr} (e : H a = some (.dK [(.inr "one.b", .ref b)])) (e2 : H b = some (.lst [.int 1])) : Va H (.ref a) (.dict [(.str "one.b", .list [.int 1])])
theorem Va.mono {H H2 : Hp} {v : V} {d : PyData} (s : Same H H2) (x : Va H v d) : Va H2 v d := by
  cases x with
  | non => exact .non
  | bl b => exact .bl b
  | int n h => exact .int n h
  | str x h h2 => exact .str x h h2
  | lst e h => exact .lst (s _ _ e) h
  | tup e => exact .tup (s _ _ e)
  | dct e e2 => exact .dct (s _ _ e) (s _ _ e2)
theorem Va.sh {H : Hp} {v : V} {d : PyData} (x : Va H v d) : Sh H v d := by
  cases x with
  | non => exact .non
  | bl b => exact .bl b
  | int n h => exact .int n
  | str x h h2 => exact .str x
  | lst e h => exact .lst e (.cons (.int _) .nil)
  | tup e => exact .tup e (.cons (.int 1) (.cons (.str _) .nil))
  | dct e e2 => exact .dct (k := .inr "one.b") e (.lst e2 (.cons (.int 1) .nil))
def spShown : Sp := fun vs H Q _ => ∃ (v : V) (d : PyData), vs = [v] ∧ Va H v d ∧ ∀ z : Str, z.length ≤ 1000 → Q (.str z) H
structure TxtB (mg : Str → Option Value) : Prop where
  isi : mg "isinstance" = none
  str : mg "str" = none
  int : mg "int" = none
  abs : mg "abs" = none
end Er
end

/-! Er12 -/
section
set_option maxHeartbeats 4000000
set_option exponentiation.threshold 10000
/-! What the head tells of the text's errors and defs. -/
namespace Er
open PySem PySem.Spec PyProof.Rows L2 He
/-- the own __init__ of the error class x, with the cell __class__ -/
structure DefS where
  cls : Str
  params : Arguments
  body : List Stmt
  scope : Scope
def DefS.qual (d : DefS) : Str := d.cls ++ ".__init__"
abbrev FnS : Type := Option (Str × Str × Arguments × FuncBody × Scope × Addr × List Str × Addr)
def iAd (K : PySem.W.Frag) (x : Str) : Addr := ma K (ga K x) "__init__"
def fnS (K : PySem.W.Frag) (x : Str) : FnS := match K.lookup (iAd K x) with
  | some ⟨_, _, .func fd, _⟩ => some (fd.name, fd.qualname, fd.params, fd.body, fd.scope, fd.globals, fd.closure.map (·.1), fd.builtins)
  | _ => none
def DefS.val (d : DefS) : FnS := some ("__init__", d.qual, d.params, .stmts d.body, d.scope, mainGlobals, ["__class__"], builtinsNs)
def celB (K : PySem.W.Frag) (cc D : Addr) : Bool := match K.lookup cc with
  | some ⟨_, _, .cell (some (.ref E)), _⟩ => E == D
  | _ => false
def filB (K : PySem.W.Frag) (c : Addr) (file : Str) : Bool := match K.lookup c with
  | some ⟨_, _, .fields va, _⟩ => (match (va[2]? : Option Value) with
    | some (.str f _) => file == f
    | _ => false)
  | _ => false
def supB (K : PySem.W.Frag) (file : Str) (d : DefS) : Bool := match K.lookup (iAd K d.cls) with
  | some ⟨_, _, .func fd, _⟩ => (match fd.defaults, fd.code, fd.closure with
    | .none, .ref cda, [(_, cc)] => PySem.W.codeIn K (.ref cda) d.qual && (celB K cc (ga K d.cls) && filB K cda file)
    | _, _, _ => false)
  | _ => false
theorem celB_ok {K : PySem.W.Frag} {cc D : Addr} (h : celB K cc D = true) : ∃ cl cld csl, K.lookup cc = some ⟨cl, cld, .cell (some (.ref D)), csl⟩ := by
  unfold celB at h
  split at h
  · rename_i e
    have z := beq_iff_eq.mp h
    subst z
    exact ⟨_, _, _, e⟩
  · cases h
theorem filB_ok {K : PySem.W.Frag} {c : Addr} {file : Str} (h : filB K c file = true) : ∃ ccl cdd va ccs f tf, K.lookup c = some ⟨ccl, cdd, .fields va, ccs⟩ ∧ va[2]? = some (.str f tf) ∧ (file == f) = true := by
  unfold filB at h
  split at h
  · rename_i va _ e
    split at h
    · rename_i e2
      exact ⟨_, _, va, _, _, _, e, e2, h⟩
    · cases h
  · cases h
/-- facts of the text that every such def shares -/
structure Shared0 (P : Program) (K : PySem.W.Frag) : Prop where
  noSup : PySem.W.nsIn K mainGlobals "super" = some none
  noTop : (P.main.scope.names.lookup ("super" : Str)).isSome = false
  noThird : PySem.W.nsIn K cStatics "thirdparty.any" = some none
theorem sfun_of {P : Program} {K : PySem.W.Frag} {d : DefS} {st : Stmt} (e : fnS K d.cls = d.val) (h : supB K P.main.file d = true) (hc : ∃ cd, PySem.W.clsIn K (ga K d.cls) = some cd) (S : Shared0 P K)
    (e1 : defArgs st = d.params) (e2 : defBody st = d.body) (e3 : defScope st = d.scope) : ∃ fd, SFun P K "__init__" d.qual st (iAd K d.cls) (ga K d.cls) fd := by
  unfold fnS at e
  unfold supB at h
  cases q : K.lookup (iAd K d.cls) with
  | none =>
    rw [q] at e
    cases e
  | some o =>
    obtain ⟨oc, od, dt, osl⟩ := o
    rw [q] at e h
    cases dt with
    | func fd =>
      obtain ⟨n1, n2, n3, n4, n5, n6, n7, n8, n9, n10, n11, n12, n13, n14, n15⟩ := fd
      have e4 : (some (n1, n2, n3, n4, n5, n6, n7.map (·.1), n15) : FnS) = some (("__init__" : Str), d.qual, d.params, FuncBody.stmts d.body, d.scope, mainGlobals, [("__class__" : Str)], builtinsNs) := e
      simp only [Option.some.injEq, Prod.mk.injEq] at e4
      obtain ⟨h1, h2, h3, h4, h5, h6, h7, h8⟩ := e4
      subst h1 h2 h3 h4 h5 h6 h8
      dsimp only at h
      split at h
      · rename_i cda y cc
        obtain ⟨k1, k2⟩ := ba h
        obtain ⟨k3, k4⟩ := ba k2
        have h9 : [y] = [("__class__" : Str)] := h7
        injection h9 with h10
        subst h10
        refine ⟨_, ⟨⟨oc, od, n9, n10, n11, n12, cda, n14, cc, osl, rfl, ?_, k1, celB_ok k3, filB_ok k4⟩, hc, S.noSup, S.noTop, S.noThird⟩⟩
        rw [e1, e2, e3]
        exact q
      · cases h
    | _ => cases e
end Er
end

/-! Er13 -/
section
set_option maxHeartbeats 4000000
set_option exponentiation.threshold 10000
namespace Er
open PySem PySem.Spec PyProof.Rows L2 He
def oexB (K : PySem.W.Frag) (C : Addr) : Bool := match K.lookup C with
  | some ⟨.type t, _, .cls cd, sl⟩ => (match cd.mro, sl.toList with
    | .ref E :: bm, [_, _, _, _, some (.builtin n), _] => t == "type" && (E == C && (n == "ValueError.__new__" && (!cd.hasDel && (cd.hasDict && PySem.HandSPX.refsVE bm))))
    | _, _ => false)
  | _ => false
theorem oexB_ok {K : PySem.W.Frag} {C : Addr} (h : oexB K C = true) :
    ∃ nm q N bs bm sn sub ab col dd k0 k1 k2 k3 k5, K.lookup C = some (excClassObj nm q C N bs bm true sn sub ab col dd k0 k1 k2 k3 k5 "ValueError.__new__") ∧ PySem.HandSPX.refsVE bm = true := by
  unfold oexB at h
  cases e : K.lookup C with
  | none => rw [e] at h; cases h
  | some o =>
    obtain ⟨oc, od, dt, sl⟩ := o
    rw [e] at h
    cases oc with
    | type t =>
      cases dt with
      | cls cd =>
        obtain ⟨c1, c2, c3, c4, c5, c6, c7, c8, c9, c10, c11⟩ := cd
        dsimp only at h
        split at h
        · rename_i E bm k0 k1 k2 k3 n k5 z
          obtain ⟨h0, h⟩ := ba h
          obtain ⟨h1, h⟩ := ba h
          obtain ⟨h2, h⟩ := ba h
          obtain ⟨h3, h⟩ := ba h
          obtain ⟨h4, h5⟩ := ba h
          have z0 := beq_iff_eq.mp h0
          have z1 := beq_iff_eq.mp h1
          have z2 := beq_iff_eq.mp h2
          have z3 : c11 = false := by simpa using h3
          subst z0 z1 z2 z3 h4
          have z4 : sl = #[k0, k1, k2, k3, some (Value.builtin "ValueError.__new__"), k5] := by
            rw [← Array.toArray_toList (xs := sl), z]
          subst z4
          exact ⟨_, _, _, _, _, _, _, _, _, _, _, _, _, _, _, rfl, h5⟩
        · cases h
      | _ => cases h
    | _ => cases dt <;> cases h
/-- all that is asked of an error's class -/
def errB (K : PySem.W.Frag) (C : Addr) : Bool := oexB K C && (eqO (PySem.W.findIn K (.ref C) "__setattr__") (some (some (.builtin "object.__setattr__"))) && (decide (PySem.W.subIn K (.ref C) (.type "BaseException") = some true) &&
  (decide (PySem.W.typeIn K (.ref C) = some (.type "type")) && (PySem.W.keepIn K (.ref C) && (eqO (PySem.W.findIn K (.ref C) "__getattribute__") (some (some (.builtin "BaseException.__getattribute__"))) &&
  (eqO (PySem.W.findIn K (.ref C) "__getattr__") (some none) && (PySem.W.hasDictIn K C && (eqO (PySem.W.findIn K (.ref C) "__class__") (some (some (.builtin "object.__class__"))) &&
  (decide (PySem.W.mroIn K C (.type "object") = some true) && decide (PySem.W.subIn K (.ref C) (.type "ValueError") = some true))))))))))
def gloB (K : PySem.W.Frag) : Bool := decide (PySem.W.specialIn K (.builtin "object.__class__") "__get__" = some (some (.builtin "getset_descriptor.__get__"))) && (decide (PySem.W.takesIn K (.builtin "object.__class__") = some true) &&
  (eqO (PySem.W.nsIn K mainGlobals "super") (some none) && (eqO (PySem.W.nsIn K cStatics "thirdparty.any") (some none) && (K.lookup sysModules).isSome)))
structure ErrC (K : PySem.W.Frag) (C : Addr) : Prop where
  oex : OexC K C
  xf : XfC K C
  ec : ExcC K C
  ve : PySem.W.subIn K (.ref C) (.type "ValueError") = some true
theorem errB_ok {K : PySem.W.Frag} {C : Addr} (g : gloB K = true) (h : errB K C = true) : ErrC K C := by
  obtain ⟨g1, g⟩ := ba g
  obtain ⟨g2, _⟩ := ba g
  obtain ⟨h1, h⟩ := ba h
  obtain ⟨h2, h⟩ := ba h
  obtain ⟨h3, h⟩ := ba h
  obtain ⟨h4, h⟩ := ba h
  obtain ⟨h5, h⟩ := ba h
  obtain ⟨h6, h⟩ := ba h
  obtain ⟨h7, h⟩ := ba h
  obtain ⟨h8, h⟩ := ba h
  obtain ⟨h9, h⟩ := ba h
  obtain ⟨h10, h11⟩ := ba h
  have a3 := of_decide_eq_true h3
  exact ⟨⟨oexB_ok h1, eqO_ok h2, a3, of_decide_eq_true h4, h5⟩, ⟨eqO_ok h6, eqO_ok h7, a3, h8⟩, ⟨eqO_ok h6, eqO_ok h7, a3, h8, eqO_ok h9, of_decide_eq_true g1, of_decide_eq_true g2, of_decide_eq_true h10⟩, of_decide_eq_true h11⟩
theorem ErrC.cls {K : PySem.W.Frag} {C : Addr} (T : ErrC K C) : ∃ cd, PySem.W.clsIn K C = some cd := by
  obtain ⟨cd, hc, _⟩ := PySem.W.any_some T.ec.hd
  exact ⟨cd, hc⟩
/-- the own __init__ of x, and what super() of the class at D finds -/
def iniB (K : PySem.W.Frag) (x : Str) : Bool := eqO (PySem.W.findIn K (.ref (ga K x)) "__init__") (some (some (.ref (iAd K x)))) && decide (PySem.W.typeIn K (.ref (iAd K x)) = some (.type "function"))
theorem iniB_ok {K : PySem.W.Frag} {x : Str} (T : ErrC K (ga K x)) (h : iniB K x = true) : MkE K (ga K x) (iAd K x) := by
  obtain ⟨h1, h2⟩ := ba h
  exact ⟨T.oex, eqO_ok h1, of_decide_eq_true h2⟩
def supIB (K : PySem.W.Frag) (C D : Addr) : Bool := decide (PySem.W.mroIn K C (.ref D) = some true) && decide (PySem.W.ks_superIn K C D "__init__" = some (some (.builtin "ValueError.__init__")))
theorem supIB_ok {K : PySem.W.Frag} {C D : Addr} (T : ErrC K C) (h : supIB K C D = true) : SupC K C D := by
  obtain ⟨h1, h2⟩ := ba h
  exact ⟨T.oex, of_decide_eq_true h1, T.ve, of_decide_eq_true h2⟩
end Er
end

/-! Er14 -/
section
set_option maxHeartbeats 4000000
set_option exponentiation.threshold 10000
namespace Er
open PySem PySem.Spec PyProof.Rows L2 He
/-! ### the Hook -/
/-! the addresses that are looked at: what the module's names hold, the classes' names, what these hold, code and cells of the defs -/
def valsF (g : Addr → Option Obj) (a : Addr) : List Addr := match g a with
  | some ⟨_, _, .dict es _, _⟩ => es.toList.flatMap fun e => refV e.val
  | _ => []
def nsF (g : Addr → Option Obj) (a : Addr) : List Addr := match g a with
  | some ⟨_, _, .cls cd, _⟩ => [cd.ns]
  | _ => []
def fnF (g : Addr → Option Obj) (a : Addr) : List Addr := match g a with
  | some ⟨_, _, .func fd, _⟩ => refV fd.code ++ fd.closure.map (·.2)
  | _ => []
def asF3 (g : Addr → Option Obj) (m ns fs : List Addr) : List Addr := m ++ (ns ++ (mainGlobals :: sysModules :: cStatics :: (fs ++ ((m ++ fs).flatMap (fnF g)))))
def asF2 (g : Addr → Option Obj) (m ns : List Addr) : List Addr := asF3 g m ns (ns.flatMap (valsF g))
def asF1 (g : Addr → Option Obj) (m : List Addr) : List Addr := asF2 g m (m.flatMap (nsF g))
def frE (g : Addr → Option Obj) (n : Nat) : PySem.W.Frag := frG g (asF1 g (valsF g mainGlobals))
abbrev AlE : Type := AlD × List FnS × Bool
def obsK (fa : List Fa) (fn : List DefD) (fs : List DefS) (ex : PySem.W.Frag → Bool) (K : PySem.W.Frag) : AlE := (obsD fa fn K, fs.map (fun d => fnS K d.cls), ex K)
def valE (fn : List DefD) (fs : List DefS) : AlE := (valD fn, fs.map DefS.val, true)
def obsE (n : Nat) (fa : List Fa) (fn : List DefD) (fs : List DefS) (ex : PySem.W.Frag → Bool) (g : Addr → Option Obj) : AlE := obsK fa fn fs ex (frE g n)
structure SaysE (fa : List Fa) (fn : List DefD) (fs : List DefS) (ex : PySem.W.Frag → Bool) (K : PySem.W.Frag) : Prop where
  d : SaysD fa fn K
  s : ∀ d ∈ fs, fnS K d.cls = d.val
  x : ex K = true
theorem map_eq_of {α β : Type} {f g : α → β} : ∀ {l : List α}, l.map f = l.map g → ∀ a ∈ l, f a = g a
  | [], _, _, h => by cases h
  | b :: r, e, a, h => by
    rw [List.map_cons, List.map_cons] at e
    injection e with e1 e2
    rcases List.mem_cons.mp h with z | z
    · rw [z]; exact e1
    · exact map_eq_of e2 a z
theorem saysE_of {fa : List Fa} {fn : List DefD} {fs : List DefS} {ex : PySem.W.Frag → Bool} {K : PySem.W.Frag} (e : obsK fa fn fs ex K = valE fn fs) : SaysE fa fn fs ex K :=
  ⟨congrArg (fun z : AlE => z.1) e, map_eq_of (congrArg (fun z : AlE => z.2.1) e), congrArg (fun z : AlE => z.2.2) e⟩
def hookE (n : Nat) (fa : List Fa) (fn : List DefD) (fs : List DefS) (ex : PySem.W.Frag → Bool) : PySem.W.Hook where
  α := AlE
  obs := fun s => obsE n fa fn fs ex s.heap.get?
  val := fun _ => valE fn fs
  says := fun _ h => ∃ K : PySem.W.Frag, K.In h ∧ SaysE fa fn fs ex K
  of := fun _ _ e => ⟨_, frG_in, saysE_of e⟩
  keeps := fun _ _ _ ⟨K, hK, c⟩ k => ⟨K, PySem.W.Frag.In.keeps hK k, c⟩
theorem obsE_eq {n : Nat} {fa : List Fa} {fn : List DefD} {fs : List DefS} {ex : PySem.W.Frag → Bool} {g : Addr → Option Obj} {s : Shared} (h : ∀ a, g a = s.heap.get? a) : obsE n fa fn fs ex g = (hookE n fa fn fs ex).obs s := by
  have e : g = s.heap.get? := funext h
  rw [e] <;> rfl
end Er
end

/-! Eh -/
section
set_option maxHeartbeats 4000000
set_option exponentiation.threshold 10000
/-! The head's Hook once more, over classes with properties and static methods: their records' defs are looked at, too. -/
namespace Er
open PySem PySem.Spec PyProof.Rows L2 He
def recF (g : Addr → Option Obj) (a : Addr) : List Addr := match g a with
  | some ⟨_, _, .fields vs, _⟩ => vs.toList.flatMap refV
  | _ => []
def fnH (g : Addr → Option Obj) (a : Addr) : List Addr := match g a with
  | some ⟨_, _, .func fd, _⟩ => refV fd.code ++ (refV fd.defaults ++ fd.closure.map (·.2))
  | _ => []
def asH3 (g : Addr → Option Obj) (m ns fs rs : List Addr) : List Addr := m ++ (ns ++ (mainGlobals :: sysModules :: cStatics :: (fs ++ (rs ++ ((m ++ (fs ++ rs)).flatMap (fnH g))))))
def asH2 (g : Addr → Option Obj) (m ns fs : List Addr) : List Addr := asH3 g m ns fs (fs.flatMap (recF g))
def asH1 (g : Addr → Option Obj) (m ns : List Addr) : List Addr := asH2 g m ns (ns.flatMap (valsF g))
def asH (g : Addr → Option Obj) (m : List Addr) : List Addr := asH1 g m (m.flatMap (nsF g))
def frH (g : Addr → Option Obj) : PySem.W.Frag := frG g (asH g (valsF g mainGlobals))
/-! ### properties and static methods -/
def gP (K : PySem.W.Frag) (C : Addr) (m : Str) : Addr := match K.lookup (ma K C m) with
  | some ⟨_, _, .fields vs, _⟩ => (match vs.toList with
    | .ref a :: _ => a
    | _ => 0)
  | _ => 0
structure DefP where
  cls : Str
  name : Str
  kind : String
  params : Arguments
  body : List Stmt
  scope : Scope
def DefP.qual (d : DefP) : Str := d.cls ++ "." ++ d.name
def DefP.at_ (d : DefP) (K : PySem.W.Frag) : Addr := gP K (ga K d.cls) d.name
def fnP (K : PySem.W.Frag) (d : DefP) : FnW := match K.lookup (d.at_ K) with
  | some ⟨_, _, .func fd, _⟩ => some (fd.name, fd.qualname, fd.params, fd.body, fd.scope, fd.globals, fd.closure, fd.builtins)
  | _ => none
def DefP.val (d : DefP) : FnW := some (d.name, d.qual, d.params, .stmts d.body, d.scope, mainGlobals, [], builtinsNs)
def nonB : Value → Bool
  | .none => true
  | _ => false
def DefP.ok (K : PySem.W.Frag) (d : DefP) : Bool := PySem.W.keepIn K (.ref (d.at_ K)) && ((match K.lookup (d.at_ K) with
  | some ⟨_, _, .func fd, _⟩ => PySem.W.codeIn K fd.code d.qual && nonB fd.defaults
  | _ => false) && (match PySem.W.recIn K (ma K (ga K d.cls) d.name) d.kind with
  | some (.ref a :: _) => a == d.at_ K
  | _ => false))
abbrev AlH : Type := AlE × List FnW
def obsH (fa : List Fa) (fn : List DefD) (fs : List DefS) (fp : List DefP) (ex : PySem.W.Frag → Bool) (g : Addr → Option Obj) : AlH := (obsK fa fn fs ex (frH g), fp.map (fnP (frH g)))
def hookH (fa : List Fa) (fn : List DefD) (fs : List DefS) (fp : List DefP) (ex : PySem.W.Frag → Bool) : PySem.W.Hook where
  α := AlH
  obs := fun s => obsH fa fn fs fp ex s.heap.get?
  val := fun _ => (valE fn fs, fp.map DefP.val)
  says := fun _ h => ∃ K : PySem.W.Frag, K.In h ∧ SaysE fa fn fs ex K ∧ ∀ d ∈ fp, fnP K d = d.val
  of := fun _ _ e => ⟨_, frG_in, saysE_of (congrArg (fun z : AlH => z.1) e), map_eq_of (congrArg (fun z : AlH => z.2) e)⟩
  keeps := fun _ _ _ ⟨K, hK, c⟩ k => ⟨K, PySem.W.Frag.In.keeps hK k, c⟩
theorem obsH_eq {fa : List Fa} {fn : List DefD} {fs : List DefS} {fp : List DefP} {ex : PySem.W.Frag → Bool} {g : Addr → Option Obj} {s : Shared} (h : ∀ a, g a = s.heap.get? a) : obsH fa fn fs fp ex g = (hookH fa fn fs fp ex).obs s := by
  have e : g = s.heap.get? := funext h
  rw [e] <;> rfl
end Er
end

/-! Kw0 -/
section
set_option maxHeartbeats 0
set_option exponentiation.threshold 10000
namespace Kw
open PySem PySem.Spec PyProof.Rows L2 He Er
def top (i : Nat) : Stmt := PySem.Challenge.pw_alleyes_k01_names_labels_integers_and_ra.main.body.getD i (.Pass ⟨0, 0, 0, 0⟩)
abbrev sisuinteger : Stmt := top 2
def disuinteger : DefD := ⟨("is_integer", none), "is_integer", "is_integer", defArgs sisuinteger, defBody sisuinteger, defScope sisuinteger, [], []⟩
abbrev sisuwithin : Stmt := top 3
def disuwithin : DefD := ⟨("is_within", none), "is_within", "is_within", defArgs sisuwithin, defBody sisuwithin, defScope sisuwithin, [], []⟩
abbrev sisuname : Stmt := top 4
def disuname : DefD := ⟨("is_name", none), "is_name", "is_name", defArgs sisuname, defBody sisuname, defScope sisuname, [], []⟩
abbrev sisulabel : Stmt := top 5
def disulabel : DefD := ⟨("is_label", none), "is_label", "is_label", defArgs sisulabel, defBody sisulabel, defScope sisulabel, [], []⟩
abbrev sisulist : Stmt := top 6
def disulist : DefD := ⟨("is_list", none), "is_list", "is_list", defArgs sisulist, defBody sisulist, defScope sisulist, [], []⟩
abbrev sushown : Stmt := top 8
def dushown : DefD := ⟨("_shown", none), "_shown", "_shown", defArgs sushown, defBody sushown, defScope sushown, [], []⟩
abbrev iBadRatiouuinituu : Stmt := inClass (top 10) 0
def eBadRatiouuinituu : DefS := ⟨"BadRatio", defArgs iBadRatiouuinituu, defBody iBadRatiouuinituu, defScope iBadRatiouuinituu⟩
abbrev iBadTextuuinituu : Stmt := inClass (top 11) 0
def eBadTextuuinituu : DefS := ⟨"BadText", defArgs iBadTextuuinituu, defBody iBadTextuuinituu, defScope iBadTextuuinituu⟩
abbrev swordsuof : Stmt := top 13
def dwordsuof : DefD := ⟨("words_of", none), "words_of", "words_of", defArgs swordsuof, defBody swordsuof, defScope swordsuof, [], []⟩
abbrev sworduat : Stmt := top 14
def dworduat : DefD := ⟨("word_at", none), "word_at", "word_at", defArgs sworduat, defBody sworduat, defScope sworduat, [], []⟩
abbrev senduat : Stmt := top 15
def denduat : DefD := ⟨("end_at", none), "end_at", "end_at", defArgs senduat, defBody senduat, defScope senduat, [], []⟩
abbrev iRatiouuinituu : Stmt := inClass (top 20) 0
def dRatiouuinituu : DefD := ⟨("Ratio", some "__init__"), "__init__", "Ratio.__init__", defArgs iRatiouuinituu, defBody iRatiouuinituu, defScope iRatiouuinituu, [.int 1], []⟩
abbrev iRatiosign : Stmt := inClass (top 20) 1
def pRatiosign : DefP := ⟨"Ratio", "sign", "property", defArgs iRatiosign, defBody iRatiosign, defScope iRatiosign⟩
abbrev iRatioisuwhole : Stmt := inClass (top 20) 2
def pRatioisuwhole : DefP := ⟨"Ratio", "is_whole", "property", defArgs iRatioisuwhole, defBody iRatioisuwhole, defScope iRatioisuwhole⟩
abbrev iRatiouuadduu : Stmt := inClass (top 20) 3
def dRatiouuadduu : DefD := ⟨("Ratio", some "__add__"), "__add__", "Ratio.__add__", defArgs iRatiouuadduu, defBody iRatiouuadduu, defScope iRatiouuadduu, [], []⟩
abbrev iRatiouusubuu : Stmt := inClass (top 20) 4
def dRatiouusubuu : DefD := ⟨("Ratio", some "__sub__"), "__sub__", "Ratio.__sub__", defArgs iRatiouusubuu, defBody iRatiouusubuu, defScope iRatiouusubuu, [], []⟩
abbrev iRatiouumuluu : Stmt := inClass (top 20) 5
def dRatiouumuluu : DefD := ⟨("Ratio", some "__mul__"), "__mul__", "Ratio.__mul__", defArgs iRatiouumuluu, defBody iRatiouumuluu, defScope iRatiouumuluu, [], []⟩
abbrev iRatioover : Stmt := inClass (top 20) 6
def dRatioover : DefD := ⟨("Ratio", some "over"), "over", "Ratio.over", defArgs iRatioover, defBody iRatioover, defScope iRatioover, [], []⟩
abbrev iRatiocompared : Stmt := inClass (top 20) 7
def dRatiocompared : DefD := ⟨("Ratio", some "compared"), "compared", "Ratio.compared", defArgs iRatiocompared, defBody iRatiocompared, defScope iRatiocompared, [], []⟩
abbrev iRatioisubelow : Stmt := inClass (top 20) 8
def dRatioisubelow : DefD := ⟨("Ratio", some "is_below"), "is_below", "Ratio.is_below", defArgs iRatioisubelow, defBody iRatioisubelow, defScope iRatioisubelow, [], []⟩
abbrev iRatiouuneguu : Stmt := inClass (top 20) 9
def dRatiouuneguu : DefD := ⟨("Ratio", some "__neg__"), "__neg__", "Ratio.__neg__", defArgs iRatiouuneguu, defBody iRatiouuneguu, defScope iRatiouuneguu, [], []⟩
abbrev iRatiouuabsuu : Stmt := inClass (top 20) 10
def dRatiouuabsuu : DefD := ⟨("Ratio", some "__abs__"), "__abs__", "Ratio.__abs__", defArgs iRatiouuabsuu, defBody iRatiouuabsuu, defScope iRatiouuabsuu, [], []⟩
abbrev iRatiouubooluu : Stmt := inClass (top 20) 11
def dRatiouubooluu : DefD := ⟨("Ratio", some "__bool__"), "__bool__", "Ratio.__bool__", defArgs iRatiouubooluu, defBody iRatiouubooluu, defScope iRatiouubooluu, [], []⟩
abbrev iRatiouuequu : Stmt := inClass (top 20) 12
def dRatiouuequu : DefD := ⟨("Ratio", some "__eq__"), "__eq__", "Ratio.__eq__", defArgs iRatiouuequu, defBody iRatiouuequu, defScope iRatiouuequu, [], []⟩
abbrev iRatiouustruu : Stmt := inClass (top 20) 13
def dRatiouustruu : DefD := ⟨("Ratio", some "__str__"), "__str__", "Ratio.__str__", defArgs iRatiouustruu, defBody iRatiouustruu, defScope iRatiouustruu, [], []⟩
abbrev iRatiouurepruu : Stmt := inClass (top 20) 14
def dRatiouurepruu : DefD := ⟨("Ratio", some "__repr__"), "__repr__", "Ratio.__repr__", defArgs iRatiouurepruu, defBody iRatiouurepruu, defScope iRatiouurepruu, [], []⟩
abbrev iRatioread : Stmt := inClass (top 20) 15
def pRatioread : DefP := ⟨"Ratio", "read", "staticmethod", defArgs iRatioread, defBody iRatioread, defScope iRatioread⟩
abbrev iRatioof : Stmt := inClass (top 20) 16
def pRatioof : DefP := ⟨"Ratio", "of", "staticmethod", defArgs iRatioof, defBody iRatioof, defScope iRatioof⟩
abbrev sisuratio : Stmt := top 21
def disuratio : DefD := ⟨("is_ratio", none), "is_ratio", "is_ratio", defArgs sisuratio, defBody sisuratio, defScope sisuratio, [], []⟩
abbrev sadded : Stmt := top 22
def dadded : DefD := ⟨("added", none), "added", "added", defArgs sadded, defBody sadded, defScope sadded, [], []⟩
abbrev sleastuof : Stmt := top 23
def dleastuof : DefD := ⟨("least_of", none), "least_of", "least_of", defArgs sleastuof, defBody sleastuof, defScope sleastuof, [], []⟩
abbrev sgreatestuof : Stmt := top 24
def dgreatestuof : DefD := ⟨("greatest_of", none), "greatest_of", "greatest_of", defArgs sgreatestuof, defBody sgreatestuof, defScope sgreatestuof, [], []⟩
abbrev sareuratios : Stmt := top 25
def dareuratios : DefD := ⟨("are_ratios", none), "are_ratios", "are_ratios", defArgs sareuratios, defBody sareuratios, defScope sareuratios, [], []⟩
abbrev sratiouat : Stmt := top 26
def dratiouat : DefD := ⟨("ratio_at", none), "ratio_at", "ratio_at", defArgs sratiouat, defBody sratiouat, defScope sratiouat, [], []⟩
abbrev suextreme : Stmt := top 27
def duextreme : DefD := ⟨("_extreme", none), "_extreme", "_extreme", defArgs suextreme, defBody suextreme, defScope suextreme, [], []⟩
abbrev suaturight : Stmt := top 28
def duaturight : DefD := ⟨("_at_right", none), "_at_right", "_at_right", defArgs suaturight, defBody suaturight, defScope suaturight, [], []⟩
abbrev susignuof : Stmt := top 29
def dusignuof : DefD := ⟨("_sign_of", none), "_sign_of", "_sign_of", defArgs susignuof, defBody susignuof, defScope susignuof, [], []⟩
abbrev sudigits : Stmt := top 30
def dudigits : DefD := ⟨("_digits", none), "_digits", "_digits", defArgs sudigits, defBody sudigits, defScope sudigits, [], []⟩
abbrev suwritten : Stmt := top 31
def duwritten : DefD := ⟨("_written", none), "_written", "_written", defArgs suwritten, defBody suwritten, defScope suwritten, [], []⟩
abbrev suisucount : Stmt := top 32
def duisucount : DefD := ⟨("_is_count", none), "_is_count", "_is_count", defArgs suisucount, defBody suisucount, defScope suisucount, [], []⟩
abbrev sLchurn : Stmt := top 34
def dLchurn : DefD := ⟨("_law_churn", none), "_law_churn", "_law_churn", defArgs sLchurn, defBody sLchurn, defScope sLchurn, [], []⟩
abbrev sLskim : Stmt := top 35
def dLskim : DefD := ⟨("_law_skim", none), "_law_skim", "_law_skim", defArgs sLskim, defBody sLskim, defScope sLskim, [], []⟩
abbrev sLtext : Stmt := top 36
def dLtext : DefD := ⟨("_law_text", none), "_law_text", "_law_text", defArgs sLtext, defBody sLtext, defScope sLtext, [], []⟩
abbrev sLisuname : Stmt := top 37
def dLisuname : DefD := ⟨("_law_is_name", none), "_law_is_name", "_law_is_name", defArgs sLisuname, defBody sLisuname, defScope sLisuname, [], []⟩
abbrev sLisulabel : Stmt := top 38
def dLisulabel : DefD := ⟨("_law_is_label", none), "_law_is_label", "_law_is_label", defArgs sLisulabel, defBody sLisulabel, defScope sLisulabel, [], []⟩
abbrev sLlabelsuright : Stmt := top 39
def dLlabelsuright : DefD := ⟨("_law_labels_right", none), "_law_labels_right", "_law_labels_right", defArgs sLlabelsuright, defBody sLlabelsuright, defScope sLlabelsuright, [], []⟩
abbrev sLchecksuright : Stmt := top 40
def dLchecksuright : DefD := ⟨("_law_checks_right", none), "_law_checks_right", "_law_checks_right", defArgs sLchecksuright, defBody sLchecksuright, defScope sLchecksuright, [], []⟩
abbrev sLpair : Stmt := top 41
def dLpair : DefD := ⟨("_law_pair", none), "_law_pair", "_law_pair", defArgs sLpair, defBody sLpair, defScope sLpair, [], []⟩
abbrev sLdivisor : Stmt := top 42
def dLdivisor : DefD := ⟨("_law_divisor", none), "_law_divisor", "_law_divisor", defArgs sLdivisor, defBody sLdivisor, defScope sLdivisor, [], []⟩
abbrev sLdue : Stmt := top 43
def dLdue : DefD := ⟨("_law_due", none), "_law_due", "_law_due", defArgs sLdue, defBody sLdue, defScope sLdue, [], []⟩
abbrev sLis : Stmt := top 44
def dLis : DefD := ⟨("_law_is", none), "_law_is", "_law_is", defArgs sLis, defBody sLis, defScope sLis, [], []⟩
abbrev sLtextsuright : Stmt := top 45
def dLtextsuright : DefD := ⟨("_law_texts_right", none), "_law_texts_right", "_law_texts_right", defArgs sLtextsuright, defBody sLtextsuright, defScope sLtextsuright, [], []⟩
abbrev sLsumsuright : Stmt := top 46
def dLsumsuright : DefD := ⟨("_law_sums_right", none), "_law_sums_right", "_law_sums_right", defArgs sLsumsuright, defBody sLsumsuright, defScope sLsumsuright, [], []⟩
abbrev sLendsuright : Stmt := top 47
def dLendsuright : DefD := ⟨("_law_ends_right", none), "_law_ends_right", "_law_ends_right", defArgs sLendsuright, defBody sLendsuright, defScope sLendsuright, [], []⟩
abbrev sLnearuright : Stmt := top 48
def dLnearuright : DefD := ⟨("_law_near_right", none), "_law_near_right", "_law_near_right", defArgs sLnearuright, defBody sLnearuright, defScope sLnearuright, [], []⟩
abbrev sLrefused : Stmt := top 49
def dLrefused : DefD := ⟨("_law_refused", none), "_law_refused", "_law_refused", defArgs sLrefused, defBody sLrefused, defScope sLrefused, [], []⟩
abbrev sLerrorsuright : Stmt := top 50
def dLerrorsuright : DefD := ⟨("_law_errors_right", none), "_law_errors_right", "_law_errors_right", defArgs sLerrorsuright, defBody sLerrorsuright, defScope sLerrorsuright, [], []⟩
abbrev slaw : Stmt := top 51
def dlaw : DefD := ⟨("law", none), "law", "law", defArgs slaw, defBody slaw, defScope slaw, [], []⟩
def fn : List DefD := ([disuinteger, disuwithin, disuname, disulabel, disulist, dushown, dwordsuof, dworduat, denduat, dRatiouuinituu] : List DefD) ++ ([dRatiouuadduu, dRatiouusubuu, dRatiouumuluu, dRatioover, dRatiocompared, dRatioisubelow, dRatiouuneguu, dRatiouuabsuu, dRatiouubooluu, dRatiouuequu] : List DefD) ++ ([dRatiouustruu, dRatiouurepruu, disuratio, dadded, dleastuof, dgreatestuof, dareuratios, dratiouat, duextreme, duaturight] : List DefD) ++ ([dusignuof, dudigits, duwritten, duisucount, dLchurn, dLskim, dLtext, dLisuname, dLisulabel, dLlabelsuright] : List DefD) ++ ([dLchecksuright, dLpair, dLdivisor, dLdue, dLis, dLtextsuright, dLsumsuright, dLendsuright, dLnearuright, dLrefused] : List DefD) ++ ([dLerrorsuright, dlaw] : List DefD)
def fp : List DefP := ([pRatiosign, pRatioisuwhole, pRatioread, pRatioof] : List DefP)
def fs : List DefS := ([eBadRatiouuinituu, eBadTextuuinituu] : List DefS)
def fa : List Fa := ([.glo "is_integer", .glo "is_within", .glo "is_name", .glo "is_label", .glo "is_list", .glo "_shown", .glo "EyesError", .glo "BadRatio", .glo "BadText", .glo "words_of"] : List Fa) ++ ([.glo "word_at", .glo "end_at", .glo "Ratio", .glo "is_ratio", .glo "added", .glo "least_of", .glo "greatest_of", .glo "are_ratios", .glo "ratio_at", .glo "_extreme"] : List Fa) ++ ([.glo "_at_right", .glo "_sign_of", .glo "_digits", .glo "_written", .glo "_is_count", .glo "_law_churn", .glo "_law_skim", .glo "_law_text", .glo "_law_is_name", .glo "_law_is_label"] : List Fa) ++ ([.glo "_law_labels_right", .glo "_law_checks_right", .glo "_law_pair", .glo "_law_divisor", .glo "_law_due", .glo "_law_is", .glo "_law_texts_right", .glo "_law_sums_right", .glo "_law_ends_right", .glo "_law_near_right"] : List Fa) ++ ([.glo "_law_refused", .glo "_law_errors_right", .glo "law", .free "ValueError", .free "abs", .free "all", .free "bool", .free "divmod", .free "enumerate", .free "int"] : List Fa) ++ ([.free "isinstance", .free "len", .free "list", .free "property", .free "range", .free "repr", .free "staticmethod", .free "str", .free "super", .free "tuple"] : List Fa) ++ ([.int "PIECE" 64, .int "MOST_DIGITS" 60, .int "PIECE_BOUND" (10 ^ 64), .cls "Ratio", .mkr "Ratio", .noat "Ratio" "top", .noat "Ratio" "bottom", .meth "Ratio" "__add__", .meth "Ratio" "__sub__", .meth "Ratio" "__mul__"] : List Fa) ++ ([.meth "Ratio" "over", .meth "Ratio" "compared", .meth "Ratio" "is_below", .meth "Ratio" "__neg__", .meth "Ratio" "__abs__", .meth "Ratio" "__bool__", .meth "Ratio" "__eq__", .meth "Ratio" "__str__", .meth "Ratio" "__repr__"] : List Fa)
abbrev P : Program := PySem.Challenge.pw_alleyes_k01_names_labels_integers_and_ra
def kindB (K : PySem.W.Frag) (d : DefP) : Bool := match d.kind with
  | "property" => eqO (PySem.W.findIn K (.ref (ga K d.cls)) d.name) (some (some (.ref (ma K (ga K d.cls) d.name)))) && (eqO (PySem.W.specialIn K (.ref (ma K (ga K d.cls) d.name)) "__get__") (some (some (.builtin "property.__get__"))) && decide (PySem.W.takesIn K (.ref (ma K (ga K d.cls) d.name)) = some true))
  | _ => (match PySem.W.findCls K (.ref (ga K d.cls)) (.type "type") d.name with
    | some (.get (.builtin n) (.ref p) .none (.ref C)) => n == "staticmethod.__get__" && (p == ma K (ga K d.cls) d.name && C == ga K d.cls)
    | _ => false)
def isiN : List String := ["int", "bool", "str", "NoneType", "list", "tuple", "dict"]
def dunN : List String := ["add", "sub", "mul"]
def opT (K : PySem.W.Frag) (C : Addr) (T : String) : Bool := decide (PySem.W.subIn K (.type T) (.ref C) = some false) && dunN.all fun n => eqO (PySem.W.findIn K (.ref C) (dunderR n)) (some none) && ((PySem.W.findIn K (.type T) (PySem.dunder n)).isSome && (PySem.W.findIn K (.type T) (dunderR n)).isSome)
def opB (K : PySem.W.Frag) (C : Addr) : Bool := PySem.W.selfFirst K C && (PySem.W.readsIn K C (.type "type") && (eqO (PySem.W.specialIn K (.ref C) "__getattribute__") (some (some (.builtin "type.__getattribute__"))) && (eqO (PySem.W.findIn K (.ref C) "__ne__") (some (some (.builtin "object.__ne__"))) &&
  (decide (PySem.W.mroIn K C (.type "object") = some true) && isiN.all (opT K C)))))
def isiB (K : PySem.W.Frag) (C : Addr) : Bool := eqO (PySem.W.findIn K (.ref C) "__class__") (some (some (.builtin "object.__class__"))) && ((isiN.all fun n => decide (PySem.W.kitOne K (.type n) (.ref C) = some false) && (PySem.W.notFirst K C (.type n) && decide (PySem.W.kitOne K (.ref C) (.type n) = some false))) && (decide (PySem.W.kitOne K (.ref C) (.ref C) = some true) && (PySem.W.notFirst K C (.ref C) && (eqO (PySem.W.findIn K (.ref (ga K "BadRatio")) "part") (some none) && (eqO (PySem.W.findIn K (.type "int") "__eq__") (some (some (.builtin "int.__eq__"))) && decide (PySem.W.subIn K (.ref C) (.type "int") = some false))))))
def exB (K : PySem.W.Frag) : Bool := gloB K && ((["BadRatio", "BadText"] : List Str).all (fun x => errB K (ga K x)) && (fs.all (fun d => iniB K d.cls && (supB K P.main.file d && supIB K (ga K d.cls) (ga K d.cls))) && (fp.all (fun d => d.ok K && kindB K d) && (eqO (PySem.W.nsIn K mainGlobals "gcd") (some (some (.builtin "math.gcd"))) && (opB K (ga K "Ratio") && isiB K (ga K "Ratio"))))))
def tbB (K : PySem.W.Frag) : Bool := match PySem.W.tabIn K "_law_errors_right" with
  | some (_, P) => (K.lookup P).isNone
  | none => false
def exA (K : PySem.W.Frag) : Bool := exB K && tbB K
def ls0 : List PySem.Str := ["__name__", "is_integer", "is_within", "is_name", "is_label", "is_list", "_shown", "EyesError", "BadRatio", "BadText"]
def ls1 : List PySem.Str := ["words_of", "word_at", "end_at", "PIECE", "PIECE_BOUND", "MOST_DIGITS", "Ratio", "is_ratio", "added", "least_of"]
def ls2 : List PySem.Str := ["greatest_of", "are_ratios", "ratio_at", "_extreme", "_at_right", "_sign_of", "_digits", "_written", "_is_count", "_law_churn"]
def ls3 : List PySem.Str := ["_law_skim", "_law_text", "_law_is_name", "_law_is_label", "_law_labels_right", "_law_checks_right", "_law_pair", "_law_divisor", "_law_due", "_law_is"]
def ls4 : List PySem.Str := ["_law_texts_right", "_law_sums_right", "_law_ends_right", "_law_near_right", "_law_refused", "_law_errors_right"]
def loose : List PySem.Str := ls0 ++ ls1 ++ ls2 ++ ls3 ++ ls4
abbrev R : PySem.W.OpenRow := PySem.W.OpenLaw.row PySem.Challenge.rw_alleyes_k01_names_labels_integers_and_ra
abbrev hk : PySem.W.Hook := hookH fa fn fs fp exA
def ob (s : PySem.W.SharedT) : AlH := obsH fa fn fs fp exA (HandSHeadRun.getT s)
theorem ob_eq (s : PySem.W.SharedT) : ob s = hk.obs s.abs := obsH_eq (HandSHeadRun.getT_eq s)
end Kw
end

/-! Kw1 -/
section
set_option maxHeartbeats 0
set_option exponentiation.threshold 10000
namespace Kw
open PySem PySem.Spec PyProof.Rows L2 He Er
theorem run (w : World) : HandSHeadRun.RunEqI R (PySem.W.view R.prog [0, 50, 51]) hk ob 12000 loose w := by
  unfold HandSHeadRun.RunEqI
  kernel_rfl
end Kw
end

/-! Er15 -/
section
set_option maxHeartbeats 4000000
set_option exponentiation.threshold 10000
namespace Er
open PySem PySem.Spec PyProof.Rows L2 He
/-! ### the law's own call, where no repr runs -/
def Ended (s0 : Shared) (r : Result) (s2 : Shared) : Prop := r = .ok (.ret (.bool true)) ∧ OldK s0.heap s2.heap ∧ s2.os = s0.os ∧ AllBare s2.gens
section
variable {P : Program} {w : World} {K : PySem.W.Frag} {mg mb : Str → Option Value} {k : Nat} {fA a : Addr} {fd : FuncData} {x : Str} {sp : Sp} {s0 : Shared} {vs : List Value} {ns : List Int}
theorem law_from (KX : K.In s0.heap) (hns : s0.heap.Ns mainGlobals mg) (hbn : s0.heap.Ns builtinsNs mb) (hbb : ∀ y : Str, y ≠ "__name__" → mb y = bootBuiltins y) (hlim : s0.heap.NoLimit) (hgen : s0.gens = #[])
    (ha : s0.heap.get? a = some { cls := .type "list", data := .seq vs.toArray }) (hr : Room k callerA)
    (F : ∀ base : Heap, K.In base → base.Ns mainGlobals mg → FnG P w K mg base k fA fd [x] sp) (hbind : ∀ (s : Shared) (u : Value), BindsTo s fd ⟨[u], []⟩ [(x, u)])
    {H : Hp} (hO : Only H) (hok : HOk P w H s0.heap) (hA : ∀ b, H b ≠ none → b = a) (hK : H a ≠ none → K.lookup a = none) (hsp : sp [.ref a] H (fun v _ => v = .bl true) fun _ _ _ => False) :
    codeAny (model P w) callerA (.call (.ref fA) ⟨[.ref a], []⟩) (Ended s0) s0 := by
  have only : ∀ {b : Addr} {u : HO}, H b = some u → b = a := fun {b u} q => hA b (by rw [q]; exact fun z => nomatch z)
  have dk : ∀ {b : Addr} {o : Obj} {es : Array DictEntry} {ep : Nat}, s0.heap.get? b = some o → o.data = .dict es ep → H b = none := by
    intro b o es ep e hd
    cases q : H b with
    | none => rfl
    | some u =>
      rw [only q, ha] at e
      cases e
      cases hd
  have nsH : ∀ {b : Addr} {m : Str → Option Value}, s0.heap.Ns b m → (hidT s0.heap H).Ns b m := by
    intro b m ⟨o, es, ep, e, hd, rr⟩
    exact ⟨o, es, ep, hidT_get e (dk e hd), hd, rr⟩
  have KH : K.In (hidT s0.heap H) := by
    intro b o e
    refine hidT_get (KX b o e) ?_
    cases q : H b with
    | none => rfl
    | some u =>
      have eb := only q
      rw [eb] at q e
      rw [hK (by rw [q]; exact fun z => nomatch z)] at e
      cases e
  have limH : (hidT s0.heap H).NoLimit := by
    obtain ⟨mc, l1, l2⟩ := hlim
    exact ⟨mc, nsH l1, l2⟩
  have M : Mod K mg (hidT s0.heap H) := ⟨KH, nsH hns, ⟨mb, nsH hbn, hbb⟩, limH⟩
  have e0 : Env0 P w K mg (hidT s0.heap H) callerA [] s0 H := ⟨rfl, M, fun b o e => of_hidT e, Nat.le_of_eq (hidT_size _ _), trivial, fun b hb => (nomatch hb), hok, .of_eq hgen⟩
  refine codeAny_mono ((F _ KH (nsH hns)).run callerA [] s0 H ⟨[.ref a], []⟩ [.ref a] [.ref a] _ _ hr rfl e0 (hbind s0 (.ref a)) (.cons rfl .nil) hsp) fun r s2 h => ?_
  cases r with
  | error e => exact False.elim h
  | ok fl =>
    cases fl with
    | ret u =>
      obtain ⟨v, H2, hos, bare, un, hok2, rv, q⟩ := h
      have q2 : v = .bl true := q
      subst q2
      cases (show u = Value.bool true from rv)
      refine ⟨rfl, OldK.of_keep fun b o e => ?_, hos, bare⟩
      cases q3 : H b with
      | none => exact un.keep b o e q3 (fun z => nomatch z) (fun z => nomatch z)
      | some u =>
        rcases hO b with z | ⟨ob, ys, z⟩
        · rw [q3] at z
          cases z
        · obtain ⟨g1, _⟩ := hok b _ z
          obtain ⟨g2, _⟩ := hok2 b _ (un.frzs b ob _ z)
          rw [e] at g1
          cases g1
          exact g2
    | next => exact False.elim h
    | brk => exact False.elim h
    | cont => exact False.elim h
theorem law_callG (KX : K.In s0.heap) (hns : s0.heap.Ns mainGlobals mg) (hbn : s0.heap.Ns builtinsNs mb) (hbb : ∀ y : Str, y ≠ "__name__" → mb y = bootBuiltins y) (hlim : s0.heap.NoLimit) (hgen : s0.gens = #[])
    (ha : s0.heap.get? a = some { cls := .type "list", data := .seq vs.toArray }) (hi : IntsAre vs ns) (hl : ns.length ≤ sizeLine) (hr : Room k callerA)
    (F : ∀ base : Heap, K.In base → base.Ns mainGlobals mg → FnG P w K mg base k fA fd [x] sp) (hbind : ∀ (s : Shared) (u : Value), BindsTo s fd ⟨[u], []⟩ [(x, u)])
    (hsp : ∀ H : Hp, Only H → SqL K H a (ns.map V.int) → sp [.ref a] H (fun v _ => v = .bl true) fun _ _ _ => False) : codeAny (model P w) callerA (.call (.ref fA) ⟨[.ref a], []⟩) (Ended s0) s0 := by
  have rv := vals_ints hi
  have go := fun {H : Hp} hO hok hA hK hS => law_from (P := P) (w := w) (K := K) (H := H) (sp := sp) KX hns hbn hbb hlim hgen ha hr F hbind hO hok hA hK (hsp H hO hS)
  cases hk : K.lookup a with
  | some o =>
    have e := KX a o hk
    rw [ha] at e
    cases e
    refine go (H := fun _ => none) (fun _ => .inl rfl) (fun b u z => nomatch (show (none : Option HO) = some u from z)) (fun b z => absurd rfl z) (fun z => absurd rfl z) ?_
    exact .inr ⟨_, vs.toArray, _, hk, rfl, rfl, rfl, by rw [List.size_toArray, hi.length]; exact hl, by simpa using rv⟩
  | none =>
    refine go (H := fun b => if b = a then some (.frz { cls := .type "list", data := .seq vs.toArray } (.lst (ns.map V.int))) else none) (fun b => ?_) (fun b u z => ?_) (fun b z => ?_) (fun _ => hk) (.inl (.inr ⟨{ cls := .type "list", data := .seq vs.toArray }, if_pos rfl⟩))
    · by_cases hb : b = a
      · exact .inr ⟨_, _, if_pos hb⟩
      · exact .inl (if_neg hb)
    · by_cases hb : b = a
      · have z2 := (if_pos hb).symm.trans z
        cases z2
        rw [hb]
        exact ⟨ha, by rw [List.length_map]; exact hl, vs, _, rv, ha⟩
      · exact nomatch (if_neg hb).symm.trans z
    · by_cases hb : b = a
      · exact hb
      · exact absurd (if_neg hb) z
end
theorem walk_ofG {l : PySem.W.OpenLaw} {n k : Nat} {q : Program} {loose : List Str} {XP : (Str → Option Value) → Heap → Prop} {YP : World → Heap → Prop} {d : DefRec} {x : Str} (hn : l.most = some n) (hn2 : n ≤ sizeLine) (hdf : d.params.defaults = []) (hr : Room k callerA)
    (F : ∀ (w : World) (mg : Str → Option Value) (fA : Addr) (h : Heap), YP w h → h.Ns mainGlobals mg → mg d.name = some (.ref fA) → ∃ (K : PySem.W.Frag) (fd : FuncData) (sp : Sp), K.In h ∧ (∀ (s : Shared) (u : Value), BindsTo s fd ⟨[u], []⟩ [(x, u)]) ∧
      (∀ (H : Hp) (a : Addr) (ns : List Int), ns.length ≤ n → Only H → SqL K H a (ns.map V.int) → sp [.ref a] H (fun v _ => v = .bl true) fun _ _ _ => False) ∧ ∀ base : Heap, K.In base → base.Ns mainGlobals mg → FnG l.prog w K mg base k fA fd [x] sp) :
    PySem.W.WalkO q loose XP YP l.row.toRowW d [] (fun f vs => PySem.call f vs) := by
  refine Att.attach_call hn hdf fun w s0 s1 mg mb fA o pm cd doc a vs ns G Y ho hd hcd hmg hobj hints hlen hg => ?_
  obtain ⟨K, fd, sp, KX, hb, hsp, hF⟩ := F w mg fA _ Y G.T.g hmg
  exact law_callG KX G.T.g G.T.b G.T.builtins G.T.nolimit hg hobj hints (Nat.le_trans hlen hn2) hr hF hb fun H hO hS => hsp H a ns hlen hO hS
end Er
end

/-! Er16 -/
section
set_option maxHeartbeats 4000000
set_option exponentiation.threshold 10000
namespace Er
open PySem PySem.Spec PyProof.Rows L2 He
/-- an own __init__ that keeps one field -/
def spInit1 (K : PySem.W.Frag) (D : Addr) (fn : Str) : Sp := fun vs H Q _ => ∃ (a C : Addr) (v : V) (d : PyData), vs = [.ref a, v] ∧ H a = some (exo a C none) ∧ SupC K C D ∧ PySem.W.findIn K (.ref C) fn = some none ∧ Va H v d ∧
  ∀ dx, H dx = none → dx ≠ a → Q .non (upd (upd H dx (exd dx [(fn, v)])) a (exo a C (some dx)))
/-- .. two fields -/
def spInit2 (K : PySem.W.Frag) (D : Addr) (fn gn : Str) : Sp := fun vs H Q _ => ∃ (a C : Addr) (v : V) (d : PyData) (u : V) (e : PyData), vs = [.ref a, v, u] ∧ H a = some (exo a C none) ∧ SupC K C D ∧ PySem.W.findIn K (.ref C) fn = some none ∧ PySem.W.findIn K (.ref C) gn = some none ∧
  Va H v d ∧ Va H u e ∧ ∀ dx, H dx = none → dx ≠ a → Q .non (upd (upd (upd H dx (exd dx [(fn, v)])) a (exo a C (some dx))) dx (exd dx [(gn, u), (fn, v)]))
/-- .. none -/
def spInit0 (K : PySem.W.Frag) (D : Addr) : Sp := fun vs H Q _ => ∃ (a C : Addr), vs = [.ref a] ∧ H a = some (exo a C none) ∧ SupC K C D ∧ Q .non H
/-- the def that shows a value -/
structure Shn (P : Program) (w : World) (K : PySem.W.Frag) (mg : Str → Option Value) (base : Heap) (f : Addr) (fd : FuncData) : Prop where
  ok : FnOk P w K mg base CX0 1 f fd ["value"] spShown
  g : mg "_shown" = some (.ref f)
  kp : PySem.W.keepIn K (.ref f) = true
  b : Binds K fd ["value"] []
theorem fits {n : Nat} (h : n ≤ 100000) : n ≤ sizeLine := by
  rw [sizeLine_eq]
  omega
theorem len0 : Str.empty.length = 0 := rfl
section
variable {P : Program} {w : World} {K : PySem.W.Frag} {mg : Str → Option Value} {base : Heap} {qual fn gn msg sep : Str} {st : Stmt} {f D fS : Addr} {fd fdS : FuncData} {p0 p1 p2 p3 p4 q1 q2 q3 q4 q5 q6 q7 r1 r2 r3 r4 t1 t2 t3 t4 u2 u3 u4 u5 : Pos}
theorem ok_init1 (F : SFun P K "__init__" qual st f D fd) (S : ScS ["self", fn] ["self", fn] (defScope st)) (hs1 : (defScope st).names.lookup ("super" : Str) = some .globalImplicit) (hs2 : (defScope st).names.lookup ("__class__" : Str) = some .free)
    (hs3 : (defScope st).names.lookup ("_shown" : Str) = some .globalImplicit) (hpar : ((defArgs st).posonlyargs ++ (defArgs st).args).head?.map (·.arg) = some ("self" : Str)) (d1 : (fn == ("__debug__" : Str)) = false) (d2 : (fn == ("__classdict__" : Str)) = false) (hm : msg.length ≤ 100)
    (hbody : defBody st = .Expr (.Call (.Attribute (.Call (.Name "super" p0) [] [] p1) "__init__" p2)
        [.JoinedStr [.Constant (.str msg) 0 q1, .FormattedValue (.Call (.Name "_shown" q2) [.Name fn q3] [] q4) (-1) none q5] q6] [] p3) p4 :: [.Assign [.Attribute (.Name "self" r1) fn r2] (.Name fn r3) r4])
    (hc : ∀ env : Env, env.scope = defScope st → eval (.Call (.Attribute (.Call (.Name "super" p0) [] [] p1) "__init__" p2) [.JoinedStr [.Constant (.str msg) 0 q1, .FormattedValue (.Call (.Name "_shown" q2) [.Name fn q3] [] q4) (-1) none q5] q6] [] p3) env = (do
      let ov ← attributeBase (.Call (.Name "super" p0) [] [] p1) "__init__" env (eval (.Call (.Name "super" p0) [] [] p1) env)
      standAt p2.atName
      let (g, first) ← holding [ov] (getMethod ov "__init__" (do return (← importBound (.Call (.Name "super" p0) [] [] p1) env).getD true))
      callWith p3 g first (backTo p3 (starEach [.JoinedStr [.Constant (.str msg) 0 q1, .FormattedValue (.Call (.Name "_shown" q2) [.Name fn q3] [] q4) (-1) none q5] q6] env)) []))
    (G : Shn P w K mg base fS fdS) : FnOk P w K mg base CX0 2 f fd ["self", fn] (spInit1 K D fn) := by
  refine fn_sup (k := 1) (N := ["self", fn]) F S rfl hs1 hs2 hbody hpar (fun vs H Q E h => ?_) hc (fun _ => rfl) fun cda cc A outer s H vs Q E hr h => ?_
  · obtain ⟨a, C, v, d, rfl, _⟩ := h
    rfl
  · obtain ⟨a, C, v, d, rfl, ha, SC, hno, hv, k⟩ := h
    have v0 : (defScope st).names.lookup ("self" : Str) = some .local := S.par _ (by simp)
    have v1 : (defScope st).names.lookup fn = some .local := S.par _ (by simp)
    refine ⟨a, C, _, _, rfl, ha, SC, pe_joined (.cons pe_str (.cons (pe_fmt (pe_call G.ok hr hs3 G.g G.kp G.b .nil pass0 (pa_cons (pv 1 rfl (.inl v1) d1 d2) pa_nil))) .nil)), pss_one (ps_ost (pv 0 rfl (.inl v0)) (pv 1 rfl (.inl v1) d1 d2)), ?_⟩
    refine ⟨_, rfl, fits ?_, _, rfl, v, d, rfl, hv, fun z hz => .inl ⟨z, rfl, fits (Nat.le_trans hz (by decide)), _, rfl, fits ?_, ?_⟩⟩
    · simp only [PySem.Str.length_append, len0]
      omega
    · simp only [PySem.Str.length_append, len0]
      omega
    refine ⟨ha, _, rfl, _, rfl, a, C, rfl, SC.oex, hno, .inl ⟨ha, fun dx n ne => ?_⟩⟩
    exact k dx n ne
theorem ok_init2 (F : SFun P K "__init__" qual st f D fd) (S : ScS ["self", fn, gn] ["self", fn, gn] (defScope st)) (hs1 : (defScope st).names.lookup ("super" : Str) = some .globalImplicit) (hs2 : (defScope st).names.lookup ("__class__" : Str) = some .free)
    (hs3 : (defScope st).names.lookup ("_shown" : Str) = some .globalImplicit) (hpar : ((defArgs st).posonlyargs ++ (defArgs st).args).head?.map (·.arg) = some ("self" : Str)) (d1 : (fn == ("__debug__" : Str)) = false) (d2 : (fn == ("__classdict__" : Str)) = false)
    (d3 : (gn == ("__debug__" : Str)) = false) (d4 : (gn == ("__classdict__" : Str)) = false) (hm : msg.length ≤ 100) (hsp : sep.length ≤ 100)
    (hbody : defBody st = .Expr (.Call (.Attribute (.Call (.Name "super" p0) [] [] p1) "__init__" p2) [.JoinedStr [.Constant (.str msg) 0 q1, .FormattedValue (.Call (.Name "_shown" q2) [.Name fn q3] [] q4) (-1) none q5, .Constant (.str sep) 0 q7, .FormattedValue (.Call (.Name "_shown" u2) [.Name gn u3] [] u4) (-1) none u5] q6] [] p3) p4 :: [.Assign [.Attribute (.Name "self" r1) fn r2] (.Name fn r3) r4, .Assign [.Attribute (.Name "self" t1) gn t2] (.Name gn t3) t4])
    (hc : ∀ env : Env, env.scope = defScope st → eval (.Call (.Attribute (.Call (.Name "super" p0) [] [] p1) "__init__" p2) [.JoinedStr [.Constant (.str msg) 0 q1, .FormattedValue (.Call (.Name "_shown" q2) [.Name fn q3] [] q4) (-1) none q5, .Constant (.str sep) 0 q7, .FormattedValue (.Call (.Name "_shown" u2) [.Name gn u3] [] u4) (-1) none u5] q6] [] p3) env = (do
      let ov ← attributeBase (.Call (.Name "super" p0) [] [] p1) "__init__" env (eval (.Call (.Name "super" p0) [] [] p1) env)
      standAt p2.atName
      let (g, first) ← holding [ov] (getMethod ov "__init__" (do return (← importBound (.Call (.Name "super" p0) [] [] p1) env).getD true))
      callWith p3 g first (backTo p3 (starEach [.JoinedStr [.Constant (.str msg) 0 q1, .FormattedValue (.Call (.Name "_shown" q2) [.Name fn q3] [] q4) (-1) none q5, .Constant (.str sep) 0 q7, .FormattedValue (.Call (.Name "_shown" u2) [.Name gn u3] [] u4) (-1) none u5] q6] env)) []))
    (G : Shn P w K mg base fS fdS) : FnOk P w K mg base CX0 2 f fd ["self", fn, gn] (spInit2 K D fn gn) := by
  refine fn_sup (k := 1) (N := ["self", fn, gn]) F S rfl hs1 hs2 hbody hpar (fun vs H Q E h => ?_) hc (fun _ => rfl) fun cda cc A outer s H vs Q E hr h => ?_
  · obtain ⟨a, C, v, d, u, e, rfl, _⟩ := h
    rfl
  · obtain ⟨a, C, v, d, u, e, rfl, ha, SC, hno, hno2, hv, hu, k⟩ := h
    have v0 : (defScope st).names.lookup ("self" : Str) = some .local := S.par _ (by simp)
    have v1 : (defScope st).names.lookup fn = some .local := S.par _ (by simp)
    have v2 : (defScope st).names.lookup gn = some .local := S.par _ (by simp)
    refine ⟨a, C, _, _, rfl, ha, SC, pe_joined (.cons pe_str (.cons (pe_fmt (pe_call G.ok hr hs3 G.g G.kp G.b .nil pass0 (pa_cons (pv 1 rfl (.inl v1) d1 d2) pa_nil))) (.cons pe_str (.cons (pe_fmt (pe_call G.ok hr hs3 G.g G.kp G.b .nil pass0 (pa_cons (pv 2 rfl (.inl v2) d3 d4) pa_nil))) .nil)))), pss_cons (ps_ost (pv 0 rfl (.inl v0)) (pv 1 rfl (.inl v1) d1 d2)) (pss_one (ps_ost (pv 0 rfl (.inl v0)) (pv 2 rfl (.inl v2) d3 d4))), ?_⟩
    refine ⟨_, rfl, fits ?_, _, rfl, v, d, rfl, hv, fun z hz => .inl ⟨z, rfl, fits (Nat.le_trans hz (by decide)), _, rfl, fits ?_, _, rfl, fits ?_, _, rfl, u, e, rfl, hu, fun y hy => .inl ⟨y, rfl, fits (Nat.le_trans hy (by decide)), _, rfl, fits ?_, ?_⟩⟩⟩
    · simp only [PySem.Str.length_append, len0]
      omega
    · simp only [PySem.Str.length_append, len0]
      omega
    · simp only [PySem.Str.length_append, len0]
      omega
    · simp only [PySem.Str.length_append, len0]
      omega
    refine ⟨ha, _, rfl, _, rfl, a, C, rfl, SC.oex, hno, .inl ⟨ha, fun dx n ne => ?_⟩⟩
    exact ⟨_, rfl, _, rfl, a, C, rfl, SC.oex, hno2, .inr ⟨dx, _, upd_same, by rw [upd_ne ne]; exact upd_same, (by show 1 ≤ 900; decide), k dx n ne⟩⟩
theorem ok_init2a (F : SFun P K "__init__" qual st f D fd) (S : ScS ["self", fn, gn] ["self", fn, gn] (defScope st)) (hs1 : (defScope st).names.lookup ("super" : Str) = some .globalImplicit) (hs2 : (defScope st).names.lookup ("__class__" : Str) = some .free)
    (hs3 : (defScope st).names.lookup ("_shown" : Str) = some .globalImplicit) (hpar : ((defArgs st).posonlyargs ++ (defArgs st).args).head?.map (·.arg) = some ("self" : Str)) (d1 : (fn == ("__debug__" : Str)) = false) (d2 : (fn == ("__classdict__" : Str)) = false)
    (d3 : (gn == ("__debug__" : Str)) = false) (d4 : (gn == ("__classdict__" : Str)) = false) (hm : msg.length ≤ 100)
    (hbody : defBody st = .Expr (.Call (.Attribute (.Call (.Name "super" p0) [] [] p1) "__init__" p2) [.JoinedStr [.Constant (.str msg) 0 q1, .FormattedValue (.Call (.Name "_shown" q2) [.Name fn q3] [] q4) (-1) none q5] q6] [] p3) p4 :: [.Assign [.Attribute (.Name "self" r1) fn r2] (.Name fn r3) r4, .Assign [.Attribute (.Name "self" t1) gn t2] (.Name gn t3) t4])
    (hc : ∀ env : Env, env.scope = defScope st → eval (.Call (.Attribute (.Call (.Name "super" p0) [] [] p1) "__init__" p2) [.JoinedStr [.Constant (.str msg) 0 q1, .FormattedValue (.Call (.Name "_shown" q2) [.Name fn q3] [] q4) (-1) none q5] q6] [] p3) env = (do
      let ov ← attributeBase (.Call (.Name "super" p0) [] [] p1) "__init__" env (eval (.Call (.Name "super" p0) [] [] p1) env)
      standAt p2.atName
      let (g, first) ← holding [ov] (getMethod ov "__init__" (do return (← importBound (.Call (.Name "super" p0) [] [] p1) env).getD true))
      callWith p3 g first (backTo p3 (starEach [.JoinedStr [.Constant (.str msg) 0 q1, .FormattedValue (.Call (.Name "_shown" q2) [.Name fn q3] [] q4) (-1) none q5] q6] env)) []))
    (G : Shn P w K mg base fS fdS) : FnOk P w K mg base CX0 2 f fd ["self", fn, gn] (spInit2 K D fn gn) := by
  refine fn_sup (k := 1) (N := ["self", fn, gn]) F S rfl hs1 hs2 hbody hpar (fun vs H Q E h => ?_) hc (fun _ => rfl) fun cda cc A outer s H vs Q E hr h => ?_
  · obtain ⟨a, C, v, d, u, e, rfl, _⟩ := h
    rfl
  · obtain ⟨a, C, v, d, u, e, rfl, ha, SC, hno, hno2, hv, hu, k⟩ := h
    have v0 : (defScope st).names.lookup ("self" : Str) = some .local := S.par _ (by simp)
    have v1 : (defScope st).names.lookup fn = some .local := S.par _ (by simp)
    have v2 : (defScope st).names.lookup gn = some .local := S.par _ (by simp)
    refine ⟨a, C, _, _, rfl, ha, SC, pe_joined (.cons pe_str (.cons (pe_fmt (pe_call G.ok hr hs3 G.g G.kp G.b .nil pass0 (pa_cons (pv 1 rfl (.inl v1) d1 d2) pa_nil))) .nil)), pss_cons (ps_ost (pv 0 rfl (.inl v0)) (pv 1 rfl (.inl v1) d1 d2)) (pss_one (ps_ost (pv 0 rfl (.inl v0)) (pv 2 rfl (.inl v2) d3 d4))), ?_⟩
    refine ⟨_, rfl, fits ?_, _, rfl, v, d, rfl, hv, fun z hz => .inl ⟨z, rfl, fits (Nat.le_trans hz (by decide)), _, rfl, fits ?_, ?_⟩⟩
    · simp only [PySem.Str.length_append, len0]
      omega
    · simp only [PySem.Str.length_append, len0]
      omega
    refine ⟨ha, _, rfl, _, rfl, a, C, rfl, SC.oex, hno, .inl ⟨ha, fun dx n ne => ?_⟩⟩
    exact ⟨_, rfl, _, rfl, a, C, rfl, SC.oex, hno2, .inr ⟨dx, _, upd_same, by rw [upd_ne ne]; exact upd_same, (by show 1 ≤ 900; decide), k dx n ne⟩⟩
/-- one that keeps nothing -/
theorem ok_init0 (F : SFun P K "__init__" qual st f D fd) (S : ScS ["self"] ["self"] (defScope st)) (hs1 : (defScope st).names.lookup ("super" : Str) = some .globalImplicit) (hs2 : (defScope st).names.lookup ("__class__" : Str) = some .free)
    (hpar : ((defArgs st).posonlyargs ++ (defArgs st).args).head?.map (·.arg) = some ("self" : Str)) (hbody : defBody st = .Expr (.Call (.Attribute (.Call (.Name "super" p0) [] [] p1) "__init__" p2) [.Constant (.str msg) 0 q1] [] p3) p4 :: [])
    (hc : ∀ env : Env, env.scope = defScope st → eval (.Call (.Attribute (.Call (.Name "super" p0) [] [] p1) "__init__" p2) [.Constant (.str msg) 0 q1] [] p3) env = (do
      let ov ← attributeBase (.Call (.Name "super" p0) [] [] p1) "__init__" env (eval (.Call (.Name "super" p0) [] [] p1) env)
      standAt p2.atName
      let (g, first) ← holding [ov] (getMethod ov "__init__" (do return (← importBound (.Call (.Name "super" p0) [] [] p1) env).getD true))
      callWith p3 g first (backTo p3 (starEach [.Constant (.str msg) 0 q1] env)) [])) : FnOk P w K mg base CX0 2 f fd ["self"] (spInit0 K D) := by
  refine fn_sup (k := 1) (N := ["self"]) F S rfl hs1 hs2 hbody hpar (fun vs H Q E h => ?_) hc (fun _ => rfl) fun cda cc A outer s H vs Q E hr h => ?_
  · obtain ⟨a, C, rfl, _⟩ := h
    rfl
  · obtain ⟨a, C, rfl, ha, SC, k⟩ := h
    exact ⟨a, C, _, _, rfl, ha, SC, pe_str, pss_nil, ha, k⟩
end
end Er
end

/-! Er17 -/
section
set_option maxHeartbeats 4000000
set_option exponentiation.threshold 10000
namespace Er
open PySem PySem.Spec PyProof.Rows L2 He
/-- super() of the class at D finds the def at f2 for an error of the class at C -/
structure SupM (K : PySem.W.Frag) (C D f2 : Addr) : Prop where
  oex : OexC K C
  isD : PySem.W.mroIn K C (.ref D) = some true
  sup : PySem.W.ks_superIn K C D "__init__" = some (some (.ref f2))
  fn : PySem.W.typeIn K (.ref f2) = some (.type "function")
  isFn : PySem.W.fnIn K f2 = true
section
variable {P : Program} {w : World} {K : PySem.W.Frag} {mg : Str → Option Value} {base : Heap} {x qual : Str} {st : Stmt} {f D : Addr} {fd : FuncData} {N ps : List Str} {k : Nat} {sp : Sp}
theorem fn_sup2 (F : SFun P K x qual st f D fd) (S : ScS N ps (defScope st)) (h0 : ps.head? = some ("self" : Str)) (hs1 : (defScope st).names.lookup ("super" : Str) = some .globalImplicit) (hs2 : (defScope st).names.lookup ("__class__" : Str) = some .free)
    {p0 p1 p2 p3 p4 : Pos} {e : Expr} {rest : List Stmt} (hbody : defBody st = .Expr (.Call (.Attribute (.Call (.Name "super" p0) [] [] p1) "__init__" p2) [e] [] p3) p4 :: rest)
    (hpar : ((defArgs st).posonlyargs ++ (defArgs st).args).head?.map (·.arg) = some ("self" : Str)) (len : ∀ vs H Q E, sp vs H Q E → vs.length = ps.length)
    (hc : ∀ env : Env, env.scope = defScope st → eval (.Call (.Attribute (.Call (.Name "super" p0) [] [] p1) "__init__" p2) [e] [] p3) env = (do
      let ov ← attributeBase (.Call (.Name "super" p0) [] [] p1) "__init__" env (eval (.Call (.Name "super" p0) [] [] p1) env)
      standAt p2.atName
      let (g, first) ← holding [ov] (getMethod ov "__init__" (do return (← importBound (.Call (.Name "super" p0) [] [] p1) env).getD true))
      callWith p3 g first (backTo p3 (starEach [e] env)) []))
    (hse : ∀ env : Env, starEach [e] env = (false, eval e env) :: starEach [] env)
    {f2 : Addr} {fd2 : FuncData} {ps2 : List Str} {sp2 : Sp} {k2 : Nat} (F2 : FnOk P w K mg base CX0 k2 f2 fd2 ps2 sp2) (hkk : k2 ≤ k) (B2 : Binds K fd2 ps2 [])
    (hb : ∀ (cda cc : Addr) (A : Around) (outer : List Env) (s : Shared) (H : Hp) (vs : List V) (Q : VK) (E : XK), Room k (A.deeper (PySem.W.ksEnv qual (defScope st) s.heap.objs.size f (.ref cda) cc)) → sp vs H Q E →
      ∃ (a C : Addr) (te : TE) (t : TS), vs.head? = some (.ref a) ∧ H a = some (exo a C none) ∧ SupM K C D f2 ∧
        PE (cxS CX0 P w K mg base N qual (defScope st) f (.ref cda) cc A outer s H E).nox e te ∧ PSs (cxS CX0 P w K mg base N qual (defScope st) f (.ref cda) cc A outer s H E).nox rest t ∧
        te (L2.start N vs) H (fun v H1 => sp2 [.ref a, v] H1 (fun _ H2 => t { nx := fun _ H3 => Q .non H3, rt := Q } (L2.start N vs) H2) fun _ _ _ => False)) :
    FnOk P w K mg base CX0 (k + 1) f fd ps sp := by
  obtain ⟨oc, od, kV, doc, pm, an, cda, ct, cc, osl, rfl, lk, hcd, ⟨cl, cld, csl, hcell⟩, ⟨ccl, cdd, va, ccs, file, tf, hcode, hva, hfile⟩⟩ := F.ex
  obtain ⟨cdD, hD⟩ := F.clsD
  refine ⟨len, fun A outer s H args us vs Q E hr e0 hbi r hsp => ?_⟩
  have hr1 := hr.deeper (PySem.W.ksEnv qual (defScope st) s.heap.objs.size f (.ref cda) cc)
  have hl := len _ _ _ _ hsp
  have KX : K.In s.heap := e0.mod.kin.keeps fun b o e => (e0.bs b o e).1
  have lim : s.heap.NoLimit := e0.mod.nolimit.keeps fun b o e => (e0.bs b o e).1
  obtain ⟨a, C, te, t, hv, ha, SC, he, hrest, hte⟩ := hb cda cc A outer s H vs Q E (hr.deeper _) hsp
  have hloc : ∀ y ∈ ps.zip us, (defScope st).names.lookup y.1 = some .local := fun ⟨n, v⟩ hy => S.par n (List.of_mem_zip hy).1
  refine ks_codeAny_call_defAt (fd := PySem.W.ksFn x qual (defArgs st) (defBody st) (defScope st) .none kV doc pm an (.ref cda) ct cc) (body := defBody st) (binds := ps.zip us) hr.depth (KX _ _ lk) rfl lim (PySem.W.codeRec_of KX hcd) rfl hbi S.nocell hloc (fun h1 hns hk => ?_) S.co S.gen S.kind
  have I : Inv (cxS CX0 P w K mg base N qual (defScope st) f (.ref cda) cc A outer s H E) [] (L2.start N vs) H { s with heap := h1, toks := s.toks + (ps.zip us).length } := inv_s S hcell hr.hd e0 hl r hns hk
  generalize hX : cxS CX0 P w K mg base N qual (defScope st) f (.ref cda) cc A outer s H E = X at I he hrest
  have heq : callEnv (PySem.W.ksFn x qual (defArgs st) (defBody st) (defScope st) .none kV doc pm an (.ref cda) ct cc) s.heap.objs.size f = X.env := by rw [← hX]; rfl
  have hA : A.deeper X.env = X.A := by rw [← hX]; rfl
  have hEv : X.env = PySem.W.ksEnv qual (defScope st) s.heap.objs.size f (.ref cda) cc := by rw [← hX]; rfl
  have hsc : X.env.scope = defScope st := by rw [← hX]; rfl
  have hxf : X.env.func = some f := by rw [← hX]; rfl
  have hxc : X.env.code = .ref cda := by rw [← hX]; rfl
  have hP : X.prog = P := by rw [← hX]; rfl
  have hw : X.w = w := by rw [← hX]; rfl
  have hK : X.K = K := by rw [← hX]; rfl
  have hMg : X.mg = mg := by rw [← hX]; rfl
  have hBs : X.base = base := by rw [← hX]; rfl
  have hxe : X.xe = fun e s' => wpAny (model P w) X.A (leaving X.env e) (fun _ s2 => CX0 outer H s E e s2) (fun e' s2 => CX0 outer H s E e' s2) s' := by rw [← hX]; rfl
  have hb2 : ∀ {u : Flow} {s2 : Shared}, SP X [] { nx := fun _ H2 => Q .non H2, rt := Q } u s2 → CR CX0 outer P w H s Q E (.ok (.ret (match u with | .ret v => v | _ => .none))) s2 := by
    intro u s2 hu
    subst hX
    cases u with
    | ret u =>
      obtain ⟨v, σ2, H2, J, rv, q⟩ := hu
      exact ⟨v, H2, J.os, J.bare, J.base, J.hok, rv, q⟩
    | next =>
      obtain ⟨σ2, H2, J, q⟩ := hu
      exact ⟨.non, H2, J.os, J.bare, J.base, J.hok, rfl, q⟩
    | brk =>
      obtain ⟨_, _, _, q⟩ := hu
      exact False.elim q
    | cont =>
      obtain ⟨_, _, _, q⟩ := hu
      exact False.elim q
  rw [heq, hA]
  show PySem.wpAt (model P w) X.A (.func (defBody st) X.env) (execs (defBody st) X.env) _ _ _
  rw [show execs (defBody st) X.env = execs (.Expr (.Call (.Attribute (.Call (.Name "super" p0) [] [] p1) "__init__" p2) [e] [] p3) p4 :: rest) X.env by rw [hbody]]
  have hint : interactive X.env = false := by
    unfold interactive
    rw [hsc, S.kind]
    rfl
  refine ks_wpAt_execs_cons (ks_wpAt_Expr_any (ks_wpAt_MethodCall ?_ (hc X.env hsc)) hint rfl)
  have hk1 : X.env.kindOf "super" = some .globalImplicit := by rw [← hs1, ← hsc]; rfl
  have hk2 : X.env.kindOf "__class__" = some .free := by rw [← hs2, ← hsc]; rfl
  obtain ⟨ar, har, hself⟩ : ∃ ar, ((defArgs st).posonlyargs ++ (defArgs st).args).head? = some ar ∧ ar.arg = ("self" : Str) := by
    cases z : ((defArgs st).posonlyargs ++ (defArgs st).args).head? with
    | none => rw [z] at hpar; cases hpar
    | some ar =>
      rw [z] at hpar
      exact ⟨ar, rfl, Option.some.inj hpar⟩
  refine ks_wpAt_super_base hk1 hk2 (by decide) hxf (hk _ _ (KX _ _ lk)) rfl har hxc (hk _ _ (KX _ _ hcode)) rfl hva hfile F.noTop ?_
  rw [hself]
  have hmg : X.mg "super" = none := by rw [← hX]; exact PySem.W.mg_none_of e0.mod.kin e0.mod.glob F.noSup
  have hcl : X.env.cells.lookup ("__class__" : Str) = some cc := by
    rw [← hX]
    show [(("__class__" : Str), cc)].lookup ("__class__" : Str) = some cc
    simp [List.lookup]
  have hus : us[0]? = some (.ref a) := by
    cases r with
    | nil => cases hv
    | cons q t =>
      cases hv
      cases (show _ = Value.ref a from q)
      rfl
  have hps : ps[0]? = some ("self" : Str) := by
    cases ps with
    | nil => cases h0
    | cons p t => rw [List.head?_cons] at h0; cases h0; rfl
  have ndP : ps.Nodup := by rw [← S.pre]; exact S.nd.sublist (List.take_sublist _ _)
  have hsl : (ps.zip us).reverse.lookup ("self" : Str) = some (.ref a) := zip_rev_get ndP hps hus
  have hkl : X.env.kindOf "self" = some .local := by
    rw [← S.par "self" (List.mem_of_getElem? hps), ← hsc]
    rfl
  have hnsX : h1.Ns X.env.locals fun x => (ps.zip us).reverse.lookup x := by rw [← hX]; exact hns
  subst hP hw hK hMg hBs
  obtain ⟨mb, b1, b2⟩ := I.mod.blt
  refine PySem.W.ks_loadName_global I.ok.kind hk1 (Calls.loadGlobal_builtin (by rw [I.ok.glob]; exact I.mod.glob.keeps I.bk) hmg (by rw [I.ok.blt]; exact b1.keeps I.bk) ((b2 _ (by decide)).trans (show bootBuiltins "super" = some (.type "super") by decide +kernel)) ⟨rfl, ?_⟩)
  refine wpAny_loadName_free I.ok.kind hk2 hcl ⟨_, hk _ _ (KX _ _ hcell), rfl⟩ ?_
  refine wpAny_loadName_local I.ok.kind hkl hnsX hsl ?_
  obtain ⟨oD, hD1, hD2⟩ : ∃ oD, h1.get? D = some oD ∧ oD.data = .cls cdD := by
    unfold PySem.W.clsIn at hD
    split at hD
    · rename_i c d cd2 sl ho
      cases hD
      exact ⟨_, hk _ _ (KX _ _ ho), rfl⟩
    · cases hD
  refine ks_wpAny_isType_cls hD1 hD2 ⟨rfl, ?_⟩
  obtain ⟨t1, hobj⟩ := exo_at I.hok ha
  have K1 : X.K.In h1 := I.kIn
  refine ks_wpAny_call_super hD1 hD2 hobj rfl (fun c e => nomatch e) (PySem.W.looks_mroIn K1 SC.isD) (fun h2 eso k2' => ?_)
  have K2 : X.K.In h2 := K1.keeps k2'
  obtain ⟨cdC, hcC⟩ : ∃ cdC, PySem.W.clsIn X.K C = some cdC := by
    cases z : PySem.W.clsIn X.K C with
    | none =>
      have q := SC.sup
      unfold PySem.W.ks_superIn at q
      rw [z] at q
      cases q
    | some cd => exact ⟨cd, rfl⟩
  have hal : PySem.W.alongIn X.K "__init__" ((cdC.mro.dropWhile (· != .ref D)).drop 1) = some (some (.ref f2)) := by
    have q := SC.sup
    unfold PySem.W.ks_superIn at q
    rw [hcC] at q
    exact q
  have naC : a ≠ C := by
    rintro rfl
    unfold PySem.W.clsIn at hcC
    split at hcC
    · rename_i c d cd2 sl ho
      have z := K1 _ _ ho
      rw [hobj] at z
      cases z
    · cases hcC
  have It : PySem.W.InstAt h2 a _ C none := ⟨k2' _ _ hobj, rfl, rfl, trivial⟩
  obtain ⟨of2, hof, hoc⟩ : ∃ of2, h2.get? f2 = some of2 ∧ of2.cls = .type "function" := by
    have z := SC.fn
    have z2 : (X.K.lookup f2).map (·.cls) = some (.type "function") := z
    cases q : X.K.lookup f2 with
    | none => rw [q] at z2; cases z2
    | some o => rw [q] at z2; exact ⟨o, K2 _ _ q, Option.some.inj z2⟩
  refine ks_wpAny_getMethod_super eso (PySem.W.looks_opaque K2 F.noThird) (l₀ := cdC.mro) (fun A Q E s k q => wpAny_bind ((PySem.W.looks_clsIn K2 hcC) A _ E s k (wpAny_pure q))) rfl K2 hal hof hoc naC (by decide) ?_
  have k3 : ∀ b v, h1.get? b = some v → (h2.push (PySem.W.methodObj (.ref f2) (.ref a))).get? b = some v := fun b v q => Heap.get?_push_of_some _ (k2' b v q)
  have hu3 : (h2.push (PySem.W.methodObj (.ref f2) (.ref a))).get? h2.objs.size = some (PySem.W.methodObj (.ref f2) (.ref a)) := Heap.get?_push_at rfl rfl
  have hsz : h1.objs.size ≤ h2.objs.size := Nat.le_of_lt (Nat.lt_of_le_of_lt (Nat.le_refl _) (Heap.lt_size eso))
  have J := inv_pin1 (t1 := s.toks + (ps.zip us).length + 1) I k3 hsz hu3 (fun v z => nomatch z)
  have hrun := he.nox.run _ _ _ _ _ J hte
  rw [hxe] at hrun
  have hbase : X.base.get? h2.objs.size = none := by
    cases q : X.base.get? h2.objs.size with
    | none => rfl
    | some o => exact absurd (Heap.lt_size (I.bk _ _ q)) (Nat.not_lt.mpr hsz)
  refine ClX.callwith_cm (g := f2) (C := a) J hbase SC.isFn ?_ (hse _) rfl
  rw [hse]
  show wpAny _ _ (spliced ((false, eval e X.env) :: backTo p3 (starEach [] X.env))) _ _ _
  refine Calls.spliced_cons (thn hrun fun v s3 hv3 => ?_)
  obtain ⟨v', H1, I3, rv, q3⟩ := hv3
  refine Calls.spliced_nil ⟨⟨(I3.pin _ (List.mem_append_right _ (List.mem_cons_self ..))).1, I3.kIn⟩, ?_⟩
  have hvv : Vals [V.ref a, v'] [Value.ref a, v] := .cons rfl (.cons rv .nil)
  have hlen : ([Value.ref a, v] ++ []).length = ps2.length := by
    have z := F2.len _ _ _ _ q3
    rw [← z]
    rfl
  have hbt := B2 s3 [Value.ref a, v] I3.kIn hlen
  have hr2 : Room k2 X.A := by rw [← hA, hEv]; exact hr1.mono hkk
  refine wpAny_call (PySem.W.method_call ((I3.pin _ (List.mem_append_right _ (List.mem_cons_self ..))).1) (codeAny_mono (F2.run X.A X.stack s3 H1 ⟨[.ref a, v], []⟩ ([.ref a, v] ++ []) [.ref a, v'] _ _ hr2 I3.env0 hbt hvv q3) fun r s4 hq => ?_))
  cases r with
  | error e => exact False.elim hq
  | ok fl =>
    cases fl with
    | ret u =>
      obtain ⟨_, H2, I4, _, ht3⟩ := I3.after hq
      have I5 := inv_unpin I4
      have hrun2 := hrest.nox.run [] s4 _ H2 _ I5 ht3
      rw [hxe] at hrun2
      exact wpAt_of_wpAny (wpAny_mono hrun2 (fun u s5 hu5 => hb2 hu5) fun u s5 hu5 => hu5)
    | next => exact False.elim hq
    | brk => exact False.elim hq
    | cont => exact False.elim hq
/-- an own __init__ that hands its one field on to the class above, which keeps it, and keeps it once more -/
def spInitM (K : PySem.W.Frag) (D D2 f2 : Addr) (fn : Str) : Sp := fun vs H Q _ => ∃ (a C : Addr) (v : V) (d : PyData), vs = [.ref a, v] ∧ H a = some (exo a C none) ∧ SupM K C D f2 ∧ SupC K C D2 ∧ PySem.W.findIn K (.ref C) fn = some none ∧ Va H v d ∧
  ∀ dx, H dx = none → dx ≠ a → Q .non (upd (upd (upd H dx (exd dx [(fn, v)])) a (exo a C (some dx))) dx (exd dx [(fn, v), (fn, v)]))
theorem ok_initM {fn : Str} {D2 f2 : Addr} {fd2 : FuncData} {p0 p1 p2 p3 p4 q1 r1 r2 r3 r4 : Pos} (F : SFun P K "__init__" qual st f D fd) (S : ScS ["self", fn] ["self", fn] (defScope st)) (hs1 : (defScope st).names.lookup ("super" : Str) = some .globalImplicit) (hs2 : (defScope st).names.lookup ("__class__" : Str) = some .free)
    (hpar : ((defArgs st).posonlyargs ++ (defArgs st).args).head?.map (·.arg) = some ("self" : Str)) (d1 : (fn == ("__debug__" : Str)) = false) (d2 : (fn == ("__classdict__" : Str)) = false)
    (hbody : defBody st = .Expr (.Call (.Attribute (.Call (.Name "super" p0) [] [] p1) "__init__" p2) [.Name fn q1] [] p3) p4 :: [.Assign [.Attribute (.Name "self" r1) fn r2] (.Name fn r3) r4])
    (hc : ∀ env : Env, env.scope = defScope st → eval (.Call (.Attribute (.Call (.Name "super" p0) [] [] p1) "__init__" p2) [.Name fn q1] [] p3) env = (do
      let ov ← attributeBase (.Call (.Name "super" p0) [] [] p1) "__init__" env (eval (.Call (.Name "super" p0) [] [] p1) env)
      standAt p2.atName
      let (g, first) ← holding [ov] (getMethod ov "__init__" (do return (← importBound (.Call (.Name "super" p0) [] [] p1) env).getD true))
      callWith p3 g first (backTo p3 (starEach [.Name fn q1] env)) []))
    (F2 : FnOk P w K mg base CX0 2 f2 fd2 ["self", fn] (spInit1 K D2 fn)) (B2 : Binds K fd2 ["self", fn] []) : FnOk P w K mg base CX0 3 f fd ["self", fn] (spInitM K D D2 f2 fn) := by
  refine fn_sup2 (k := 2) (N := ["self", fn]) F S rfl hs1 hs2 hbody hpar (fun vs H Q E h => ?_) hc (fun _ => rfl) F2 (Nat.le_refl _) B2 fun cda cc A outer s H vs Q E hr h => ?_
  · obtain ⟨a, C, v, d, rfl, _⟩ := h
    rfl
  · obtain ⟨a, C, v, d, rfl, ha, SM, SC, hno, hv, k⟩ := h
    have v0 : (defScope st).names.lookup ("self" : Str) = some .local := S.par _ (by simp)
    have v1 : (defScope st).names.lookup fn = some .local := S.par _ (by simp)
    refine ⟨a, C, _, _, rfl, ha, SM, pv 1 rfl (.inl v1) d1 d2, pss_one (ps_ost (pv 0 rfl (.inl v0)) (pv 1 rfl (.inl v1) d1 d2)), ?_⟩
    refine ⟨_, rfl, a, C, v, d, rfl, ha, SC, hno, hv, fun dx n ne => ?_⟩
    exact ⟨_, rfl, _, rfl, a, C, rfl, SC.oex, hno, .inr ⟨dx, _, upd_same, by rw [upd_ne ne]; exact upd_same, (by show 1 ≤ 900; decide), k dx n ne⟩⟩
end
end Er
end

/-! Er18 -/
section
set_option maxHeartbeats 4000000
set_option exponentiation.threshold 10000
namespace Er
open PySem PySem.Spec PyProof.Rows L2 He
section
variable {P : Program} {K : PySem.W.Frag} {x qual : Str} {st : Stmt} {f D : Addr} {fd : FuncData}
theorem sfun_kbn (F : SFun P K x qual st f D fd) {ps : List Str} (n : Nat) (ks : List Str) (g : {α : Type} → List α → List α → List α) (hrel : ∀ {vs zs : List V} {us ws : List Value}, Vals vs us → Vals zs ws → Vals (g vs zs) (g us ws))
    (h : ∀ (kV doc pm : Value) (an : Option Addr) (cda : Addr) (ct : Value) (cc : Addr) (us ws : List Value), us.length = n → ws.length = ks.length →
      bindArgs (PySem.W.ksFn x qual (defArgs st) (defBody st) (defScope st) .none kV doc pm an (.ref cda) ct cc) ⟨us, ks.zip ws⟩ = pure (ps.zip (g us ws))) : KBn K fd ps n ks (fun us ws => g us ws) (fun vs zs => g vs zs) := by
  obtain ⟨oc, od, kV, doc, pm, an, cda, ct, cc, osl, rfl, _⟩ := F.ex
  exact ⟨fun s us ws X l1 l2 => .of_eq (h kV doc pm an cda ct cc us ws l1 l2), fun r1 r2 => hrel r1 r2⟩
theorem vals_rev : ∀ {vs : List V} {us : List Value}, Vals vs us → Vals vs.reverse us.reverse
  | _, _, .nil => .nil
  | _, _, .cons r t => by
    rw [List.reverse_cons, List.reverse_cons]
    exact (vals_rev t).append (.cons r .nil)
theorem sfun_binds (F : SFun P K x qual st f D fd) {ps : List Str} (h : ∀ (kV doc pm : Value) (an : Option Addr) (cda : Addr) (ct : Value) (cc : Addr) (us : List Value), us.length = ps.length →
      bindArgs (PySem.W.ksFn x qual (defArgs st) (defBody st) (defScope st) .none kV doc pm an (.ref cda) ct cc) ⟨us, []⟩ = pure (ps.zip us)) : Binds K fd ps [] := by
  obtain ⟨oc, od, kV, doc, pm, an, cda, ct, cc, osl, rfl, _⟩ := F.ex
  exact .all (h kV doc pm an cda ct cc)
end
/-- an error of the class at C stands at a, with these fields -/
def ErX (H : Hp) (a C : Addr) (fs : List (Str × V)) : Prop := (fs = [] ∧ H a = some (exo a C none)) ∨ ∃ d, H a = some (exo a C (some d)) ∧ H d = some (exd d fs)
theorem ErX.mono {H H2 : Hp} {a C : Addr} {fs : List (Str × V)} (s : Same H H2) (h : ErX H a C fs) : ErX H2 a C fs := by
  rcases h with ⟨e, h⟩ | ⟨d, h1, h2⟩
  · exact .inl ⟨e, s _ _ h⟩
  · exact .inr ⟨d, s _ _ h1, s _ _ h2⟩
/-- a new error of n fields -/
def tNew (C : Addr) (n : Nat) (mk : List V → List (Str × V)) (t : TA) : TE := fun σ H Q => t σ H fun vs H1 => vs.length = n ∧ (∀ v ∈ vs, ∃ d, Va H1 v d) ∧ ∀ a H2, Same H1 H2 → H1 a = none → ErX H2 a C (mk vs) → Q (.ref a) H2
/-- what the promise of C's __init__ must give for that -/
def NewOk (C : Addr) (sp : Sp) (g : List V → List V) (n : Nat) (mk : List V → List (Str × V)) : Prop := ∀ (vs : List V) (H : Hp) (R : Hp → Prop) (a : Addr), vs.length = n → (∀ v ∈ vs, ∃ d, Va H v d) → H a = none →
  (∀ H2, Same H H2 → ErX H2 a C (mk vs) → R H2) → sp (.ref a :: g vs) (upd H a (exo a C none)) (fun v H3 => v = .non ∧ R H3) fun _ _ _ => False
section
variable {X : Cx} {k n : Nat} {fI C : Addr} {fd : FuncData} {ps ks : List Str} {sp : Sp} {x : Str} {p pos : Pos} {e : Expr} {es : List Expr} {kws : List Keyword} {t tk : TA} {mk : List V → List (Str × V)} {g : List Value → List Value → List Value} {gV : List V → List V → List V} {q : List V → List V}
theorem pe_newE (M : MkE X.K C fI) (F1 : FnOk X.prog X.w X.K X.mg X.base CX0 k fI fd ps sp) (hr : Room (k + 1) X.A) (hg : Gl X x) (hm : X.mg x = some (.ref C)) (hb : KBn X.K fd ps (n + 1) [] g gV) (hgv : ∀ a vs, gV (.ref a :: vs) [] = .ref a :: q vs) (N : NewOk C sp q n mk) (hn1 : n ≤ 1000) (ha : PA X (e :: es) t)
    (hdb : (x == ("__debug__" : Str)) = false := by decide) (he : starEach (e :: es) X.env = (false, eval e X.env) :: starEach es X.env := by rfl) (hpl : (backTo pos (starEach es X.env)).any (·.1) = false := by rfl) :
    PE X (.Call (.Name x p) (e :: es) [] pos) (tNew C n mk t) := by
  refine ⟨fun pins s σ H Q I h => wpAny_Call_Name_kw (ld_glob I hg hm ?_ hdb)⟩
  refine PySem.W.callWith_K (h₀ := X.base) I.ok.mod.kin M.oex.kC (thn (ha.run pos pins s σ H _ I h) fun us s1 ⟨vs, H1, I1, r1, l1, hv, q1⟩ => ⟨I1.kIn, ?_⟩) he hpl
  refine run_mkE (ks := []) (ws := []) (zs := []) M F1 hr hb I1 r1 .nil l1 rfl hn1 fun a ha => ?_
  rw [hgv]
  exact N vs H1 _ a l1 hv ha fun H2 s2 x2 => q1 a H2 s2 ha x2
theorem pe_newE0 (M : MkE X.K C fI) (F1 : FnOk X.prog X.w X.K X.mg X.base CX0 k fI fd ps sp) (hr : Room (k + 1) X.A) (hg : Gl X x) (hm : X.mg x = some (.ref C)) (hb : KBn X.K fd ps 1 [] g gV) (hgv : ∀ a, gV [.ref a] [] = .ref a :: q []) (N : NewOk C sp q 0 mk)
    (hdb : (x == ("__debug__" : Str)) = false := by decide) : PE X (.Call (.Name x p) [] [] pos) (tNew C 0 mk tNil) := by
  refine ⟨fun pins s σ H Q I h => wpAny_Call_Name_kw (ld_glob I hg hm ?_ hdb)⟩
  obtain ⟨_, _, q1⟩ := h
  refine PySem.W.callWith_K0 I.kIn M.oex.kC (run_mkE (us := []) (vs := []) (ks := []) (ws := []) (zs := []) M F1 hr hb I .nil .nil rfl rfl (Nat.zero_le _) fun a ha => ?_)
  rw [hgv]
  exact N [] H _ a rfl (fun v hv => nomatch hv) ha fun H2 s2 x2 => q1 a H2 s2 ha x2
theorem pe_newEk (M : MkE X.K C fI) (F1 : FnOk X.prog X.w X.K X.mg X.base CX0 k fI fd ps sp) (hr : Room (k + 1) X.A) (hg : Gl X x) (hm : X.mg x = some (.ref C)) (hb : KBn X.K fd ps 1 ks g gV) (hgv : ∀ a zs, gV [.ref a] zs = .ref a :: q zs) (N : NewOk C sp q ks.length mk) (hkw : PK X kws tk)
    (hall : (backToKw pos (keywordEach kws X.env)).all (·.1.isSome) = true := by rfl) (hks : (backToKw pos (keywordEach kws X.env)).filterMap (·.1) = ks := by rfl) (hdb : (x == ("__debug__" : Str)) = false := by decide)
    (hpl : ((backTo pos (starEach [] X.env)).any (·.1) || (backToKw pos (keywordEach kws X.env)).any (·.1.isNone)) = false := by rfl) : PE X (.Call (.Name x p) [] kws pos) (tNew C ks.length mk tk) := by
  refine ⟨fun pins s σ H Q I h => wpAny_Call_Name_kw (ld_glob I hg hm ?_ hdb)⟩
  refine PySem.W.callWith_KW0 (h₀ := X.base) I.ok.mod.kin M.oex.kC hall ?_ hpl
  refine thn (hkw.run pos pins s σ H _ I h) fun ws s2 ⟨zs, H2, I2, rz, l2, hv, q1⟩ => ⟨I2.kIn, ?_⟩
  rw [hks]
  refine run_mkE (us := []) (vs := []) M F1 hr hb I2 .nil rz rfl l2 (Nat.zero_le _) fun a ha => ?_
  rw [hgv]
  exact N zs H2 _ a l2 hv ha fun H3 s3 x3 => q1 a H3 s3 ha x3
end
/-! ### the four kinds -/
section
variable {K : PySem.W.Frag} {C D D2 f2 : Addr} {fn gn : Str}
theorem same_new {H : Hp} {a : Addr} {o : HO} (h : H a = none) : Same H (upd H a o) := fun b u e => by
  rw [upd_ne (ne_of_none e h)]
  exact e
theorem new1 (SC : SupC K C D) (hno : PySem.W.findIn K (.ref C) fn = some none) : NewOk C (spInit1 K D fn) id 1 fun vs => vs.map fun v => (fn, v) := by
  intro vs H R a hl hv ha k
  match vs, hl with
  | [v], _ =>
    obtain ⟨d, hv⟩ := hv v (List.mem_cons_self ..)
    have s1 := same_new (o := exo a C none) ha
    refine ⟨a, C, v, d, rfl, upd_same, SC, hno, hv.mono s1, fun dx n ne => ⟨rfl, ?_⟩⟩
    refine k _ (fun b u e => ?_) (.inr ⟨dx, upd_same, by rw [upd_ne ne]; exact upd_same⟩)
    rw [upd_ne (ne_of_none e ha), upd_ne (ne_of_none (s1 _ _ e) n)]
    exact s1 _ _ e
theorem newM (SM : SupM K C D f2) (SC : SupC K C D2) (hno : PySem.W.findIn K (.ref C) fn = some none) : NewOk C (spInitM K D D2 f2 fn) id 1 fun vs => vs.flatMap fun v => [(fn, v), (fn, v)] := by
  intro vs H R a hl hv ha k
  match vs, hl with
  | [v], _ =>
    obtain ⟨d, hv⟩ := hv v (List.mem_cons_self ..)
    have s1 := same_new (o := exo a C none) ha
    refine ⟨a, C, v, d, rfl, upd_same, SM, SC, hno, hv.mono s1, fun dx n ne => ⟨rfl, ?_⟩⟩
    refine k _ (fun b u e => ?_) (.inr ⟨dx, by rw [upd_ne ne.symm]; exact upd_same, upd_same⟩)
    rw [upd_ne (ne_of_none (s1 _ _ e) n), upd_ne (ne_of_none e ha), upd_ne (ne_of_none (s1 _ _ e) n)]
    exact s1 _ _ e
theorem new2 (SC : SupC K C D) (hno : PySem.W.findIn K (.ref C) fn = some none) (hno2 : PySem.W.findIn K (.ref C) gn = some none) : NewOk C (spInit2 K D fn gn) id 2 fun vs => match vs with | [v, u] => [(gn, u), (fn, v)] | _ => [] := by
  intro vs H R a hl hv ha k
  match vs, hl with
  | [v, u], _ =>
    obtain ⟨d, h1⟩ := hv v (by simp)
    obtain ⟨e, h2⟩ := hv u (by simp)
    have s1 := same_new (o := exo a C none) ha
    refine ⟨a, C, v, d, u, e, rfl, upd_same, SC, hno, hno2, h1.mono s1, h2.mono s1, fun dx n ne => ⟨rfl, ?_⟩⟩
    refine k _ (fun b w q => ?_) (.inr ⟨dx, by rw [upd_ne ne.symm]; exact upd_same, upd_same⟩)
    rw [upd_ne (ne_of_none (s1 _ _ q) n), upd_ne (ne_of_none q ha), upd_ne (ne_of_none (s1 _ _ q) n)]
    exact s1 _ _ q
theorem new2r (SC : SupC K C D) (hno : PySem.W.findIn K (.ref C) fn = some none) (hno2 : PySem.W.findIn K (.ref C) gn = some none) : NewOk C (spInit2 K D fn gn) List.reverse 2 fun vs => match vs with | [u, v] => [(gn, u), (fn, v)] | _ => [] := by
  intro vs H R a hl hv ha k
  match vs, hl with
  | [u, v], hl =>
    exact new2 SC hno hno2 [v, u] H R a rfl (fun z hz => hv z (by simp at hz ⊢; exact hz.symm)) ha k
theorem new0 (SC : SupC K C D) : NewOk C (spInit0 K D) id 0 fun _ => [] := by
  intro vs H R a hl hv ha k
  match vs, hl with
  | [], _ => exact ⟨a, C, rfl, upd_same, SC, rfl, k _ (same_new ha) (.inl ⟨rfl, upd_same⟩)⟩
end
end Er
end

/-! Er19 -/
section
set_option maxHeartbeats 4000000
set_option exponentiation.threshold 10000
namespace Er
open PySem PySem.Spec PyProof.Rows L2 He
/-! ### lists of new errors -/
theorem same_trans {A B C : Hp} (h : Same A B) (k : Same B C) : Same A C := fun b o e => k b o (h b o e)
theorem same_refl {A : Hp} : Same A A := fun _ _ e => e
inductive Ers (H : Hp) : List V → List (Addr × List (Str × V)) → Prop
  | nil : Ers H [] []
  | cons {a C : Addr} {fs : List (Str × V)} {xs : List V} {l : List (Addr × List (Str × V))} (h : ErX H a C fs) (t : Ers H xs l) : Ers H (.ref a :: xs) ((C, fs) :: l)
theorem Ers.mono {H H2 : Hp} (s : Same H H2) : ∀ {xs : List V} {l : List (Addr × List (Str × V))}, Ers H xs l → Ers H2 xs l
  | _, _, .nil => .nil
  | _, _, .cons h t => .cons (h.mono s) (t.mono s)
theorem Ers.append {H : Hp} : ∀ {xs ys : List V} {l m : List (Addr × List (Str × V))}, Ers H xs l → Ers H ys m → Ers H (xs ++ ys) (l ++ m)
  | _, _, _, _, .nil, k => k
  | _, _, _, _, .cons h t, k => .cons h (t.append k)
theorem Ers.length {H : Hp} : ∀ {xs : List V} {l : List (Addr × List (Str × V))}, Ers H xs l → xs.length = l.length
  | _, _, .nil => rfl
  | _, _, .cons _ t => congrArg Nat.succ t.length
theorem Ers.get {H : Hp} : ∀ {xs : List V} {l : List (Addr × List (Str × V))} {i : Nat} {x : V}, Ers H xs l → xs[i]? = some x → ∃ a C fs, x = .ref a ∧ l[i]? = some (C, fs) ∧ ErX H a C fs
  | _, _, _, _, .nil, e => by simp at e
  | _, _, 0, _, .cons h t, e => by
    simp only [List.getElem?_cons_zero, Option.some.injEq] at e
    exact ⟨_, _, _, e.symm, rfl, h⟩
  | _, _, i + 1, _, .cons h t, e => by
    simp only [List.getElem?_cons_succ] at e ⊢
    exact t.get e
/-- what is needed of the two values -/
def Vs (H : Hp) (v u : V) : Prop := (∃ d, Va H v d) ∧ ∃ d, Va H u d
theorem Vs.mono {H H2 : Hp} {v u : V} (s : Same H H2) (h : Vs H v u) : Vs H2 v u := by
  obtain ⟨⟨d, h1⟩, e, h2⟩ := h
  exact ⟨⟨d, h1.mono s⟩, e, h2.mono s⟩
def Giv1 (σ : L2.St) (v u : V) (te : TE) (p : Addr × List (Str × V)) : Prop := ∀ (H : Hp) (Q : VK), Vs H v u → (∀ a H2, Same H H2 → ErX H2 a p.1 p.2 → Q (.ref a) H2) → te σ H Q
def Givs (σ : L2.St) (v u : V) (t : TA) (l : List (Addr × List (Str × V))) : Prop := ∀ (H : Hp) (Q : List V → Hp → Prop), Vs H v u → (∀ xs H2, Same H H2 → Ers H2 xs l → Q xs H2) → t σ H Q
section
variable {σ : L2.St} {v u : V} {C : Addr} {mk : List V → List (Str × V)} {i j : Nat}
theorem givs_nil : Givs σ v u tNil [] := fun H Q _ k => k [] H same_refl .nil
theorem givs_cons {te : TE} {t : TA} {p : Addr × List (Str × V)} {l : List (Addr × List (Str × V))} (h : Giv1 σ v u te p) (ht : Givs σ v u t l) : Givs σ v u (tCons te t) (p :: l) := fun H Q hv k =>
  h H _ hv fun a H2 s2 e2 => ht H2 _ (hv.mono s2) fun xs H3 s3 e3 => k (.ref a :: xs) H3 (same_trans s2 s3) (.cons (e2.mono s3) e3)
theorem giv_v (h : σ[i]? = some (some v)) : Giv1 σ v u (tNew C 1 mk (tCons (tVar i) tNil)) (C, mk [v]) := fun H Q hv k =>
  ⟨v, h, rfl, fun z hz => by
    obtain rfl : z = v := by simpa using hz
    exact hv.1, fun a H2 s2 _ e2 => k a H2 s2 e2⟩
theorem giv_vu (h : σ[i]? = some (some v)) (h2 : σ[j]? = some (some u)) : Giv1 σ v u (tNew C 2 mk (tCons (tVar i) (tCons (tVar j) tNil))) (C, mk [v, u]) := fun H Q hv k =>
  ⟨v, h, u, h2, rfl, fun z hz => by
    rcases (show z = v ∨ z = u by simpa using hz) with e | e
    · rw [e]; exact hv.1
    · rw [e]; exact hv.2, fun a H2 s2 _ e2 => k a H2 s2 e2⟩
theorem giv_uv (h : σ[i]? = some (some v)) (h2 : σ[j]? = some (some u)) : Giv1 σ v u (tNew C 2 mk (tCons (tVar j) (tCons (tVar i) tNil))) (C, mk [u, v]) := fun H Q hv k =>
  ⟨u, h2, v, h, rfl, fun z hz => by
    rcases (show z = u ∨ z = v by simpa using hz) with e | e
    · rw [e]; exact hv.2
    · rw [e]; exact hv.1, fun a H2 s2 _ e2 => k a H2 s2 e2⟩
theorem giv_0 : Giv1 σ v u (tNew C 0 mk tNil) (C, mk []) := fun H Q hv k => ⟨rfl, (by simp), fun a H2 s2 _ e2 => k a H2 s2 e2⟩
/-- .. as a list: the first one; one more behind a list that stands -/
def GivL (σ : L2.St) (v u : V) (H : Hp) (te : TE) (l : List (Addr × List (Str × V))) : Prop := ∀ (Q : VK), (∀ p xs H2, Same H H2 → H2 p = some (.lst xs) → Ers H2 xs l → Q (.ref p) H2) → te σ H Q
theorem givl_lst {t : TA} {l : List (Addr × List (Str × V))} {H : Hp} (hv : Vs H v u) (h : Givs σ v u t l) (hl : l.length ≤ 100) : GivL σ v u H (tLst t) l := fun Q k =>
  h H _ hv fun xs H2 s2 e2 => ⟨by rw [e2.length, sizeLine_eq]; omega, fun p hp => k p xs _ (same_trans s2 (same_new hp)) upd_same (e2.mono (same_new hp))⟩
theorem givl_cat {t : TA} {l m : List (Addr × List (Str × V))} {H : Hp} {p : Addr} {xs : List V} (hv : Vs H v u) (hp : σ[i]? = some (some (.ref p))) (hx : H p = some (.lst xs)) (he : Ers H xs l) (h : Givs σ v u t m) (hl : l.length + m.length ≤ 100) :
    GivL σ v u H (tOp rCat (tVar i) (tLst t)) (l ++ m) := fun Q k =>
  ⟨_, hp, h H _ hv fun ys H2 s2 e2 => ⟨by rw [e2.length, sizeLine_eq]; omega, fun q hq => ⟨p, q, xs, ys, rfl, rfl, same_new hq _ _ (s2 _ _ hx), upd_same, by rw [he.length, e2.length, sizeLine_eq]; omega, fun r hr =>
    k r (xs ++ ys) _ (same_trans s2 (same_trans (same_new hq) (same_new hr))) upd_same ((he.mono (same_trans s2 (same_trans (same_new hq) (same_new hr)))).append (e2.mono (same_trans (same_new hq) (same_new hr))))⟩⟩⟩
theorem use_lst {t : TA} {l : List (Addr × List (Str × V))} {H : Hp} {ts : TS} {D : Ends} (hv : Vs H v u) (h : Givs σ v u t l) (hl : l.length.ble 100 = true) (k : ∀ p xs H2, Same H H2 → H2 p = some (.lst xs) → Ers H2 xs l → ts D (σ.set j (some (.ref p))) H2) :
    tSeq (tAsg (tLst t) (gName j)) ts D σ H := by
  show tLst t σ H fun x H1 => ts D (σ.set j (some x)) H1
  exact givl_lst hv h (Nat.le_of_ble_eq_true hl) _ k
theorem use_cat {t : TA} {l m : List (Addr × List (Str × V))} {H : Hp} {p : Addr} {xs : List V} {ts : TS} {D : Ends} (hv : Vs H v u) (hp : σ[i]? = some (some (.ref p))) (hx : H p = some (.lst xs)) (he : Ers H xs l) (h : Givs σ v u t m) (hl : (l.length + m.length).ble 100 = true)
    (k : ∀ p xs H2, Same H H2 → H2 p = some (.lst xs) → Ers H2 xs (l ++ m) → ts D (σ.set j (some (.ref p))) H2) : tSeq (tAsg (tOp rCat (tVar i) (tLst t)) (gName j)) ts D σ H := by
  show tOp rCat (tVar i) (tLst t) σ H fun x H1 => ts D (σ.set j (some x)) H1
  exact givl_cat hv hp hx he h (Nat.le_of_ble_eq_true hl) _ k
theorem use_catr {t : TA} {l m : List (Addr × List (Str × V))} {H : Hp} {p : Addr} {xs : List V} {D : Ends} (hv : Vs H v u) (hp : σ[i]? = some (some (.ref p))) (hx : H p = some (.lst xs)) (he : Ers H xs l) (h : Givs σ v u t m) (hl : (l.length + m.length).ble 100 = true)
    (k : ∀ p xs H2, Same H H2 → H2 p = some (.lst xs) → Ers H2 xs (l ++ m) → D.rt (.ref p) H2) : tRet (tOp rCat (tVar i) (tLst t)) D σ H := by
  show tOp rCat (tVar i) (tLst t) σ H D.rt
  exact givl_cat hv hp hx he h (Nat.le_of_ble_eq_true hl) _ k
end
/-- a def that makes such a list -/
def spMade (n : Nat) (sel : V → V → List V) (l : V → V → List (Addr × List (Str × V))) : Sp := fun vs H Q _ => ∃ v u : V, vs = sel v u ∧ Vs H v u ∧ ∀ p xs H2, Same H H2 → H2 p = some (.lst xs) → Ers H2 xs (l v u) → Q (.ref p) H2
end Er
end

/-! Er20 -/
section
set_option maxHeartbeats 4000000
set_option exponentiation.threshold 10000
namespace Er
open PySem PySem.Spec PyProof.Rows L2 He
/-! ### lists of truths about one error -/
def Gvs (σ : L2.St) (H0 : Hp) (t : TA) (l : List V) : Prop := ∀ (H : Hp) (Q : List V → Hp → Prop), Same H0 H → Q l H → t σ H Q
def Gv1 (σ : L2.St) (H0 : Hp) (te : TE) (v : V) : Prop := ∀ (H : Hp) (Q : VK), Same H0 H → Q v H → te σ H Q
section
variable {σ : L2.St} {H0 : Hp} {i j : Nat}
theorem gvs_nil : Gvs σ H0 tNil [] := fun H Q _ q => q
theorem gvs_cons {te : TE} {t : TA} {v : V} {l : List V} (h : Gv1 σ H0 te v) (ht : Gvs σ H0 t l) : Gvs σ H0 (tCons te t) (v :: l) := fun H Q s q => h H _ s (ht H _ s q)
theorem isx_of {K : PySem.W.Frag} {H : Hp} {a C : Addr} {fs : List (Str × V)} {c : V} {cv : Value} {b : Bool} {Q : VK} (h : ErX H a C fs) (T : ExcC K C) (hc : ClsV c cv) (hk : PySem.W.kitOne K (.ref C) cv = some b) (q : Q (.bl b) H) : rIsX K [.ref a, c] H Q := by
  rcases h with ⟨_, h⟩ | ⟨d, h1, h2⟩
  · exact ⟨a, C, none, c, cv, b, rfl, hc, h, fun dx z => (nomatch z), T, hk, q⟩
  · refine ⟨a, C, some d, c, cv, b, rfl, hc, h1, fun dx z => ?_, T, hk, q⟩
    cases z
    exact ⟨_, h2⟩
theorem gv_isx {K : PySem.W.Frag} {a C : Addr} {fs : List (Str × V)} {c : V} {cv : Value} {b : Bool} (hv : σ[i]? = some (some (.ref a))) (h : ErX H0 a C fs) (T : ExcC K C) (hc : ClsV c cv) (hk : PySem.W.kitOne K (.ref C) cv = some b) :
    Gv1 σ H0 (tCB (rIsX K) (tCons (tVar i) (tCons (tC c) tNil))) (.bl b) := fun H Q s q => ⟨.ref a, hv, isx_of (h.mono s) T hc hk q⟩
theorem use_vlst {t : TA} {l : List V} {H : Hp} {ts : TS} {D : Ends} (s : Same H0 H) (h : Gvs σ H0 t l) (hl : l.length.ble 100 = true) (k : ∀ p H2, Same H0 H2 → H2 p = some (.lst l) → ts D (σ.set j (some (.ref p))) H2) : tSeq (tAsg (tLst t) (gName j)) ts D σ H := by
  show tLst t σ H fun x H1 => ts D (σ.set j (some x)) H1
  have hl := Nat.le_of_ble_eq_true hl
  exact h H _ s ⟨by rw [sizeLine_eq]; omega, fun p hp => k p _ (same_trans s (same_new hp)) upd_same⟩
theorem use_vcat {t : TA} {l m : List V} {H : Hp} {p : Addr} {ts : TS} {D : Ends} (s : Same H0 H) (hp : σ[i]? = some (some (.ref p))) (hx : H p = some (.lst l)) (h : Gvs σ H0 t m) (hl : (l.length + m.length).ble 100 = true)
    (k : ∀ p H2, Same H0 H2 → H2 p = some (.lst (l ++ m)) → ts D (σ.set j (some (.ref p))) H2) : tSeq (tAsg (tOp rCat (tVar i) (tLst t)) (gName j)) ts D σ H := by
  show tOp rCat (tVar i) (tLst t) σ H fun x H1 => ts D (σ.set j (some x)) H1
  have hl := Nat.le_of_ble_eq_true hl
  exact ⟨_, hp, h H _ s ⟨by rw [sizeLine_eq]; omega, fun q hq => ⟨p, q, l, m, rfl, rfl, same_new hq _ _ hx, upd_same, by rw [sizeLine_eq]; omega, fun r hr => k r _ (same_trans s (same_trans (same_new hq) (same_new hr))) upd_same⟩⟩⟩
end
end Er
end

/-! Er21 -/
section
set_option maxHeartbeats 4000000
set_option exponentiation.threshold 10000
namespace Er
open PySem PySem.Spec PyProof.Rows L2 He
/-! ### what the two values show -/
theorem len_list0 : (PySem.listText []).length = 2 := by decide +kernel
theorem len_list1 (s : Str) : (PySem.listText [s]).length = s.length + 2 := by
  show (PySem.textFrom 0 (Str.ofString "[") [s] ++ Str.ofString "]").length = _
  simp only [PySem.textFrom, PySem.Str.length_append]
  have e0 : (Str.ofString "").length = 0 := rfl
  have e1 : (Str.ofString "[").length = 1 := rfl
  have e2 : (Str.ofString "]").length = 1 := rfl
  have e3 : (Str.ofString ", ").length = 2 := rfl
  simp [e1, e2, e3, PySem.Str.length_append]
  omega
theorem len_list2 (s t : Str) : (PySem.listText [s, t]).length = s.length + t.length + 4 := by
  show (PySem.textFrom 0 (Str.ofString "[") [s, t] ++ Str.ofString "]").length = _
  simp only [PySem.textFrom, PySem.Str.length_append]
  have e0 : (Str.ofString "").length = 0 := rfl
  have e1 : (Str.ofString "[").length = 1 := rfl
  have e2 : (Str.ofString "]").length = 1 := rfl
  have e3 : (Str.ofString ", ").length = 2 := rfl
  simp [e1, e2, e3, PySem.Str.length_append]
  omega
theorem ten50 {n : Int} (h : n.natAbs < 10 ^ 50) : n.natAbs.log2 < 1920 := by
  by_cases z : n.natAbs = 0
  · rw [z]; decide
  · exact (Nat.log2_lt z).mpr (Nat.lt_trans h (by decide +kernel))
theorem int_len {n : Int} (h : n.natAbs < 10 ^ 50) : (Str.ofString (toString n)).length ≤ 51 := by
  rw [PySem.ofString_length]
  exact PySem.int_text_length_le10 (a := n) (k := 50) (by decide) h
structure Fine (d : PyData) : Prop where
  sh : d.showable = true
  len : d.shown.length ≤ 200
  dep : d.depth ≤ 2
theorem Va.fine {H : Hp} {v : V} {d : PyData} (x : Va H v d) : Fine d := by
  cases x with
  | non => exact ⟨by decide +kernel, by decide +kernel, by decide +kernel⟩
  | bl b => cases b <;> exact ⟨by decide +kernel, by decide +kernel, by decide +kernel⟩
  | int n h =>
    refine ⟨?_, ?_, ?_⟩
    · rw [PyData.showable.eq_4]; exact decide_eq_true (ten50 h)
    · rw [PyData.shown.eq_3]; exact Nat.le_trans (int_len h) (by decide)
    · rw [PyData.depth.eq_6]; decide
  | str x h h2 =>
    refine ⟨rfl, ?_, ?_⟩
    · rw [PyData.shown.eq_4]; omega
    · rw [PyData.depth.eq_7]; decide
  | lst e h =>
    refine ⟨?_, ?_, ?_⟩
    · rw [PyData.showable.eq_5, PyData.showableAll.eq_2, PyData.showable.eq_4, decide_eq_true (ten50 h)]; rfl
    · rw [PyData.shown.eq_5, PyData.shownAll.eq_2, PyData.shown.eq_3, PyData.shownAll.eq_1, len_list1]
      have := int_len h
      omega
    · rw [PyData.depth.eq_1, PyData.depthAll.eq_2, PyData.depth.eq_6, PyData.depthAll.eq_1]; decide
  | tup e => exact ⟨by decide +kernel, by decide +kernel, by decide +kernel⟩
  | dct e e2 => exact ⟨by decide +kernel, by decide +kernel, by decide +kernel⟩
theorem fine0 : (PyData.list []).showable = true ∧ (PyData.list []).shown.length ≤ sizeLine ∧ (PyData.list []).depth ≤ 20 := by
  refine ⟨by decide +kernel, ?_, by decide +kernel⟩
  rw [PyData.shown.eq_5, PyData.shownAll.eq_1, len_list0, sizeLine_eq]
  omega
theorem fine1 {d : PyData} (h : Fine d) : (PyData.list [d]).showable = true ∧ (PyData.list [d]).shown.length ≤ sizeLine ∧ (PyData.list [d]).depth ≤ 20 := by
  refine ⟨?_, ?_, ?_⟩
  · rw [PyData.showable.eq_5, PyData.showableAll.eq_2, h.sh]; rfl
  · rw [PyData.shown.eq_5, PyData.shownAll.eq_2, PyData.shownAll.eq_1, len_list1, sizeLine_eq]
    have := h.len
    omega
  · rw [PyData.depth.eq_1, PyData.depthAll.eq_2, PyData.depthAll.eq_1]
    have := h.dep
    omega
theorem fine2 {d e : PyData} (h : Fine d) (k : Fine e) : (PyData.list [d, e]).showable = true ∧ (PyData.list [d, e]).shown.length ≤ sizeLine ∧ (PyData.list [d, e]).depth ≤ 20 := by
  refine ⟨?_, ?_, ?_⟩
  · rw [PyData.showable.eq_5, PyData.showableAll.eq_2, PyData.showableAll.eq_2, h.sh, k.sh]; rfl
  · rw [PyData.shown.eq_5, PyData.shownAll.eq_2, PyData.shownAll.eq_2, PyData.shownAll.eq_1, len_list2, sizeLine_eq]
    have := h.len
    have := k.len
    omega
  · rw [PyData.depth.eq_1, PyData.depthAll.eq_2, PyData.depthAll.eq_2, PyData.depthAll.eq_1]
    have := h.dep
    have := k.dep
    omega
/-- what repr shows of a list of them -/
structure ShL (H : Hp) (xs : List V) (d : PyData) : Prop where
  sh : ∀ H2, Same H H2 → ∀ a, H2 a = some (.lst xs) → Sh H2 (.ref a) d
  ok : d.showable = true
  len : d.shown.length ≤ sizeLine
  dep : d.depth ≤ 20
theorem shl0 {H : Hp} : ∃ d, ShL H [] d := ⟨.list [], fun H2 s a ha => .lst ha .nil, fine0.1, fine0.2.1, fine0.2.2⟩
theorem shl1 {H : Hp} {v : V} (h : ∃ d, Va H v d) : ∃ d, ShL H [v] d := by
  obtain ⟨d, h⟩ := h
  have g := fine1 h.fine
  exact ⟨.list [d], fun H2 s a ha => .lst ha (.cons (h.mono s).sh .nil), g.1, g.2.1, g.2.2⟩
theorem shl2 {H : Hp} {v u : V} (h : Vs H v u) : ∃ d, ShL H [v, u] d := by
  obtain ⟨⟨d, h⟩, e, k⟩ := h
  have g := fine2 h.fine k.fine
  exact ⟨.list [d, e], fun H2 s a ha => .lst ha (.cons (h.mono s).sh (.cons (k.mono s).sh .nil)), g.1, g.2.1, g.2.2⟩
end Er
end

/-! Er22 -/
section
set_option maxHeartbeats 4000000
set_option exponentiation.threshold 10000
namespace Er
open PySem PySem.Spec PyProof.Rows L2 He
/-- C(): an own error without an __init__ of its own, made of nothing -/
theorem pe_excz {X : Cx} {C : Addr} {bmB : List Value} {B newId initId : String} {x : Str} {p pos : Pos} (F : ExcBaseFacts B newId initId bmB) (q : PySem.W.excIn X.K C bmB newId = true) (gC : X.mg x = some (.ref C)) (kC : PySem.W.keepIn X.K (.ref C) = true) (hg : Gl X x)
    (hdb : (x == ("__debug__" : Str)) = false := by decide) : PE X (.Call (.Name x p) [] [] pos) (fun _ H Q => ∀ a, H a = none → Q (.ref a) (upd H a (exo a C none))) := by
  refine ⟨fun pins s σ H Q I h => wpAny_Call_Name_kw (ld_glob I hg gC ?_ hdb)⟩
  refine PySem.W.callWith_K0 I.kIn kC ?_
  obtain ⟨bm, N, nm, qn, bs, hdct, sn, sub, ab, col, dd, k0, k1, k2, k3, k5, mN, hC, hN, hni, T⟩ := exc_obj I.kIn q
  refine wpAny_call_exc_subT F T hC hN hni (fun h' a hm => ?_) (by rw [sizeLine_eq]; show 0 ≤ _; omega)
  have hn := HOk.gone I.hok hm.new
  obtain ⟨t, ht, h2, h3⟩ := hm.there
  exact ⟨.ref a, _, Inv.laidN I hm.keeps hm.new hn (exo_ok ht), rfl, h a hn⟩
end Er
end

/-! Er23 -/
section
set_option maxHeartbeats 4000000
set_option exponentiation.threshold 10000
namespace Er
open PySem PySem.Spec PyProof.Rows L2 He
/-- repr of one of the two values -/
def rReprV : List V → Hp → VK → Prop := fun xs H Q => ∃ (v : V) (d : PyData), xs = [v] ∧ Va H v d ∧ Q (.str d.shown) H
theorem call_reprV {X : Cx} {k : Nat} (hr : Room k X.A) (hg : X.A.guards = some []) (hm : ∃ o, X.K.lookup sysModules = some o) : CallR X (.builtin "repr") rReprV := by
  intro pins s σ H xs us Q I r h
  obtain ⟨v, d, rfl, hv, q⟩ := h
  have hf := hv.fine
  have byref : ∀ {a : Addr}, v = .ref a → wpAny (model X.prog X.w) X.A (call (.builtin "repr") us) (EP X pins σ Q) X.xe s := by
    intro a e
    subst e
    exact call_reprE hr hg hm pins s σ H _ us Q I r ⟨a, d, rfl, hv.sh, hf.sh, by rw [sizeLine_eq]; have := hf.len; omega, by have := hf.dep; omega, q⟩
  cases hv with
  | non =>
    obtain ⟨u, rfl, ru⟩ := vals1 r
    cases (show u = Value.none from ru)
    exact PySem.P.repr_of_none ⟨.str (PyData.shown .none), H, I.tok _, ⟨_, rfl⟩, q⟩
  | bl b =>
    obtain ⟨u, rfl, ru⟩ := vals1 r
    cases (show u = Value.bool b from ru)
    exact PySem.P.repr_of_bool ⟨.str (PyData.shown (.bool b)), H, I.tok _, ⟨_, rfl⟩, q⟩
  | int n h =>
    obtain ⟨u, rfl, ru⟩ := vals1 r
    obtain ⟨t, e⟩ := (show ∃ t, u = Value.int n t from ru)
    subst e
    exact PySem.P.repr_of_int (ten50 h) ⟨.str (PyData.shown (.int n)), H, I.tok _, ⟨_, rfl⟩, q⟩
  | str x h h2 =>
    obtain ⟨u, rfl, ru⟩ := vals1 r
    obtain ⟨t, e⟩ := (show ∃ t, u = Value.str x t from ru)
    subst e
    exact PySem.P.repr_of_str (x := x) ⟨.str (PyData.shown (.str x)), H, I.tok _, ⟨_, rfl⟩, q⟩ (by rw [sizeLine_eq]; omega)
  | lst e h => exact byref rfl
  | tup e => exact byref rfl
  | dct e e2 => exact byref rfl
end Er
end

/-! Eh2 -/
section
set_option maxHeartbeats 4000000
set_option exponentiation.threshold 10000
namespace Er
open PySem PySem.Spec PyProof.Rows L2 He
/-- a property's or static method's def -/
theorem DefP.fun_ok {K : PySem.W.Frag} {d : DefP} {st : Stmt} (e : fnP K d = d.val) (c : d.ok K = true) (e1 : defArgs st = d.params) (e2 : defBody st = d.body) (e3 : defScope st = d.scope) :
    (∃ fd, L2.Fun K d.name d.qual st (d.at_ K) fd) ∧ ∃ rest, PySem.W.recIn K (ma K (ga K d.cls) d.name) d.kind = some (.ref (d.at_ K) :: rest) := by
  obtain ⟨kp, c⟩ := ba c
  obtain ⟨c1, c2⟩ := ba c
  refine ⟨?_, ?_⟩
  · unfold fnP at e
    cases q : K.lookup (d.at_ K) with
    | none =>
      rw [q] at e
      cases e
    | some o =>
      obtain ⟨oc, od, dt, osl⟩ := o
      rw [q] at e c1
      cases dt with
      | func fd =>
        obtain ⟨n1, n2, n3, n4, n5, n6, n7, n8, n9, n10, n11, n12, n13, n14, n15⟩ := fd
        have z : (some (n1, n2, n3, n4, n5, n6, n7, n15) : FnW) = some (d.name, d.qual, d.params, .stmts d.body, d.scope, mainGlobals, [], builtinsNs) := e
        simp only [Option.some.injEq, Prod.mk.injEq] at z
        obtain ⟨h1, h2, h3, h4, h5, h6, h7, h8⟩ := z
        subst h1 h2 h3 h4 h5 h6 h7 h8
        obtain ⟨k1, k2⟩ := ba (show (PySem.W.codeIn K n13 d.qual && nonB n8) = true from c1)
        have z8 : n8 = .none := by
          cases n8 <;> first | rfl | cases k2
        subst z8
        rw [← e1, ← e2, ← e3] at q
        exact ⟨_, ⟨oc, od, n9, n10, n11, n12, n13, n14, osl, rfl, q, k1⟩, kp⟩
      | _ => cases e
  · split at c2
    · rename_i a rest q
      exact ⟨rest, by rw [q, beq_iff_eq.mp c2]⟩
    · cases c2
end Er
end

/-! Ow1 -/
section
set_option maxHeartbeats 4000000
set_option exponentiation.threshold 10000
/-! a + b, a - b, a * b, -a, where a is an instance of an own class whose methods these are. -/
namespace Ow
open PySem PySem.Spec PyProof.Rows L2
/-- the class at C has the method for the operator, and is not below another class of the other side -/
structure OpC (K : PySem.W.Frag) (C f : Addr) (op : Operator) : Prop where
  cls : Cls K C
  fst : PySem.W.selfFirst K C = true
  has : PySem.W.findIn K (.ref C) (PySem.dunder op.info.2) = some (some (.ref f))
  fn : PySem.W.isFn K (.ref f) = true
/-- both of the class -/
def rOwnS (C : Addr) (sp : Sp) : R2 := fun x y H Q => ∃ (a b dx dy : Addr) (fs gs : List (Str × V)), x = .ref a ∧ y = .ref b ∧ H a = some (.ins C dx fs) ∧ H b = some (.ins C dy gs) ∧ sp [.ref a, .ref b] H Q E0
/-- a whole number on the right -/
def rOwnI (C : Addr) (sp : Sp) : R2 := fun x y H Q => ∃ (a dx : Addr) (fs : List (Str × V)) (i : Int), x = .ref a ∧ y = .int i ∧ H a = some (.ins C dx fs) ∧ sp [.ref a, .int i] H Q E0
section
variable {X : Cx} {k : Nat} {C f : Addr} {fd : FuncData} {ps : List Str} {sp : Sp} {op : Operator}
theorem op_ownS (c : OpC X.K C f op) (F : FnOk X.prog X.w X.K X.mg X.base CX0 k f fd ps sp) (hr : Room k X.A) (hb : Binds X.K fd ps []) : OpR X (binaryOp op) (rOwnS C sp) := by
  intro pins s σ H x y v u Q I rx ry h
  obtain ⟨a, b, dx, dy, fs, gs, rfl, rfl, ea, eb, q⟩ := h
  obtain rfl : v = Value.ref a := rx
  obtain rfl : u = Value.ref b := ry
  obtain ⟨mA, O, _⟩ := ins_get I.hok ea
  obtain ⟨od, J, _⟩ := O.look
  obtain ⟨mB, OB, _⟩ := ins_get I.hok eb
  obtain ⟨odB, JB, _⟩ := OB.look
  obtain ⟨m, fr⟩ := I.fr
  refine PySem.W.binop_K fr I.ok.mod.kin J JB.type c.fst c.has c.fn (wpAny_mono (run_fn (us := [.ref a, .ref b]) (vs := [.ref a, .ref b]) F hr hb .nil pass0 I (.cons rfl (.cons rfl .nil)) q) (fun w s2 h2 => ?_) fun _ _ e => e)
  obtain ⟨z, H2, I2, rz, q2⟩ := h2
  exact SlX.cmpback rz ⟨z, H2, I2, rz, q2⟩
theorem op_ownI (c : OpC X.K C f op) (F : FnOk X.prog X.w X.K X.mg X.base CX0 k f fd ps sp) (hr : Room k X.A) (hb : Binds X.K fd ps []) {rc fo ro : Option Value} (h1 : PySem.W.findIn X.K (.ref C) (dunderR op.info.2) = some rc) (hp : rc = none ∨ ∃ g : Addr, rc = some (.ref g))
    (h2 : PySem.W.findIn X.K (.type "int") (PySem.dunder op.info.2) = some fo) (h3 : PySem.W.findIn X.K (.type "int") (dunderR op.info.2) = some ro) (h4 : PySem.W.subIn X.K (.type "int") (.ref C) = some false) : OpR X (binaryOp op) (rOwnI C sp) := by
  intro pins s σ H x y v u Q I rx ry h
  obtain ⟨a, dx, fs, i, rfl, rfl, ea, q⟩ := h
  obtain rfl : v = Value.ref a := rx
  obtain ⟨t, rfl⟩ : ∃ t, u = Value.int i t := ry
  obtain ⟨mA, O, _⟩ := ins_get I.hok ea
  obtain ⟨od, J, _⟩ := O.look
  obtain ⟨m, fr⟩ := I.fr
  refine PySem.W.ksp_binT (T := "int") fr I.ok.mod.kin J rfl c.fst c.has c.fn h1 hp h2 h3 h4 (wpAny_mono (run_fn (us := [.ref a, .int i t]) (vs := [.ref a, .int i]) F hr hb .nil pass0 I (.cons rfl (.cons ⟨t, rfl⟩ .nil)) q) (fun w s2 h2 => ?_) fun _ _ e => e)
  obtain ⟨z, H2, I2, rz, q2⟩ := h2
  exact SlX.cmpback rz ⟨z, H2, I2, rz, q2⟩
end
/-! ### one-place words -/
/-- the class at C has the method -/
structure MeC (K : PySem.W.Frag) (C f : Addr) (name : Str) : Prop where
  has : PySem.W.findIn K (.ref C) name = some (some (.ref f))
  fn : PySem.W.isFn K (.ref f) = true
def rOwn1 (C : Addr) (sp : Sp) : V → Hp → VK → Prop := fun x H Q => ∃ (a dx : Addr) (fs : List (Str × V)), x = .ref a ∧ H a = some (.ins C dx fs) ∧ sp [.ref a] H Q E0
/-- .. a text comes back -/
def rOwnT (C : Addr) (sp : Sp) : List V → Hp → VK → Prop := fun xs H Q => ∃ (a dx : Addr) (fs : List (Str × V)), xs = [.ref a] ∧ H a = some (.ins C dx fs) ∧ sp [.ref a] H (fun v H2 => ∃ z : Str, v = .str z ∧ Q v H2) E0
section
variable {X : Cx} {k : Nat} {C f : Addr} {fd : FuncData} {ps : List Str} {sp : Sp}
theorem un_own (c : MeC X.K C f "__neg__") (F : FnOk X.prog X.w X.K X.mg X.base CX0 k f fd ps sp) (hr : Room k X.A) (hb : Binds X.K fd ps []) : UnR X (unaryOp .USub) (rOwn1 C sp) := by
  intro pins s σ H x v Q I rx h
  obtain ⟨a, dx, fs, rfl, ea, q⟩ := h
  obtain rfl : v = Value.ref a := rx
  obtain ⟨mA, O, _⟩ := ins_get I.hok ea
  obtain ⟨od, J, _⟩ := O.look
  obtain ⟨m, fr⟩ := I.fr
  exact PySem.W.ksp_neg fr I.ok.mod.kin J c.has c.fn (run_fn (us := [.ref a]) (vs := [.ref a]) F hr hb .nil pass0 I (.cons rfl .nil) q)
/-- the def runs a little deeper than the body -/
theorem run_in1 {pins : List (Addr × Obj)} {σ : L2.St} {H : Hp} {s : Shared} {Q : VK} {us : List Value} {vs : List V} (F : FnOk X.prog X.w X.K X.mg X.base CX0 k f fd ps sp) (hr : Room (k + 1) X.A) (hb : Binds X.K fd ps []) (I : Inv X pins σ H s) (r : Vals vs us) (h : sp vs H Q E0) :
    wpAny (model X.prog X.w) X.A.in1 (call (.ref f) us) (EP X pins σ Q) X.xe s := by
  have hl : (us ++ []).length = ps.length := by rw [List.append_nil, ← r.length]; exact F.len _ _ _ _ h
  have b := hb s us I.kIn hl
  rw [List.append_nil] at b
  refine wpAny_call (codeAny_mono (F.run X.A.in1 X.stack s H ⟨us, []⟩ us vs Q E0 hr.in1 I.env0.in1 b r h) fun r s' hq => ?_)
  cases r with
  | error e => exact False.elim hq
  | ok fl =>
    cases fl with
    | ret u => exact I.after hq
    | next => exact False.elim hq
    | brk => exact False.elim hq
    | cont => exact False.elim hq
theorem run_in2 {pins : List (Addr × Obj)} {σ : L2.St} {H : Hp} {s : Shared} {Q : VK} {us : List Value} {vs : List V} (F : FnOk X.prog X.w X.K X.mg X.base CX0 k f fd ps sp) (hr : Room (k + 2) X.A) (hb : Binds X.K fd ps []) (I : Inv X pins σ H s) (r : Vals vs us) (h : sp vs H Q E0) :
    wpAny (model X.prog X.w) X.A.in1.in1 (call (.ref f) us) (EP X pins σ Q) X.xe s := by
  have hl : (us ++ []).length = ps.length := by rw [List.append_nil, ← r.length]; exact F.len _ _ _ _ h
  have b := hb s us I.kIn hl
  rw [List.append_nil] at b
  refine wpAny_call (codeAny_mono (F.run X.A.in1.in1 X.stack s H ⟨us, []⟩ us vs Q E0 hr.in1.in1 I.env0.in1.in1 b r h) fun r s' hq => ?_)
  cases r with
  | error e => exact False.elim hq
  | ok fl =>
    cases fl with
    | ret u => exact I.after hq
    | next => exact False.elim hq
    | brk => exact False.elim hq
    | cont => exact False.elim hq
theorem strback {P : Value → Shared → Prop} {z : Str} {v : Value} {s' : Shared} (r : RelV (.str z) v) (h : P v s') : PySem.W.StrBack P v s' := by
  obtain ⟨t, e⟩ := (show ∃ t, v = Value.str z t from r)
  cases e
  exact h
/-- repr(x) by an own __repr__ -/
theorem repr_own (c : MeC X.K C f "__repr__") (F : FnOk X.prog X.w X.K X.mg X.base CX0 k f fd ps sp) (hr : Room (k + 1) X.A) (hb : Binds X.K fd ps []) : CallR X (.builtin "repr") (rOwnT C sp) := by
  intro pins s σ H xs us Q I r h
  obtain ⟨a, dx, fs, rfl, ea, q⟩ := h
  obtain ⟨u, rfl, ru⟩ := vals1 r
  obtain rfl : u = Value.ref a := ru
  obtain ⟨mA, O, _⟩ := ins_get I.hok ea
  obtain ⟨od, J, _⟩ := O.look
  obtain ⟨m, fr⟩ := I.fr
  refine PySem.W.repr_K (by have := hr.in1.un; omega) fr I.ok.mod.kin J c.has c.fn (wpAny_mono (run_in1 (us := [.ref a]) (vs := [.ref a]) F hr hb I (.cons rfl .nil) q) (fun w s2 h2 => ?_) fun _ _ e => e)
  obtain ⟨z, H2, I2, rz, t, rfl, q2⟩ := h2
  exact strback rz ⟨.str t, H2, I2, rz, q2⟩
/-- str(x) by an own __str__ -/
theorem str_own (c : MeC X.K C f "__str__") (F : FnOk X.prog X.w X.K X.mg X.base CX0 k f fd ps sp) (hr : Room (k + 2) X.A) (hb : Binds X.K fd ps []) : CallR X (.type "str") (rOwnT C sp) := by
  intro pins s σ H xs us Q I r h
  obtain ⟨a, dx, fs, rfl, ea, q⟩ := h
  obtain ⟨u, rfl, ru⟩ := vals1 r
  obtain rfl : u = Value.ref a := ru
  obtain ⟨mA, O, _⟩ := ins_get I.hok ea
  obtain ⟨od, J, _⟩ := O.look
  refine PySem.W.kso_call (by have := hr.in1.in1.un; omega) I.kIn J c.has c.fn (wpAny_mono (run_in2 (us := [.ref a]) (vs := [.ref a]) F hr hb I (.cons rfl .nil) q) (fun w s2 h2 => ?_) fun _ _ e => e)
  obtain ⟨z, H2, I2, rz, t, rfl, q2⟩ := h2
  exact strback rz ⟨.str t, H2, I2, rz, q2⟩
end
end Ow
end

/-! Ow2 -/
section
set_option maxHeartbeats 4000000
set_option exponentiation.threshold 10000
/-! a == b where a is an instance of an own class with __eq__; bool(a), abs(a). -/
namespace Ow
open PySem PySem.Spec PyProof.Rows L2
def rCmpOwn (K : PySem.W.Frag) (C : Addr) (sp : Sp) : R2 := fun x y H Q => ∃ (a dx : Addr) (fs : List (Str × V)) (t : Value), x = .ref a ∧ H a = some (.ins C dx fs) ∧ TyX K H y t ∧ PySem.W.notFirst K C t = true ∧ sp [.ref a, y] H Q E0
section
variable {X : Cx} {k : Nat} {C f : Addr} {fd : FuncData} {ps : List Str} {sp : Sp} {op : CmpOp}
theorem rich_own (c : MeC X.K C f (cmpInfo op).2.1) (F : FnOk X.prog X.w X.K X.mg X.base CX0 k f fd ps sp) (hr : Room k X.A) (hb : Binds X.K fd ps []) : OpR X (richCompare op) (rCmpOwn X.K C sp) := by
  intro pins s σ H x y v u Q I rx ry h
  obtain ⟨a, dx, fs, t, rfl, ea, ty, nf, q⟩ := h
  obtain rfl : v = Value.ref a := rx
  obtain ⟨mA, O, _⟩ := ins_get I.hok ea
  obtain ⟨od, J, _⟩ := O.look
  obtain ⟨m, fr⟩ := I.fr
  obtain ⟨P, kx, hp, _⟩ := kit_of I ry ty
  refine PySem.W.cmp_K (by have := hr.un; omega) fr I.ok.mod.kin J (kx.ty _ _ I.kIn hp) nf c.has c.fn (wpAny_mono (run_fn (us := [.ref a, u]) (vs := [.ref a, y]) F hr hb .nil pass0 I (.cons rfl (.cons ry .nil)) q) (fun w s2 h2 => ?_) fun _ _ e => e)
  obtain ⟨z, H2, I2, rz, q2⟩ := h2
  exact SlX.cmpback rz ⟨z, H2, I2, rz, q2⟩
theorem eq_own (c : MeC X.K C f "__eq__") (F : FnOk X.prog X.w X.K X.mg X.base CX0 k f fd ps sp) (hr : Room k X.A) (hb : Binds X.K fd ps []) : OpR X (compareOp .Eq) (rCmpOwn X.K C sp) := rich_own (op := .Eq) c F hr hb
/-- the truth of a by an own __bool__ -/
theorem tru_own (c : MeC X.K C f "__bool__") (F : FnOk X.prog X.w X.K X.mg X.base CX0 k f fd ps sp) (hr : Room k X.A) (hb : Binds X.K fd ps []) :
    TruR X (fun x H Q => ∃ (a dx : Addr) (fs : List (Str × V)), x = .ref a ∧ H a = some (.ins C dx fs) ∧ sp [.ref a] H (fun v H2 => ∃ b : Bool, v = .bl b ∧ Q b H2) E0) := by
  intro pins s σ H x v Q I rx h
  obtain ⟨a, dx, fs, rfl, ea, q⟩ := h
  obtain rfl : v = Value.ref a := rx
  obtain ⟨mA, O, _⟩ := ins_get I.hok ea
  obtain ⟨od, J, _⟩ := O.look
  obtain ⟨m, fr⟩ := I.fr
  refine PySem.W.truthy_K fr I.ok.mod.kin J c.has c.fn (wpAny_mono (run_fn (us := [.ref a]) (vs := [.ref a]) F hr hb .nil pass0 I (.cons rfl .nil) q) (fun w s2 h2 => ?_) fun _ _ e => e)
  obtain ⟨z, H2, I2, rz, b, rfl, q2⟩ := h2
  cases (show w = Value.bool b from rz)
  exact ⟨H2, I2, q2⟩
/-- abs(a) by an own __abs__ -/
theorem abs_own (c : MeC X.K C f "__abs__") (F : FnOk X.prog X.w X.K X.mg X.base CX0 k f fd ps sp) (hr : Room (k + 1) X.A) (hb : Binds X.K fd ps []) :
    CallR X (.builtin "abs") (fun xs H Q => ∃ (a dx : Addr) (fs : List (Str × V)), xs = [.ref a] ∧ H a = some (.ins C dx fs) ∧ sp [.ref a] H Q E0) := by
  intro pins s σ H xs us Q I r h
  obtain ⟨a, dx, fs, rfl, ea, q⟩ := h
  obtain ⟨u, rfl, ru⟩ := vals1 r
  obtain rfl : u = Value.ref a := ru
  obtain ⟨mA, O, _⟩ := ins_get I.hok ea
  obtain ⟨od, J, _⟩ := O.look
  refine Calls.call_function_entry kind_abs plain_abs entry_abs (args_abs _) ?_
  unfold Builtin.«abs»
  refine wpAny_bind (m := oneArg "abs" _) (wpAny_pure ?_)
  refine wpAny_bind (m := callSpecial? (.ref a) (Str.ofString "__abs__")) (PySem.W.special_fn I.kIn J c.has (beq_iff_eq.mp c.fn) (wpAny_mono (run_in1 (us := [.ref a]) (vs := [.ref a]) F hr hb I (.cons rfl .nil) q) (fun w s2 h2 => ?_) fun _ _ e => e))
  exact wpAny_pure ⟨_, rfl, h2⟩
end
end Ow
end

/-! Ow3 -/
section
set_option maxHeartbeats 4000000
set_option exponentiation.threshold 10000
/-! a != b where a's class has an own __eq__ and no __ne__. -/
namespace Ow
open PySem PySem.Spec PyProof.Rows L2
section
variable {prog : Program} {w : World} {A : Around} {E : Value → Shared → Prop} {s : Shared} {K : PySem.W.Frag} {x C f : Addr} {ox : Obj} {od : Option Obj} {b tb : Value}
/-- a special method that is a built-in's, asked only if it is there -/
theorem ifBound_bi {M : Model} {name : Str} {id : String} {args : List Value} {Q : Option Value → Shared → Prop} (X : K.In s.heap) (I : PySem.W.InstAt s.heap x ox C od) (hs : PySem.W.findIn K (.ref C) name = some (some (.builtin id)))
    (hb : ∀ self, bindSpecial (.builtin id) self = pure (.builtin id, [self])) (h : wpAny M A (call (.builtin id) (.ref x :: args)) (fun v => Q (some v)) E s) : wpAny M A (callSpecialIfBound? (.ref x) name args) Q E s := by
  have bound : PySem.W.Looks M s.heap (bindSpecial (.builtin id) (.ref x)) (.builtin id, [.ref x]) := .of_pure (hb _)
  have called : wpAny M A (call (.builtin id) ([.ref x] ++ args) >>= fun v => pure (some v)) Q E s := wpAny_bind (wpAny_mono h (fun _ _ q => wpAny_pure q) fun _ _ q => q)
  rw [callSpecialIfBound?, bindSpecialIfBound?]
  refine wpAny_holding <| wpAny_bind <| wpAny_bind <| wpAny_bind <| I.type.here <| (PySem.W.looks_findIn X hs).here <| wpAny_bind <| wpAny_askSetting ?_
  refine wpAny_ite ?_
  split <;> first | exact wpAny_bind (bound.here (wpAny_pure (by exact called))) | exact wpAny_tryCatch (wpAny_bind (bound.here (wpAny_pure (by exact called))))
theorem ne_slot {Q : Value → Shared → Prop} (hu : A.in1.units < cLine) (X : K.In s.heap) (I : PySem.W.InstAt s.heap x ox C od) (hm : PySem.W.mroIn K C (.type "object") = some true) (he : PySem.W.findIn K (.ref C) "__eq__" = some (some (.ref f))) (hf : PySem.W.isFn K (.ref f) = true)
    (h : wpAny (model prog w) A.in1 (call (.ref f) [.ref x, b]) (fun v s' => ∃ k, v = .bool k ∧ Q (.bool (!k)) s') E s) : wpAny (model prog w) A (call (.builtin "object.__ne__") [.ref x, b]) Q E s := by
  refine wpAny_call (codeAny_call_builtin (by decide +kernel) PySem.F.cmpEntry_ne (PySem.W.check_slot (i := "object.__ne__") (owner := "object") (n := "__ne__") PySem.F.cmpKind_ne PySem.F.cmpSplit_ne (I.type.andThen (PySem.W.looks_mroIn X hm)) (PySem.F.cmpArgs_ne _ _) ?_))
  unfold Builtin.«object.__ne__»
  refine wpAny_bind (m := slotArgs "__ne__" 1 _) (wpAny_pure ?_)
  refine wpAny_bind (m := cRoomFor _ _) (wpAny_cRoomFor hu ?_)
  refine wpAny_bind (m := callSpecialIfBound? (.ref x) (Str.ofString "__eq__") _) (PySem.W.ifBound_K X I he hf (wpAny_mono h (fun r s' hq => ?_) fun _ _ y => y))
  obtain ⟨k, rfl, q⟩ := hq
  refine wpAny_bind (m := truthy (.bool k)) (wpAny_truthy_bool ?_)
  exact wpAny_pure q
theorem ne_K {Q : Value → Shared → Prop} (hu : A.in1.units < cLine) (X : K.In s.heap) (I : PySem.W.InstAt s.heap x ox C od) (hm : PySem.W.mroIn K C (.type "object") = some true) (hb : PySem.W.Looks (model prog w) s.heap (typeOf b) tb) (hn : PySem.W.notFirst K C tb = true)
    (hne : PySem.W.findIn K (.ref C) "__ne__" = some (some (.builtin "object.__ne__"))) (hbi : ∀ self, bindSpecial (.builtin "object.__ne__") self = pure (.builtin "object.__ne__", [self])) (he : PySem.W.findIn K (.ref C) "__eq__" = some (some (.ref f))) (hf : PySem.W.isFn K (.ref f) = true)
    (h : wpAny (model prog w) A.in1 (call (.ref f) [.ref x, b]) (fun v s' => ∃ k, v = .bool k ∧ Q (.bool (!k)) s') E s) : wpAny (model prog w) A (richCompare .NotEq (.ref x) b) Q E s := by
  have one : wpAny (model prog w) A (tryCompare (.ref x) (cmpInfo .NotEq).2.1 b) (fun r s' => ∃ v, r = some v ∧ Q v s') E s := by
    unfold tryCompare
    refine wpAny_bind (ifBound_bi X I hne hbi (ne_slot hu X I hm he hf (wpAny_mono h (fun v s' hv => ?_) fun _ _ e => e)))
    obtain ⟨k, rfl, q⟩ := hv
    exact ⟨k, rfl, wpAny_pure ⟨_, rfl, q⟩⟩
  have still : ∀ {α : Type} {R : α → Shared → Prop} {r : Option Value → Sem α}, (∀ v s', Q v s' → wpAny (model prog w) A (r (some v)) R E s') → wpAny (model prog w) A (tryCompare (.ref x) (cmpInfo .NotEq).2.1 b >>= r) R E s :=
    fun hr => wpAny_bind (wpAny_mono one (fun _ s' ⟨v, e, q⟩ => by rw [e]; exact hr v s' q) fun _ _ e => e)
  have room : A.units < cLine := Nat.lt_of_le_of_lt (Nat.le_succ _) hu
  unfold richCompare
  rw [oneThing_ref]
  refine wpAny_holding <| wpAny_bind <| wpAny_cRoomFor room <| wpAny_bind <| I.type.here <| wpAny_bind <| hb.here ?_
  by_cases same : tb = .ref C
  · rw [same, bne_self_eq_false]
    exact wpAny_bind (wpAny_pure (still fun v s' q => wpAny_pure q))
  · have below : PySem.W.subIn K tb (.ref C) = some false := (Bool.or_eq_true_iff.mp hn).elim (fun e => absurd (beq_iff_eq.mp e) same) beq_iff_eq.mp
    rw [show (Value.ref C != tb) = true from bne_iff_ne.mpr fun e => same e.symm]
    exact wpAny_bind ((PySem.W.looks_subIn X below).here (still fun v s' q => wpAny_pure q))
end
def rNeOwn (K : PySem.W.Frag) (C : Addr) (sp : Sp) : R2 := fun x y H Q => ∃ (a dx : Addr) (fs : List (Str × V)) (t : Value), x = .ref a ∧ H a = some (.ins C dx fs) ∧ TyX K H y t ∧ PySem.W.notFirst K C t = true ∧ sp [.ref a, y] H (fun v H2 => ∃ b : Bool, v = .bl b ∧ Q (.bl (!b)) H2) E0
section
variable {X : Cx} {k : Nat} {C f : Addr} {fd : FuncData} {ps : List Str} {sp : Sp}
theorem ne_own (c : MeC X.K C f "__eq__") (hne : PySem.W.findIn X.K (.ref C) "__ne__" = some (some (.builtin "object.__ne__"))) (hm : PySem.W.mroIn X.K C (.type "object") = some true) (F : FnOk X.prog X.w X.K X.mg X.base CX0 k f fd ps sp) (hr : Room (k + 1) X.A) (hb : Binds X.K fd ps []) :
    OpR X (compareOp .NotEq) (rNeOwn X.K C sp) := by
  intro pins s σ H x y v u Q I rx ry h
  obtain ⟨a, dx, fs, t, rfl, ea, ty, nf, q⟩ := h
  obtain rfl : v = Value.ref a := rx
  obtain ⟨mA, O, _⟩ := ins_get I.hok ea
  obtain ⟨od, J, _⟩ := O.look
  obtain ⟨P, kx, hp, _⟩ := kit_of I ry ty
  refine ne_K (by have := hr.in1.un; omega) I.kIn J hm (kx.ty _ _ I.kIn hp) nf hne (fun _ => rfl) c.has c.fn (wpAny_mono (run_in1 (us := [.ref a, u]) (vs := [.ref a, y]) F hr hb I (.cons rfl (.cons ry .nil)) q) (fun w s2 h2 => ?_) fun _ _ e => e)
  obtain ⟨z, H2, I2, rz, b, rfl, q2⟩ := h2
  cases (show w = Value.bool b from rz)
  exact ⟨b, rfl, .bl (!b), H2, I2, rfl, q2⟩
end
end Ow
end

/-! Ow4 -/
section
set_option maxHeartbeats 4000000
set_option exponentiation.threshold 10000
/-! C.m(..), m a staticmethod of the own class C. -/
namespace Ow
open PySem PySem.Spec PyProof.Rows L2 ClX
/-- C.m is a staticmethod: its record at p, its def at g -/
structure SMet (K : PySem.W.Frag) (C : Addr) (mc : Value) (m : Str) (p g : Addr) : Prop where
  rd : CRead K C mc
  at_ : PySem.W.findCls K (.ref C) mc m = some (.get (.builtin "staticmethod.__get__") (.ref p) .none (.ref C))
  rc : ∃ rest, PySem.W.recIn K p "staticmethod" = some (.ref g :: rest)
  kp : PySem.W.keepIn K (.ref g) = true
/-- C.m(..) -/
def tStat (C : Addr) (sp : Sp) (ta : TE) (t : TA) : TE := fun σ H Q => ta σ H fun x H1 => x = .ref C ∧ t σ H1 fun vs H2 => sp vs H2 Q E0
def tStatK (C : Addr) (sp : Sp) (gV : List V → List V → List V) (ta : TE) (tk : TA) : TE := fun σ H Q => ta σ H fun x H1 => x = .ref C ∧ tk σ H1 fun zs H2 => sp (gV [] zs) H2 Q E0
section
variable {X : Cx} {pins : List (Addr × Obj)} {σ : L2.St} {H : Hp} {s : Shared} {C p g : Addr} {mc : Value} {m : Str} {k : Nat} {fd : FuncData} {ps : List Str} {sp : Sp} {o e : Expr} {es : List Expr} {kws : List Keyword} {pos apos : Pos} {ta : TE} {t tk : TA} {pl : Sem Bool}
theorem getstat_ok {Q : Value × List Value → Shared → Prop} {E : Value → Shared → Prop} (I : Inv X pins σ H s) (c : SMet X.K C mc m p g) (h : ∀ s', Inv X pins σ H s' → Q (.ref g, []) s') : wpAny (model X.prog X.w) X.A (getMethod (.ref C) m pl) Q E s := by
  obtain ⟨rest, hp⟩ := c.rc
  refine PySem.W.method_cls I.kIn c.rd.ga ?_
  refine PySem.W.cls_bind I.kIn c.rd.rd c.at_ (wpAny_call ?_)
  exact PySem.W.sm_get (s := { s with toks := s.toks + 1 }) I.kIn hp (PySem.W.handed_on rfl (h _ (I.tok _)))
theorem pe_stat (he : PE X o ta) (c : SMet X.K C mc m p g) (F : FnOk X.prog X.w X.K X.mg X.base CX0 k g fd ps sp) (hr : Room k X.A) (hb : Binds X.K fd ps []) (ha : PA X (e :: es) t)
    (hst : starEach (e :: es) X.env = (false, eval e X.env) :: starEach es X.env := by rfl) (hpl : (backTo pos (starEach es X.env)).any (·.1) = false := by rfl)
    (ht : eval (.Call (.Attribute o m apos) (e :: es) [] pos) X.env = (do
      let v ← eval o X.env
      standAt apos.atName
      let (f, l) ← holding [v] (getMethod v m pl)
      callWith pos f l (backTo pos (starEach (e :: es) X.env)) (backToKw pos (keywordEach [] X.env))) := by rfl) : PE X (.Call (.Attribute o m apos) (e :: es) [] pos) (tStat C sp ta t) := by
  refine ⟨fun pins s σ H Q I h => ?_⟩
  refine PySem.W.methodCall_KW (pl := pl) (thn (he.run pins s σ H _ I h) fun u s1 ⟨x, H1, I1, rx, ex, q⟩ => ?_) ht
  subst ex
  obtain rfl : u = Value.ref C := rx
  refine getstat_ok I1 c fun s2 I2 => ?_
  refine PySem.W.callWith_K (first := []) (h₀ := X.base) I.ok.mod.kin c.kp (thn (ha.run pos pins s2 σ H1 _ I2 q) fun us s3 ⟨vs, H2, I3, r, q2⟩ => ⟨I3.kIn, ?_⟩) hst hpl
  refine run_fn (us := us) (vs := vs) F hr hb .nil pass0 I3 r ?_
  rw [List.append_nil]
  exact q2
end
end Ow
end

/-! Ow5 -/
section
set_option maxHeartbeats 4000000
set_option exponentiation.threshold 10000
/-! truths as numbers -/
namespace Ow
open PySem PySem.Spec PyProof.Rows L2
theorem op_sub_bb {X : Cx} : OpR X (binaryOp .Sub) (fun x y H Q => ∃ b c : Bool, x = .bl b ∧ y = .bl c ∧ Q (.int (b2i b - b2i c)) H) := by
  intro pins s σ H x y v u Q I rx ry h
  obtain ⟨b, c, rfl, rfl, q⟩ := h
  cases (show v = Value.bool b from rx)
  cases (show u = Value.bool c from ry)
  exact sub_bool ⟨.int (b2i b - b2i c), H, I.tok _, ⟨_, rfl⟩, q⟩
end Ow
end

/-! Ow6 -/
section
set_option maxHeartbeats 4000000
set_option exponentiation.threshold 10000
/-! // by any great divisor but 0 -/
namespace Ow
open PySem PySem.Spec PyProof.Rows L2
def CDivZ (_ j : Int) : Prop := j ≠ 0 ∧ j.natAbs.log2 < 9000
theorem op_fdivZ {X : Cx} : OpR X (binaryOp .FloorDiv) (rI CDivZ fun i j => .int (i.fdiv j)) := opI fun i j _ _ _ _ _ hc q => floordiv_int hc.1 q (.inl (PyProof.noPylong_of_log2 hc.2))
theorem zdiv {i j : Int} {b : Nat} (h : j ≠ 0) (hb : j.natAbs < 2 ^ b) (h0 : 0 < b) (h9 : b ≤ 9000) : CDivZ i j := ⟨h, Nat.lt_of_lt_of_le (PySem.Flt.log2_lt_of h0 hb) h9⟩
end Ow
end

/-! Ow7 -/
section
set_option maxHeartbeats 4000000
set_option exponentiation.threshold 10000
/-! the operators and == once more: the method may raise, the right side may be of a built-in type -/
namespace Ow
open PySem PySem.Spec PyProof.Rows L2
section
variable {prog : Program} {w : World} {A : Around} {E : Value → Shared → Prop} {s : Shared} {K : PySem.W.Frag} {x C L f : Addr} {h₀ : Heap} {m : Str → Option Value} {ox : Obj} {od : Option Obj} {T : String}
theorem bin_tr {op : Operator} {y : Value} {fo ro : Option Value} {Q : Value → Shared → Prop} (G : Fr h₀ L s.heap m) (X0 : K.In h₀) (I : PySem.W.InstAt s.heap x ox C od) (ty : PySem.W.Looks (model prog w) s.heap (typeOf y) (.type T))
    (c : OpC K C f op) (nr : PySem.W.findIn K (.ref C) (dunderR op.info.2) = some none) (e1 : PySem.W.findIn K (.type T) (PySem.dunder op.info.2) = some fo) (e2 : PySem.W.findIn K (.type T) (dunderR op.info.2) = some ro)
    (e3 : PySem.W.subIn K (.type T) (.ref C) = some false) (k : wpAny (model prog w) A (call (.ref f) [.ref x, y]) (PySem.W.CmpBack Q) E s) : wpAny (model prog w) A (binaryOp op (.ref x) y) Q E s := by
  obtain ⟨cd, rest, kc, km⟩ := PySem.W.ksp_first c.fst
  have cf := c.fn
  have ch := c.has
  rcases hi : op.info with ⟨sym, nm⟩
  rw [hi] at ch nr e1 e2
  dsimp only at ch nr e1 e2
  have tried := PySem.W.ksp_try (X0.keeps G.keep) I ch cf k
  have KX := X0.keeps G.keep
  obtain ⟨hh, g, d, tt, os⟩ := s
  have a1 : PySem.W.Looks (model prog w) hh (typeOf (.ref x)) (.ref C) := I.type
  have a3 := PySem.W.fills_K (M := model prog w) KX kc km ch
  have a4 := PySem.W.ksp_fillsT (M := model prog w) (nm := nm) KX e1 e2
  have a5 : PySem.W.Looks (model prog w) hh (isSubtype (.type T) (.ref C)) false := PySem.W.looks_subIn KX e3
  have a6 := PySem.W.ksp_inPy (M := model prog w) (rc := none) KX ch nr (.inl rfl)
  have a7 : PySem.W.Looks (model prog w) hh (numberSlotInPython (.type T) nm) false := .of_pure rfl
  have a8 : PySem.W.Looks (model prog w) hh (typeLookup (.type T) (dunderR nm)) ro := PySem.W.looks_findIn KX e2
  generalize ((fo.isSome && !isSeqSlot fo) || (ro.isSome && !isSeqSlot ro)) = z at a4
  have un : (Value.ref C == Value.type T) = false := by
    rw [Bool.eq_false_iff]
    intro q
    cases beq_iff_eq.mp q
  simp only [binaryOp, hi]
  refine wpAny_holding (wpAny_bind ?_)
  unfold binaryOp1
  refine wpAny_bind (a1.at (wpAny_bind (ty.at (wpAny_bind (a3.at ?_)))))
  simp only [un, Bool.false_eq_true, if_false]
  cases z <;>
  · ksp_lk
    refine wpAny_mono tried (fun r s' ⟨v, e, q⟩ => ?_) fun _ _ e => e
    subst e
    ksp_lk
    exact q
end
/-- the right side of a + b, a == b: its type has no say -/
def Meek (K : PySem.W.Frag) (C : Addr) (op : Operator) (t : Value) : Prop := t = .ref C ∨ ∃ T : String, t = .type T ∧ (∃ fo, PySem.W.findIn K (.type T) (PySem.dunder op.info.2) = some fo) ∧ (∃ ro, PySem.W.findIn K (.type T) (dunderR op.info.2) = some ro) ∧ PySem.W.subIn K (.type T) (.ref C) = some false
def rOwn (K : PySem.W.Frag) (C : Addr) (op : Operator) (sp : Sp) (E : XK) : R2 := fun x y H Q => ∃ (a dx : Addr) (fs : List (Str × V)) (t : Value), x = .ref a ∧ H a = some (.ins C dx fs) ∧ TyX K H y t ∧ Meek K C op t ∧ sp [.ref a, y] H Q E
section
variable {X : Cx} {CX : CXT} {k : Nat} {C f : Addr} {fd : FuncData} {ps : List Str} {sp : Sp} {op : Operator} {E : XK}
theorem op_own (c : OpC X.K C f op) (nr : PySem.W.findIn X.K (.ref C) (dunderR op.info.2) = some none) (F : FnOk X.prog X.w X.K X.mg X.base CX k f fd ps sp) (hr : Room k X.A) (hb : Binds X.K fd ps []) (hx : Passes CX X E) : OpR X (binaryOp op) (rOwn X.K C op sp E) := by
  intro pins s σ H x y v u Q I rx ry h
  obtain ⟨a, dx, fs, t, rfl, ea, ty, mk, q⟩ := h
  obtain rfl : v = Value.ref a := rx
  obtain ⟨mA, O, _⟩ := ins_get I.hok ea
  obtain ⟨od, J, _⟩ := O.look
  obtain ⟨m, fr⟩ := I.fr
  obtain ⟨P, kx, hp, _⟩ := kit_of I ry ty
  have lt := kx.ty (model X.prog X.w) _ I.kIn hp
  have go : wpAny (model X.prog X.w) X.A (call (.ref f) [.ref a, u]) (PySem.W.CmpBack (EP X pins σ Q)) X.xe s :=
    wpAny_mono (run_fn (us := [.ref a, u]) (vs := [.ref a, y]) F hr hb .nil hx I (.cons rfl (.cons ry .nil)) q) (fun w s2 h2 => by
      obtain ⟨z, H2, I2, rz, q2⟩ := h2
      exact SlX.cmpback rz ⟨z, H2, I2, rz, q2⟩) fun _ _ e => e
  rcases mk with rfl | ⟨T, rfl, ⟨fo, e1⟩, ⟨ro, e2⟩, e3⟩
  · exact PySem.W.binop_K fr I.ok.mod.kin J lt c.fst c.has c.fn go
  · exact bin_tr fr I.ok.mod.kin J lt c nr e1 e2 e3 go
theorem un_ownX (c : MeC X.K C f "__neg__") (F : FnOk X.prog X.w X.K X.mg X.base CX k f fd ps sp) (hr : Room k X.A) (hb : Binds X.K fd ps []) (hx : Passes CX X E) :
    UnR X (unaryOp .USub) (fun x H Q => ∃ (a dx : Addr) (fs : List (Str × V)), x = .ref a ∧ H a = some (.ins C dx fs) ∧ sp [.ref a] H Q E) := by
  intro pins s σ H x v Q I rx h
  obtain ⟨a, dx, fs, rfl, ea, q⟩ := h
  obtain rfl : v = Value.ref a := rx
  obtain ⟨mA, O, _⟩ := ins_get I.hok ea
  obtain ⟨od, J, _⟩ := O.look
  obtain ⟨m, fr⟩ := I.fr
  exact PySem.W.ksp_neg fr I.ok.mod.kin J c.has c.fn (run_fn (us := [.ref a]) (vs := [.ref a]) F hr hb .nil hx I (.cons rfl .nil) q)
end
end Ow
end

/-! Ow8 -/
section
set_option maxHeartbeats 4000000
set_option exponentiation.threshold 10000
/-! C.m(..), m a staticmethod of the own class C that may raise -/
namespace Ow
open PySem PySem.Spec PyProof.Rows L2 ClX
def tStatX (C : Addr) (sp : Sp) (E : XK) (ta : TE) (t : TA) : TE := fun σ H Q => ta σ H fun x H1 => x = .ref C ∧ t σ H1 fun vs H2 => sp vs H2 Q E
section
variable {X : Cx} {CX : CXT} {E : XK} {C p g : Addr} {mc : Value} {m : Str} {k : Nat} {fd : FuncData} {ps : List Str} {sp : Sp} {o e : Expr} {es : List Expr} {pos apos : Pos} {ta : TE} {t : TA} {pl : Sem Bool}
theorem pe_statX (he : PE X o ta) (c : SMet X.K C mc m p g) (F : FnOk X.prog X.w X.K X.mg X.base CX k g fd ps sp) (hr : Room k X.A) (hb : Binds X.K fd ps []) (hx : Passes CX X E) (ha : PA X (e :: es) t)
    (hst : starEach (e :: es) X.env = (false, eval e X.env) :: starEach es X.env := by rfl) (hpl : (backTo pos (starEach es X.env)).any (·.1) = false := by rfl)
    (ht : eval (.Call (.Attribute o m apos) (e :: es) [] pos) X.env = (do
      let v ← eval o X.env
      standAt apos.atName
      let (f, l) ← holding [v] (getMethod v m pl)
      callWith pos f l (backTo pos (starEach (e :: es) X.env)) (backToKw pos (keywordEach [] X.env))) := by rfl) : PE X (.Call (.Attribute o m apos) (e :: es) [] pos) (tStatX C sp E ta t) := by
  refine ⟨fun pins s σ H Q I h => ?_⟩
  refine PySem.W.methodCall_KW (pl := pl) (thn (he.run pins s σ H _ I h) fun u s1 ⟨x, H1, I1, rx, ex, q⟩ => ?_) ht
  subst ex
  obtain rfl : u = Value.ref C := rx
  refine getstat_ok I1 c fun s2 I2 => ?_
  refine PySem.W.callWith_K (first := []) (h₀ := X.base) I.ok.mod.kin c.kp (thn (ha.run pos pins s2 σ H1 _ I2 q) fun us s3 ⟨vs, H2, I3, r, q2⟩ => ⟨I3.kIn, ?_⟩) hst hpl
  refine run_fn (us := us) (vs := vs) F hr hb .nil hx I3 r ?_
  rw [List.append_nil]
  exact q2
end
end Ow
end

/-! Ow9 -/
section
set_option maxHeartbeats 4000000
set_option exponentiation.threshold 10000
/-! bool(a) by an own __bool__ -/
namespace Ow
open PySem PySem.Spec PyProof.Rows L2
section
variable {prog : Program} {w : World} {A : Around} {E : Value → Shared → Prop} {s : Shared} {K : PySem.W.Frag} {x C f : Addr} {ox : Obj} {od : Option Obj}
theorem bool_slot {Q : Value → Shared → Prop} (KI : K.In s.heap) (J : PySem.W.InstAt s.heap x ox C od) (c : MeC K C f "__bool__")
    (k : wpAny (model prog w) A.in1.in1 (call (.ref f) [.ref x]) (fun v s1 => ∃ b, v = .bool b ∧ Q (.bool b) s1) E s) : wpAny (model prog w) A (call (.type "bool") [.ref x]) Q E s := by
  refine callType_codes (T := "bool") (Bi := Builtin.«object.__init__») (Q₁ := fun r s₁ => ∃ b, r = .bool b ∧ Q r s₁) PySem.F.called_bool (PySem.F.typeCall_bool_1 _) PySem.F.entry_object_init ?_ ?_
  · refine codeAny_of_tree ?_
    show wpAny _ A.in1.in1 (do checkBuiltinCall "bool.__new__" ⟨[.type "bool", .ref x], []⟩; again (.builtin "bool.__new__" ⟨[.type "bool", .ref x], []⟩)) _ _ s
    refine wpAny_bind (wpAny_of_eq (PySem.F.newCall_bool_1 _) (wpAny_pure ⟨plainId_quiet (by decide +kernel) _, codeAny_builtin PySem.F.entry_bool_new ?_⟩))
    rw [Around.under_plainId (by decide +kernel) _]
    have tr : ∀ {Q2 : Bool → Shared → Prop} {E2 : Value → Shared → Prop}, (∀ b s1, Q (.bool b) s1 → Q2 b s1) → (∀ e s1, E e s1 → E2 e s1) → wpAny (model prog w) A.in1.in1 (truthy (.ref x)) Q2 E2 s := by
      intro Q2 E2 q qe
      unfold truthy
      refine wpAny_bind (m := callSpecial? (.ref x) (Str.ofString "__bool__")) (PySem.W.special_fn KI J c.has (beq_iff_eq.mp c.fn) (wpAny_mono k (fun r s' hr => ?_) qe))
      obtain ⟨b, rfl, hr⟩ := hr
      exact wpAny_pure (q b s' hr)
    have f1 := F.conv_sub_bool
    obtain ⟨hp, g, d, tk, os⟩ := s
    repeat (any_goals (first | assumption | (with_reducible refine tr ?_ ?_) | wp_step))
    · intro b s1 h
      exact wpAny_pure ⟨b, rfl, h⟩
    · exact fun e s1 h => h
  · rintro obj s₁ ⟨b, rfl, hq⟩
    exact ⟨PySem.typeIs_bool _ _, PySem.F.args_object_init_2 _ _, object_init_meets PySem.F.called_bool.init.lookup PySem.F.called_bool.made (by decide) prog w A.in1 _ s₁ ⟨PySem.typeIs_bool _ _, rfl, hq⟩⟩
end
section
variable {X : Cx} {k : Nat} {C f : Addr} {fd : FuncData} {ps : List Str} {sp : Sp}
theorem call_bool_own (c : MeC X.K C f "__bool__") (F : FnOk X.prog X.w X.K X.mg X.base CX0 k f fd ps sp) (hr : Room (k + 2) X.A) (hb : Binds X.K fd ps []) :
    CallR X (.type "bool") (fun xs H Q => ∃ (a dx : Addr) (fs : List (Str × V)), xs = [.ref a] ∧ H a = some (.ins C dx fs) ∧ sp [.ref a] H (fun v H2 => ∃ b : Bool, v = .bl b ∧ Q (.bl b) H2) E0) := by
  intro pins s σ H xs us Q I r h
  obtain ⟨a, dx, fs, rfl, ea, q⟩ := h
  obtain ⟨u, rfl, ru⟩ := vals1 r
  obtain rfl : u = Value.ref a := ru
  obtain ⟨mA, O, _⟩ := ins_get I.hok ea
  obtain ⟨od, J, _⟩ := O.look
  refine bool_slot I.kIn J c (wpAny_mono (run_in2 (us := [.ref a]) (vs := [.ref a]) F hr hb I (.cons rfl .nil) q) (fun w s2 h2 => ?_) fun _ _ e => e)
  obtain ⟨z, H2, I2, rz, b, rfl, q2⟩ := h2
  cases (show w = Value.bool b from rz)
  exact ⟨b, rfl, .bl b, H2, I2, rfl, q2⟩
end
end Ow
end

/-! Ow10 -/
section
set_option maxHeartbeats 4000000
set_option exponentiation.threshold 10000
/-! a reading with a lemma in between -/
namespace Ow
open PySem PySem.Spec PyProof.Rows L2
def tCut (t : TE) : TE := fun σ H Q => ∃ R : VK, t σ H R ∧ ∀ v H2, R v H2 → Q v H2
def tCutT (t : TT) : TT := fun σ H Q => ∃ R : Bool → Hp → Prop, t σ H R ∧ ∀ b H2, R b H2 → Q b H2
section
variable {X : Cx} {e : Expr} {t : TE} {tt : TT}
theorem pe_cut (he : PE X e t) : PE X e (tCut t) := by
  refine ⟨fun pins s σ H Q I ⟨R, h1, h2⟩ => ?_⟩
  exact wpAny_mono (he.run pins s σ H R I h1) (fun v s1 ⟨x, H1, I1, r, q⟩ => ⟨x, H1, I1, r, h2 _ _ q⟩) fun _ _ z => z
theorem pt_cut (he : PT X e tt) : PT X e (tCutT tt) := by
  refine ⟨fun pins s σ H Q I ⟨R, h1, h2⟩ => ?_⟩
  exact wpAny_mono (he.run pins s σ H R I h1) (fun v s1 ⟨H1, I1, q⟩ => ⟨H1, I1, h2 _ _ q⟩) fun _ _ z => z
end
end Ow
end

/-! Ow11 -/
section
set_option maxHeartbeats 4000000
set_option exponentiation.threshold 10000
/-! a whole number == an instance of an own class with __eq__; x in a list of both -/
namespace Ow
open PySem PySem.Spec PyProof.Rows L2
section
variable {prog : Program} {w : World} {A : Around} {E : Value → Shared → Prop} {s : Shared} {K : PySem.W.Frag} {x C f : Addr} {ox : Obj} {od : Option Obj}
theorem int_eq_ref {i : Int} {t : Tok} {Q : Value → Shared → Prop} (hx : s.heap.get? x = some ox) (hd : ox.data = .plain) (h : Q .notImplemented s) : wpAny (model prog w) A (call (.builtin "int.__eq__") [.int i t, .ref x]) Q E s := by
  refine GQ.call_here PySem.F.slot_int_eq (PySem.typeIs_int _ _ _) PySem.F.entry_int_eq (PySem.F.args_int_eq_2 _ _) ?_
  obtain ⟨c, d, dt, sl⟩ := ox
  simp only at hd
  subst hd
  obtain ⟨hp, g, dd, tk, os⟩ := s
  wp_walk using AutoSeq1.wpAny_loadPart' hx
  all_goals exact h
/-- a special method of a built-in type's value -/
theorem ifBound_ty {self : Value} {T : String} {id : String} {name : Str} {args : List Value} {Q : Option Value → Shared → Prop} (KI : K.In s.heap) (ty : PySem.W.Looks (model prog w) s.heap (typeOf self) (.type T)) (hs : PySem.W.findIn K (.type T) name = some (some (.builtin id)))
    (hb : bindSpecial (.builtin id) self = pure (.builtin id, [self])) (h : wpAny (model prog w) A (call (.builtin id) (self :: args)) (fun v => Q (some v)) E s) : wpAny (model prog w) A (callSpecialIfBound? self name args) Q E s := by
  have bound : PySem.W.Looks (model prog w) s.heap (bindSpecial (.builtin id) self) (.builtin id, [self]) := .of_pure hb
  have called : wpAny (model prog w) A (call (.builtin id) ([self] ++ args) >>= fun v => pure (some v)) Q E s := wpAny_bind (wpAny_mono h (fun _ _ q => wpAny_pure q) fun _ _ q => q)
  rw [callSpecialIfBound?, bindSpecialIfBound?]
  refine wpAny_holding <| wpAny_bind <| wpAny_bind <| wpAny_bind <| ty.here <| (PySem.W.looks_findIn KI hs).here <| wpAny_bind <| wpAny_askSetting ?_
  refine wpAny_ite ?_
  split <;> first | exact wpAny_bind (bound.here (wpAny_pure (by exact called))) | exact wpAny_tryCatch (wpAny_bind (bound.here (wpAny_pure (by exact called))))
theorem int_rich {i : Int} {t : Tok} {Q : Value → Shared → Prop} (hu : A.units < cLine) (KI : K.In s.heap) (J : PySem.W.InstAt s.heap x ox C od) (hd : ox.data = .plain) (ie : PySem.W.findIn K (.type "int") "__eq__" = some (some (.builtin "int.__eq__")))
    (hs : PySem.W.subIn K (.ref C) (.type "int") = some false) (c : MeC K C f "__eq__") (k : wpAny (model prog w) A (call (.ref f) [.ref x, .int i t]) (fun v s' => ∃ b, v = .bool b ∧ Q (.bool b) s') E s) :
    wpAny (model prog w) A (richCompare .Eq (.int i t) (.ref x)) Q E s := by
  have ty : PySem.W.Looks (model prog w) s.heap (typeOf (.int i t)) (.type "int") := .of_pure rfl
  unfold richCompare
  refine wpAny_holding (wpAny_bind (wpAny_cRoomFor hu ?_))
  show wpAny _ _ _ _ _ _
  refine wpAny_bind (ty.here (wpAny_bind (J.type.here ?_)))
  have ne : (Value.type "int" != Value.ref C) = true := rfl
  rw [ne]
  refine wpAny_bind ((PySem.W.looks_subIn KI hs).here ?_)
  simp only [Bool.false_eq_true, if_false, Bool.not_false, if_true]
  have one : wpAny (model prog w) A (tryCompare (.int i t) "__eq__" (.ref x)) (fun r s' => r = none ∧ s' = s) E s := by
    unfold tryCompare
    exact wpAny_bind (ifBound_ty KI ty ie rfl (int_eq_ref J.at_ hd (wpAny_pure ⟨rfl, rfl⟩)))
  refine wpAny_bind (wpAny_mono one (fun r s' h => ?_) fun _ _ e => e)
  obtain ⟨rfl, rfl⟩ := h
  have two : wpAny (model prog w) A (tryCompare (.ref x) "__eq__" (.int i t)) (fun r s'' => ∃ b, r = some (.bool b) ∧ Q (.bool b) s'') E s' := by
    unfold tryCompare
    refine wpAny_bind (PySem.W.ifBound_K KI J c.has c.fn (wpAny_mono k (fun v s2 h => ?_) fun _ _ e => e))
    obtain ⟨b, rfl, q⟩ := h
    exact wpAny_pure ⟨b, rfl, q⟩
  refine wpAny_bind (wpAny_mono two (fun r s2 h => ?_) fun _ _ e => e)
  obtain ⟨b, rfl, q⟩ := h
  exact wpAny_pure q
theorem int_eqB {i : Int} {t : Tok} {Q : Bool → Shared → Prop} (h : wpAny (model prog w) A (richCompare .Eq (.int i t) (.ref x)) (fun v s' => ∃ b, v = .bool b ∧ Q b s') E s) : wpAny (model prog w) A (eqBool (.int i t) (.ref x)) Q E s := by
  unfold eqBool
  refine wpAny_holding (wpAny_ite_split (fun z => by cases (beq_iff_eq.mp z)) fun _ => ?_)
  refine wpAny_bind (wpAny_mono h (fun v s' hv => ?_) fun _ _ e => e)
  obtain ⟨b, rfl, q⟩ := hv
  exact wpAny_truthy_bool q
theorem self_eqB {Q : Bool → Shared → Prop} (h : Q true s) : wpAny (model prog w) A (eqBool (.ref x) (.ref x)) Q E s := by
  unfold eqBool
  refine wpAny_holding ?_
  rw [if_pos (by simp)]
  obtain ⟨hp, g, d, tk, os⟩ := s
  wp_walk
  exact h
end
section
variable {prog : Program} {w : World} {A : Around} {R : Result → Shared → Prop}
/-- x in a list that stands at l: at each turn the list is read anew -/
theorem in_turns (l : Addr) (N : Nat) (u : Value) (J : Nat → Shared → Prop) (e : Nat → Bool)
    (ht : ∀ i s, J i s → ∃ (its : Array Value) (n : Nat), s.heap.get? l = some { cls := .type "list", data := .seq its n } ∧ its.size = N ∧ ∀ h : i < its.size, wpAny (model prog w) A.in1 (eqBool its[i] u) (fun r s' => r = e i ∧ J (i + 1) s') (fun e s' => R (.error e) s') s)
    (hy : ∀ i s, i < N → e i = true → J (i + 1) s → R (.ok (.ret (.bool true))) s) (hn : ∀ s, (∀ j, j < N → e j = false) → J N s → R (.ok (.ret (.bool false))) s) (k : Nat) :
    ∀ i : Nat, N - i = k → i ≤ N → (∀ j, j < i → e j = false) → ∀ s, J i s → wpAny (model prog w) A.in1 (Builtin.«list.__contains__.loop» ⟨[.ref l, u, rawInt i], []⟩) (GQ.FinOf prog w A R) (fun e s' => R (.error e) s') s := by
  induction k with
  | zero =>
    intro i hk hi pre s h
    obtain ⟨its, n, hLst, hs, _⟩ := ht _ _ h
    have hi' : i = N := by omega
    have hR : R (.ok (.ret (.bool false))) s := hn s (hi' ▸ pre) (hi' ▸ h)
    obtain ⟨hp, g, d, tk, os⟩ := s
    wp_walk using AutoSeq1.wpAny_loadPart' hLst
    have none_ : its[((i : Nat) : Int).toNat]? = none := by simp; omega
    rw [none_]
    wp_walk
    exact hR
  | succ k ih =>
    intro i hk hi pre s h
    obtain ⟨its, n, hLst, hs, turn⟩ := ht _ _ h
    have hlt : i < its.size := by omega
    have go := turn hlt
    obtain ⟨hp, g, d, tk, os⟩ := s
    wp_walk using AutoSeq1.wpAny_loadPart' hLst
    have some_ : its[((i : Nat) : Int).toNat]? = some its[i] := by simp [hlt]
    have step : ((i : Int) + 1) = ((i + 1 : Nat) : Int) := by omega
    rw [some_]
    refine wpAny_bind (wpAny_mono go (fun r s2 h2 => ?_) fun _ _ x => x)
    obtain ⟨hr, h2⟩ := h2
    subst hr
    cases he : e i with
    | true =>
      have done := hy i s2 (by omega) he h2
      obtain ⟨hp2, g2, d2, tk2, os2⟩ := s2
      wp_walk
      exact done
    | false =>
      have again := ih (i + 1) (by omega) (by omega) (fun j hj => by
        by_cases hji : j = i
        · rw [hji]; exact he
        · exact pre j (by omega)) s2 h2
      obtain ⟨hp2, g2, d2, tk2, os2⟩ := s2
      wp_walk
      rw [step]
      exact ⟨plainId_quiet MeetsSeq.plain_contains_loop _, codeAny_builtin MeetsSeq.entry_contains_loop (by
        rw [Around.under_plainId MeetsSeq.plain_contains_loop _]
        exact again)⟩
end
end Ow
end

/-! Ow12 -/
section
set_option maxHeartbeats 4000000
set_option exponentiation.threshold 10000
/-! x not in xs: instances of an own class with __eq__, and whole numbers -/
namespace Ow
open PySem PySem.Spec PyProof.Rows L2
/-- how v, item i of the list, is compared with the instance at c -/
def ItemE (C : Addr) (sp : Sp) (H : Hp) (c : Addr) (v : V) (r : Bool) : Prop := (v = .ref c ∧ r = true) ∨
  (∃ (b db : Addr) (gs : List (Str × V)), v = .ref b ∧ b ≠ c ∧ H b = some (.ins C db gs) ∧ sp [.ref b, .ref c] H (fun z H2 => z = .bl r ∧ H2 = H) E0) ∨
  ∃ n : Int, v = .int n ∧ sp [.ref c, .int n] H (fun z H2 => z = .bl r ∧ H2 = H) E0
def rNotInOwn (C : Addr) (sp : Sp) : R2 := fun x y H Q => ∃ (c dc l : Addr) (fs : List (Str × V)) (xs : List V) (rs : List Bool), x = .ref c ∧ H c = some (.ins C dc fs) ∧ y = .ref l ∧ H l = some (.lst xs) ∧ xs.length = rs.length ∧
  (∀ (i : Nat) (v : V) (r : Bool), xs[i]? = some v → rs[i]? = some r → ItemE C sp H c v r) ∧ Q (.bl (!(rs.any id))) H
section
variable {X : Cx} {k : Nat} {C f : Addr} {fd : FuncData} {ps : List Str} {sp : Sp}
theorem op_notIn_own (c : MeC X.K C f "__eq__") (nf : PySem.W.notFirst X.K C (.ref C) = true) (ie : PySem.W.findIn X.K (.type "int") "__eq__" = some (some (.builtin "int.__eq__"))) (hs : PySem.W.subIn X.K (.ref C) (.type "int") = some false)
    (F : FnOk X.prog X.w X.K X.mg X.base CX0 k f fd ps sp) (hr : Room (k + 1) X.A) (hb : Binds X.K fd ps []) : OpR X (compareOp .NotIn) (rNotInOwn C sp) := by
  intro pins s σ H x y v u Q I rx ry h
  obtain ⟨a, da, l, fs, xs, rs, rfl, ea, rfl, hl, hlen, each, q⟩ := h
  obtain rfl : v = Value.ref a := rx
  obtain rfl : u = Value.ref l := ry
  obtain ⟨_, its0, k0, r0, e0⟩ := I.hok l _ hl
  have hT : s.TypeIs (.ref l) "list" := ⟨_, e0, rfl⟩
  have hu : X.A.in1.units < cLine := by have := hr.in1.un; omega
  show wpAny _ X.A (do return Value.bool (!(← contains (.ref l) (.ref a)))) _ _ _
  refine wpAny_bind (wpAny_contains_slot hT PySem.F.slot_list_contains ?_)
  refine GQ.call_here PySem.F.slot_list_contains hT PySem.F.entry_list_contains (PySem.F.args_list_contains_2 _ _) ?_
  have fin : ∀ s', Inv X pins σ H s' → ∀ b : Bool, b = rs.any id → wpAny (model X.prog X.w) X.A (truthy (.bool b)) (fun r s2 => wpAny (model X.prog X.w) X.A (pure (Value.bool (!r))) (EP X pins σ Q) X.xe s2) X.xe s' := by
    intro s' I' b hb2
    subst hb2
    exact wpAny_truthy_bool (wpAny_pure ⟨.bl (!(rs.any id)), H, I', rfl, q⟩)
  have turn : ∀ (i : Nat) (s' : Shared), Inv X pins σ H s' → ∃ (its : Array Value) (n : Nat), s'.heap.get? l = some { cls := .type "list", data := .seq its n } ∧ its.size = xs.length ∧ ∀ h : i < its.size, wpAny (model X.prog X.w) X.A.in1 (eqBool its[i] (.ref a)) (fun r s2 => r = rs.getD i false ∧ Inv X pins σ H s2) X.xe s' := by
    intro i s' I'
    obtain ⟨_, its, n, r, e⟩ := I'.hok l _ hl
    refine ⟨its.toArray, n, e, by rw [List.size_toArray, ← r.length], fun h => ?_⟩
    have g1 : its[i]? = some its.toArray[i] := by
      have h1' : i < its.length := by simpa using h
      rw [List.getElem?_eq_getElem h1'] <;> simp
    have k1 : i < xs.length := by rw [r.length]; simpa using h
    obtain ⟨z, hz, rz⟩ := r.get (List.getElem?_eq_getElem k1)
    rw [g1] at hz
    cases hz
    have kr : i < rs.length := hlen ▸ k1
    have eg : rs.getD i false = rs[i] := by simp [List.getD, kr]
    rw [eg]
    have back : ∀ {us : List Value} {vs : List V}, Vals vs us → sp vs H (fun z H2 => z = .bl rs[i] ∧ H2 = H) E0 → wpAny (model X.prog X.w) X.A.in1 (call (.ref f) us) (fun v s2 => ∃ b, v = Value.bool b ∧ b = rs[i] ∧ Inv X pins σ H s2) X.xe s' := fun rv q2 =>
      wpAny_mono (run_in1 F hr hb I' rv q2) (fun v s2 hv => by
        obtain ⟨_, H2, I2, rr, rfl, rfl⟩ := hv
        exact ⟨rs[i], rr, rfl, I2⟩) fun _ _ z => z
    rcases each i xs[i] rs[i] (List.getElem?_eq_getElem k1) (List.getElem?_eq_getElem kr) with ⟨e1, e2⟩ | ⟨b, db, gs, e1, ne, eb, q2⟩ | ⟨n2, e1, q2⟩
    · rw [e1] at rz
      rw [show its.toArray[i] = Value.ref a from rz, e2]
      exact self_eqB ⟨rfl, I'⟩
    · rw [e1] at rz
      rw [show its.toArray[i] = Value.ref b from rz]
      obtain ⟨mB, OB, _⟩ := ins_get I'.hok eb
      obtain ⟨odB, JB, _⟩ := OB.look
      obtain ⟨mA, OA, _⟩ := ins_get I'.hok ea
      obtain ⟨odA, JA, _⟩ := OA.look
      obtain ⟨m, fr⟩ := I'.fr
      refine GQ.eqBool_refG ne (PySem.W.cmp_K (op := .Eq) hu fr I'.ok.mod.kin JB JA.type nf c.has c.fn (wpAny_mono (back (us := [.ref b, .ref a]) (vs := [.ref b, .ref a]) (.cons rfl (.cons rfl .nil)) q2) (fun v s2 hv => ?_) fun _ _ z => z))
      obtain ⟨r, rfl, q3⟩ := hv
      exact ⟨r, rfl, q3⟩
    · rw [e1] at rz
      obtain ⟨t, rz⟩ := (show ∃ t, its.toArray[i] = Value.int n2 t from rz)
      rw [rz]
      obtain ⟨mA, OA, _⟩ := ins_get I'.hok ea
      obtain ⟨odA, JA, _⟩ := OA.look
      refine int_eqB (int_rich hu I'.kIn JA rfl ie hs c (wpAny_mono (back (us := [.ref a, .int n2 t]) (vs := [.ref a, .int n2]) (.cons rfl (.cons ⟨t, rfl⟩ .nil)) q2) (fun v s2 hv => ?_) fun _ _ z => z))
      obtain ⟨r, rfl, q3⟩ := hv
      exact ⟨r, rfl, r, rfl, q3⟩
  have loop := in_turns (prog := X.prog) (w := X.w) (A := X.A) (R := wants (fun r s' => wpAny (model X.prog X.w) X.A (truthy r) (fun r s2 => wpAny (model X.prog X.w) X.A (pure (Value.bool (!r))) (EP X pins σ Q) X.xe s2) X.xe s') X.xe) l xs.length (.ref a)
    (fun _ s' => Inv X pins σ H s') (fun i => rs.getD i false) turn
    (fun i s' hi he I' => fin s' I' true (by
      symm
      rw [List.any_eq_true]
      have kr : i < rs.length := hlen ▸ hi
      exact ⟨rs[i], List.getElem_mem kr, by rw [← he]; simp [List.getD, kr]⟩))
    (fun s' hf I' => fin s' I' false (by
      symm
      rw [List.any_eq_false]
      intro x hx
      obtain ⟨j, hj, rfl⟩ := List.mem_iff_getElem.mp hx
      have := hf j (hlen ▸ hj)
      rw [show rs.getD j false = rs[j] by simp [List.getD, hj]] at this
      rw [this]
      decide))
    xs.length 0 rfl (Nat.zero_le _) (fun j hj => absurd hj (Nat.not_lt_zero _)) s I
  obtain ⟨hp, g, d, tk, os⟩ := s
  wp_walk
  exact ⟨plainId_quiet MeetsSeq.plain_contains_loop _, codeAny_builtin MeetsSeq.entry_contains_loop (by
    rw [Around.under_plainId MeetsSeq.plain_contains_loop _]
    exact loop)⟩
end
end Ow
end

/-! Ow13 -/
section
set_option maxHeartbeats 4000000
set_option exponentiation.threshold 10000
/-! calls by keywords alone: f(k = v), o.m(k = v), C.m(k = v) -/
namespace Ow
open PySem PySem.Spec PyProof.Rows L2 ClX
theorem fun_kbn {K : PySem.W.Frag} {x qual : Str} {st : Stmt} {f : Addr} {fd : FuncData} (F : L2.Fun K x qual st f fd) {ps : List Str} (n : Nat) (ks : List Str)
    (h : ∀ (kV doc pm : Value) (an : Option Addr) (cdv ct : Value) (us ws : List Value), us.length = n → ws.length = ks.length → bindArgs (PySem.W.fnOf x qual (defArgs st) (defBody st) (defScope st) .none kV doc pm an cdv ct) ⟨us, ks.zip ws⟩ = pure (ps.zip (us ++ ws))) :
    KBn K fd ps n ks (fun us ws => us ++ ws) (fun vs zs => vs ++ zs) := by
  obtain ⟨oc, od, kV, doc, pm, an, cdv, ct, osl, rfl, lk, hcd⟩ := F.ex
  exact ⟨fun s us ws _ l1 l2 => .of_eq (h kV doc pm an cdv ct us ws l1 l2), fun r1 r2 => r1.append r2⟩
def tKw (sp : Sp) (n : Nat) (gV : List V → List V → List V) (E : XK) (first : List V) (tk : TA) : TE := fun σ H Q => tk σ H fun zs H1 => zs.length = n ∧ sp (gV first zs) H1 Q E
def tMethKw (C : Addr) (m : Str) (n : Nat) (sp : Sp) (gV : List V → List V → List V) (E : XK) (ta : TE) (tk : TA) : TE := fun σ H Q => ta σ H fun x H1 => ∃ a dx fs, x = .ref a ∧ H1 a = some (.ins C dx fs) ∧ fs.lookup m = none ∧ tk σ H1 fun zs H2 => zs.length = n ∧ sp (gV [x] zs) H2 Q E
def tStatKw (C : Addr) (n : Nat) (sp : Sp) (gV : List V → List V → List V) (E : XK) (ta : TE) (tk : TA) : TE := fun σ H Q => ta σ H fun x H1 => x = .ref C ∧ tk σ H1 fun zs H2 => zs.length = n ∧ sp (gV [] zs) H2 Q E
section
variable {X : Cx} {CX : CXT} {E : XK} {C p g f : Addr} {mc : Value} {x m : Str} {k : Nat} {fd : FuncData} {ps ks : List Str} {sp : Sp} {o : Expr} {kws : List Keyword} {np pos apos : Pos} {ta : TE} {tk : TA} {pl : Sem Bool} {gg : List Value → List Value → List Value} {gV : List V → List V → List V}
theorem pe_kw (F : FnOk X.prog X.w X.K X.mg X.base CX k f fd ps sp) (hr : Room k X.A) (hg : Gl X x) (hm : X.mg x = some (.ref f)) (hk : PySem.W.keepIn X.K (.ref f) = true) (hb : KBn X.K fd ps 0 ks gg gV) (hx : Passes CX X E) (hkw : PK X kws tk)
    (hall : (backToKw pos (keywordEach kws X.env)).all (·.1.isSome) = true := by rfl) (hks : (backToKw pos (keywordEach kws X.env)).filterMap (·.1) = ks := by rfl) (hdb : (x == ("__debug__" : Str)) = false := by decide)
    (hpl : ((backTo pos (starEach [] X.env)).any (·.1) || (backToKw pos (keywordEach kws X.env)).any (·.1.isNone)) = false := by rfl) : PE X (.Call (.Name x np) [] kws pos) (tKw sp ks.length gV E [] tk) := by
  refine ⟨fun pins s σ H Q I h => ?_⟩
  refine wpAny_Call_Name_kw (ld_glob I hg hm ?_ hdb)
  refine PySem.W.callWith_KW0 (h₀ := X.base) I.ok.mod.kin hk hall ?_ hpl
  refine thn (hkw.run pos pins s σ H _ I h) fun ws s2 ⟨zs, H2, I2, rz, l2, q2⟩ => ⟨I2.kIn, ?_⟩
  rw [hks]
  exact run_fnN (us := []) (vs := []) F hr hb hx I2 .nil rz rfl l2 q2
theorem pe_methKw (he : PE X o ta) (c : Cls X.K C) (hm : Meth X.K C m f) (F : FnOk X.prog X.w X.K X.mg X.base CX k f fd ps sp) (hr : Room k X.A) (hb : KBn X.K fd ps 1 ks gg gV) (hx : Passes CX X E) (hkw : PK X kws tk)
    (hall : (backToKw pos (keywordEach kws X.env)).all (·.1.isSome) = true := by rfl) (hks : (backToKw pos (keywordEach kws X.env)).filterMap (·.1) = ks := by rfl)
    (hpl : ((backTo pos (starEach [] X.env)).any (·.1) || (backToKw pos (keywordEach kws X.env)).any (·.1.isNone)) = false := by rfl)
    (ht : eval (.Call (.Attribute o m apos) [] kws pos) X.env = (do
      let v ← eval o X.env
      standAt apos.atName
      let (f, l) ← holding [v] (getMethod v m pl)
      callWith pos f l (backTo pos (starEach [] X.env)) (backToKw pos (keywordEach kws X.env))) := by rfl) : PE X (.Call (.Attribute o m apos) [] kws pos) (tMethKw C m ks.length sp gV E ta tk) := by
  refine ⟨fun pins s σ H Q I h => ?_⟩
  refine PySem.W.methodCall_KW (pl := pl) (thn (he.run pins s σ H _ I h) fun u s1 ⟨x, H1, I1, rx, a, dx, fs, ex, ea, l, q⟩ => ?_) ht
  subst ex
  obtain rfl : u = Value.ref a := rx
  refine getmeth_ok I1 ea c hm l ?_
  refine PySem.W.callWith_KW0 (first := [.ref a]) (h₀ := X.base) I.ok.mod.kin hm.kp hall ?_ hpl
  refine thn (hkw.run pos pins s1 σ H1 _ I1 q) fun ws s2 ⟨zs, H2, I2, rz, l2, q2⟩ => ⟨I2.kIn, ?_⟩
  rw [hks]
  exact run_fnN (us := [.ref a]) (vs := [.ref a]) F hr hb hx I2 (.cons rfl .nil) rz rfl l2 q2
theorem pe_statKw (he : PE X o ta) (c : SMet X.K C mc m p g) (F : FnOk X.prog X.w X.K X.mg X.base CX k g fd ps sp) (hr : Room k X.A) (hb : KBn X.K fd ps 0 ks gg gV) (hx : Passes CX X E) (hkw : PK X kws tk)
    (hall : (backToKw pos (keywordEach kws X.env)).all (·.1.isSome) = true := by rfl) (hks : (backToKw pos (keywordEach kws X.env)).filterMap (·.1) = ks := by rfl)
    (hpl : ((backTo pos (starEach [] X.env)).any (·.1) || (backToKw pos (keywordEach kws X.env)).any (·.1.isNone)) = false := by rfl)
    (ht : eval (.Call (.Attribute o m apos) [] kws pos) X.env = (do
      let v ← eval o X.env
      standAt apos.atName
      let (f, l) ← holding [v] (getMethod v m pl)
      callWith pos f l (backTo pos (starEach [] X.env)) (backToKw pos (keywordEach kws X.env))) := by rfl) : PE X (.Call (.Attribute o m apos) [] kws pos) (tStatKw C ks.length sp gV E ta tk) := by
  refine ⟨fun pins s σ H Q I h => ?_⟩
  refine PySem.W.methodCall_KW (pl := pl) (thn (he.run pins s σ H _ I h) fun u s1 ⟨x, H1, I1, rx, ex, q⟩ => ?_) ht
  subst ex
  obtain rfl : u = Value.ref C := rx
  refine getstat_ok I1 c fun s2 I2 => ?_
  refine PySem.W.callWith_KW0 (first := []) (h₀ := X.base) I.ok.mod.kin c.kp hall ?_ hpl
  refine thn (hkw.run pos pins s2 σ H1 _ I2 q) fun ws s3 ⟨zs, H2, I3, rz, l2, q2⟩ => ⟨I3.kIn, ?_⟩
  rw [hks]
  exact run_fnN (us := []) (vs := []) F hr hb hx I3 .nil rz rfl l2 q2
end
end Ow
end

/-! Ow14 -/
section
set_option maxHeartbeats 4000000
set_option exponentiation.threshold 10000
/-! x(lambda: .., "text"): a def of two parameters that calls the first -/
namespace Ow
open PySem PySem.Spec PyProof.Rows L2 LamX
/-- the def x(a, ..): z is the text behind the lambda -/
def Gives2 (X : Cx) (Ng : List Str) (x : Str) (sg : Scope) (g : Addr) (cdg : Value) (bg : List Stmt) (a : Str) (q z : Str) (TT : (XK → Hp → VK → Prop) → Hp → VK → Prop) : Prop :=
  ∀ (f c' : Addr) (s : Shared) (H : Hp) (Q : VK) (tl : XK → Hp → VK → Prop),
    (∀ (W : WX) (pn : List (Addr × Obj)) (xe : Value → Shared → Prop) (E : XK) (p1 p2 : Pos), Takes ((cxOf C8.CX0 X.prog X.w X.K X.mg X.base Ng x sg g cdg X.A X.stack s H C8.E0).tr pn xe) W → 
      PE ((cxOf C8.CX0 X.prog X.w X.K X.mg X.base Ng x sg g cdg X.A X.stack s H C8.E0).tr pn xe) (.Call (.Name a p1) [] [] p2) (fun σZ HZ Q => σZ[0]? = some (some (.ref f)) ∧ HZ c' = some (CodeO c' q) ∧ (∀ cls d H', E cls d H' → W cls d σZ H') ∧ tl E HZ Q)) →
    H c' = some (CodeO c' q) → TT tl H Q →
    ∃ t, PSs (cxOf C8.CX0 X.prog X.w X.K X.mg X.base Ng x sg g cdg X.A X.stack s H C8.E0).nox bg t ∧ t { nx := fun _ H' => Q .non H', rt := Q } (L2.start Ng [.ref f, .str z]) H
section
variable {X : Cx} {pins : List (Addr × Obj)} {σ : L2.St} {H : Hp} {s : Shared}
theorem pe_actS {CXB : CXT} {EB : XK} {NB : List Str} {qB : Str} {sB : Scope} {g f cB' : Addr} {cdB pmB ctB : Value} {params : Arguments} {body : Expr} {scope : Scope} {k i : Nat} {a : Str} {pn : List (Addr × Obj)} {xe : Value → Shared → Prop} {W : WX} {E : XK} {tb : TE} {p1 p2 : Pos}
    (I : Inv X pins σ H s) (LB : LamS X.env.scope scope) (fAt : s.heap.get? f = some (PySem.W.kla_obj "<lambda>" (X.env.qual ++ "<lambda>") params body scope (cloFrom X.env.cells scope.names []) pmB cB' ctB)) (fNo : H f = none) (fFr : f ∉ frs X.stack)
    (bindB : bindArgs (PySem.W.kla_fn "<lambda>" (X.env.qual ++ "<lambda>") params body scope (cloFrom X.env.cells scope.names []) pmB (.ref cB') ctB) ⟨[], []⟩ = pure [])
    (tk : Takes ((cxOf CXB X.prog X.w X.K X.mg X.base NB qB sB g cdB X.A X.stack s H EB).tr pn xe) W) (hr : Room (k + 1) (X.A.deeper (envOfC qB sB s.heap.objs.size g cdB)))
    (bodyB : ∀ (A : Around) (outer : List Env) (s : Shared) (H : Hp), Room k (A.deeper (lamEnv X scope s.heap.objs.size f cB')) → PE (lamCx X A outer s H E scope f cB') body tb)
    (hN : NB[i]? = some a) (hv : Vis sB a) (hd : (a == ("__debug__" : Str)) = false := by decide) (hcd : (a == ("__classdict__" : Str)) = false := by decide) :
    PE ((cxOf CXB X.prog X.w X.K X.mg X.base NB qB sB g cdB X.A X.stack s H EB).tr pn xe) (.Call (.Name a p1) [] [] p2)
      (fun σB HB Q => σB[i]? = some (some (.ref f)) ∧ HB cB' = some (CodeO cB' (X.env.qual ++ "<lambda>")) ∧ (∀ cls d H', E cls d H' → W cls d σB H') ∧ tb σ HB Q) := by
  refine ⟨fun pB tB σB HB Q IB h => ?_⟩
  obtain ⟨hs, hc, hw, ht⟩ := h
  refine wpAny_Call_Name_kw (thn ((pe_var (pos := p1) (i := i) hN hv hd hcd).run pB tB σB HB (fun v H1 => v = .ref f ∧ H1 = HB) IB ⟨.ref f, hs, rfl, rfl⟩) fun u s1 ⟨v, H1, I1, r1, q1⟩ => ?_)
  obtain ⟨eB, eHB⟩ := q1
  subst eB
  rw [eHB] at I1
  obtain rfl : u = Value.ref f := r1
  have lamAt : s1.heap.get? f = some (PySem.W.kla_obj "<lambda>" (X.env.qual ++ "<lambda>") params body scope (cloFrom X.env.cells scope.names []) pmB cB' ctB) := I1.base.keep f _ fAt fNo fFr (fun z => nomatch (show f ∈ ([] : List Addr) from z))
  refine PySem.W.callWith_F0 ⟨_, _, _, _, lamAt⟩ ?_
  have unB : Un (frs X.stack) [] H HB s.heap s1.heap := I1.base
  obtain ⟨⟨oB, vB, t, ocB, dcB, vcB⟩, _, _⟩ := I1.hok cB' _ hc
  have runB : codeAny (model X.prog X.w) (X.A.deeper (envOfC qB sB s.heap.objs.size g cdB)) (.call (.ref f) ⟨[], []⟩) (CR (L2.CX X.prog X.w) (envOfC qB sB s.heap.objs.size g cdB :: X.stack) X.prog X.w HB s1 Q E) s1 := by
    refine PySem.W.kla_callFunE hr.depth lamAt rfl LB.co LB.gen rfl ⟨cB', oB, vB, t, rfl, ocB, dcB, vcB⟩ ?_
    rw [bindB]
    refine wpAny_pure (wpAny_newFunctionEnv (fun y hy => (LB.own y hy).2) (fun y hy => absurd hy (by simp)) (fun h₁ nsB sbB => ⟨I1.nolimit.fresh _ sbB, ?_⟩) LB.kind)
    show codeAny _ _ (.expr body (lamEnv X scope s1.heap.objs.size f cB')) _ _
    have oldB : ∀ b o, s1.heap.get? b = some o → h₁.get? b = some o := fun b o e => sbB.extBut b o (Nat.ne_of_lt (Heap.lt_size e)) (Heap.get?_push_of_some _ e)
    have JB : Inv (lamCx X (X.A.deeper (envOfC qB sB s.heap.objs.size g cdB)) (envOfC qB sB s.heap.objs.size g cdB :: X.stack) s1 HB E scope f cB') [] σ HB { s1 with heap := h₁, toks := s1.toks + ([] : List (Str × Value)).length } :=
      lam_start2 I LB I1.env0 hr.hd unB nsB oldB
    refine PySem.W.kla_codeExpr (wpAny_mono ((bodyB _ _ s1 HB (hr.deeper _)).run [] _ _ HB Q JB ht) (fun v s' qB0 => ?_) fun e s' qB0 => qB0)
    obtain ⟨wB, H', JB', rB, q⟩ := qB0
    exact ⟨wB, H', JB'.os, JB'.bare, JB'.base, JB'.hok, rB, q⟩
  refine wpAny_call (codeAny_mono runB fun r s' qB0 => ?_)
  cases r with
  | error e => exact tk e s' (XE.of_call I1 hw qB0)
  | ok fl =>
    cases fl with
    | ret u => exact I1.after qB0
    | next => exact False.elim qB0
    | brk => exact False.elim qB0
    | cont => exact False.elim qB0
end
section
variable {X : Cx}
theorem pe_lam2 {T : List (Addr × Str)} {TT : (XK → Hp → VK → Prop) → Hp → VK → Prop} {x a b z : Str} {g c P : Addr} {k : Nat} {pg : Arguments} {bg : List Stmt} {sg : Scope} {dV kV doc pm cdv ct oc : Value} {an od : Option Addr} {osl : Array (Option Value)} {Ng : List Str}
    {params : Arguments} {body : Expr} {scope : Scope} {t : XK → TE} {p lpos pos zp : Pos} {j : Nat} (hg : Gl X x) (hm : X.mg x = some (.ref g)) (hk : PySem.W.keepIn X.K (.ref g) = true)
    (lk : X.K.lookup g = some ⟨oc, od, .func (PySem.W.fnOf x x pg bg sg dV kV doc pm an cdv ct), osl⟩) (hcg : PySem.W.codeIn X.K cdv x = true) (hb : L2.Binds X.K (PySem.W.fnOf x x pg bg sg dV kV doc pm an cdv ct) [a, b] []) (Sg : FnScope Ng [a, b] sg) (hNg : Ng[0]? = some a) (hva : Vis sg a)
    (hG : Gives2 X Ng x sg g cdv bg a (X.env.qual ++ "<lambda>") z TT)
    (TB : TabB X.base X.mg c P) (hcode : X.env.code = .ref c) (hmT : (P, X.env.qual ++ "<lambda>") ∈ T) (hu : ∀ p ∈ T, p.1 = P → p.2 = X.env.qual ++ "<lambda>") (hr : Room (k + 2) X.A) (L : LamS X.env.scope scope) (hdef : defaultsOf params X.env = ([], []))
    (hbind : ∀ (q : Str) (cl : List (Str × Addr)) (pm cv ctv : Value), bindArgs (PySem.W.kla_fn "<lambda>" q params body scope cl pm cv ctv) ⟨[], []⟩ = pure [])
    (hbody : ∀ (A : Around) (outer : List Env) (s : Shared) (H : Hp) (E : XK) (f c' : Addr), Room k (A.deeper (lamEnv X scope s.heap.objs.size f c')) → PE (lamCx X A outer s H E scope f c') body (t E))
    (hdb : (x == ("__debug__" : Str)) = false := by decide) (hd : (a == ("__debug__" : Str)) = false := by decide) (hcd : (a == ("__classdict__" : Str)) = false := by decide) :
    PE X (.Call (.Name x p) [.Lambda params body scope lpos, .Constant (.str z) j zp] [] pos) (tLam T TT t) := by
  refine ⟨fun pins s σ H Q I h => ?_⟩
  obtain ⟨hT, h⟩ := h
  refine wpAny_Call_Name_kw (ld_glob I hg hm ?_ hdb)
  refine PySem.W.callWith_K (h₀ := X.base) I.ok.mod.kin hk ?_ (by rfl) (by rfl)
  show wpAny _ _ (spliced ((false, eval (.Lambda params body scope lpos) X.env) :: (false, eval (.Constant (.str z) j zp) X.env) :: backTo pos (starEach [] X.env))) _ _ s
  refine Calls.spliced_cons (lam_make2 I TB hcode hmT hu hT hdef (L.has I.ok) fun f c' pm' ctv H1 s' I1 eN T1 hf hfn hfr hco => ?_)
  refine Calls.spliced_cons (Calls.Constant_str ?_)
  have I2 : Inv X pins σ H1 { s' with toks := s'.toks + 1 } := I1.tok _
  refine Calls.spliced_nil ⟨I2.kIn, ?_⟩
  have rc : codeAny (model X.prog X.w) X.A (.call (.ref g) ⟨[.ref f, .str z s'.toks], []⟩) (CR C8.CX0 X.stack X.prog X.w H1 { s' with toks := s'.toks + 1 } Q C8.E0) { s' with toks := s'.toks + 1 } := by
    refine run_ofS (N := Ng) (ps := [a, b]) (us := [.ref f, .str z s'.toks]) (vs := [.ref f, .str z]) lk hcg Sg hr I2.env0 (hb _ [.ref f, .str z s'.toks] I2.kIn rfl) (.cons rfl (.cons ⟨_, rfl⟩ .nil)) rfl fun hr' => ?_
    obtain ⟨t', ht', hq'⟩ := hG f c' { s' with toks := s'.toks + 1 } H1 Q (fun E H' Q' => t E σ H' Q') (fun W pn xe E p1 p2 tk => pe_actS (i := 0) I2 L hf hfn hfr (hbind _ _ _ _ _) tk hr' (fun A outer s H hr2 => hbody A outer s H E f c' hr2) hNg hva hd hcd) hco (h H1 eN T1)
    exact ⟨t', ht'.nox, hq'⟩
  refine wpAny_call (codeAny_mono rc fun r s2 hq => ?_)
  cases r with
  | error e => exact (show False from hq).elim
  | ok fl =>
    cases fl with
    | ret u => exact I2.after hq
    | next => exact False.elim hq
    | brk => exact False.elim hq
    | cont => exact False.elim hq
end
end Ow
end

/-! Ow15 -/
section
set_option maxHeartbeats 4000000
set_option exponentiation.threshold 10000
/-! for i, c in enumerate(text) -/
namespace Ow
open PySem PySem.Spec PyProof.Rows L2
/-- the signs of z with their places, each in a new pair -/
def Itx (z : Str) : It :=
  ⟨fun n _ => n < z.cps.size, fun n H v H2 => ∃ T c, v = .ref T ∧ H T = none ∧ H2 = upd H T (.tup [.int (n : Nat), .str ⟨#[c]⟩]) ∧ z.cps[n]? = some c, fun n _ => n = z.cps.size⟩
theorem turn_enumS {prg : Program} {wo : World} {Kf : PySem.W.Frag} {es : List Expr} {kx : Nat} {tp : Pos} (en si : Addr) (z : Str) (tk : Tok) :
    Turn prg wo Kf (.Tuple es kx tp) (Itx z) [en, si] en (fun n h => (∃ was, IsEnum h en si ((n : Nat) : Int) was) ∧ h.IsStrIter si (strIterType z) z tk n ∧ en ≠ si) where
  mem := by simp
  obj := fun n h st y hy => by
    obtain ⟨⟨was, he⟩, ⟨ob, q1, q2, q3⟩, _⟩ := st
    have two : y = en ∨ y = si := by simpa using hy
    rcases two with rfl | rfl
    · exact ⟨_, he, fun _ q => nomatch q⟩
    · exact ⟨ob, q1, fun _ q => by rw [q3] at q; cases q⟩
  keep := fun n h h2 st kp => by
    obtain ⟨⟨was, he⟩, ⟨ob, q1, q2⟩, ne⟩ := st
    exact ⟨⟨was, kp en (by simp) _ he⟩, ⟨ob, kp si (by simp) _ q1, q2⟩, ne⟩
  item := by
    intro Y e1 e2 e3 calm n pins s σ H E I free st go
    subst e1 e2 e3
    obtain ⟨⟨was, he⟩, hit, ne⟩ := st
    have dr : Draws Y.prog Y.w Y.A.in1 si [si] z.cps.size _ _ := Draws.text (A := Y.A.in1) (I.ok.hd calm) si z tk
    have l1 : en < s.heap.objs.size := Heap.lt_size he
    have l2 : si < s.heap.objs.size := by obtain ⟨_, q, _⟩ := hit; exact Heap.lt_size q
    refine wpAny_pyNext_enum_itemD dr he hit go ne (by simpa using ne) fun u h2 tk2 hu out it2 hT hsz kp => ?_
    obtain ⟨c, tu, hc, rfl⟩ := hu
    refine ⟨_, rfl, wpAny_letOwnedTupleGo_enum (s := { s with heap := h2, toks := tk2 + 1 }) out fun h3 he3 sb => ?_⟩
    have hT3 : h3.get? s.heap.objs.size = some { cls := .type "tuple", data := .seq #[.int n tk2, .str ⟨#[c]⟩ tu] } := (sb.2 _ (Nat.ne_of_gt l1)).trans hT
    have pair : ObjOk Y.prog Y.w (upd H s.heap.objs.size (.tup [.int (n : Nat), .str ⟨#[c]⟩])) h3 s.heap.objs.size (.tup [.int (n : Nat), .str ⟨#[c]⟩]) :=
      ⟨by show 2 ≤ sizeLine; decide, [.int n tk2, .str ⟨#[c]⟩ tu], .cons ⟨_, rfl⟩ (.cons ⟨_, rfl⟩ .nil), ⟨_, hT3, rfl, _, rfl⟩⟩
    have I2 : Inv Y pins σ (upd H s.heap.objs.size (.tup [.int (n : Nat), .str ⟨#[c]⟩])) { s with heap := h3, toks := tk2 + 1 } :=
      I.turnedNew (ch := [en, si]) (fun y ob hy q => (sb.2 y (fun w => hy (by simp [w]))).trans (kp y ob (fun w => hy (by simp [w])) (fun w => hy (by simp [w])) q)) free (Nat.le_refl _) pair
    refine ⟨.ref s.heap.objs.size, _, I2, rfl, ⟨_, c, rfl, I.hok.fresh (Nat.le_refl _), rfl, hc⟩, ⟨⟨.str ⟨#[c]⟩ tu, ?_⟩, ?_, ne⟩, fun y hy => ?_⟩
    · have q : ((n + 1 : Nat) : Int) = (n : Int) + 1 := by omega
      rw [q]
      exact he3
    · obtain ⟨ob, q1, q2⟩ := it2
      exact ⟨ob, (sb.2 si (Ne.symm ne)).trans q1, q2⟩
    · have two : y = en ∨ y = si := by simpa using hy
      have small : y < s.heap.objs.size := by
        rcases two with rfl | rfl
        · exact l1
        · exact l2
      rw [upd_ne (Nat.ne_of_lt small)]
      exact (free y hy).1
  done := by
    intro Y e1 e2 e3 calm n pins s σ H E I free st stop
    subst e1 e2 e3
    obtain ⟨⟨was, he⟩, hit, ne⟩ := st
    have stop : n = z.cps.size := stop
    subst stop
    obtain ⟨f0, f1, f2, f3, f4, f5⟩ := free si (by simp)
    have dr : Draws Y.prog Y.w Y.A.in1 si [si] z.cps.size _ _ := Draws.text (A := Y.A.in1) (I.ok.hd calm) si z tk
    exact wpAny_pyNext_enum_endD dr he hit fun h2 eb => ⟨rfl, I.turned (t' := s.toks) (fun y ob hy q => eb y ob hy q) f0 f1 f3 f4 f5⟩
  self := fun A n s Q E st h => by
    obtain ⟨⟨_, he⟩, _⟩ := st
    exact wpAny_pyIter_enum he h
def iEnumS (ta : TA) : TI := fun σ H R => ta σ H fun vs H1 => ∃ z, vs = [.str z] ∧ R (Itx z) H1
theorem pi_enumS {X : Cx} {e : Expr} {ta : TA} {p pos tpos : Pos} {es : List Expr} {kx : Nat} (hg : Gl X "enumerate") (hm : X.mg "enumerate" = none) (ha : PA X [e] ta) (hs : starEach [e] X.env = [(false, eval e X.env)] := by rfl) :
    PI X (.Tuple es kx tpos) (.Call (.Name "enumerate" p) [e] [] pos) (iEnumS ta) := by
  refine ⟨fun pins s σ H R I h => ?_⟩
  refine Call_ (ld_blt I hg hm boot_enumerate (PyProof.Rows.callWith_type1 (thn (ha.run pos pins s σ H _ I h) fun us s1 hv => ?_) hs rfl))
  obtain ⟨vs, H1, I1, r1, z, ez, q⟩ := hv
  subst ez
  obtain ⟨u, rfl, ru⟩ := r1.one
  obtain ⟨tk, rfl⟩ := ru
  refine call_enumerate_str fun h2 he hit hsz hk => wpAny_pyIter_enum he ?_
  have I2 : Inv X pins σ H1 { s1 with heap := h2 } := I1.kept (t' := s1.toks) hk
  refine ⟨s1.heap.objs.size + 1, [s1.heap.objs.size + 1, s1.heap.objs.size], _, _, H1, rfl, I2, turn_enumS (s1.heap.objs.size + 1) s1.heap.objs.size z tk, ⟨⟨.none, he⟩, hit, Nat.succ_ne_self _⟩, fun y hy => ?_, q⟩
  have two : y = s1.heap.objs.size + 1 ∨ y = s1.heap.objs.size := by simpa using hy
  have big : s1.heap.objs.size ≤ y := by
    rcases two with rfl | rfl
    · exact Nat.le_add_right _ _
    · exact Nat.le_refl _
  exact I1.fpOk big (I1.hok.fresh big)
theorem walk_enumS {z : Str} : Walk (Itx z) z.cps.size (fun _ => True) (fun n H v H2 => ∃ T c, v = .ref T ∧ H T = none ∧ H2 = upd H T (.tup [.int (n : Nat), .str ⟨#[c]⟩]) ∧ z.cps[n]? = some c) :=
  ⟨fun _ _ h _ => h, fun _ _ => rfl, fun _ _ _ _ _ _ y => y⟩
end Ow
end

/-! Rm -/
section
set_option maxHeartbeats 4000000
set_option exponentiation.threshold 10000
/-! Ratios: the mathematics. -/
namespace Rm
abbrev mk (p q : Int) : Rat := Rat.divInt p q
theorem mk_self (r : Rat) : mk r.num r.den = r := Rat.num_divInt_den r
theorem den_pos (r : Rat) : (0 : Int) < (r.den : Int) := Int.ofNat_lt.mpr r.den_pos
theorem cross {p q : Int} (h : q ≠ 0) : p * ((mk p q).den : Int) = (mk p q).num * q := by
  have := (Rat.divInt_eq_divInt_iff (n₁ := p) (n₂ := (mk p q).num) (d₂ := ((mk p q).den : Int)) h (Int.ne_of_gt (den_pos _))).mp (mk_self (mk p q)).symm
  exact this
/-- what the __init__ shares out -/
def sh (p q : Int) : Int := if q > 0 then (Int.gcd p q : Int) else -(Int.gcd p q : Int)
theorem sh_ne {p q : Int} (h : q ≠ 0) : sh p q ≠ 0 := by
  have : Int.gcd p q ≠ 0 := fun z => h (Int.gcd_eq_zero_iff.mp z).2
  unfold sh; split <;> omega
theorem sh_top {p q : Int} (h : q ≠ 0) : p.fdiv (sh p q) = (mk p q).num := by
  have d1 : ((Int.gcd p q : Nat) : Int) ∣ p := Int.gcd_dvd_left ..
  have g0 : Int.gcd p q ≠ 0 := fun z => h (Int.gcd_eq_zero_iff.mp z).2
  rw [Rat.num_divInt, Int.gcd_comm q p]
  unfold sh
  split
  · rename_i z
    rw [Int.fdiv_eq_ediv_of_dvd d1, Int.sign_eq_one_of_pos z, Int.one_mul]
  · rename_i z
    have z : q < 0 := by omega
    rw [Int.fdiv_eq_ediv_of_dvd (Int.neg_dvd.mpr d1), Int.sign_eq_neg_one_of_neg z, Int.ediv_neg, Int.neg_mul, Int.one_mul, Int.neg_ediv_of_dvd d1]
theorem sh_bot {p q : Int} (h : q ≠ 0) : q.fdiv (sh p q) = ((mk p q).den : Int) := by
  have d1 : ((Int.gcd p q : Nat) : Int) ∣ q := Int.gcd_dvd_right ..
  rw [Rat.den_divInt, if_neg h, Int.gcd_comm q p]
  unfold sh
  split
  · rename_i z
    rw [Int.fdiv_eq_ediv_of_dvd d1, Int.natCast_ediv, Int.natAbs_of_nonneg (by omega)]
  · rename_i z
    have z : q < 0 := by omega
    rw [Int.fdiv_eq_ediv_of_dvd (Int.neg_dvd.mpr d1), Int.ediv_neg, Int.natCast_ediv, Int.ofNat_natAbs_of_nonpos (by omega), Int.neg_ediv_of_dvd d1]
theorem num_le (p q : Int) (h : q ≠ 0) : (mk p q).num.natAbs ≤ p.natAbs := by
  have c := cross (p := p) h
  have e := congrArg Int.natAbs c
  rw [Int.natAbs_mul, Int.natAbs_mul, Int.natAbs_natCast] at e
  have l := Nat.mul_le_mul_left (mk p q).num.natAbs (Nat.pos_of_ne_zero (Int.natAbs_ne_zero.mpr h))
  rw [Rat.num_divInt]
  have : (q.sign * p).natAbs ≤ p.natAbs := by
    rw [Int.natAbs_mul, Int.natAbs_sign]
    split <;> omega
  refine Nat.le_trans ?_ this
  rw [Int.natAbs_ediv_of_dvd (Int.dvd_mul_of_dvd_right (Int.gcd_dvd_right ..))]
  exact Nat.div_le_self ..
theorem den_le (p q : Int) (h : q ≠ 0) : (mk p q).den ≤ q.natAbs := by
  rw [Rat.den_divInt, if_neg h]
  exact Nat.div_le_self ..
/-- no part longer than n bits -/
def Bd (n : Nat) (r : Rat) : Prop := r.num.natAbs < 2 ^ n ∧ r.den < 2 ^ n
theorem bd_mk {p q : Int} {n : Nat} (h : q ≠ 0) (hp : p.natAbs < 2 ^ n) (hq : q.natAbs < 2 ^ n) : Bd n (mk p q) := ⟨Nat.lt_of_le_of_lt (num_le p q h) hp, Nat.lt_of_le_of_lt (den_le p q h) hq⟩
theorem Bd.mono {n m : Nat} {r : Rat} (h : Bd n r) (l : n ≤ m) : Bd m r := ⟨Nat.lt_of_lt_of_le h.1 (Nat.pow_le_pow_right (by decide) l), Nat.lt_of_lt_of_le h.2 (Nat.pow_le_pow_right (by decide) l)⟩
theorem mul_lt {a b : Int} {n m : Nat} (ha : a.natAbs < 2 ^ n) (hb : b.natAbs < 2 ^ m) : (a * b).natAbs < 2 ^ (n + m) := by
  rw [Int.natAbs_mul, Nat.pow_add]
  exact Nat.mul_lt_mul'' ha hb
theorem add_lt {a b : Int} {n : Nat} (ha : a.natAbs < 2 ^ n) (hb : b.natAbs < 2 ^ n) : (a + b).natAbs < 2 ^ (n + 1) := by
  have := Int.natAbs_add_le a b
  rw [Nat.pow_succ]; omega
theorem sub_lt {a b : Int} {n : Nat} (ha : a.natAbs < 2 ^ n) (hb : b.natAbs < 2 ^ n) : (a - b).natAbs < 2 ^ (n + 1) := by
  have := Int.natAbs_sub_le a b
  rw [Nat.pow_succ]; omega
theorem add_mk (r s : Rat) : mk (r.num * s.den + s.num * r.den) (r.den * s.den) = r + s := by
  show Rat.divInt _ _ = _
  rw [← Rat.divInt_add_divInt _ _ (Int.ne_of_gt (den_pos r)) (Int.ne_of_gt (den_pos s)), Rat.num_divInt_den, Rat.num_divInt_den]
theorem sub_mk (r s : Rat) : mk (r.num * s.den - s.num * r.den) (r.den * s.den) = r - s := by
  show Rat.divInt _ _ = _
  rw [← Rat.divInt_sub_divInt _ _ (Int.ne_of_gt (den_pos r)) (Int.ne_of_gt (den_pos s)), Rat.num_divInt_den, Rat.num_divInt_den]
theorem mul_mk (r s : Rat) : mk (r.num * s.num) (r.den * s.den) = r * s := by
  show Rat.divInt _ _ = _
  rw [← Rat.divInt_mul_divInt, Rat.num_divInt_den, Rat.num_divInt_den]
theorem div_mk (r s : Rat) : mk (r.num * s.den) (r.den * s.num) = r / s := by
  show Rat.divInt _ _ = _
  rw [Rat.div_def, Rat.inv_def, ← Rat.divInt_mul_divInt, Rat.num_divInt_den]
theorem neg_mk (r : Rat) : mk (-r.num) r.den = -r := by
  show Rat.divInt _ _ = _
  rw [← Rat.neg_divInt, Rat.num_divInt_den]
theorem int_mk (n : Int) : mk n 1 = (n : Rat) := by
  have := mk_self (n : Rat)
  rwa [Rat.num_intCast, Rat.den_intCast] at this
/-- the sign of r - s as the program reckons it -/
def cmp (r s : Rat) : Int := (r.num * s.den - s.num * r.den).sign
theorem ext_iff (r s : Rat) : r = s ↔ r.num = s.num ∧ r.den = s.den := ⟨fun h => h ▸ ⟨rfl, rfl⟩, fun ⟨a, b⟩ => by rw [← mk_self r, ← mk_self s, a, b]⟩
theorem cmp_mk {p q u v : Int} (hq : q ≠ 0) (hv : v ≠ 0) : cmp (mk p q) (mk u v) = ((p * v - u * q) * (q * v)).sign := by
  generalize e1 : mk p q = r
  generalize e2 : mk u v = s
  have c1 := cross (p := p) hq
  have c2 := cross (p := u) hv
  rw [e1] at c1
  rw [e2] at c2
  have d1 := den_pos r
  have d2 := den_pos s
  unfold cmp
  have key : (r.num * s.den - s.num * r.den) * (q * v * (q * v)) = (p * v - u * q) * (q * v) * (r.den * s.den) := by
    calc (r.num * s.den - s.num * r.den) * (q * v * (q * v)) = (r.num * q) * (s.den * v) * (q * v) - (s.num * v) * (r.den * q) * (q * v) := by grind
      _ = (p * r.den) * (s.den * v) * (q * v) - (u * s.den) * (r.den * q) * (q * v) := by rw [← c1, ← c2]
      _ = _ := by grind
  have k2 := congrArg Int.sign key
  have pos1 : 0 < q * v * (q * v) := by
    have : q * v ≠ 0 := Int.mul_ne_zero hq hv
    rcases Int.lt_trichotomy (q * v) 0 with h | h | h
    · exact Int.mul_pos_of_neg_of_neg h h
    · exact absurd h this
    · exact Int.mul_pos h h
  have pos2 := Int.mul_pos d1 d2
  rwa [Int.sign_mul, Int.sign_eq_one_of_pos pos1, Int.mul_one, Int.sign_mul (_ * _) (_ * _), Int.sign_eq_one_of_pos pos2, Int.mul_one] at k2
theorem cmp_zero (r s : Rat) : cmp r s = 0 ↔ r = s := by
  unfold cmp
  rw [Int.sign_eq_zero_iff_zero, Rat.eq_iff_mul_eq_mul]
  omega
end Rm
namespace Rm
theorem mk_eq {p q u v : Int} (hq : q ≠ 0) (hv : v ≠ 0) (h : p * v = u * q) : mk p q = mk u v := (Rat.divInt_eq_divInt_iff hq hv).mpr h
theorem abs_mk {p q : Int} (hq : q ≠ 0) : mk (if (mk p q).num < 0 then -(mk p q).num else (mk p q).num) (mk p q).den = mk (if p < 0 then -p else p) (if q < 0 then -q else q) := by
  have c := cross (p := p) hq
  have d := den_pos (mk p q)
  generalize mk p q = r at *
  have key : (if p < 0 then -p else p) * (r.den : Int) = (if r.num < 0 then -r.num else r.num) * (if q < 0 then -q else q) := by
    have e := congrArg Int.natAbs c
    rw [Int.natAbs_mul, Int.natAbs_mul, Int.natAbs_natCast] at e
    have e1 : (if p < 0 then -p else p) = (p.natAbs : Int) := by split <;> omega
    have e2 : (if r.num < 0 then -r.num else r.num) = (r.num.natAbs : Int) := by split <;> omega
    have e3 : (if q < 0 then -q else q) = (q.natAbs : Int) := by split <;> omega
    rw [e1, e2, e3]
    have := congrArg (fun n : Nat => (n : Int)) e
    simpa using this
  refine mk_eq (Int.ne_of_gt d) (by split <;> omega) ?_
  rw [← key]
theorem neg_mk2 (p q : Int) : -(mk p q) = mk (-p) q := Rat.neg_divInt p q
end Rm
end

/-! Tm -/
section
set_option maxHeartbeats 4000000
set_option exponentiation.threshold 10000
/-! Texts of plain signs: names and labels, the mathematics. -/
namespace Tm
open PySem
abbrev tl (z : Str) : List Nat := z.cps.toList
def lowA (c : Nat) : Nat := if 65 ≤ c ∧ c ≤ 90 then c + 32 else c
def small (c : Nat) : Bool := decide (97 ≤ c ∧ c ≤ 122)
def fig (c : Nat) : Bool := decide (48 ≤ c ∧ c ≤ 57)
theorem low_tab : ∀ c : Fin 128, Unicode.lowerOf c.val = [lowA c.val] := by decide +kernel
theorem aln_tab : ∀ c : Fin 128, Unicode.isAlnum c.val = (small c.val || fig c.val || decide (65 ≤ c.val ∧ c.val ≤ 90)) := by decide +kernel
theorem dig_tab : ∀ c : Fin 128, Unicode.isDigit c.val = fig c.val := by decide +kernel
def Asc (z : Str) : Prop := ∀ c ∈ tl z, c < 128
theorem lowerAt_asc {z : Str} (h : Asc z) {i : Nat} {c : Nat} (e : z.cps[i]? = some c) : Unicode.lowerAt z.cps i = [lowA c] := by
  have hc : c < 128 := h c (by rw [← Array.getElem?_toList] at e; exact List.mem_of_getElem? e)
  unfold Unicode.lowerAt
  rw [e]
  dsimp only
  have n : (c == 0x3A3) = false := by
    rw [beq_eq_false_iff_ne]
    omega
  rw [n, Bool.false_and, if_neg (by simp)]
  exact low_tab ⟨c, hc⟩
theorem lower_asc {z : Str} (h : Asc z) : tl (Txt.lower z) = (tl z).map lowA := by
  unfold Txt.lower placed tl
  have e : (z.cps.mapIdx fun i c => (Unicode.lowerAt z.cps i).toArray) = z.cps.map fun c => #[lowA c] := by
    apply Array.ext
    · simp
    · intro i h1 h2
      rw [Array.getElem_mapIdx, Array.getElem_map]
      rw [lowerAt_asc h (c := z.cps[i]'(by simpa using h1)) (by simp)]
  dsimp only
  rw [e, Array.toList_flatten]
  simp [Function.comp_def, List.flatMap_def.symm]
  induction z.cps.toList with
  | nil => rfl
  | cons a l ih => simp_all
theorem lower_eq {z : Str} (h : Asc z) : decide (z = Txt.lower z) = (tl z).all fun c => !decide (65 ≤ c ∧ c ≤ 90) := by
  have k : z = Txt.lower z ↔ ∀ c ∈ tl z, ¬ (65 ≤ c ∧ c ≤ 90) := by
    constructor
    · intro e c hc q
      have e2 : tl z = (tl z).map lowA := by
        have := congrArg tl e
        rw [lower_asc h] at this
        exact this
      obtain ⟨i, hi, rfl⟩ := List.mem_iff_getElem.mp hc
      have e3 : (tl z)[i] = lowA (tl z)[i] := by
        have := List.getElem_of_eq e2 hi
        rwa [List.getElem_map] at this
      unfold lowA at e3
      rw [if_pos q] at e3
      omega
    · intro hn
      apply TL.ext_tl
      show tl z = tl (Txt.lower z)
      rw [lower_asc h]
      conv => lhs; rw [← List.map_id (tl z)]
      apply List.map_congr_left
      intro c hc
      unfold lowA
      rw [if_neg (hn c hc)]
      rfl
  rw [Bool.eq_iff_iff, decide_eq_true_iff, k, List.all_eq_true]
  constructor
  · intro q c hc
    rw [decide_eq_false (q c hc)]
    rfl
  · intro q c hc z
    have := q c hc
    rw [decide_eq_true z] at this
    cases this
/-- what is_name reckons -/
def nameB (z : Str) : Bool := decide (1 ≤ (z.length : Int)) && decide ((z.length : Int) ≤ 12) && Txt.isascii z && Txt.isalnum z && decide (z = Txt.lower z) && !(fig ((tl z).headD 0))
/-- what the law's own walk reckons -/
def nameL (z : Str) : Bool := decide (1 ≤ (tl z).length) && decide ((tl z).length ≤ 12) && small ((tl z).headD 0) && (tl z).all fun c => small c || fig c
theorem len_tl (z : Str) : z.length = (tl z).length := by
  show z.cps.size = _
  simp [tl]
theorem name_eq {z : Str} (h : Asc z) : nameB z = nameL z := by
  unfold nameB nameL
  rw [lower_eq h, len_tl z]
  have ha : Txt.isascii z = true := by
    unfold Txt.isascii
    rw [Array.all_eq_true']
    intro c hc
    simpa using h c (by simpa [tl] using hc)
  have hn : Txt.isalnum z = (decide ((tl z).length > 0) && (tl z).all fun c => small c || fig c || decide (65 ≤ c ∧ c ≤ 90)) := by
    unfold Txt.isalnum
    rw [len_tl z, ← Array.all_toList]
    congr 1
    show (tl z).all _ = (tl z).all _
    rw [Bool.eq_iff_iff, List.all_eq_true, List.all_eq_true]
    constructor
    · intro q c hc
      rw [← aln_tab ⟨c, h c hc⟩]
      exact q c hc
    · intro q c hc
      have := q c hc
      rw [← aln_tab ⟨c, h c hc⟩] at this
      exact this
  rw [ha, hn]
  cases e : tl z with
  | nil => simp
  | cons c r =>
    rw [Bool.eq_iff_iff]
    simp only [List.length_cons, List.headD_cons, List.all_cons, Bool.and_eq_true, decide_eq_true_eq, Bool.or_eq_true, Bool.not_eq_true', List.all_eq_true, small, fig, decide_eq_false_iff_not]
    constructor
    · rintro ⟨⟨⟨⟨⟨h1, h2⟩, _⟩, h3, h4, h5⟩, h6, h7⟩, h8⟩
      have h8 := of_decide_eq_false h8
      refine ⟨⟨⟨by omega, by omega⟩, decide_eq_true (by omega)⟩, by omega, fun x hx => ?_⟩
      have a := h5 x hx
      have b := h7 x hx
      omega
    · rintro ⟨⟨⟨h1, h2⟩, h3⟩, h4, h5⟩
      have h3 := of_decide_eq_true h3
      refine ⟨⟨⟨⟨⟨by omega, by omega⟩, trivial⟩, by omega, by omega, fun x hx => ?_⟩, by omega, fun x hx => ?_⟩, decide_eq_false (by omega)⟩
      · have a := h5 x hx
        omega
      · have a := h5 x hx
        omega
/-- a name, sign by sign -/
def nameS (l : List Nat) : Bool := decide (1 ≤ l.length) && decide (l.length ≤ 12) && small (l.headD 0) && l.all fun c => small c || fig c
theorem nameL_eq (z : Str) : nameL z = nameS (tl z) := rfl
def cut : List Nat → Option (List Nat × List Nat)
  | [] => none
  | c :: r => if c = 46 then some ([], r) else (cut r).map fun p => (c :: p.1, p.2)
theorem cut_none : ∀ {l : List Nat}, cut l = none → 46 ∉ l
  | [], _ => by simp
  | c :: r, h => by
    unfold cut at h
    split at h
    · cases h
    · rename_i n
      have e := Option.map_eq_none_iff.mp h
      intro q
      rcases List.mem_cons.mp q with q | q
      · exact n q.symm
      · exact cut_none e q
theorem cut_some : ∀ {l a b : List Nat}, cut l = some (a, b) → l = a ++ 46 :: b ∧ 46 ∉ a
  | [], a, b, h => by cases h
  | c :: r, a, b, h => by
    unfold cut at h
    split at h
    · rename_i n
      cases h
      exact ⟨by rw [n]; rfl, by simp⟩
    · rename_i n
      obtain ⟨⟨a2, b2⟩, e, q⟩ := Option.map_eq_some_iff.mp h
      cases q
      obtain ⟨e1, e2⟩ := cut_some e
      refine ⟨by rw [e1]; rfl, fun q => ?_⟩
      rcases List.mem_cons.mp q with q | q
      · exact n q.symm
      · exact e2 q
theorem cut_app {a b : List Nat} (h : 46 ∉ a) : cut (a ++ 46 :: b) = some (a, b) := by
  induction a with
  | nil => rfl
  | cons c r ih =>
    have n : c ≠ 46 := fun z => h (by rw [z]; simp)
    show (if c = 46 then _ else _) = _
    rw [if_neg n]
    have e := ih (fun z => h (List.mem_cons_of_mem _ z))
    show (cut (r ++ 46 :: b)).map _ = _
    rw [e]
    rfl
/-- a label, sign by sign -/
def labelS (l : List Nat) : Bool := match cut l with
  | none => false
  | some (a, b) => nameS a && nameS b
def dot : Str := "."
theorem tl_dot : tl dot = [46] := by decide +kernel
theorem tl_mk (l : List Nat) : tl ⟨l.toArray⟩ = l := by simp [tl]
/-- where the first dot parts a text -/
theorem part_dot (z : Str) : ∃ a m b : Str, Txt.partition z dot = (a, m, b) ∧ (nameL a && nameL b) = labelS (tl z) ∧ (∀ c ∈ tl a, c ∈ tl z) ∧ (∀ c ∈ tl b, c ∈ tl z) ∧ (tl a).length ≤ (tl z).length ∧ (tl b).length ≤ (tl z).length := by
  unfold labelS
  cases e : cut (tl z) with
  | none =>
    refine ⟨z, Str.empty, Str.empty, TL.partition_none (s := 46) (S := []) tl_dot (cut_none e), ?_, fun c h => h, fun c h => ?_, Nat.le_refl _, Nat.zero_le _⟩
    · have : nameL Str.empty = false := by decide +kernel
      rw [this, Bool.and_false]
    · have : tl Str.empty = [] := rfl
      rw [this] at h
      cases h
  | some p =>
    obtain ⟨a, b⟩ := p
    obtain ⟨e1, e2⟩ := cut_some e
    have ez : z = (⟨a.toArray⟩ : Str) ++ dot ++ ⟨b.toArray⟩ := by
      apply TL.ext_tl
      rw [TL.tl_append, TL.tl_append]
      have t1 : tl (⟨a.toArray⟩ : Str) = a := tl_mk a
      have t2 : tl (⟨b.toArray⟩ : Str) = b := tl_mk b
      show tl z = tl (⟨a.toArray⟩ : Str) ++ tl dot ++ tl (⟨b.toArray⟩ : Str)
      rw [t1, t2, tl_dot, e1]
      simp
    refine ⟨⟨a.toArray⟩, dot, ⟨b.toArray⟩, ?_, ?_, fun c h => ?_, fun c h => ?_, ?_, ?_⟩
    · conv => lhs; rw [ez]
      exact TL.partition_app (s := 46) (S := []) tl_dot (by show 46 ∉ tl _; rw [tl_mk]; exact e2)
    · rw [nameL_eq, nameL_eq, tl_mk, tl_mk]
    · rw [tl_mk] at h
      rw [e1]
      exact List.mem_append_left _ h
    · rw [tl_mk] at h
      rw [e1]
      exact List.mem_append_right _ (List.mem_cons_of_mem _ h)
    · rw [tl_mk, e1, List.length_append]
      omega
    · rw [tl_mk, e1, List.length_append, List.length_cons]
      omega
end Tm
end

/-! Nm -/
section
set_option maxHeartbeats 4000000
set_option exponentiation.threshold 10000
/-! The texts of whole numbers. -/
namespace Nm
open PySem
def tx (n : Int) : Str := Str.ofString (toString n)
theorem tl_nat (m : Nat) : TL.tl (tx (m : Int)) = TL.numL m := TL.tl_num m
theorem tl_neg {m : Nat} (h : 0 < m) : TL.tl (tx (-(m : Int))) = 45 :: TL.numL m := by
  obtain ⟨k, rfl⟩ : ∃ k, m = k + 1 := ⟨m - 1, by omega⟩
  have e : (-((k + 1 : Nat) : Int)) = Int.negSucc k := rfl
  have t : toString (Int.negSucc k) = "-" ++ Nat.repr (k + 1) := rfl
  show (Str.ofString (toString (-((k + 1 : Nat) : Int)))).cps.toList = _
  rw [PyProof.Rows.signs_ofString, e, t, String.toList_append, List.map_append, Nat.toList_repr]
  rfl
/-- a number's text: its sign, then its figures -/
theorem tl_int (n : Int) : TL.tl (tx n) = (if n < 0 then [45] else []) ++ TL.numL n.natAbs := by
  by_cases h : n < 0
  · rw [if_pos h]
    have e : n = -((n.natAbs : Nat) : Int) := by omega
    conv => lhs; rw [e]
    rw [tl_neg (by omega)]
    rfl
  · rw [if_neg h]
    have e : n = ((n.natAbs : Nat) : Int) := by omega
    conv => lhs; rw [e]
    rw [tl_nat]
    rfl
def mns : Str := "-"
theorem tl_mns : mns.cps.toList = [45] := by decide +kernel
theorem mk_eq {x y : Str} (h : TL.tl x = TL.tl y) : x = y := TL.ext_tl h
theorem subAt_nat (m : Nat) : Builtin.Str.subAt (tx (m : Int)) mns 0 = false := by
  cases q : Builtin.Str.subAt (tx (m : Int)) mns 0 with
  | false => rfl
  | true =>
    have e := congrArg Array.toList (eq_of_beq q)
    rw [tl_mns] at e
    have hd := TL.numL_digits m
    have hn := TL.numL_ne m
    rw [Array.toList_extract] at e
    have t : (tx (m : Int)).cps.toList = TL.numL m := tl_nat m
    rw [t] at e
    cases hl : TL.numL m with
    | nil => exact absurd hl hn
    | cons c r =>
      rw [hl] at e hd
      have h1 : mns.length = 1 := by decide +kernel
      rw [h1] at e
      simp [List.extract_eq_drop_take] at e
      have := hd c (by simp)
      omega
theorem subAt_neg {m : Nat} (h : 0 < m) : Builtin.Str.subAt (tx (-(m : Int))) mns 0 = true := by
  unfold Builtin.Str.subAt
  rw [beq_iff_eq]
  apply Array.toList_inj.mp
  rw [tl_mns, Array.toList_extract]
  have t : (tx (-(m : Int))).cps.toList = 45 :: TL.numL m := tl_neg h
  have h1 : mns.length = 1 := by decide +kernel
  rw [t, h1]
  simp [List.extract_eq_drop_take]
/-- without the sign -/
theorem rp (n : Int) : Txt.removeprefix (tx n) mns = tx (n.natAbs : Int) := by
  by_cases h : n < 0
  · have e : n = -((n.natAbs : Nat) : Int) := by omega
    have hp : 0 < n.natAbs := by omega
    generalize n.natAbs = m at *
    subst e
    have t : (tx (-(m : Int))).cps.toList = 45 :: TL.numL m := tl_neg hp
    have h1 : mns.length = 1 := by decide +kernel
    have ln : (tx (-(m : Int))).length = (TL.numL m).length + 1 := by
      show (tx (-(m : Int))).cps.size = _
      rw [← Array.length_toList, t]
      rfl
    rw [StrLaws.removeprefix_eq, subAt_neg hp, h1, ln, if_pos (by simp)]
    apply mk_eq
    rw [tl_nat, t]
    simp [TL.tl]
  · have e : n = ((n.natAbs : Nat) : Int) := by omega
    generalize n.natAbs = m at *
    subst e
    rw [StrLaws.removeprefix_eq, subAt_nat, Bool.and_false, if_neg (by simp)]
theorem ne_abs {n : Int} : tx n ≠ tx (n.natAbs : Int) ↔ n < 0 := by
  constructor
  · intro h
    refine Decidable.byContradiction fun z => h ?_
    have e : n = ((n.natAbs : Nat) : Int) := by omega
    rw [← e]
  · intro h e
    have e2 := congrArg TL.tl e
    rw [tl_int, if_pos h, tl_nat] at e2
    have := congrArg List.length e2
    simp at this
theorem len (n : Int) {k : Nat} (hk : 0 < k) (h : n.natAbs < 10 ^ k) : (tx n).length ≤ k + 1 := by
  show (tx n).cps.size ≤ _
  have t : (tx n).cps.toList = _ := tl_int n
  rw [← Array.length_toList, t, List.length_append]
  have := TL.numL_len hk h
  split <;> simp <;> omega
theorem len_nat (m : Nat) {k : Nat} (hk : 0 < k) (h : m < 10 ^ k) : (tx (m : Int)).length ≤ k := by
  show (tx (m : Int)).cps.size ≤ _
  have t : (tx (m : Int)).cps.toList = _ := tl_nat m
  rw [← Array.length_toList, t]
  exact TL.numL_len hk h
theorem len_pos (m : Nat) : 1 ≤ (tx (m : Int)).length := by
  show 1 ≤ (tx (m : Int)).cps.size
  have t : (tx (m : Int)).cps.toList = _ := tl_nat m
  rw [← Array.length_toList, t]
  exact Nat.pos_of_ne_zero fun z => TL.numL_ne m (List.length_eq_zero_iff.mp z)
theorem free {n : Int} {s : Nat} (h1 : s ≠ 45) (h2 : s < 48 ∨ 57 < s) : s ∉ TL.tl (tx n) := by
  rw [tl_int]
  intro q
  rcases List.mem_append.mp q with q | q
  · split at q
    · exact h1 (List.mem_singleton.mp q)
    · cases q
  · exact TL.numL_free h2 q
theorem ascii (m : Nat) : Txt.isascii (tx (m : Int)) = true := by
  unfold Txt.isascii
  rw [← Array.all_toList, List.all_eq_true]
  intro c hc
  have t : (tx (m : Int)).cps.toList = _ := tl_nat m
  rw [t] at hc
  have := TL.numL_digits m c hc
  simp
  omega
theorem digits (m : Nat) : Txt.isdigit (tx (m : Int)) = true := by
  unfold Txt.isdigit
  rw [Bool.and_eq_true, decide_eq_true_iff, ← Array.all_toList, List.all_eq_true]
  refine ⟨len_pos m, fun c hc => ?_⟩
  have t : (tx (m : Int)).cps.toList = _ := tl_nat m
  rw [t] at hc
  have hd := TL.numL_digits m c hc
  rw [Tm.dig_tab ⟨c, by omega⟩]
  unfold Tm.fig
  exact decide_eq_true hd
theorem split_one {z : Str} (h : 32 ∉ TL.tl z) : Txt.split z " " = [z] := by
  have e := TL.split_join (y := " ") (s := 32) (S := []) (by decide +kernel) (by decide +kernel) (parts := [z]) (by simp) (fun p hp => by rw [List.mem_singleton.mp hp]; exact h)
  rw [TL.join_eq] at e
  exact e
end Nm
end

/-! Kw2 -/
section
set_option maxHeartbeats 4000000
set_option exponentiation.threshold 10000
namespace Kw
open PySem PySem.Spec PyProof.Rows L2 He Er Ow
theorem fun_of {K : PySem.W.Frag} {x qual : Str} {st : Stmt} {f : Addr} {fd : FuncData} (F : FunD K x qual (defArgs st) (defBody st) (defScope st) [] [] f fd) : L2.Fun K x qual st f fd := by
  obtain ⟨oc, od, dV, kV, doc, pm, an, cdv, ct, osl, e, lk, hc, hd, _⟩ := F.ex
  have z : dV = .none := by
    rcases hd with ⟨_, z⟩ | ⟨z, _⟩
    · exact z
    · exact absurd rfl z
  subst z
  exact ⟨⟨oc, od, kV, doc, pm, an, cdv, ct, osl, e, lk, hc⟩, F.kp⟩
theorem ba3 {K : PySem.W.Frag} {x m : Str} (h : (Fa.meth x m).ok K = true) : eqO (PySem.W.findIn K (.ref (ga K x)) m) (some (some (.ref (ma K (ga K x) m)))) = true ∧ True ∧ (PySem.W.isFn K (.ref (ma K (ga K x) m)) = true ∧ PySem.W.keepIn K (.ref (ma K (ga K x) m)) = true) := by
  obtain ⟨h1, h2⟩ := ba h
  exact ⟨h1, trivial, ba h2⟩
/-- what the head tells, and where it stands -/
structure Hd (K : PySem.W.Frag) (mg : Str → Option Value) : Prop where
  s : SaysE fa fn fs exA K
  p : ∀ d ∈ fp, fnP K d = d.val
  h : ∃ h : Heap, K.In h ∧ h.Ns mainGlobals mg
section
variable {K : PySem.W.Frag} {mg : Str → Option Value}
theorem Hd.glo (S : Hd K mg) {x : Str} (i : Nat) (e : fa[i]? = some (.glo x) := by rfl) : mg x = some (.ref (ga K x)) := by
  obtain ⟨h, X, G⟩ := S.h
  exact glo_ok X G (S.s.d.fact i e)
theorem Hd.free (S : Hd K mg) {x : Str} (i : Nat) (e : fa[i]? = some (.free x) := by rfl) : mg x = none := by
  obtain ⟨h, X, G⟩ := S.h
  exact free_ok X G (S.s.d.fact i e)
theorem Hd.int (S : Hd K mg) {x : Str} {n : Int} (i : Nat) (e : fa[i]? = some (.int x n) := by rfl) : ∃ t, mg x = some (.int n t) := by
  obtain ⟨h, X, G⟩ := S.h
  exact int_ok X G (S.s.d.fact i e)
theorem Hd.b0 (S : Hd K mg) : gloB K = true := (ba (ba S.s.x).1).1
theorem Hd.b1 (S : Hd K mg) : (([("BadRatio" : Str), ("BadText" : Str)] : List Str).all fun x => errB K (ga K x)) = true := (ba (ba (ba S.s.x).1).2).1
theorem Hd.b2 (S : Hd K mg) : (fs.all fun d => iniB K d.cls && (supB K P.main.file d && supIB K (ga K d.cls) (ga K d.cls))) = true := (ba (ba (ba (ba S.s.x).1).2).2).1
theorem Hd.b3 (S : Hd K mg) : (fp.all fun d => d.ok K && kindB K d) = true := (ba (ba (ba (ba (ba S.s.x).1).2).2).2).1
theorem Hd.b4 (S : Hd K mg) : eqO (PySem.W.nsIn K mainGlobals "gcd") (some (some (.builtin "math.gcd"))) = true := (ba (ba (ba (ba (ba (ba S.s.x).1).2).2).2).2).1
theorem Hd.b5 (S : Hd K mg) : opB K (ga K "Ratio") = true := (ba (ba (ba (ba (ba (ba (ba S.s.x).1).2).2).2).2).2).1
theorem Hd.b6 (S : Hd K mg) : isiB K (ga K "Ratio") = true := (ba (ba (ba (ba (ba (ba (ba S.s.x).1).2).2).2).2).2).2
theorem Hd.tb (S : Hd K mg) : tbB K = true := (ba S.s.x).2
theorem Hd.gcd (S : Hd K mg) : mg "gcd" = some (.builtin "math.gcd") := by
  obtain ⟨h, X, G⟩ := S.h
  exact PySem.W.mg_of X G (eqO_ok S.b4)
theorem Hd.err (S : Hd K mg) {x : Str} (h : x ∈ ([("BadRatio" : Str), ("BadText" : Str)] : List Str)) : ErrC K (ga K x) := errB_ok S.b0 (List.all_eq_true.mp S.b1 x h)
theorem Hd.def_ (S : Hd K mg) (i : Nat) {d : DefD} (e : fn[i]? = some d := by rfl) (h1 : DefD.dvs K d = [] := by rfl) (h2 : DefD.kws K d = [] := by rfl) : ∃ fd, FunD K d.name d.qual d.params d.body d.scope [] [] (fAd K d.at_) fd := by
  obtain ⟨fd, F⟩ := S.s.d.def_ i e
  rw [h1, h2] at F
  exact ⟨fd, F⟩
theorem Hd.defP (S : Hd K mg) {d : DefP} {st : Stmt} (h : d ∈ fp) (e1 : defArgs st = d.params) (e2 : defBody st = d.body) (e3 : defScope st = d.scope) :
    (∃ fd, L2.Fun K d.name d.qual st (d.at_ K) fd) ∧ ∃ rest, PySem.W.recIn K (ma K (ga K d.cls) d.name) d.kind = some (.ref (d.at_ K) :: rest) :=
  DefP.fun_ok (S.p d h) (ba (List.all_eq_true.mp S.b3 d h)).1 e1 e2 e3
theorem Hd.sh0 (S : Hd K mg) : Shared0 P K := by
  obtain ⟨_, g⟩ := ba S.b0
  obtain ⟨_, g⟩ := ba g
  obtain ⟨g1, g⟩ := ba g
  obtain ⟨g2, _⟩ := ba g
  exact ⟨eqO_ok g1, by decide +kernel, eqO_ok g2⟩
theorem Hd.cls (S : Hd K mg) : Cls K (ga K "Ratio") := cls_ok (S.s.d.fact 63 rfl)
theorem Hd.mkr (S : Hd K mg) : Mk K (ga K "Ratio") (ma K (ga K "Ratio") "__init__") := mkr_ok (S.s.d.fact 64 rfl)
theorem Hd.noTop (S : Hd K mg) : NoAttr K (ga K "Ratio") "top" := noat_ok (S.s.d.fact 65 rfl)
theorem Hd.noBot (S : Hd K mg) : NoAttr K (ga K "Ratio") "bottom" := noat_ok (S.s.d.fact 66 rfl)
theorem Hd.me_add (S : Hd K mg) : Meth K (ga K "Ratio") "__add__" (ma K (ga K "Ratio") "__add__") := meth_ok (S.s.d.fact 67 rfl)
theorem Hd.me_sub (S : Hd K mg) : Meth K (ga K "Ratio") "__sub__" (ma K (ga K "Ratio") "__sub__") := meth_ok (S.s.d.fact 68 rfl)
theorem Hd.me_mul (S : Hd K mg) : Meth K (ga K "Ratio") "__mul__" (ma K (ga K "Ratio") "__mul__") := meth_ok (S.s.d.fact 69 rfl)
theorem Hd.me_over (S : Hd K mg) : Meth K (ga K "Ratio") "over" (ma K (ga K "Ratio") "over") := meth_ok (S.s.d.fact 70 rfl)
theorem Hd.me_compared (S : Hd K mg) : Meth K (ga K "Ratio") "compared" (ma K (ga K "Ratio") "compared") := meth_ok (S.s.d.fact 71 rfl)
theorem Hd.me_is_below (S : Hd K mg) : Meth K (ga K "Ratio") "is_below" (ma K (ga K "Ratio") "is_below") := meth_ok (S.s.d.fact 72 rfl)
theorem Hd.me_neg (S : Hd K mg) : Meth K (ga K "Ratio") "__neg__" (ma K (ga K "Ratio") "__neg__") := meth_ok (S.s.d.fact 73 rfl)
theorem Hd.me_abs (S : Hd K mg) : Meth K (ga K "Ratio") "__abs__" (ma K (ga K "Ratio") "__abs__") := meth_ok (S.s.d.fact 74 rfl)
theorem Hd.me_bool (S : Hd K mg) : Meth K (ga K "Ratio") "__bool__" (ma K (ga K "Ratio") "__bool__") := meth_ok (S.s.d.fact 75 rfl)
theorem Hd.me_eq (S : Hd K mg) : Meth K (ga K "Ratio") "__eq__" (ma K (ga K "Ratio") "__eq__") := meth_ok (S.s.d.fact 76 rfl)
theorem Hd.me_str (S : Hd K mg) : Meth K (ga K "Ratio") "__str__" (ma K (ga K "Ratio") "__str__") := meth_ok (S.s.d.fact 77 rfl)
theorem Hd.me_repr (S : Hd K mg) : Meth K (ga K "Ratio") "__repr__" (ma K (ga K "Ratio") "__repr__") := meth_ok (S.s.d.fact 78 rfl)
theorem Hd.op_add (S : Hd K mg) : OpC K (ga K "Ratio") (ma K (ga K "Ratio") "__add__") .Add := by
  obtain ⟨h1, _, h3⟩ := ba3 (S.s.d.fact 67 rfl)
  exact ⟨S.cls, (ba S.b5).1, eqO_ok h1, h3.1⟩
theorem Hd.op_sub (S : Hd K mg) : OpC K (ga K "Ratio") (ma K (ga K "Ratio") "__sub__") .Sub := by
  obtain ⟨h1, _, h3⟩ := ba3 (S.s.d.fact 68 rfl)
  exact ⟨S.cls, (ba S.b5).1, eqO_ok h1, h3.1⟩
theorem Hd.op_mul (S : Hd K mg) : OpC K (ga K "Ratio") (ma K (ga K "Ratio") "__mul__") .Mult := by
  obtain ⟨h1, _, h3⟩ := ba3 (S.s.d.fact 69 rfl)
  exact ⟨S.cls, (ba S.b5).1, eqO_ok h1, h3.1⟩
theorem Hd.mc_neg (S : Hd K mg) : MeC K (ga K "Ratio") (ma K (ga K "Ratio") "__neg__") "__neg__" := by
  obtain ⟨h1, _, h3⟩ := ba3 (S.s.d.fact 73 rfl)
  exact ⟨eqO_ok h1, h3.1⟩
theorem Hd.mc_abs (S : Hd K mg) : MeC K (ga K "Ratio") (ma K (ga K "Ratio") "__abs__") "__abs__" := by
  obtain ⟨h1, _, h3⟩ := ba3 (S.s.d.fact 74 rfl)
  exact ⟨eqO_ok h1, h3.1⟩
theorem Hd.mc_bool (S : Hd K mg) : MeC K (ga K "Ratio") (ma K (ga K "Ratio") "__bool__") "__bool__" := by
  obtain ⟨h1, _, h3⟩ := ba3 (S.s.d.fact 75 rfl)
  exact ⟨eqO_ok h1, h3.1⟩
theorem Hd.mc_eq (S : Hd K mg) : MeC K (ga K "Ratio") (ma K (ga K "Ratio") "__eq__") "__eq__" := by
  obtain ⟨h1, _, h3⟩ := ba3 (S.s.d.fact 76 rfl)
  exact ⟨eqO_ok h1, h3.1⟩
theorem Hd.mc_str (S : Hd K mg) : MeC K (ga K "Ratio") (ma K (ga K "Ratio") "__str__") "__str__" := by
  obtain ⟨h1, _, h3⟩ := ba3 (S.s.d.fact 77 rfl)
  exact ⟨eqO_ok h1, h3.1⟩
theorem Hd.mc_repr (S : Hd K mg) : MeC K (ga K "Ratio") (ma K (ga K "Ratio") "__repr__") "__repr__" := by
  obtain ⟨h1, _, h3⟩ := ba3 (S.s.d.fact 78 rfl)
  exact ⟨eqO_ok h1, h3.1⟩
end
end Kw
end

/-! Kw3 -/
section
set_option maxHeartbeats 4000000
set_option exponentiation.threshold 10000
namespace Kw
open PySem PySem.Spec PyProof.Rows L2 He Er Ow
section
variable {w : World} {K : PySem.W.Frag} {mg : Str → Option Value} {base : Heap} {f : Addr} {fd : FuncData}
/-! ### the small checks -/
def spIsInt (K : PySem.W.Frag) : Sp := fun vs H Q _ => ∃ (x : V) (t : Value) (b c : Bool), vs = [x] ∧ TyX K H x t ∧ PySem.W.kitOne K t (.type "int") = some b ∧ PySem.W.kitOne K t (.type "bool") = some c ∧ Q (.bl (b && !c)) H
theorem sc_isint : FnScope ["value"] ["value"] (defScope sisuinteger) := ⟨rfl, rfl, rfl, by decide +kernel, rfl, by decide +kernel, by decide +kernel⟩
theorem ok_isint (S : Hd K mg) (F : L2.Fun K "is_integer" "is_integer" sisuinteger f fd) : FnOk P w K mg base CX0 1 f fd ["value"] (spIsInt K) := by
  refine F.ok sc_isint (fun vs H Q E h => ?_) (fun cdv A outer s H vs Q E hr h => ?_)
  · obtain ⟨x, t, b, c, rfl, _⟩ := h
    rfl
  · obtain ⟨x, t, b, c, rfl, ty, hb, hc, k⟩ := h
    refine ⟨_, PSs.nox (pss_one (ps_ret (pe_and (pe_callB call_isi rfl (S.free 50) (by decide +kernel) (pa_cons (pv 0) (pa_cons (pe_bltn (v := .ty "int") rfl (S.free 49) (by decide +kernel) rfl) pa_nil)))
        (pe_one (pe_not (pe_callB call_isi rfl (S.free 50) (by decide +kernel) (pa_cons (pv 0) (pa_cons (pe_bltn (v := .ty "bool") rfl (S.free 46) (by decide +kernel) rfl) pa_nil)))))))), ?_⟩
    refine ⟨_, rfl, x, .ty "int", t, .type "int", b, rfl, .ty "int", ty, hb, b, rfl, ?_⟩
    cases b with
    | false => exact iteF k
    | true => exact iteT ⟨_, rfl, x, .ty "bool", t, .type "bool", c, rfl, .ty "bool", ty, hc, c, rfl, k⟩
def spSign : Sp := fun vs H Q _ => ∃ n : Int, vs = [.int n] ∧ Q (.int n.sign) H
theorem sc_sign : FnScope ["number"] ["number"] (defScope susignuof) := ⟨rfl, rfl, rfl, by decide +kernel, rfl, by decide +kernel, by decide +kernel⟩
theorem ok_sign (F : L2.Fun K "_sign_of" "_sign_of" susignuof f fd) : FnOk P w K mg base CX0 1 f fd ["number"] spSign := by
  refine F.ok sc_sign (fun vs H Q E h => ?_) (fun cdv A outer s H vs Q E hr h => ?_)
  · obtain ⟨n, rfl, _⟩ := h
    rfl
  · obtain ⟨n, rfl, k⟩ := h
    refine ⟨_, PSs.nox (pss_one (ps_ret (pe_op op_sub_bb (pe_cmpR op_gt (pv 0) pe_int (nomark _)) (pe_cmpR op_lt (pv 0) pe_int (nomark _))))), ?_⟩
    refine ⟨_, rfl, _, _, rfl, rfl, _, rfl, _, _, rfl, rfl, _, _, rfl, rfl, ?_⟩
    have e : b2i (decide (n > 0)) - b2i (decide (n < 0)) = n.sign := by
      rcases Int.lt_trichotomy n 0 with h | h | h
      · rw [decide_eq_false (by omega), decide_eq_true h, Int.sign_eq_neg_one_of_neg h]; rfl
      · subst h; rfl
      · rw [decide_eq_true h, decide_eq_false (by omega), Int.sign_eq_one_of_pos h]; rfl
    show Q (.int (b2i (decide (n > 0)) - b2i (decide (n < 0)))) H
    rw [e]
    exact k
/-! ### is_list, is_ratio -/
def spIsList (K : PySem.W.Frag) : Sp := fun vs H Q _ => ∃ (x : V) (t : Value) (b : Bool), vs = [x] ∧ TyX K H x t ∧ PySem.W.kitAny K t [.type "list", .type "tuple"] = some b ∧ ∀ H2, Same H H2 → Q (.bl b) H2
end
end Kw
end

/-! Kw4 -/
section
set_option maxHeartbeats 4000000
set_option exponentiation.threshold 10000
/-! Ratios in the heap; what values are; the promises. -/
namespace Kw
open PySem PySem.Spec PyProof.Rows L2 He Er Ow
abbrev cR (K : PySem.W.Frag) : Addr := ga K "Ratio"
abbrev cB (K : PySem.W.Frag) : Addr := ga K "BadRatio"
def rfs (r : Rat) : List (Str × V) := [("top", .int r.num), ("bottom", .int (r.den : Int))]
/-- the Ratio r stands at a -/
def IsR (K : PySem.W.Frag) (H : Hp) (a : Addr) (r : Rat) : Prop := ∃ dx, H a = some (.ins (cR K) dx (rfs r))
/-- the type of x; b: whether it is an integer, no truth; c: whether it is a Ratio -/
def Kd (K : PySem.W.Frag) (H : Hp) (x : V) (b c : Bool) : Prop := ∃ (t : Value) (i o : Bool), TyX K H x t ∧ PySem.W.kitOne K t (.type "int") = some i ∧ PySem.W.kitOne K t (.type "bool") = some o ∧ b = (i && !o) ∧ PySem.W.kitOne K t (.ref (cR K)) = some c ∧ PySem.W.notFirst K (cR K) t = true ∧ (t = .ref (cR K) ∨ ∃ n : String, n ∈ isiN ∧ t = .type n)
/-- a ratio: a Ratio or an integer -/
def RV (K : PySem.W.Frag) (H : Hp) (x : V) (s : Rat) : Prop := (∃ a, x = .ref a ∧ IsR K H a s) ∨ ∃ n : Int, x = .int n ∧ s = (n : Rat)
/-- BadRatio with this part comes out -/
def Rz (K : PySem.W.Frag) (H : Hp) (E : XK) (part : Str) : Prop := ∀ d H2, Same H H2 → H2 d = some (.xd [("part", .str part)]) → E (.ref (cB K)) (some d) H2
/-- a Ratio comes back -/
def NewR (K : PySem.W.Frag) (H : Hp) (Q : VK) (r : Rat) : Prop := ∀ a H2, Same H H2 → IsR K H2 a r → Q (.ref a) H2
section
variable {K : PySem.W.Frag} {mg : Str → Option Value} {H H2 : Hp} {a : Addr} {r s : Rat} {x : V} {b c : Bool} {E : XK} {Q : VK} {p : Str}
theorem IsR.same (h : IsR K H a r) (e : Same H H2) : IsR K H2 a r := by
  obtain ⟨dx, h⟩ := h
  exact ⟨dx, e _ _ h⟩
theorem RV.same (h : RV K H x s) (e : Same H H2) : RV K H2 x s := by
  rcases h with ⟨a, rfl, h⟩ | h
  · exact .inl ⟨a, rfl, h.same e⟩
  · exact .inr h
theorem Rz.same (h : Rz K H E p) (e : Same H H2) : Rz K H2 E p := fun d H3 e3 z => h d H3 (e.trans e3) z
theorem NewR.same (h : NewR K H Q r) (e : Same H H2) : NewR K H2 Q r := fun d H3 e3 z => h d H3 (e.trans e3) z
theorem Hd.isiT (S : Hd K mg) {n : String} (h : n ∈ isiN) : PySem.W.kitOne K (.type n) (.ref (cR K)) = some false ∧ PySem.W.notFirst K (cR K) (.type n) = true ∧ PySem.W.kitOne K (.ref (cR K)) (.type n) = some false := by
  have g := List.all_eq_true.mp (ba (ba S.b6).2).1 n h
  obtain ⟨g1, g⟩ := ba g
  obtain ⟨g2, g3⟩ := ba g
  exact ⟨of_decide_eq_true g1, g2, of_decide_eq_true g3⟩
theorem Hd.isiR (S : Hd K mg) : PySem.W.kitOne K (.ref (cR K)) (.ref (cR K)) = some true ∧ PySem.W.notFirst K (cR K) (.ref (cR K)) = true := by
  have g := (ba (ba S.b6).2).2
  obtain ⟨g1, g2⟩ := ba g
  exact ⟨of_decide_eq_true g1, (ba g2).1⟩
theorem Hd.noPart (S : Hd K mg) : PySem.W.findIn K (.ref (cB K)) "part" = some none := eqO_ok (ba (ba (ba (ba (ba S.b6).2).2).2).2).1
theorem Hd.intEq (S : Hd K mg) : PySem.W.findIn K (.type "int") "__eq__" = some (some (.builtin "int.__eq__")) := eqO_ok (ba (ba (ba (ba (ba (ba S.b6).2).2).2).2).2).1
theorem Hd.subInt (S : Hd K mg) : PySem.W.subIn K (.ref (cR K)) (.type "int") = some false := of_decide_eq_true (ba (ba (ba (ba (ba (ba S.b6).2).2).2).2).2).2
theorem Hd.tyR (S : Hd K mg) {dx : Addr} {fs : List (Str × V)} (h : H a = some (.ins (cR K) dx fs)) : TyX K H (.ref a) (.ref (cR K)) := by
  obtain ⟨g1, g⟩ := ba S.b0
  obtain ⟨g2, _⟩ := ba g
  obtain ⟨_, o⟩ := ba S.b5
  obtain ⟨_, o⟩ := ba o
  obtain ⟨_, o⟩ := ba o
  obtain ⟨_, o⟩ := ba o
  exact .base (.ins h S.cls (eqO_ok (ba S.b6).1) (of_decide_eq_true g1) (of_decide_eq_true g2) (of_decide_eq_true (ba o).1))
theorem kd_of (S : Hd K mg) {n : String} (h : n ∈ isiN) (ty : TyX K H x (.type n)) {i o : Bool} (hi : kitB n "int" = some i) (ho : kitB n "bool" = some o) : Kd K H x (i && !o) false := by
  obtain ⟨h1, h2, _⟩ := S.isiT h
  exact ⟨_, i, o, ty, kit_ty hi, kit_ty ho, rfl, h1, h2, .inr ⟨n, h, rfl⟩⟩
theorem Hd.kd_int (S : Hd K mg) {n : Int} : Kd K H (.int n) true false := kd_of S (n := "int") (by simp [isiN]) (.base (.int n)) (i := true) (o := false) (by decide +kernel) (by decide +kernel)
theorem Hd.kd_bl (S : Hd K mg) {n : Bool} : Kd K H (.bl n) false false := kd_of S (n := "bool") (by simp [isiN]) (.base (.bl n)) (i := true) (o := true) (by decide +kernel) (by decide +kernel)
theorem Hd.kd_non (S : Hd K mg) : Kd K H .non false false := kd_of S (n := "NoneType") (by simp [isiN]) (.base .non) (i := false) (o := false) (by decide +kernel) (by decide +kernel)
theorem Hd.kd_str (S : Hd K mg) {z : Str} : Kd K H (.str z) false false := kd_of S (n := "str") (by simp [isiN]) (.base (.str z)) (i := false) (o := false) (by decide +kernel) (by decide +kernel)
theorem Hd.kd_lst (S : Hd K mg) {xs : List V} (h : H a = some (.lst xs)) : Kd K H (.ref a) false false := kd_of S (n := "list") (by simp [isiN]) (.base (.lst h)) (i := false) (o := false) (by decide +kernel) (by decide +kernel)
theorem Hd.kd_tup (S : Hd K mg) {xs : List V} (h : H a = some (.tup xs)) : Kd K H (.ref a) false false := kd_of S (n := "tuple") (by simp [isiN]) (.base (.tup h)) (i := false) (o := false) (by decide +kernel) (by decide +kernel)
theorem Hd.kd_dK (S : Hd K mg) {kvs : List (Key × V)} (h : H a = some (.dK kvs)) : Kd K H (.ref a) false false := kd_of S (n := "dict") (by simp [isiN]) (.base (.dK h)) (i := false) (o := false) (by decide +kernel) (by decide +kernel)
theorem Hd.kd_rat (S : Hd K mg) (h : IsR K H a r) : Kd K H (.ref a) false true := by
  obtain ⟨dx, h⟩ := h
  exact ⟨_, false, false, S.tyR h, (S.isiT (n := "int") (by simp [isiN])).2.2, (S.isiT (n := "bool") (by simp [isiN])).2.2, rfl, S.isiR.1, S.isiR.2, .inl rfl⟩
/-- the facts of a ratio's kind -/
theorem Hd.kd_rv (S : Hd K mg) (h : RV K H x s) : ∃ b c, Kd K H x b c ∧ (b || c) = true := by
  rcases h with ⟨a, rfl, h⟩ | ⟨n, rfl, _⟩
  · exact ⟨_, _, S.kd_rat h, rfl⟩
  · exact ⟨_, _, S.kd_int, rfl⟩
theorem Kd.ty (h : Kd K H x b c) : ∃ t, TyX K H x t ∧ PySem.W.notFirst K (cR K) t = true := by
  obtain ⟨t, _, _, ty, _, _, _, _, n, _⟩ := h
  exact ⟨t, ty, n⟩
end
/-! ### the small checks -/
section
variable {w : World} {K : PySem.W.Frag} {mg : Str → Option Value} {base : Heap} {f : Addr} {fd : FuncData}
def spInt (K : PySem.W.Frag) : Sp := fun vs H Q _ => ∃ (x : V) (b c : Bool), vs = [x] ∧ Kd K H x b c ∧ Q (.bl b) H
/-- is_integer is called -/
theorem ok_int (S : Hd K mg) (F : L2.Fun K "is_integer" "is_integer" sisuinteger f fd) : FnOk P w K mg base CX0 1 f fd ["value"] (spInt K) :=
  (ok_isint S F).imp fun vs H Q _ h => by
    obtain ⟨x, b, c, rfl, ⟨t, i, o, ty, h1, h2, rfl, _⟩, q⟩ := h
    exact ⟨x, t, i, o, rfl, ty, h1, h2, q⟩
end
end Kw
end

/-! Kw5 -/
section
set_option maxHeartbeats 4000000
set_option exponentiation.threshold 10000
namespace Kw
open PySem PySem.Spec PyProof.Rows L2 He Er Ow
section
variable {w : World} {K : PySem.W.Frag} {mg : Str → Option Value} {base : Heap}
theorem scShown : FnScope ["value"] ["value"] (defScope sushown) := ⟨rfl, rfl, rfl, by decide +kernel, rfl, by decide +kernel, by decide +kernel⟩
theorem pow9 : (10 : Int) ^ (9 : Int).toNat = 1000000000 := by decide
theorem ok_shown {f : Addr} {fd : FuncData} (F : Fun K "_shown" "_shown" sushown f fd) (T : TxtB mg) : FnOk P w K mg base CX0 1 f fd ["value"] spShown := by
  refine F.ok scShown (fun vs H Q E h => ?_) (fun cdv A outer s H vs Q E hr h => ?_)
  · obtain ⟨v, d, rfl, _⟩ := h
    rfl
  · obtain ⟨v, d, rfl, hv, k⟩ := h
    refine ⟨_, pss_cons (ps_if (pt_val (pe_callB call_isi (by rfl) T.isi (by decide +kernel) (pa_cons (pv 0) (pa_cons (pe_bltn (v := .ty "str") (by rfl) T.str (by decide +kernel) rfl) pa_nil)))) (pss_one (ps_ret (pv 0))) pss_nil)
      (pss_cons (ps_if (PW.pt (pw_and (pt_val (pe_callB call_isi (by rfl) T.isi (by decide +kernel) (pa_cons (pv 0) (pa_cons (pe_bltn (v := .ty "int") (by rfl) T.int (by decide +kernel) rfl) pa_nil))))
          (pw_and1 (pt_cmpR op_lt (pe_callB call_absV (by rfl) T.abs (by decide +kernel) (pa_cons (pv 0) pa_nil)) (pe_op op_pow pe_int pe_int) (nomark _)))))
        (pss_one (ps_ret (pe_callTy call_strV (by rfl) T.str (by decide +kernel) (pa_cons (pv 0) pa_nil)))) pss_nil)
      (pss_one (ps_ret pe_str))), ?_⟩
    cases hv with
    | str x h h2 =>
      refine ⟨_, rfl, .str x, .ty "str", .type "str", .type "str", true, rfl, .ty "str", .base (.str x), kit_ty (by decide +kernel), true, rfl, iteT ?_⟩
      exact ⟨_, rfl, k x (Nat.le_trans h (by decide))⟩
    | non =>
      refine ⟨_, rfl, .non, .ty "str", .type "NoneType", .type "str", false, rfl, .ty "str", .base .non, kit_ty (by decide +kernel), false, rfl, iteF ?_⟩
      refine ⟨_, rfl, .non, .ty "int", .type "NoneType", .type "int", false, rfl, .ty "int", .base .non, kit_ty (by decide +kernel), false, rfl, iteF (iteF ?_)⟩
      exact k "?" (by decide)
    | bl b =>
      refine ⟨_, rfl, .bl b, .ty "str", .type "bool", .type "str", false, rfl, .ty "str", .base (.bl b), kit_ty (by decide +kernel), false, rfl, iteF ?_⟩
      refine ⟨_, rfl, .bl b, .ty "int", .type "bool", .type "int", true, rfl, .ty "int", .base (.bl b), kit_ty (by decide +kernel), true, rfl, iteT ?_⟩
      refine ⟨_, rfl, .inr ⟨b, rfl, _, _, rfl, rfl, ⟨by decide, by decide, by decide⟩, _, _, rfl, rfl, _, rfl, ?_⟩⟩
      have e1 : decide ((if b = true then (1 : Int) else 0) < (10 : Int) ^ (9 : Int).toNat) = true := by cases b <;> decide
      rw [e1]
      refine iteT ⟨_, rfl, .inr ⟨b, rfl, ?_⟩⟩
      cases b
      · exact k "False" (by decide)
      · exact k "True" (by decide)
    | int n h =>
      refine ⟨_, rfl, .int n, .ty "str", .type "int", .type "str", false, rfl, .ty "str", .base (.int n), kit_ty (by decide +kernel), false, rfl, iteF ?_⟩
      refine ⟨_, rfl, .int n, .ty "int", .type "int", .type "int", true, rfl, .ty "int", .base (.int n), kit_ty (by decide +kernel), true, rfl, iteT ?_⟩
      refine ⟨_, rfl, .inl ⟨n, rfl, _, _, rfl, rfl, ⟨by decide, by decide, by decide⟩, _, _, rfl, rfl, _, rfl, ite2 (fun h1 => ?_) (fun h1 => ?_)⟩⟩
      · have h2 : (if n < 0 then -n else n) < (10 : Int) ^ (9 : Int).toNat := of_decide_eq_true h1
        rw [pow9] at h2
        have h3 : n.natAbs < 2 ^ 30 := by split at h2 <;> omega
        have h4 : n.natAbs.log2 < 1920 := by
          by_cases z : n.natAbs = 0
          · rw [z]; decide
          · exact Nat.lt_trans ((Nat.log2_lt z).mpr h3) (by decide)
        refine ⟨_, rfl, .inl ⟨n, rfl, h4, k _ ?_⟩⟩
        have h5 := PySem.int_text_length_le10 (a := n) (k := 10) (by decide) (Nat.lt_trans h3 (by decide))
        rw [PySem.ofString_length]
        exact Nat.le_trans h5 (by decide)
      · exact k "?" (by decide)
    | lst e h =>
      refine ⟨_, rfl, _, .ty "str", .type "list", .type "str", false, rfl, .ty "str", .base (.lst e), kit_ty (by decide +kernel), false, rfl, iteF ?_⟩
      refine ⟨_, rfl, _, .ty "int", .type "list", .type "int", false, rfl, .ty "int", .base (.lst e), kit_ty (by decide +kernel), false, rfl, iteF (iteF ?_)⟩
      exact k "?" (by decide)
    | tup e =>
      refine ⟨_, rfl, _, .ty "str", .type "tuple", .type "str", false, rfl, .ty "str", .base (.tup e), kit_ty (by decide +kernel), false, rfl, iteF ?_⟩
      refine ⟨_, rfl, _, .ty "int", .type "tuple", .type "int", false, rfl, .ty "int", .base (.tup e), kit_ty (by decide +kernel), false, rfl, iteF (iteF ?_)⟩
      exact k "?" (by decide)
    | dct e e2 =>
      refine ⟨_, rfl, _, .ty "str", .type "dict", .type "str", false, rfl, .ty "str", .base (.dK e), kit_ty (by decide +kernel), false, rfl, iteF ?_⟩
      refine ⟨_, rfl, _, .ty "int", .type "dict", .type "int", false, rfl, .ty "int", .base (.dK e), kit_ty (by decide +kernel), false, rfl, iteF (iteF ?_)⟩
      exact k "?" (by decide)

/-! ### the error -/
theorem SFunX {P : Program} {K : PySem.W.Frag} {x qual : Str} {st : Stmt} {f D : Addr} {fd : FuncData} (F : SFun P K x qual st f D fd) : PySem.W.fnIn K f = true := by
  obtain ⟨oc, od, kV, doc, pm, an, cda, ct, cc, osl, e, lk, _⟩ := F.ex
  unfold PySem.W.fnIn
  rw [lk]
theorem Hd.shn (S : Hd K mg) : ∃ fd, Shn P w K mg base (fAd K ("_shown", none)) fd := by
  obtain ⟨fd, F⟩ := S.def_ 5 (d := dushown)
  have F := fun_of (st := sushown) F
  have g : mg "_shown" = some (.ref (fAd K ("_shown", none))) := S.glo 5
  exact ⟨fd, ⟨ok_shown F ⟨S.free 50, S.free 57, S.free 49, S.free 44⟩, g, F.kp, F.binds fun _ _ _ _ _ _ us hl => match us, hl with | [_], _ => rfl⟩⟩
theorem in_BadRatio {f D fS : Addr} {fd fdS : FuncData} (F : SFun P K "__init__" eBadRatiouuinituu.qual iBadRatiouuinituu f D fd) (G : Shn P w K mg base fS fdS) : FnOk P w K mg base CX0 2 f fd ["self", "part"] (spInit1 K D "part") :=
  ok_init1 F ⟨rfl, rfl, rfl, by decide +kernel, rfl, by decide +kernel, by decide +kernel, by decide +kernel⟩ rfl rfl rfl rfl rfl rfl (by decide) rfl (fun env _ => rfl) G
theorem fs0 : eBadRatiouuinituu ∈ fs := List.mem_of_getElem? (i := 0) rfl
theorem Hd.brE (S : Hd K mg) : ErrC K (cB K) := S.err (by simp)
theorem Hd.brM (S : Hd K mg) : MkE K (cB K) (iAd K "BadRatio") := iniB_ok S.brE (ba (List.all_eq_true.mp S.b2 _ fs0)).1
theorem Hd.brS (S : Hd K mg) : SupC K (cB K) (cB K) := supIB_ok S.brE (ba (ba (List.all_eq_true.mp S.b2 _ fs0)).2).2
theorem Hd.brF (S : Hd K mg) : ∃ fd, SFun P K "__init__" eBadRatiouuinituu.qual iBadRatiouuinituu (iAd K "BadRatio") (cB K) fd :=
  sfun_of (S.s.s _ fs0) (ba (ba (List.all_eq_true.mp S.b2 _ fs0)).2).1 S.brE.cls S.sh0 rfl rfl rfl
/-- BadRatio("..") is made, to be raised -/
theorem pmk_part {X : Cx} {z : Str} {p pos : Pos} {e : Expr} (hP : X.prog = P) (S : Hd X.K X.mg) (hr : Room 3 X.A) (hg : Gl X "BadRatio") (he : PE X e (tC (.str z))) (hz : z.length ≤ 10) (hz2 : (reprText z).length ≤ 100)
    (hs : starEach [e] X.env = (false, eval e X.env) :: starEach [] X.env := by rfl) : PMk X (.Call (.Name "BadRatio" p) [e] [] pos) (fun _ H Q => ∀ dx, H dx = none → Q (.ref (cB X.K)) (some dx) (upd H dx (.xd [("part", .str z)]))) := by
  obtain ⟨fd, F⟩ := S.brF
  obtain ⟨fdS, G⟩ := S.shn (w := X.w) (base := X.base)
  have F1 := in_BadRatio F G
  rw [← hP] at F1
  have b : Binds X.K fd ["self", "part"] [] := sfun_binds F fun _ _ _ _ _ _ _ us hl => match us, hl with | [_, _], _ => rfl
  have m := pmk_oex (CX := CX0) (dvs := []) (pos := pos) (p := p) S.brM.oex S.brM.iC S.brM.tI F1 hr b .nil pass0 hg (S.glo 7) (pa_cons he pa_nil (hs := hs)) (by decide) hs (by rfl)
  intro pins s σ H Q I h
  refine m pins s σ H Q I ?_
  show 1 ≤ 1000 ∧ _
  refine ⟨by decide, fun a na => ?_⟩
  refine ⟨a, cB X.K, .str z, .str z, rfl, upd_same, S.brS, S.noPart, .str z hz hz2, fun dx nx ne => ?_⟩
  have nx' : H dx = none := by rw [upd_ne ne] at nx; exact nx
  refine ⟨rfl, dx, _, upd_same, by rw [upd_ne ne]; exact upd_same, nx', ?_⟩
  have e : upd (del (upd (upd (upd H a (exo a (cB X.K) none)) dx (exd dx [("part", .str z)])) a (exo a (cB X.K) (some dx))) a) dx (.xd [("part", .str z)]) = upd H dx (.xd [("part", .str z)]) := by
    funext c
    by_cases h1 : c = dx
    · subst h1
      rw [upd_same, upd_same]
    · rw [upd_ne h1, upd_ne h1]
      by_cases h2 : c = a
      · subst h2
        rw [del_same, na]
      · rw [del_ne h2, upd_ne h2, upd_ne h1, upd_ne h2]
  rw [e]
  exact h dx nx'
end
end Kw
end

/-! Kw6 -/
section
set_option maxHeartbeats 4000000
set_option exponentiation.threshold 10000
namespace Kw
open PySem PySem.Spec PyProof.Rows L2 He Er Ow
/-- a def of the top: its promise -/
structure Pr (w : World) (K : PySem.W.Frag) (mg : Str → Option Value) (base : Heap) (CX : CXT) (k : Nat) (x : Str) (ps : List Str) (sp : Sp) : Prop where
  ex : ∃ f fd, FnOk P w K mg base CX k f fd ps sp ∧ mg x = some (.ref f) ∧ PySem.W.keepIn K (.ref f) = true ∧ Binds K fd ps []
/-- a method of Ratio: its promise -/
structure Mr (w : World) (K : PySem.W.Frag) (mg : Str → Option Value) (base : Heap) (CX : CXT) (k : Nat) (m : Str) (ps : List Str) (sp : Sp) : Prop where
  ex : ∃ fd, FnOk P w K mg base CX k (ma K (cR K) m) fd ps sp ∧ Binds K fd ps []
section
variable {w : World} {K : PySem.W.Frag} {mg : Str → Option Value} {base : Heap} {f : Addr} {fd : FuncData} {k j : Nat} {ps : List Str} {sp : Sp} {x m : Str}
theorem itf {b : Bool} {A B : Prop} (e : b = false) (h : B) : if b = true then A else B := by
  subst e
  exact iteF h
theorem itt {b : Bool} {A B : Prop} (e : b = true) (h : A) : if b = true then A else B := by
  subst e
  exact iteT h
theorem samu {H : Hp} {d : Addr} {o : HO} (h : H d = none) : Same H (upd H d o) := fun b u e => by rw [upd_ne (ne_of_none e h)]; exact e
theorem quiet (F : FnOk P w K mg base (L2.CX P w) k f fd ps sp) : FnOk P w K mg base CX0 k f fd ps (fun vs H Q _ => sp vs H Q E0) :=
  ⟨fun vs H Q _ h => F.len vs H Q E0 h, fun A outer s H args us vs Q E hr e0 hb hv hs => codeAny_mono (F.run A outer s H args us vs Q E0 hr e0 hb hv hs) fun r s' h => by
    cases r with
    | error e =>
      obtain ⟨a, B, H', cls, d, _, _, _, _, _, _, _, z⟩ := h
      exact z.elim
    | ok fl => cases fl <;> exact h⟩
theorem Pr.quiet (p : Pr w K mg base (L2.CX P w) k x ps sp) : Pr w K mg base CX0 k x ps (fun vs H Q _ => sp vs H Q E0) := by
  obtain ⟨f, fd, F, g, kp, b⟩ := p.ex
  exact ⟨f, fd, Kw.quiet F, g, kp, b⟩
theorem Mr.quiet (p : Mr w K mg base (L2.CX P w) k m ps sp) : Mr w K mg base CX0 k m ps (fun vs H Q _ => sp vs H Q E0) := by
  obtain ⟨fd, F, b⟩ := p.ex
  exact ⟨fd, Kw.quiet F, b⟩
theorem Pr.mono (p : Pr w K mg base CX0 k x ps sp) (h : k ≤ j) : Pr w K mg base CX0 j x ps sp := by
  obtain ⟨f, fd, F, g, kp, b⟩ := p.ex
  exact ⟨f, fd, F.mono h, g, kp, b⟩
theorem passX {X : Cx} {E : XK} (tk : Takes X (fun cls d _ H => E cls d H)) : Passes (L2.CX X.prog X.w) X E := passes_call tk fun _ _ _ _ h => h
theorem pr_int (S : Hd K mg) : Pr w K mg base CX0 1 "is_integer" ["value"] (spInt K) := by
  obtain ⟨fd, F⟩ := S.def_ 0 (d := disuinteger)
  have F := fun_of (st := sisuinteger) F
  exact ⟨_, fd, ok_int S F, S.glo 0, F.kp, F.binds fun _ _ _ _ _ _ us hl => match us, hl with | [_], _ => rfl⟩
theorem pr_sign (S : Hd K mg) : Pr w K mg base CX0 1 "_sign_of" ["number"] spSign := by
  obtain ⟨fd, F⟩ := S.def_ 30 (d := dusignuof)
  have F := fun_of (st := susignuof) F
  exact ⟨_, fd, ok_sign F, S.glo 21, F.kp, F.binds fun _ _ _ _ _ _ us hl => match us, hl with | [_], _ => rfl⟩
/-! ### Ratio.__init__ -/
def big (n : Int) : Prop := n.natAbs < 2 ^ 8000
theorem sh_lt {p q : Int} (h : q ≠ 0) (b : big q) : (Rm.sh p q).natAbs < 2 ^ 8001 := by
  have g : Int.gcd p q ≤ q.natAbs := Int.gcd_le_natAbs_right _ h
  have e : (Rm.sh p q).natAbs = Int.gcd p q := by
    unfold Rm.sh
    split <;> simp
  rw [e]
  have b2 : q.natAbs < 2 ^ 8000 := b
  have t : (2 : Nat) ^ 8001 = 2 * 2 ^ 8000 := by rw [Nat.pow_succ, Nat.mul_comm]
  rw [t]
  generalize (2 : Nat) ^ 8000 = z at *
  omega
def spInit (K : PySem.W.Frag) : Sp := fun vs H Q E => ∃ (a dx : Addr) (x y : V), vs = [.ref a, x, y] ∧ H a = some (.ins (cR K) dx []) ∧
  ((∃ p q : Int, x = .int p ∧ y = .int q ∧ q ≠ 0 ∧ big p ∧ big q ∧ ∀ H2, (∀ b o, b ≠ a → H b = some o → H2 b = some o) → H2 a = some (.ins (cR K) dx (rfs (Rm.mk p q))) → Q .non H2) ∨
   ((∃ r, Kd K H x false r) ∧ Rz K H E "top") ∨
   ((∃ p : Int, x = .int p) ∧ ((∃ r, Kd K H y false r) ∨ y = .int 0) ∧ Rz K H E "bottom"))
theorem scInit : FnScope ["self", "top", "bottom", "shared"] ["self", "top", "bottom"] (defScope iRatiouuinituu) := ⟨rfl, rfl, rfl, by decide +kernel, rfl, by decide +kernel, by decide +kernel⟩
theorem ok_init {dvs : List V} (S : Hd K mg) (F : FunD K "__init__" "Ratio.__init__" (defArgs iRatiouuinituu) (defBody iRatiouuinituu) (defScope iRatiouuinituu) dvs [] f fd) : FnOk P w K mg base (L2.CX P w) 4 f fd ["self", "top", "bottom"] (spInit K) := by
  obtain ⟨fI, fdI, FI, gI, kI, bI⟩ := (pr_int (w := w) (base := base) S).ex
  refine F.ok (k := 3) (CX := L2.CX P w) scInit (fun vs H Q E h => ?_) (fun cdv A outer s H vs Q E hr h => ?_)
  · obtain ⟨a, dx, x, y, rfl, _⟩ := h
    rfl
  · obtain ⟨a, dx, x, y, rfl, ha, h⟩ := h
    refine ⟨_, pss_cons (ps_if (pt_not (pt_val (pe_call FI (hr.mono (by decide)) rfl gI kI bI .nil pass0 (pa_cons (pv 1) pa_nil)))) (pss_one (ps_raise rfl (takes_of rfl rfl rfl rfl) (pmk_part rfl S hr rfl pe_str (by decide) (by decide +kernel)))) pss_nil)
      (pss_cons (ps_if (PW.pt (pw_or (pt_not (pt_val (pe_call FI (hr.mono (by decide)) rfl gI kI bI .nil pass0 (pa_cons (pv 2) pa_nil)))) (pw_or1 (pt_cmpR op_eq (pv 2) pe_int (nomark _))))) (pss_one (ps_raise rfl (takes_of rfl rfl rfl rfl) (pmk_part rfl S hr rfl pe_str (by decide) (by decide +kernel)))) pss_nil)
      (pss_cons (ps_set (i := 3) scInit.nd rfl (.inl rfl) (pe_ifExp (pt_cmpR op_gt (pv 2) pe_int (nomark _)) (pe_callBfun cr_gcd rfl S.gcd (pa_cons (pv 1) (pa_cons (pv 2) pa_nil))) (pe_un un_neg (pe_callBfun cr_gcd rfl S.gcd (pa_cons (pv 1) (pa_cons (pv 2) pa_nil))))))
      (pss_cons (ps_fld (pv 0) (pe_op op_fdivZ (pv 1) (pv 3)) rfl) (pss_one (ps_fld (pv 0) (pe_op op_fdivZ (pv 2) (pv 3)) rfl))))), ?_⟩
    rcases h with ⟨p, q, rfl, rfl, hq, bp, bq, k⟩ | ⟨⟨r, hx⟩, e⟩ | ⟨⟨p, rfl⟩, hy, e⟩
    · have g9 : CDivZ p (Rm.sh p q) := zdiv (b := 8001) (Rm.sh_ne hq) (sh_lt hq bq) (by decide) (by decide)
      have g9' : CDivZ q (Rm.sh p q) := g9
      refine ⟨_, rfl, .int p, true, false, rfl, S.kd_int, _, rfl, iteF ?_⟩
      refine ⟨_, rfl, .int q, true, false, rfl, S.kd_int, _, rfl, iteF ⟨_, rfl, rfl, _, rfl, itf (decide_eq_false (fun z => hq (V.int.inj z))) ?_⟩⟩
      have fin : ∀ z : Int, z = Rm.sh p q → (tSeq (sFld K (tVar 0) (tOp (rI CDivZ fun i j => V.int (i.fdiv j)) (tVar 1) (tVar 3)) "top") (sFld K (tVar 0) (tOp (rI CDivZ fun i j => V.int (i.fdiv j)) (tVar 2) (tVar 3)) "bottom")) { nx := fun _ H' => Q V.non H', rt := Q } [some (.ref a), some (.int p), some (.int q), some (.int z)] H := by
        rintro z rfl
        refine ⟨_, rfl, _, rfl, _, _, rfl, rfl, g9, _, rfl, a, cR K, dx, [], rfl, ha, S.cls, S.noTop, by decide, ?_⟩
        refine ⟨_, rfl, _, rfl, _, _, rfl, rfl, g9', _, rfl, a, cR K, dx, _, rfl, upd_same, S.cls, S.noBot, (by show 1 < 1000; decide), ?_⟩
        refine k _ (fun b o n z => by rw [upd_ne n, upd_ne n]; exact z) ?_
        rw [upd_same]
        unfold rfs
        rw [← Rm.sh_top (p := p) hq, ← Rm.sh_bot (p := p) hq]
        rfl
      refine ⟨_, rfl, _, _, rfl, rfl, _, rfl, ?_⟩
      by_cases h0 : (0 : Int) < q
      · refine itt (decide_eq_true h0) ⟨_, rfl, _, rfl, p, q, rfl, ?_⟩
        exact fin _ (by unfold Rm.sh; rw [if_pos h0]; rfl)
      · refine itf (decide_eq_false h0) ⟨_, rfl, _, rfl, p, q, rfl, _, rfl, ?_⟩
        exact fin _ (by unfold Rm.sh; rw [if_neg h0]; rfl)
    · refine ⟨_, rfl, x, false, r, rfl, hx, _, rfl, iteT fun d nd => ?_⟩
      exact e d _ (samu nd) upd_same
    · refine ⟨_, rfl, .int p, true, false, rfl, S.kd_int, _, rfl, iteF ?_⟩
      rcases hy with ⟨r, hy⟩ | rfl
      · refine ⟨_, rfl, y, false, r, rfl, hy, _, rfl, iteT (iteT fun d nd => ?_)⟩
        exact e d _ (samu nd) upd_same
      · refine ⟨_, rfl, .int 0, true, false, rfl, S.kd_int, _, rfl, iteF ⟨_, rfl, rfl, _, rfl, iteT fun d nd => ?_⟩⟩
        exact e d _ (samu nd) upd_same
end
end Kw
end

/-! Kw7 -/
section
set_option maxHeartbeats 4000000
set_option exponentiation.threshold 10000
namespace Kw
open PySem PySem.Spec PyProof.Rows L2 He Er Ow
section
variable {w : World} {K : PySem.W.Frag} {mg : Str → Option Value} {base : Heap} {f : Addr} {fd : FuncData} {H H2 : Hp} {x y : V} {b c : Bool} {t : Value}
theorem tyOf_same (h : TyOf K H x t) (e : Same H H2) : TyOf K H2 x t := by
  cases h with
  | non => exact .non
  | bl v => exact .bl v
  | int v => exact .int v
  | str v => exact .str v
  | flt v => exact .flt v
  | lst h => exact .lst (e _ _ h)
  | frz h => exact .frz (e _ _ h)
  | tup h => exact .tup (e _ _ h)
  | dK h => exact .dK (e _ _ h)
  | dT h => exact .dT (e _ _ h)
  | ins h c1 c2 c3 c4 c5 => exact .ins (e _ _ h) c1 c2 c3 c4 c5
theorem tyX_same (h : TyX K H x t) (e : Same H H2) : TyX K H2 x t := by
  cases h with
  | base h => exact .base (tyOf_same h e)
  | byt v => exact .byt v
  | set h => exact .set (e _ _ h)
  | kList h c => exact .kList h c
  | kTuple h c => exact .kTuple h c
  | kDict h c => exact .kDict h c
  | fTuple h => exact .fTuple (e _ _ h)
  | fDict h => exact .fDict (e _ _ h)
theorem Kd.same (h : Kd K H x b c) (e : Same H H2) : Kd K H2 x b c := by
  obtain ⟨t, i, o, ty, h⟩ := h
  exact ⟨t, i, o, tyX_same ty e, h⟩
/-! ### Ratio(..) is made -/
structure MkR (w : World) (K : PySem.W.Frag) (mg : Str → Option Value) (base : Heap) : Prop where
  ex : ∃ fd d, FnOk P w K mg base (L2.CX P w) 4 (ma K (cR K) "__init__") fd ["self", "top", "bottom"] (spInit K) ∧ Binds K fd ["self", "top", "bottom"] [] ∧ Vals [V.int 1] [d] ∧ Binds K fd ["self", "top", "bottom"] [d]
theorem mkR (S : Hd K mg) : MkR w K mg base := by
  obtain ⟨fd, F⟩ := S.s.d.def_ 9 (d := dRatiouuinituu) rfl
  have F : FunD K "__init__" "Ratio.__init__" (defArgs iRatiouuinituu) (defBody iRatiouuinituu) (defScope iRatiouuinituu) [.int 1] [] (ma K (cR K) "__init__") fd := F
  obtain ⟨d3, r3, b3⟩ := F.binds1 (ps := ["self", "top", "bottom"]) 3 1 (by simp) rfl fun T kV doc pm an cdv ct us its hu hi => match us, hu, its, hi with
    | [_, _, _], _, [_], _ => ⟨_, rfl, rfl⟩
  obtain ⟨d2, r2, b2⟩ := F.binds1 (ps := ["self", "top", "bottom"]) 2 0 (by simp) rfl fun T kV doc pm an cdv ct us its hu hi => match us, hu, its, hi with
    | [_, _], _, [_], _ => ⟨_, rfl, rfl⟩
  cases r3
  cases r2 with
  | cons r t =>
    cases t
    exact ⟨fd, _, ok_init S F, b3, .cons r .nil, b2⟩
variable {Q : VK} {E : XK} {p q : Int} {part : Str}
theorem new_same (x dx : Addr) (o1 o2 : HO) (h1 : H x = none) (h2 : H dx = none) : Same H (upd (upd H dx o1) x o2) := fun b o e => by rw [upd_ne (ne_of_none e h1), upd_ne (ne_of_none e h2)]; exact e
theorem mk_rat {r : Rat} (hr : Rm.mk p q = r) (hq : q ≠ 0) (bp : big p) (bq : big q) (k : NewR K H Q r) : ∀ x dx, H x = none → H dx = none → dx ≠ x → spInit K [.ref x, .int p, .int q] (upd (upd H dx (.own x)) x (.ins (cR K) dx [])) (fun v H2 => v = .non ∧ Q (.ref x) H2) E := by
  subst hr
  intro x dx nx ndx ne
  refine ⟨x, dx, .int p, .int q, rfl, upd_same, .inl ⟨p, q, rfl, rfl, hq, bp, bq, fun H2 hs h2 => ⟨rfl, k x H2 (fun b o e => ?_) ⟨dx, h2⟩⟩⟩⟩
  exact hs b o (ne_of_none e nx) (new_same x dx _ _ nx ndx b o e)
theorem mk_top {r : Bool} {z : V} (h : Kd K H z false r) (k : Rz K H E "top") : ∀ x dx, H x = none → H dx = none → dx ≠ x → spInit K [.ref x, z, y] (upd (upd H dx (.own x)) x (.ins (cR K) dx [])) (fun v H2 => v = .non ∧ Q (.ref x) H2) E :=
  fun x dx nx ndx ne => ⟨x, dx, z, y, rfl, upd_same, .inr (.inl ⟨⟨r, h.same (new_same x dx _ _ nx ndx)⟩, k.same (new_same x dx _ _ nx ndx)⟩)⟩
theorem mk_bot (h : (∃ r, Kd K H y false r) ∨ y = .int 0) (k : Rz K H E "bottom") : ∀ x dx, H x = none → H dx = none → dx ≠ x → spInit K [.ref x, .int p, y] (upd (upd H dx (.own x)) x (.ins (cR K) dx [])) (fun v H2 => v = .non ∧ Q (.ref x) H2) E :=
  fun x dx nx ndx ne => ⟨x, dx, .int p, y, rfl, upd_same, .inr (.inr ⟨⟨p, rfl⟩, h.imp (fun ⟨r, h⟩ => ⟨r, h.same (new_same x dx _ _ nx ndx)⟩) id, k.same (new_same x dx _ _ nx ndx)⟩)⟩
theorem big1 : big 1 := by unfold big; decide
/-! ### a ratio of what stands there -/
def spOth (K : PySem.W.Frag) (part : Str) : Sp := fun vs H Q E => ∃ y : V, vs = [y] ∧ ((∃ s, RV K H y s ∧ Rm.Bd 8000 s ∧ NewR K H Q s) ∨ (Kd K H y false false ∧ Rz K H E part))
theorem Rm.Bd.int {n : Int} {k : Nat} (h : Rm.Bd k (n : Rat)) : n.natAbs < 2 ^ k := by
  have e := h.1
  rwa [Rat.num_intCast] at e
theorem scAt : FnScope ["other"] ["other"] (defScope suaturight) := ⟨rfl, rfl, rfl, by decide +kernel, rfl, by decide +kernel, by decide +kernel⟩
theorem ok_at (S : Hd K mg) (F : L2.Fun K "_at_right" "_at_right" suaturight f fd) : FnOk P w K mg base (L2.CX P w) 6 f fd ["other"] (spOth K "other") := by
  obtain ⟨fI, fdI, FI, gI, kI, bI⟩ := (pr_int (w := w) (base := base) S).ex
  obtain ⟨fdM, d, FM, bM, rM, bM2⟩ := (mkR (w := w) (base := base) S).ex
  refine F.okX scAt (fun vs H Q E h => ?_) (fun cdv A outer s H vs Q E hr h => ?_)
  · obtain ⟨y, rfl, _⟩ := h
    rfl
  · obtain ⟨y, rfl, h⟩ := h
    refine ⟨_, pss_cons (ps_if (pt_val (pe_callB call_isi rfl (S.free 50) (by decide +kernel) (pa_cons (pv 0) (pa_cons (pe_glob (v := .ref (cR K)) rfl (S.glo 12) rfl) pa_nil)))) (pss_one (ps_ret (pv 0))) pss_nil)
      (pss_cons (ps_if (pt_not (pt_val (pe_call FI (hr.mono (by decide)) rfl gI kI bI .nil pass0 (pa_cons (pv 0) pa_nil)))) (pss_one (ps_raise rfl (takes_of rfl rfl rfl rfl) (pmk_part rfl S (hr.mono (by decide)) rfl pe_str (by decide) (by decide +kernel)))) pss_nil)
      (pss_one (ps_ret (pe_make (E := E) S.mkr FM hr rfl (S.glo 12) bM2 rM (passX (takes_of rfl rfl rfl rfl)) (pa_cons (pv 0) pa_nil))))), ?_⟩
    rcases h with ⟨s, ⟨a, rfl, ha⟩ | ⟨n, rfl, rfl⟩, bs, k⟩ | ⟨h, e⟩
    · obtain ⟨t, i, o, ty, h1, h2, h3, h4, h5⟩ := S.kd_rat ha
      exact ⟨_, rfl, _, _, t, _, true, rfl, .own _, ty, h4, true, rfl, iteT ⟨_, rfl, k a H (Same.refl _) ha⟩⟩
    · obtain ⟨t, i, o, ty, h1, h2, h3, h4, h5⟩ := S.kd_int (H := H) (n := n)
      refine ⟨_, rfl, _, _, t, _, false, rfl, .own _, ty, h4, false, rfl, iteF ?_⟩
      refine ⟨_, rfl, .int n, true, false, rfl, S.kd_int, _, rfl, iteF ?_⟩
      exact ⟨_, rfl, mk_rat (Rm.int_mk n) (by decide) (Rm.Bd.int bs) big1 k⟩
    · obtain ⟨t, i, o, ty, h1, h2, h3, h4, h5⟩ := h
      refine ⟨_, rfl, _, _, t, _, false, rfl, .own _, ty, h4, false, rfl, iteF ?_⟩
      refine ⟨_, rfl, y, false, false, rfl, ⟨t, i, o, ty, h1, h2, h3, h4, h5⟩, _, rfl, iteT fun d nd => ?_⟩
      exact e d _ (samu nd) upd_same
theorem pr_at (S : Hd K mg) : Pr w K mg base (L2.CX P w) 6 "_at_right" ["other"] (spOth K "other") := by
  obtain ⟨fd, F⟩ := S.def_ 29 (d := duaturight)
  have F := fun_of (st := suaturight) F
  exact ⟨_, fd, ok_at S F, S.glo 20, F.kp, F.binds fun _ _ _ _ _ _ us hl => match us, hl with | [_], _ => rfl⟩
end
end Kw
end

/-! Kw8 -/
section
set_option maxHeartbeats 4000000
set_option exponentiation.threshold 10000
namespace Kw
open PySem PySem.Spec PyProof.Rows L2 He Er Ow
section
variable {w : World} {K : PySem.W.Frag} {mg : Str → Option Value} {base : Heap} {f : Addr} {fd : FuncData} {H H2 : Hp} {x y : V} {b c : Bool} {t : Value}
theorem Hd.read_ (S : Hd K mg) : ClX.CRead K (cR K) (.type "type") := ⟨(ba (ba S.b5).2).1, eqO_ok (ba (ba (ba S.b5).2).2).1⟩
theorem Hd.smet (S : Hd K mg) {d : DefP} (h : d ∈ fp) (hc : d.cls = "Ratio") (hk : d.kind = "staticmethod") {rest : List Value} (hr : PySem.W.recIn K (ma K (ga K d.cls) d.name) d.kind = some (.ref (d.at_ K) :: rest)) (kp : PySem.W.keepIn K (.ref (d.at_ K)) = true) :
    SMet K (cR K) (.type "type") d.name (ma K (cR K) d.name) (d.at_ K) := by
  have g := (ba (List.all_eq_true.mp S.b3 d h)).2
  unfold kindB at g
  rw [hk] at g
  rw [hk, hc] at hr
  refine ⟨S.read_, ?_, ⟨rest, hr⟩, kp⟩
  revert g
  rw [hc]
  intro g
  split at g
  · rename_i hx
    exact absurd hx (by decide)
  · split at g
    · rename_i n p C e
      obtain ⟨g1, g⟩ := ba g
      obtain ⟨g2, g3⟩ := ba g
      rw [e, beq_iff_eq.mp g1, beq_iff_eq.mp g2, beq_iff_eq.mp g3]
    · cases g
theorem scOf : FnScope ["value"] ["value"] (defScope iRatioof) := ⟨rfl, rfl, rfl, by decide +kernel, rfl, by decide +kernel, by decide +kernel⟩
theorem ok_of (S : Hd K mg) (F : L2.Fun K "of" "Ratio.of" iRatioof f fd) : FnOk P w K mg base (L2.CX P w) 6 f fd ["value"] (spOth K "value") := by
  obtain ⟨fI, fdI, FI, gI, kI, bI⟩ := (pr_int (w := w) (base := base) S).ex
  obtain ⟨fdM, d, FM, bM, rM, bM2⟩ := (mkR (w := w) (base := base) S).ex
  refine F.okX scOf (fun vs H Q E h => ?_) (fun cdv A outer s H vs Q E hr h => ?_)
  · obtain ⟨y, rfl, _⟩ := h
    rfl
  · obtain ⟨y, rfl, h⟩ := h
    refine ⟨_, pss_cons (ps_if (pt_val (pe_callB call_isi rfl (S.free 50) (by decide +kernel) (pa_cons (pv 0) (pa_cons (pe_glob (v := .ref (cR K)) rfl (S.glo 12) rfl) pa_nil)))) (pss_one (ps_ret (pv 0))) pss_nil)
      (pss_cons (ps_if (pt_not (pt_val (pe_call FI (hr.mono (by decide)) rfl gI kI bI .nil pass0 (pa_cons (pv 0) pa_nil)))) (pss_one (ps_raise rfl (takes_of rfl rfl rfl rfl) (pmk_part rfl S (hr.mono (by decide)) rfl pe_str (by decide) (by decide +kernel)))) pss_nil)
      (pss_one (ps_ret (pe_make (E := E) S.mkr FM hr rfl (S.glo 12) bM2 rM (passX (takes_of rfl rfl rfl rfl)) (pa_cons (pv 0) pa_nil))))), ?_⟩
    rcases h with ⟨s, ⟨a, rfl, ha⟩ | ⟨n, rfl, rfl⟩, bs, k⟩ | ⟨h, e⟩
    · obtain ⟨t, i, o, ty, h1, h2, h3, h4, h5⟩ := S.kd_rat ha
      exact ⟨_, rfl, _, _, t, _, true, rfl, .own _, ty, h4, true, rfl, iteT ⟨_, rfl, k a H (Same.refl _) ha⟩⟩
    · obtain ⟨t, i, o, ty, h1, h2, h3, h4, h5⟩ := S.kd_int (H := H) (n := n)
      refine ⟨_, rfl, _, _, t, _, false, rfl, .own _, ty, h4, false, rfl, iteF ?_⟩
      refine ⟨_, rfl, .int n, true, false, rfl, S.kd_int, _, rfl, iteF ?_⟩
      exact ⟨_, rfl, mk_rat (Rm.int_mk n) (by decide) (Rm.Bd.int bs) big1 k⟩
    · obtain ⟨t, i, o, ty, h1, h2, h3, h4, h5⟩ := h
      refine ⟨_, rfl, _, _, t, _, false, rfl, .own _, ty, h4, false, rfl, iteF ?_⟩
      refine ⟨_, rfl, y, false, false, rfl, ⟨t, i, o, ty, h1, h2, h3, h4, h5⟩, _, rfl, iteT fun d nd => ?_⟩
      exact e d _ (samu nd) upd_same
structure Of (w : World) (K : PySem.W.Frag) (mg : Str → Option Value) (base : Heap) (CX : CXT) (k : Nat) (m : Str) (p : Str) (sp : Sp) : Prop where
  ex : ∃ (p2 g : Addr) (fd : FuncData), FnOk P w K mg base CX k g fd [p] sp ∧ SMet K (cR K) (.type "type") m p2 g ∧ Binds K fd [p] [] ∧ ∃ st qual, L2.Fun K m qual st g fd
theorem of_of (S : Hd K mg) : Of w K mg base (L2.CX P w) 6 "of" "value" (spOth K "value") := by
  have h : pRatioof ∈ fp := List.mem_of_getElem? (i := 3) rfl
  obtain ⟨⟨fd, F⟩, rest, hr⟩ := S.defP (d := pRatioof) (st := iRatioof) h rfl rfl rfl
  exact ⟨_, _, fd, ok_of S F, S.smet h rfl rfl hr F.kp, F.binds fun _ _ _ _ _ _ us hl => match us, hl with | [_], _ => rfl, _, _, F⟩
/-! ### the operators -/
/-- a op b: r is the left Ratio, s the right ratio -/
def spOp (K : PySem.W.Frag) (g : Rat → Rat → Rat) : Sp := fun vs H Q E => ∃ (a : Addr) (y : V) (r : Rat), vs = [.ref a, y] ∧ IsR K H a r ∧ Rm.Bd 2000 r ∧ ((∃ s, RV K H y s ∧ Rm.Bd 2000 s ∧ NewR K H Q (g r s)) ∨ (Kd K H y false false ∧ Rz K H E "other"))
theorem bmul {a b : Int} (ha : a.natAbs < 2 ^ 2000) (hb : b.natAbs < 2 ^ 2000) : CMulW a b := wide_mul ha hb (by decide) (by decide) (by decide)
theorem bden {n : Nat} {r : Rat} (h : Rm.Bd n r) : ((r.den : Int)).natAbs < 2 ^ n := by
  rw [Int.natAbs_natCast]
  exact h.2
theorem big_mul {a b : Int} (ha : a.natAbs < 2 ^ 2000) (hb : b.natAbs < 2 ^ 2000) : big (a * b) := Nat.lt_of_lt_of_le (Rm.mul_lt ha hb) (Nat.pow_le_pow_right (by decide) (by decide))
theorem big_add {a b c d : Int} (ha : a.natAbs < 2 ^ 2000) (hb : b.natAbs < 2 ^ 2000) (hc : c.natAbs < 2 ^ 2000) (hd : d.natAbs < 2 ^ 2000) : big (a * b + c * d) := Nat.lt_of_lt_of_le (Rm.add_lt (Rm.mul_lt ha hb) (Rm.mul_lt hc hd)) (Nat.pow_le_pow_right (by decide) (by decide))
theorem big_sub {a b c d : Int} (ha : a.natAbs < 2 ^ 2000) (hb : b.natAbs < 2 ^ 2000) (hc : c.natAbs < 2 ^ 2000) (hd : d.natAbs < 2 ^ 2000) : big (a * b - c * d) := Nat.lt_of_lt_of_le (Rm.sub_lt (Rm.mul_lt ha hb) (Rm.mul_lt hc hd)) (Nat.pow_le_pow_right (by decide) (by decide))
theorem scAdd : FnScope ["self", "other", "right"] ["self", "other"] (defScope iRatiouuadduu) := ⟨rfl, rfl, rfl, by decide +kernel, rfl, by decide +kernel, by decide +kernel⟩
theorem ok_add (S : Hd K mg) (F : L2.Fun K "__add__" "Ratio.__add__" iRatiouuadduu f fd) : FnOk P w K mg base (L2.CX P w) 7 f fd ["self", "other"] (spOp K fun r s => r + s) := by
  obtain ⟨fA, fdA, FA, gA, kA, bA⟩ := (pr_at (w := w) (base := base) S).ex
  obtain ⟨fdM, d, FM, bM, rM, bM2⟩ := (mkR (w := w) (base := base) S).ex
  refine F.okX scAdd (fun vs H Q E h => ?_) (fun cdv A outer s H vs Q E hr h => ?_)
  · obtain ⟨a, y, r, rfl, _⟩ := h
    rfl
  · obtain ⟨a, y, r, rfl, ha, br, h⟩ := h
    refine ⟨_, pss_cons (ps_set (i := 2) scAdd.nd rfl (.inl rfl) (pe_call (E := E) FA hr rfl gA kA bA .nil (passX (takes_of rfl rfl rfl rfl)) (pa_cons (pv 1) pa_nil)))
      (pss_one (ps_ret (pe_make (E := E) S.mkr FM (hr.mono (by decide)) rfl (S.glo 12) bM .nil (passX (takes_of rfl rfl rfl rfl)) (pa_cons (pe_op op_add (pe_op op_mulW (pe_fld (pv 0) rfl) (pe_fld (pv 2) rfl)) (pe_op op_mulW (pe_fld (pv 2) rfl) (pe_fld (pv 0) rfl))) (pa_cons (pe_op op_mulW (pe_fld (pv 0) rfl) (pe_fld (pv 2) rfl)) pa_nil))))), ?_⟩
    refine ⟨_, rfl, y, rfl, ?_⟩
    rcases h with ⟨s, hy, bs, k⟩ | ⟨h, e⟩
    · refine .inl ⟨s, hy, bs.mono (by decide), fun c H1 e1 hc => ?_⟩
      obtain ⟨dc, hc⟩ := hc
      obtain ⟨da, ha⟩ := ha.same e1
      refine ⟨_, rfl, _, _, da, _, _, rfl, ha, S.cls, S.noTop, rfl, _, rfl, _, _, dc, _, _, rfl, hc, S.cls, S.noBot, rfl, _, _, rfl, rfl, bmul br.1 (bden bs), ?_⟩
      refine ⟨_, rfl, _, _, dc, _, _, rfl, hc, S.cls, S.noTop, rfl, _, rfl, _, _, da, _, _, rfl, ha, S.cls, S.noBot, rfl, _, _, rfl, rfl, bmul bs.1 (bden br), _, _, rfl, rfl, ?_⟩
      refine ⟨_, rfl, _, _, da, _, _, rfl, ha, S.cls, S.noBot, rfl, _, rfl, _, _, dc, _, _, rfl, hc, S.cls, S.noBot, rfl, _, _, rfl, rfl, bmul (bden br) (bden bs), ?_⟩
      exact mk_rat (Rm.add_mk r s) (Int.mul_ne_zero (Int.ne_of_gt (Rm.den_pos r)) (Int.ne_of_gt (Rm.den_pos s))) (big_add br.1 (bden bs) bs.1 (bden br)) (big_mul (bden br) (bden bs)) (k.same e1)
    · exact .inr ⟨h, e⟩
theorem scSub : FnScope ["self", "other", "right"] ["self", "other"] (defScope iRatiouusubuu) := ⟨rfl, rfl, rfl, by decide +kernel, rfl, by decide +kernel, by decide +kernel⟩
theorem ok_sub (S : Hd K mg) (F : L2.Fun K "__sub__" "Ratio.__sub__" iRatiouusubuu f fd) : FnOk P w K mg base (L2.CX P w) 7 f fd ["self", "other"] (spOp K fun r s => r - s) := by
  obtain ⟨fA, fdA, FA, gA, kA, bA⟩ := (pr_at (w := w) (base := base) S).ex
  obtain ⟨fdM, d, FM, bM, rM, bM2⟩ := (mkR (w := w) (base := base) S).ex
  refine F.okX scSub (fun vs H Q E h => ?_) (fun cdv A outer s H vs Q E hr h => ?_)
  · obtain ⟨a, y, r, rfl, _⟩ := h
    rfl
  · obtain ⟨a, y, r, rfl, ha, br, h⟩ := h
    refine ⟨_, pss_cons (ps_set (i := 2) scSub.nd rfl (.inl rfl) (pe_call (E := E) FA hr rfl gA kA bA .nil (passX (takes_of rfl rfl rfl rfl)) (pa_cons (pv 1) pa_nil)))
      (pss_one (ps_ret (pe_make (E := E) S.mkr FM (hr.mono (by decide)) rfl (S.glo 12) bM .nil (passX (takes_of rfl rfl rfl rfl)) (pa_cons (pe_op op_sub (pe_op op_mulW (pe_fld (pv 0) rfl) (pe_fld (pv 2) rfl)) (pe_op op_mulW (pe_fld (pv 2) rfl) (pe_fld (pv 0) rfl))) (pa_cons (pe_op op_mulW (pe_fld (pv 0) rfl) (pe_fld (pv 2) rfl)) pa_nil))))), ?_⟩
    refine ⟨_, rfl, y, rfl, ?_⟩
    rcases h with ⟨s, hy, bs, k⟩ | ⟨h, e⟩
    · refine .inl ⟨s, hy, bs.mono (by decide), fun c H1 e1 hc => ?_⟩
      obtain ⟨dc, hc⟩ := hc
      obtain ⟨da, ha⟩ := ha.same e1
      refine ⟨_, rfl, _, _, da, _, _, rfl, ha, S.cls, S.noTop, rfl, _, rfl, _, _, dc, _, _, rfl, hc, S.cls, S.noBot, rfl, _, _, rfl, rfl, bmul br.1 (bden bs), ?_⟩
      refine ⟨_, rfl, _, _, dc, _, _, rfl, hc, S.cls, S.noTop, rfl, _, rfl, _, _, da, _, _, rfl, ha, S.cls, S.noBot, rfl, _, _, rfl, rfl, bmul bs.1 (bden br), _, _, rfl, rfl, ?_⟩
      refine ⟨_, rfl, _, _, da, _, _, rfl, ha, S.cls, S.noBot, rfl, _, rfl, _, _, dc, _, _, rfl, hc, S.cls, S.noBot, rfl, _, _, rfl, rfl, bmul (bden br) (bden bs), ?_⟩
      exact mk_rat (Rm.sub_mk r s) (Int.mul_ne_zero (Int.ne_of_gt (Rm.den_pos r)) (Int.ne_of_gt (Rm.den_pos s))) (big_sub br.1 (bden bs) bs.1 (bden br)) (big_mul (bden br) (bden bs)) (k.same e1)
    · exact .inr ⟨h, e⟩
theorem scMul : FnScope ["self", "other", "right"] ["self", "other"] (defScope iRatiouumuluu) := ⟨rfl, rfl, rfl, by decide +kernel, rfl, by decide +kernel, by decide +kernel⟩
theorem ok_mul (S : Hd K mg) (F : L2.Fun K "__mul__" "Ratio.__mul__" iRatiouumuluu f fd) : FnOk P w K mg base (L2.CX P w) 7 f fd ["self", "other"] (spOp K fun r s => r * s) := by
  obtain ⟨fA, fdA, FA, gA, kA, bA⟩ := (pr_at (w := w) (base := base) S).ex
  obtain ⟨fdM, d, FM, bM, rM, bM2⟩ := (mkR (w := w) (base := base) S).ex
  refine F.okX scMul (fun vs H Q E h => ?_) (fun cdv A outer s H vs Q E hr h => ?_)
  · obtain ⟨a, y, r, rfl, _⟩ := h
    rfl
  · obtain ⟨a, y, r, rfl, ha, br, h⟩ := h
    refine ⟨_, pss_cons (ps_set (i := 2) scMul.nd rfl (.inl rfl) (pe_call (E := E) FA hr rfl gA kA bA .nil (passX (takes_of rfl rfl rfl rfl)) (pa_cons (pv 1) pa_nil)))
      (pss_one (ps_ret (pe_make (E := E) S.mkr FM (hr.mono (by decide)) rfl (S.glo 12) bM .nil (passX (takes_of rfl rfl rfl rfl)) (pa_cons (pe_op op_mulW (pe_fld (pv 0) rfl) (pe_fld (pv 2) rfl)) (pa_cons (pe_op op_mulW (pe_fld (pv 0) rfl) (pe_fld (pv 2) rfl)) pa_nil))))), ?_⟩
    refine ⟨_, rfl, y, rfl, ?_⟩
    rcases h with ⟨s, hy, bs, k⟩ | ⟨h, e⟩
    · refine .inl ⟨s, hy, bs.mono (by decide), fun c H1 e1 hc => ?_⟩
      obtain ⟨dc, hc⟩ := hc
      obtain ⟨da, ha⟩ := ha.same e1
      refine ⟨_, rfl, _, _, da, _, _, rfl, ha, S.cls, S.noTop, rfl, _, rfl, _, _, dc, _, _, rfl, hc, S.cls, S.noTop, rfl, _, _, rfl, rfl, bmul br.1 bs.1, ?_⟩
      refine ⟨_, rfl, _, _, da, _, _, rfl, ha, S.cls, S.noBot, rfl, _, rfl, _, _, dc, _, _, rfl, hc, S.cls, S.noBot, rfl, _, _, rfl, rfl, bmul (bden br) (bden bs), ?_⟩
      exact mk_rat (Rm.mul_mk r s) (Int.mul_ne_zero (Int.ne_of_gt (Rm.den_pos r)) (Int.ne_of_gt (Rm.den_pos s))) (big_mul br.1 bs.1) (big_mul (bden br) (bden bs)) (k.same e1)
    · exact .inr ⟨h, e⟩
/-! ### over, compared, is_below -/
/-- a.over(y) -/
def spOver (K : PySem.W.Frag) : Sp := fun vs H Q E => ∃ (a : Addr) (y : V) (r : Rat), vs = [.ref a, y] ∧ IsR K H a r ∧ Rm.Bd 2000 r ∧ ((∃ s, RV K H y s ∧ Rm.Bd 2000 s ∧ s ≠ 0 ∧ NewR K H Q (r / s)) ∨ (Kd K H y false false ∧ Rz K H E "other") ∨ (RV K H y 0 ∧ Rz K H E "zero"))
theorem num_ne {s : Rat} (h : s ≠ 0) : s.num ≠ 0 := fun z => h (Rat.num_eq_zero.mp z)
theorem bd0 : Rm.Bd 8000 0 := ⟨by show (0 : Int).natAbs < _; decide, by show 1 < _; decide⟩
theorem scOver : FnScope ["self", "other", "right"] ["self", "other"] (defScope iRatioover) := ⟨rfl, rfl, rfl, by decide +kernel, rfl, by decide +kernel, by decide +kernel⟩
theorem ok_over (S : Hd K mg) (F : L2.Fun K "over" "Ratio.over" iRatioover f fd) : FnOk P w K mg base (L2.CX P w) 7 f fd ["self", "other"] (spOver K) := by
  obtain ⟨fA, fdA, FA, gA, kA, bA⟩ := (pr_at (w := w) (base := base) S).ex
  obtain ⟨fdM, d, FM, bM, rM, bM2⟩ := (mkR (w := w) (base := base) S).ex
  refine F.okX scOver (fun vs H Q E h => ?_) (fun cdv A outer s H vs Q E hr h => ?_)
  · obtain ⟨a, y, r, rfl, _⟩ := h
    rfl
  · obtain ⟨a, y, r, rfl, ha, br, h⟩ := h
    refine ⟨_, pss_cons (ps_set (i := 2) scOver.nd rfl (.inl rfl) (pe_call (E := E) FA hr rfl gA kA bA .nil (passX (takes_of rfl rfl rfl rfl)) (pa_cons (pv 1) pa_nil)))
      (pss_cons (ps_if (pt_cmpR op_eq (pe_fld (pv 2) rfl) pe_int (nomark _)) (pss_one (ps_raise rfl (takes_of rfl rfl rfl rfl) (pmk_part rfl S (hr.mono (by decide)) rfl pe_str (by decide) (by decide +kernel)))) pss_nil)
      (pss_one (ps_ret (pe_make (E := E) S.mkr FM (hr.mono (by decide)) rfl (S.glo 12) bM .nil (passX (takes_of rfl rfl rfl rfl)) (pa_cons (pe_op op_mulW (pe_fld (pv 0) rfl) (pe_fld (pv 2) rfl)) (pa_cons (pe_op op_mulW (pe_fld (pv 0) rfl) (pe_fld (pv 2) rfl)) pa_nil)))))), ?_⟩
    refine ⟨_, rfl, y, rfl, ?_⟩
    rcases h with ⟨s, hy, bs, h0, k⟩ | ⟨h, e⟩ | ⟨hy, e⟩
    · refine .inl ⟨s, hy, bs.mono (by decide), fun c H1 e1 hc => ?_⟩
      obtain ⟨dc, hc⟩ := hc
      obtain ⟨da, ha⟩ := ha.same e1
      refine ⟨_, rfl, _, _, dc, _, _, rfl, hc, S.cls, S.noTop, rfl, rfl, _, rfl, itf (decide_eq_false fun z => num_ne h0 (V.int.inj z)) ?_⟩
      refine ⟨_, rfl, _, _, da, _, _, rfl, ha, S.cls, S.noTop, rfl, _, rfl, _, _, dc, _, _, rfl, hc, S.cls, S.noBot, rfl, _, _, rfl, rfl, bmul br.1 (bden bs), ?_⟩
      refine ⟨_, rfl, _, _, da, _, _, rfl, ha, S.cls, S.noBot, rfl, _, rfl, _, _, dc, _, _, rfl, hc, S.cls, S.noTop, rfl, _, _, rfl, rfl, bmul (bden br) bs.1, ?_⟩
      exact mk_rat (Rm.div_mk r s) (Int.mul_ne_zero (Int.ne_of_gt (Rm.den_pos r)) (num_ne h0)) (big_mul br.1 (bden bs)) (big_mul (bden br) bs.1) (k.same e1)
    · exact .inr ⟨h, e⟩
    · refine .inl ⟨0, hy, bd0, fun c H1 e1 hc => ?_⟩
      obtain ⟨dc, hc⟩ := hc
      refine ⟨_, rfl, _, _, dc, _, _, rfl, hc, S.cls, S.noTop, rfl, rfl, _, rfl, itt (decide_eq_true rfl) fun d nd => ?_⟩
      exact e d _ (e1.trans (samu nd)) upd_same
/-- a.compared(y) -/
def spComp (K : PySem.W.Frag) : Sp := fun vs H Q E => ∃ (a : Addr) (y : V) (r : Rat), vs = [.ref a, y] ∧ IsR K H a r ∧ Rm.Bd 2000 r ∧ ((∃ s, RV K H y s ∧ Rm.Bd 2000 s ∧ ∀ H2, Same H H2 → Q (.int (Rm.cmp r s)) H2) ∨ (Kd K H y false false ∧ Rz K H E "other"))
theorem scComp : FnScope ["self", "other", "right"] ["self", "other"] (defScope iRatiocompared) := ⟨rfl, rfl, rfl, by decide +kernel, rfl, by decide +kernel, by decide +kernel⟩
theorem ok_comp (S : Hd K mg) (F : L2.Fun K "compared" "Ratio.compared" iRatiocompared f fd) : FnOk P w K mg base (L2.CX P w) 7 f fd ["self", "other"] (spComp K) := by
  obtain ⟨fA, fdA, FA, gA, kA, bA⟩ := (pr_at (w := w) (base := base) S).ex
  obtain ⟨fS, fdS, FS, gS, kS, bS⟩ := (pr_sign (w := w) (base := base) S).ex
  refine F.okX scComp (fun vs H Q E h => ?_) (fun cdv A outer s H vs Q E hr h => ?_)
  · obtain ⟨a, y, r, rfl, _⟩ := h
    rfl
  · obtain ⟨a, y, r, rfl, ha, br, h⟩ := h
    refine ⟨_, pss_cons (ps_set (i := 2) scComp.nd rfl (.inl rfl) (pe_call (E := E) FA hr rfl gA kA bA .nil (passX (takes_of rfl rfl rfl rfl)) (pa_cons (pv 1) pa_nil)))
      (pss_one (ps_ret (pe_call FS (hr.mono (by decide)) rfl gS kS bS .nil pass0 (pa_cons (pe_op op_sub (pe_op op_mulW (pe_fld (pv 0) rfl) (pe_fld (pv 2) rfl)) (pe_op op_mulW (pe_fld (pv 2) rfl) (pe_fld (pv 0) rfl))) pa_nil)))), ?_⟩
    refine ⟨_, rfl, y, rfl, ?_⟩
    rcases h with ⟨s, hy, bs, k⟩ | ⟨h, e⟩
    · refine .inl ⟨s, hy, bs.mono (by decide), fun c H1 e1 hc => ?_⟩
      obtain ⟨dc, hc⟩ := hc
      obtain ⟨da, ha⟩ := ha.same e1
      refine ⟨_, rfl, _, _, da, _, _, rfl, ha, S.cls, S.noTop, rfl, _, rfl, _, _, dc, _, _, rfl, hc, S.cls, S.noBot, rfl, _, _, rfl, rfl, bmul br.1 (bden bs), ?_⟩
      refine ⟨_, rfl, _, _, dc, _, _, rfl, hc, S.cls, S.noTop, rfl, _, rfl, _, _, da, _, _, rfl, ha, S.cls, S.noBot, rfl, _, _, rfl, rfl, bmul bs.1 (bden br), _, _, rfl, rfl, ?_⟩
      exact ⟨_, rfl, k H1 e1⟩
    · exact .inr ⟨h, e⟩
end
end Kw
end

/-! Kw9 -/
section
set_option maxHeartbeats 4000000
set_option exponentiation.threshold 10000
namespace Kw
open PySem PySem.Spec PyProof.Rows L2 He Er Ow
section
variable {w : World} {K : PySem.W.Frag} {mg : Str → Option Value} {base : Heap} {f : Addr} {fd : FuncData} {H H2 : Hp} {x y : V} {b c : Bool} {t : Value}
theorem mr_add (S : Hd K mg) : Mr w K mg base (L2.CX P w) 7 "__add__" ["self", "other"] (spOp K fun r s => r + s) := by
  obtain ⟨fd, F⟩ := S.def_ 10 (d := dRatiouuadduu)
  have F := fun_of (st := iRatiouuadduu) F
  exact ⟨fd, ok_add S F, F.binds fun _ _ _ _ _ _ us hl => match us, hl with | [_, _], _ => rfl⟩
theorem mr_sub (S : Hd K mg) : Mr w K mg base (L2.CX P w) 7 "__sub__" ["self", "other"] (spOp K fun r s => r - s) := by
  obtain ⟨fd, F⟩ := S.def_ 11 (d := dRatiouusubuu)
  have F := fun_of (st := iRatiouusubuu) F
  exact ⟨fd, ok_sub S F, F.binds fun _ _ _ _ _ _ us hl => match us, hl with | [_, _], _ => rfl⟩
theorem mr_mul (S : Hd K mg) : Mr w K mg base (L2.CX P w) 7 "__mul__" ["self", "other"] (spOp K fun r s => r * s) := by
  obtain ⟨fd, F⟩ := S.def_ 12 (d := dRatiouumuluu)
  have F := fun_of (st := iRatiouumuluu) F
  exact ⟨fd, ok_mul S F, F.binds fun _ _ _ _ _ _ us hl => match us, hl with | [_, _], _ => rfl⟩
theorem mr_over (S : Hd K mg) : Mr w K mg base (L2.CX P w) 7 "over" ["self", "other"] (spOver K) := by
  obtain ⟨fd, F⟩ := S.def_ 13 (d := dRatioover)
  have F := fun_of (st := iRatioover) F
  exact ⟨fd, ok_over S F, F.binds fun _ _ _ _ _ _ us hl => match us, hl with | [_, _], _ => rfl⟩
theorem mr_comp (S : Hd K mg) : Mr w K mg base (L2.CX P w) 7 "compared" ["self", "other"] (spComp K) := by
  obtain ⟨fd, F⟩ := S.def_ 14 (d := dRatiocompared)
  have F := fun_of (st := iRatiocompared) F
  exact ⟨fd, ok_comp S F, F.binds fun _ _ _ _ _ _ us hl => match us, hl with | [_, _], _ => rfl⟩
/-- a.is_below(y) -/
def spBelow (K : PySem.W.Frag) : Sp := fun vs H Q E => ∃ (a : Addr) (y : V) (r : Rat), vs = [.ref a, y] ∧ IsR K H a r ∧ Rm.Bd 2000 r ∧ ((∃ s, RV K H y s ∧ Rm.Bd 2000 s ∧ ∀ H2, Same H H2 → Q (.bl (decide (Rm.cmp r s < 0))) H2) ∨ (Kd K H y false false ∧ Rz K H E "other"))
theorem scBelow : FnScope ["self", "other"] ["self", "other"] (defScope iRatioisubelow) := ⟨rfl, rfl, rfl, by decide +kernel, rfl, by decide +kernel, by decide +kernel⟩
theorem ok_below (S : Hd K mg) (F : L2.Fun K "is_below" "Ratio.is_below" iRatioisubelow f fd) : FnOk P w K mg base (L2.CX P w) 8 f fd ["self", "other"] (spBelow K) := by
  obtain ⟨fdC, FC, bC⟩ := (mr_comp (w := w) (base := base) S).ex
  refine F.okX scBelow (fun vs H Q E h => ?_) (fun cdv A outer s H vs Q E hr h => ?_)
  · obtain ⟨a, y, r, rfl, _⟩ := h
    rfl
  · obtain ⟨a, y, r, rfl, ha, br, h⟩ := h
    refine ⟨_, pss_one (ps_ret (pe_cmpR op_lt (pe_meth (E := E) (pv 0) S.cls S.me_compared FC hr bC .nil (passX (takes_of rfl rfl rfl rfl)) (pa_cons (pv 1) pa_nil)) pe_int (nomark _))), ?_⟩
    obtain ⟨da, ea⟩ := ha
    refine ⟨_, rfl, a, da, _, rfl, ea, rfl, _, rfl, a, y, r, rfl, ⟨da, ea⟩, br, ?_⟩
    rcases h with ⟨s, hy, bs, k⟩ | ⟨h, e⟩
    · exact .inl ⟨s, hy, bs, fun H1 e1 => ⟨_, _, rfl, rfl, k H1 e1⟩⟩
    · exact .inr ⟨h, e⟩
theorem mr_below (S : Hd K mg) : Mr w K mg base (L2.CX P w) 8 "is_below" ["self", "other"] (spBelow K) := by
  obtain ⟨fd, F⟩ := S.def_ 15 (d := dRatioisubelow)
  have F := fun_of (st := iRatioisubelow) F
  exact ⟨fd, ok_below S F, F.binds fun _ _ _ _ _ _ us hl => match us, hl with | [_, _], _ => rfl⟩
/-! ### -a, abs(a), bool(a) -/
def spOne (K : PySem.W.Frag) (g : Rat → Rat) : Sp := fun vs H Q _ => ∃ (a : Addr) (r : Rat), vs = [.ref a] ∧ IsR K H a r ∧ Rm.Bd 2000 r ∧ NewR K H Q (g r)
theorem big_of {n : Int} (h : n.natAbs < 2 ^ 2000) : big n := Nat.lt_of_lt_of_le h (Nat.pow_le_pow_right (by decide) (by decide))
theorem scNeg : FnScope ["self"] ["self"] (defScope iRatiouuneguu) := ⟨rfl, rfl, rfl, by decide +kernel, rfl, by decide +kernel, by decide +kernel⟩
theorem ok_neg (S : Hd K mg) (F : L2.Fun K "__neg__" "Ratio.__neg__" iRatiouuneguu f fd) : FnOk P w K mg base CX0 6 f fd ["self"] (spOne K fun r => -r) := by
  obtain ⟨fdM, d, FM, bM, rM, bM2⟩ := (mkR (w := w) (base := base) S).ex
  refine F.ok scNeg (fun vs H Q E h => ?_) (fun cdv A outer s H vs Q E hr h => ?_)
  · obtain ⟨a, r, rfl, _⟩ := h
    rfl
  · obtain ⟨a, r, rfl, ha, br, k⟩ := h
    refine ⟨_, PSs.nox (pss_one (ps_ret (pe_make S.mkr (quiet FM) hr rfl (S.glo 12) bM .nil pass0 (pa_cons (pe_un un_neg (pe_fld (pv 0) rfl)) (pa_cons (pe_fld (pv 0) rfl) pa_nil))))), ?_⟩
    obtain ⟨da, ea⟩ := ha
    refine ⟨_, rfl, _, _, da, _, _, rfl, ea, S.cls, S.noTop, rfl, _, rfl, ?_⟩
    refine ⟨_, rfl, _, _, da, _, _, rfl, ea, S.cls, S.noBot, rfl, ?_⟩
    exact mk_rat (Rm.neg_mk r) (Int.ne_of_gt (Rm.den_pos r)) (big_of (by rw [Int.natAbs_neg]; exact br.1)) (big_of (bden br)) k
theorem mr_neg (S : Hd K mg) : Mr w K mg base CX0 6 "__neg__" ["self"] (spOne K fun r => -r) := by
  obtain ⟨fd, F⟩ := S.def_ 16 (d := dRatiouuneguu)
  have F := fun_of (st := iRatiouuneguu) F
  exact ⟨fd, ok_neg S F, F.binds fun _ _ _ _ _ _ us hl => match us, hl with | [_], _ => rfl⟩
def absr (r : Rat) : Rat := Rm.mk (if r.num < 0 then -r.num else r.num) r.den
theorem scAbs : FnScope ["self"] ["self"] (defScope iRatiouuabsuu) := ⟨rfl, rfl, rfl, by decide +kernel, rfl, by decide +kernel, by decide +kernel⟩
theorem ok_abs (S : Hd K mg) (F : L2.Fun K "__abs__" "Ratio.__abs__" iRatiouuabsuu f fd) : FnOk P w K mg base CX0 6 f fd ["self"] (spOne K absr) := by
  obtain ⟨fdM, d, FM, bM, rM, bM2⟩ := (mkR (w := w) (base := base) S).ex
  refine F.ok scAbs (fun vs H Q E h => ?_) (fun cdv A outer s H vs Q E hr h => ?_)
  · obtain ⟨a, r, rfl, _⟩ := h
    rfl
  · obtain ⟨a, r, rfl, ha, br, k⟩ := h
    refine ⟨_, PSs.nox (pss_one (ps_ret (pe_make S.mkr (quiet FM) hr rfl (S.glo 12) bM .nil pass0 (pa_cons (pe_callB call_abs rfl (S.free 44) (by decide +kernel) (pa_cons (pe_fld (pv 0) rfl) pa_nil)) (pa_cons (pe_fld (pv 0) rfl) pa_nil))))), ?_⟩
    obtain ⟨da, ea⟩ := ha
    refine ⟨_, rfl, _, _, da, _, _, rfl, ea, S.cls, S.noTop, rfl, _, rfl, ?_⟩
    refine ⟨_, rfl, _, _, da, _, _, rfl, ea, S.cls, S.noBot, rfl, ?_⟩
    refine mk_rat rfl (Int.ne_of_gt (Rm.den_pos r)) (big_of ?_) (big_of (bden br)) k
    split
    · rw [Int.natAbs_neg]; exact br.1
    · exact br.1
theorem mr_abs (S : Hd K mg) : Mr w K mg base CX0 6 "__abs__" ["self"] (spOne K absr) := by
  obtain ⟨fd, F⟩ := S.def_ 17 (d := dRatiouuabsuu)
  have F := fun_of (st := iRatiouuabsuu) F
  exact ⟨fd, ok_abs S F, F.binds fun _ _ _ _ _ _ us hl => match us, hl with | [_], _ => rfl⟩
def spBool (K : PySem.W.Frag) : Sp := fun vs H Q _ => ∃ (a : Addr) (r : Rat), vs = [.ref a] ∧ IsR K H a r ∧ Q (.bl (r.num != 0)) H
theorem scBool : FnScope ["self"] ["self"] (defScope iRatiouubooluu) := ⟨rfl, rfl, rfl, by decide +kernel, rfl, by decide +kernel, by decide +kernel⟩
theorem ok_bool (S : Hd K mg) (F : L2.Fun K "__bool__" "Ratio.__bool__" iRatiouubooluu f fd) : FnOk P w K mg base CX0 1 f fd ["self"] (spBool K) := by
  refine F.ok scBool (fun vs H Q E h => ?_) (fun cdv A outer s H vs Q E hr h => ?_)
  · obtain ⟨a, r, rfl, _⟩ := h
    rfl
  · obtain ⟨a, r, rfl, ⟨da, ea⟩, k⟩ := h
    refine ⟨_, PSs.nox (pss_one (ps_ret (pe_callTy call_bool1 rfl (S.free 46) (by decide +kernel) (pa_cons (pe_fld (pv 0) rfl) pa_nil)))), ?_⟩
    exact ⟨_, rfl, _, _, da, _, _, rfl, ea, S.cls, S.noTop, rfl, .inl ⟨_, rfl, k⟩⟩
theorem mr_bool (S : Hd K mg) : Mr w K mg base CX0 1 "__bool__" ["self"] (spBool K) := by
  obtain ⟨fd, F⟩ := S.def_ 18 (d := dRatiouubooluu)
  have F := fun_of (st := iRatiouubooluu) F
  exact ⟨fd, ok_bool S F, F.binds fun _ _ _ _ _ _ us hl => match us, hl with | [_], _ => rfl⟩
/-! ### a == y -/
def spEq (K : PySem.W.Frag) : Sp := fun vs H Q _ => ∃ (a : Addr) (y : V) (r : Rat), vs = [.ref a, y] ∧ IsR K H a r ∧ ((∃ s, RV K H y s ∧ Q (.bl (decide (r = s))) H) ∨ (Kd K H y false false ∧ Q (.bl false) H))
theorem scEq : FnScope ["self", "other"] ["self", "other"] (defScope iRatiouuequu) := ⟨rfl, rfl, rfl, by decide +kernel, rfl, by decide +kernel, by decide +kernel⟩
theorem dec_int (i j : Int) : decide (V.int i = V.int j) = decide (i = j) := by
  by_cases h : i = j
  · subst h
    rw [decide_eq_true rfl, decide_eq_true rfl]
  · rw [decide_eq_false h, decide_eq_false fun z => h (V.int.inj z)]
theorem ok_eq (S : Hd K mg) (F : L2.Fun K "__eq__" "Ratio.__eq__" iRatiouuequu f fd) : FnOk P w K mg base CX0 2 f fd ["self", "other"] (spEq K) := by
  obtain ⟨fI, fdI, FI, gI, kI, bI⟩ := (pr_int (w := w) (base := base) S).ex
  refine F.ok scEq (fun vs H Q E h => ?_) (fun cdv A outer s H vs Q E hr h => ?_)
  · obtain ⟨a, y, r, rfl, _⟩ := h
    rfl
  · obtain ⟨a, y, r, rfl, ⟨da, ea⟩, h⟩ := h
    refine ⟨_, PSs.nox (pss_cons (ps_if (pt_val (pe_callB call_isi rfl (S.free 50) (by decide +kernel) (pa_cons (pv 1) (pa_cons (pe_glob (v := .ref (cR K)) rfl (S.glo 12) rfl) pa_nil))))
        (pss_one (ps_ret (pe_and (pe_cmpR op_eq (pe_fld (pv 0) rfl) (pe_fld (pv 1) rfl) (nomark _)) (pe_one (pe_cmpR op_eq (pe_fld (pv 0) rfl) (pe_fld (pv 1) rfl) (nomark _)))))) pss_nil)
      (pss_one (ps_ret (pe_and (pe_call FI hr rfl gI kI bI .nil pass0 (pa_cons (pv 1) pa_nil)) (pe_and (pe_cmpR op_eq (pe_fld (pv 0) rfl) pe_int (nomark _)) (pe_one (pe_cmpR op_eq (pe_fld (pv 0) rfl) (pv 1) (nomark _)))))))), ?_⟩
    rcases h with ⟨s, ⟨e, rfl, ⟨de, ee⟩⟩ | ⟨n, rfl, rfl⟩, k⟩ | ⟨h, k⟩
    · obtain ⟨t, i, o, ty, h1, h2, h3, h4, h5⟩ := S.kd_rat ⟨de, ee⟩
      refine ⟨_, rfl, _, _, t, _, true, rfl, .own _, ty, h4, true, rfl, iteT ?_⟩
      refine ⟨_, rfl, _, _, da, _, _, rfl, ea, S.cls, S.noTop, rfl, _, rfl, _, _, de, _, _, rfl, ee, S.cls, S.noTop, rfl, rfl, _, rfl, ?_⟩
      by_cases h0 : r.num = s.num
      · refine itt (by rw [dec_int]; exact decide_eq_true h0) ?_
        refine ⟨_, rfl, _, _, da, _, _, rfl, ea, S.cls, S.noBot, rfl, _, rfl, _, _, de, _, _, rfl, ee, S.cls, S.noBot, rfl, rfl, ?_⟩
        have e2 : decide (V.int (r.den : Int) = V.int (s.den : Int)) = decide (r = s) := by
          rw [dec_int]
          exact decide_eq_decide.mpr ⟨fun z => (Rm.ext_iff r s).mpr ⟨h0, Int.ofNat.inj z⟩, fun z => by rw [z]⟩
        rw [e2]
        exact k
      · refine itf (by rw [dec_int]; exact decide_eq_false h0) ?_
        rw [decide_eq_false fun z => h0 (by rw [z])] at k
        exact k
    · obtain ⟨t, i, o, ty, h1, h2, h3, h4, h5⟩ := S.kd_int (H := H) (n := n)
      refine ⟨_, rfl, _, _, t, _, false, rfl, .own _, ty, h4, false, rfl, iteF ?_⟩
      refine ⟨_, rfl, .int n, true, false, rfl, S.kd_int, true, rfl, iteT ?_⟩
      refine ⟨_, rfl, _, _, da, _, _, rfl, ea, S.cls, S.noBot, rfl, rfl, _, rfl, ?_⟩
      by_cases h0 : (r.den : Int) = 1
      · refine itt (by rw [dec_int]; exact decide_eq_true h0) ?_
        refine ⟨_, rfl, _, _, da, _, _, rfl, ea, S.cls, S.noTop, rfl, _, rfl, rfl, ?_⟩
        have e2 : decide (V.int r.num = V.int n) = decide (r = (n : Rat)) := by
          rw [dec_int]
          exact decide_eq_decide.mpr ⟨fun z => (Rm.ext_iff r n).mpr ⟨by rw [Rat.num_intCast]; exact z, by rw [Rat.den_intCast]; exact Int.ofNat.inj h0⟩, fun z => by rw [z, Rat.num_intCast]⟩
        rw [e2]
        exact k
      · refine itf (by rw [dec_int]; exact decide_eq_false h0) ?_
        rw [decide_eq_false fun z => h0 (by rw [z, Rat.den_intCast]; rfl)] at k
        exact k
    · obtain ⟨t, i, o, ty, h1, h2, h3, h4, h5⟩ := h
      refine ⟨_, rfl, _, _, t, _, false, rfl, .own _, ty, h4, false, rfl, iteF ?_⟩
      exact ⟨_, rfl, y, false, false, rfl, ⟨t, i, o, ty, h1, h2, h3, h4, h5⟩, false, rfl, iteF k⟩
theorem mr_eq (S : Hd K mg) : Mr w K mg base CX0 2 "__eq__" ["self", "other"] (spEq K) := by
  obtain ⟨fd, F⟩ := S.def_ 19 (d := dRatiouuequu)
  have F := fun_of (st := iRatiouuequu) F
  exact ⟨fd, ok_eq S F, F.binds fun _ _ _ _ _ _ us hl => match us, hl with | [_, _], _ => rfl⟩
end
end Kw
end

/-! Kw10 -/
section
set_option maxHeartbeats 4000000
set_option exponentiation.threshold 10000
namespace Kw
open PySem PySem.Spec PyProof.Rows L2 He Er Ow
section
variable {w : World} {K : PySem.W.Frag} {mg : Str → Option Value} {base : Heap} {f : Addr} {fd : FuncData} {H H2 : Hp} {x y : V} {b c : Bool} {t : Value}
/-! ### _digits, str -/
abbrev tx (n : Int) : Str := Nm.tx n
def spDig : Sp := fun vs H Q _ => ∃ n : Int, vs = [.int n] ∧ n.natAbs < 10 ^ 64 ∧ Q (.str (tx n)) H
theorem log64 {n : Int} (h : n.natAbs < 10 ^ 64) : n.natAbs.log2 < 1920 := by
  by_cases z : n.natAbs = 0
  · rw [z]; decide
  · exact Nat.lt_trans ((Nat.log2_lt z).mpr (Nat.lt_trans h (by decide : 10 ^ 64 < 2 ^ 213))) (by decide)
theorem scDig : FnScope ["number", "pieces", "rest", "piece", "sign", "tail"] ["number"] (defScope sudigits) := ⟨rfl, rfl, rfl, by decide +kernel, rfl, by decide +kernel, by decide +kernel⟩
theorem ok_dig (S : Hd K mg) (F : L2.Fun K "_digits" "_digits" sudigits f fd) : FnOk P w K mg base CX0 1 f fd ["number"] spDig := by
  obtain ⟨tB, hB⟩ := S.int (x := "PIECE_BOUND") (n := 10 ^ 64) 62
  refine F.ok scDig (fun vs H Q E h => ?_) (fun cdv A outer s H vs Q E hr h => ?_)
  · obtain ⟨n, rfl, _⟩ := h
    rfl
  · obtain ⟨n, rfl, hn, k⟩ := h
    refine ⟨_, PSs.nox (pss_cons (ps_if (pt_cmpR op_lt (pe_callB call_abs rfl (S.free 44) (by decide +kernel) (pa_cons (pv 0) pa_nil)) (pe_glob (v := .int (10 ^ 64)) rfl hB ⟨_, rfl⟩) (nomark _)) (pss_one (ps_ret (pe_callTy call_str_int rfl (S.free 57) (by decide +kernel) (pa_cons (pv 0) pa_nil)))) pss_nil) pss_never), ?_⟩
    refine ⟨_, rfl, _, rfl, _, _, rfl, rfl, _, rfl, itt (decide_eq_true ?_) ⟨_, rfl, _, rfl, log64 hn, k⟩⟩
    split <;> omega
theorem pr_dig (S : Hd K mg) : Pr w K mg base CX0 1 "_digits" ["number"] spDig := by
  obtain ⟨fd, F⟩ := S.def_ 31 (d := dudigits)
  have F := fun_of (st := sudigits) F
  exact ⟨_, fd, ok_dig S F, S.glo 22, F.kp, F.binds fun _ _ _ _ _ _ us hl => match us, hl with | [_], _ => rfl⟩
/-- the text of a ratio -/
def txr (r : Rat) : Str := if r.den = 1 then tx r.num else tx r.num ++ ("/" : Str) ++ tx (r.den : Int)
def sm (r : Rat) : Prop := r.num.natAbs < 10 ^ 64 ∧ r.den < 10 ^ 64
def spStr (K : PySem.W.Frag) : Sp := fun vs H Q _ => ∃ (a : Addr) (r : Rat), vs = [.ref a] ∧ IsR K H a r ∧ sm r ∧ Q (.str (txr r)) H
theorem emp_app (z : Str) : Str.empty ++ z = z := PySem.Str.empty_append z
theorem scStr : FnScope ["self"] ["self"] (defScope iRatiouustruu) := ⟨rfl, rfl, rfl, by decide +kernel, rfl, by decide +kernel, by decide +kernel⟩
theorem len_tx {n : Int} (h : n.natAbs < 10 ^ 64) : (tx n).length ≤ 65 := by
  unfold tx Nm.tx
  rw [PySem.ofString_length]
  exact PySem.int_text_length_le10 (k := 64) (by decide) h
theorem ok_str (S : Hd K mg) (F : L2.Fun K "__str__" "Ratio.__str__" iRatiouustruu f fd) : FnOk P w K mg base CX0 2 f fd ["self"] (spStr K) := by
  obtain ⟨fD, fdD, FD, gD, kD, bD⟩ := (pr_dig (w := w) (base := base) S).ex
  refine F.ok scStr (fun vs H Q E h => ?_) (fun cdv A outer s H vs Q E hr h => ?_)
  · obtain ⟨a, r, rfl, _⟩ := h
    rfl
  · obtain ⟨a, r, rfl, ⟨da, ea⟩, hs, k⟩ := h
    have hd : ((r.den : Int)).natAbs < 10 ^ 64 := by rw [Int.natAbs_natCast]; exact hs.2
    refine ⟨_, PSs.nox (pss_cons (ps_if (pt_cmpR op_eq (pe_fld (pv 0) rfl) pe_int (nomark _)) (pss_one (ps_ret (pe_callTy SkE.call_str_str rfl (S.free 57) (by decide +kernel) (pa_cons (pe_call FD hr rfl gD kD bD .nil pass0 (pa_cons (pe_fld (pv 0) rfl) pa_nil)) pa_nil)))) pss_nil)
      (pss_one (ps_ret (pe_joined (.cons (pe_fmt (pe_call FD hr rfl gD kD bD .nil pass0 (pa_cons (pe_fld (pv 0) rfl) pa_nil))) (.cons pe_str (.cons (pe_fmt (pe_call FD hr rfl gD kD bD .nil pass0 (pa_cons (pe_fld (pv 0) rfl) pa_nil))) .nil))))))), ?_⟩
    refine ⟨_, rfl, _, _, da, _, _, rfl, ea, S.cls, S.noBot, rfl, rfl, _, rfl, ?_⟩
    unfold txr at k
    by_cases h0 : r.den = 1
    · refine itt (by rw [dec_int, h0]; rfl) ?_
      rw [if_pos h0] at k
      exact ⟨_, rfl, _, _, da, _, _, rfl, ea, S.cls, S.noTop, rfl, _, rfl, hs.1, _, rfl, k⟩
    · refine itf (by rw [dec_int]; exact decide_eq_false fun z => h0 (Int.ofNat.inj z)) ?_
      rw [if_neg h0] at k
      refine ⟨_, rfl, _, _, da, _, _, rfl, ea, S.cls, S.noTop, rfl, _, rfl, hs.1, .inl ⟨_, rfl, fits (Nat.le_trans (len_tx hs.1) (by decide)), _, rfl, fits ?_, _, rfl, fits ?_, ?_⟩⟩
      · rw [emp_app]
        exact Nat.le_trans (len_tx hs.1) (by decide)
      · rw [emp_app, PySem.Str.length_append]
        exact Nat.le_trans (Nat.add_le_add_right (len_tx hs.1) _) (by decide)
      refine ⟨_, rfl, _, _, da, _, _, rfl, ea, S.cls, S.noBot, rfl, _, rfl, hd, .inl ⟨_, rfl, fits (Nat.le_trans (len_tx hd) (by decide)), _, rfl, fits ?_, ?_⟩⟩
      · rw [emp_app, PySem.Str.length_append, PySem.Str.length_append]
        exact Nat.le_trans (Nat.add_le_add (Nat.add_le_add_right (len_tx hs.1) _) (len_tx hd)) (by decide)
      · rw [emp_app]
        exact k
theorem mr_str (S : Hd K mg) : Mr w K mg base CX0 2 "__str__" ["self"] (spStr K) := by
  obtain ⟨fd, F⟩ := S.def_ 20 (d := dRatiouustruu)
  have F := fun_of (st := iRatiouustruu) F
  exact ⟨fd, ok_str S F, F.binds fun _ _ _ _ _ _ us hl => match us, hl with | [_], _ => rfl⟩
theorem scRepr : FnScope ["self"] ["self"] (defScope iRatiouurepruu) := ⟨rfl, rfl, rfl, by decide +kernel, rfl, by decide +kernel, by decide +kernel⟩
theorem ok_repr (S : Hd K mg) (F : L2.Fun K "__repr__" "Ratio.__repr__" iRatiouurepruu f fd) : FnOk P w K mg base CX0 5 f fd ["self"] (spStr K) := by
  obtain ⟨fdD, FD, bD⟩ := (mr_str (w := w) (base := base) S).ex
  refine F.ok scRepr (fun vs H Q E h => ?_) (fun cdv A outer s H vs Q E hr h => ?_)
  · obtain ⟨a, r, rfl, _⟩ := h
    rfl
  · obtain ⟨a, r, rfl, ⟨da, ea⟩, hs, k⟩ := h
    refine ⟨_, PSs.nox (pss_one (ps_ret (pe_callTy (str_own S.mc_str FD hr bD) rfl (S.free 57) (by decide +kernel) (pa_cons (pv 0) pa_nil)))), ?_⟩
    exact ⟨_, rfl, a, da, _, rfl, ea, a, r, rfl, ⟨da, ea⟩, hs, _, rfl, k⟩
theorem mr_repr (S : Hd K mg) : Mr w K mg base CX0 5 "__repr__" ["self"] (spStr K) := by
  obtain ⟨fd, F⟩ := S.def_ 21 (d := dRatiouurepruu)
  have F := fun_of (st := iRatiouurepruu) F
  exact ⟨fd, ok_repr S F, F.binds fun _ _ _ _ _ _ us hl => match us, hl with | [_], _ => rfl⟩
/-! ### the properties -/
structure PrO (w : World) (K : PySem.W.Frag) (mg : Str → Option Value) (base : Heap) (k : Nat) (m : Str) (sp : Sp) : Prop where
  ex : ∃ p g fd, FnOk P w K mg base CX0 k g fd ["self"] sp ∧ PropOf K (cR K) m p g ∧ Binds K fd ["self"] []
theorem Hd.prop (S : Hd K mg) {d : DefP} (h : d ∈ fp) (hc : d.cls = "Ratio") (hk : d.kind = "property") {rest : List Value} (hr : PySem.W.recIn K (ma K (ga K d.cls) d.name) d.kind = some (.ref (d.at_ K) :: rest)) : PropOf K (cR K) d.name (ma K (cR K) d.name) (d.at_ K) := by
  have g := (ba (List.all_eq_true.mp S.b3 d h)).2
  unfold kindB at g
  rw [hk] at g
  rw [hk, hc] at hr
  rw [hc] at g
  obtain ⟨g1, g⟩ := ba g
  obtain ⟨g2, g3⟩ := ba g
  exact ⟨eqO_ok g1, eqO_ok g2, of_decide_eq_true g3, rest, hr⟩
def spSgn (K : PySem.W.Frag) : Sp := fun vs H Q _ => ∃ (a : Addr) (r : Rat), vs = [.ref a] ∧ IsR K H a r ∧ Q (.int r.num.sign) H
theorem scSgn : FnScope ["self"] ["self"] (defScope iRatiosign) := ⟨rfl, rfl, rfl, by decide +kernel, rfl, by decide +kernel, by decide +kernel⟩
theorem ok_sgn (S : Hd K mg) (F : L2.Fun K "sign" "Ratio.sign" iRatiosign f fd) : FnOk P w K mg base CX0 2 f fd ["self"] (spSgn K) := by
  obtain ⟨fS, fdS, FS, gS, kS, bS⟩ := (pr_sign (w := w) (base := base) S).ex
  refine F.ok scSgn (fun vs H Q E h => ?_) (fun cdv A outer s H vs Q E hr h => ?_)
  · obtain ⟨a, r, rfl, _⟩ := h
    rfl
  · obtain ⟨a, r, rfl, ⟨da, ea⟩, k⟩ := h
    refine ⟨_, PSs.nox (pss_one (ps_ret (pe_call FS hr rfl gS kS bS .nil pass0 (pa_cons (pe_fld (pv 0) rfl) pa_nil)))), ?_⟩
    exact ⟨_, rfl, _, _, da, _, _, rfl, ea, S.cls, S.noTop, rfl, _, rfl, k⟩
theorem po_sgn (S : Hd K mg) : PrO w K mg base 2 "sign" (spSgn K) := by
  have h : pRatiosign ∈ fp := List.mem_of_getElem? (i := 0) rfl
  obtain ⟨⟨fd, F⟩, rest, hr⟩ := S.defP (d := pRatiosign) (st := iRatiosign) h rfl rfl rfl
  exact ⟨_, _, fd, ok_sgn S F, S.prop h rfl rfl hr, F.binds fun _ _ _ _ _ _ us hl => match us, hl with | [_], _ => rfl⟩
def spWh (K : PySem.W.Frag) : Sp := fun vs H Q _ => ∃ (a : Addr) (r : Rat), vs = [.ref a] ∧ IsR K H a r ∧ Q (.bl (decide (r.den = 1))) H
theorem scWh : FnScope ["self"] ["self"] (defScope iRatioisuwhole) := ⟨rfl, rfl, rfl, by decide +kernel, rfl, by decide +kernel, by decide +kernel⟩
theorem ok_wh (S : Hd K mg) (F : L2.Fun K "is_whole" "Ratio.is_whole" iRatioisuwhole f fd) : FnOk P w K mg base CX0 1 f fd ["self"] (spWh K) := by
  refine F.ok scWh (fun vs H Q E h => ?_) (fun cdv A outer s H vs Q E hr h => ?_)
  · obtain ⟨a, r, rfl, _⟩ := h
    rfl
  · obtain ⟨a, r, rfl, ⟨da, ea⟩, k⟩ := h
    refine ⟨_, PSs.nox (pss_one (ps_ret (pe_cmpR op_eq (pe_fld (pv 0) rfl) pe_int (nomark _)))), ?_⟩
    refine ⟨_, rfl, _, _, da, _, _, rfl, ea, S.cls, S.noBot, rfl, rfl, ?_⟩
    have e : decide (V.int (r.den : Int) = V.int 1) = decide (r.den = 1) := by
      rw [dec_int]
      exact decide_eq_decide.mpr ⟨fun z => Int.ofNat.inj z, fun z => by rw [z]; rfl⟩
    rw [e]
    exact k
theorem po_wh (S : Hd K mg) : PrO w K mg base 1 "is_whole" (spWh K) := by
  have h : pRatioisuwhole ∈ fp := List.mem_of_getElem? (i := 1) rfl
  obtain ⟨⟨fd, F⟩, rest, hr⟩ := S.defP (d := pRatioisuwhole) (st := iRatioisuwhole) h rfl rfl rfl
  exact ⟨_, _, fd, ok_wh S F, S.prop h rfl rfl hr, F.binds fun _ _ _ _ _ _ us hl => match us, hl with | [_], _ => rfl⟩
/-! ### is_ratio, is_list, are_ratios -/
def spIsR (K : PySem.W.Frag) : Sp := fun vs H Q _ => ∃ (x : V) (b c : Bool), vs = [x] ∧ Kd K H x b c ∧ Q (.bl (b || c)) H
theorem scIsR : FnScope ["value"] ["value"] (defScope sisuratio) := ⟨rfl, rfl, rfl, by decide +kernel, rfl, by decide +kernel, by decide +kernel⟩
theorem ok_isr (S : Hd K mg) (F : L2.Fun K "is_ratio" "is_ratio" sisuratio f fd) : FnOk P w K mg base CX0 2 f fd ["value"] (spIsR K) := by
  obtain ⟨fI, fdI, FI, gI, kI, bI⟩ := (pr_int (w := w) (base := base) S).ex
  refine F.ok scIsR (fun vs H Q E h => ?_) (fun cdv A outer s H vs Q E hr h => ?_)
  · obtain ⟨x, b, c, rfl, _⟩ := h
    rfl
  · obtain ⟨x, b, c, rfl, ⟨t, i, o, ty, h1, h2, h3, h4, h5⟩, k⟩ := h
    refine ⟨_, PSs.nox (pss_one (ps_ret (pe_or (pe_callB call_isi rfl (S.free 50) (by decide +kernel) (pa_cons (pv 0) (pa_cons (pe_glob (v := .ref (cR K)) rfl (S.glo 12) rfl) pa_nil))) (pe_one (pe_call FI hr rfl gI kI bI .nil pass0 (pa_cons (pv 0) pa_nil)))))), ?_⟩
    refine ⟨_, rfl, _, _, t, _, c, rfl, .own _, ty, h4, c, rfl, ?_⟩
    cases c with
    | true =>
      rw [Bool.or_true] at k
      exact iteT k
    | false =>
      rw [Bool.or_false] at k
      exact iteF ⟨_, rfl, x, b, false, rfl, ⟨t, i, o, ty, h1, h2, h3, h4, h5⟩, k⟩
theorem pr_isr (S : Hd K mg) : Pr w K mg base CX0 2 "is_ratio" ["value"] (spIsR K) := by
  obtain ⟨fd, F⟩ := S.def_ 22 (d := disuratio)
  have F := fun_of (st := sisuratio) F
  exact ⟨_, fd, ok_isr S F, S.glo 13, F.kp, F.binds fun _ _ _ _ _ _ us hl => match us, hl with | [_], _ => rfl⟩
theorem scIsL : FnScope ["value"] ["value"] (defScope sisulist) := ⟨rfl, rfl, rfl, by decide +kernel, rfl, by decide +kernel, by decide +kernel⟩
theorem ok_isl (S : Hd K mg) (F : L2.Fun K "is_list" "is_list" sisulist f fd) : FnOk P w K mg base CX0 1 f fd ["value"] (spIsList K) := by
  refine F.ok scIsL (fun vs H Q E h => ?_) (fun cdv A outer s H vs Q E hr h => ?_)
  · obtain ⟨x, t, b, rfl, _⟩ := h
    rfl
  · obtain ⟨x, t, b, rfl, ty, hb, k⟩ := h
    refine ⟨_, PSs.nox (pss_one (ps_ret (pe_callB call_isiT rfl (S.free 50) (by decide +kernel) (pa_cons (pv 0) (pa_cons (pe_tup (pa_cons (pe_bltn (v := .ty "list") rfl (S.free 52) (by decide +kernel) rfl) (pa_cons (pe_bltn (v := .ty "tuple") rfl (S.free 59) (by decide +kernel) rfl) pa_nil))) pa_nil))))), ?_⟩
    refine ⟨_, rfl, (by show 2 ≤ sizeLine; decide), fun p np => ?_⟩
    exact ⟨x, p, _, t, _, b, rfl, upd_same, .cons (.ty "list") (.cons (.ty "tuple") .nil), tyX_same ty (samu np), hb, k _ (samu np)⟩
theorem pr_isl (S : Hd K mg) : Pr w K mg base CX0 1 "is_list" ["value"] (spIsList K) := by
  obtain ⟨fd, F⟩ := S.def_ 4 (d := disulist)
  have F := fun_of (st := sisulist) F
  exact ⟨_, fd, ok_isl S F, S.glo 4, F.kp, F.binds fun _ _ _ _ _ _ us hl => match us, hl with | [_], _ => rfl⟩
end
end Kw
end

/-! Kw11 -/
section
set_option maxHeartbeats 4000000
set_option exponentiation.threshold 10000
/-! are_ratios, added, least_of, greatest_of (gen_kw11.py) -/
namespace Kw
open PySem PySem.Spec PyProof.Rows L2 He Er Ow
theorem Paired.at_ {α β : Type} {F : α → β → Prop} {xs : List α} {ys : List β} (h : Paired F xs ys) : ∀ {i : Nat} {x : α}, xs[i]? = some x → ∃ y, ys[i]? = some y ∧ F x y := by
  induction h with
  | nil => intro i x e; simp at e
  | cons r t ih =>
    intro i x e
    cases i with
    | zero => cases e; exact ⟨_, rfl, r⟩
    | succ j => exact ih e
theorem Paired.len {α β : Type} {F : α → β → Prop} {xs : List α} {ys : List β} (h : Paired F xs ys) : xs.length = ys.length := by
  induction h with
  | nil => rfl
  | cons r t ih => rw [List.length_cons, List.length_cons, ih]
section
variable {w : World} {K : PySem.W.Frag} {mg : Str → Option Value} {base : Heap} {f : Addr} {fd : FuncData} {H H2 : Hp} {x y : V} {b c : Bool} {t : Value}
theorem Hd.meek (S : Hd K mg) {op : Operator} (ho : op.info.2 ∈ dunN) (h : t = .ref (cR K) ∨ ∃ n : String, n ∈ isiN ∧ t = .type n) : Meek K (cR K) op t := by
  rcases h with h | ⟨n, hn, rfl⟩
  · exact .inl h
  · have g := List.all_eq_true.mp (ba (ba (ba (ba (ba S.b5).2).2).2).2).2 n hn
    obtain ⟨g1, g2⟩ := ba g
    obtain ⟨_, g3⟩ := ba (List.all_eq_true.mp g2 _ ho)
    obtain ⟨g4, g5⟩ := ba g3
    exact .inr ⟨n, rfl, Option.isSome_iff_exists.mp g4, Option.isSome_iff_exists.mp g5, of_decide_eq_true g1⟩
theorem Hd.noR (S : Hd K mg) {op : Operator} (ho : op.info.2 ∈ dunN) : PySem.W.findIn K (.ref (cR K)) (dunderR op.info.2) = some none := by
  have g := List.all_eq_true.mp (ba (ba (ba (ba (ba S.b5).2).2).2).2).2 "int" (by simp [isiN])
  exact eqO_ok (ba (List.all_eq_true.mp (ba g).2 _ ho)).1
/-- a list or a tuple stands at p -/
def Seq (H : Hp) (p : Addr) (xs : List V) : Prop := H p = some (.lst xs) ∨ H p = some (.tup xs)
theorem Seq.same {p : Addr} {xs : List V} (h : Seq H p xs) (e : Same H H2) : Seq H2 p xs := h.imp (e _ _) (e _ _)
theorem kit_lst : PySem.W.kitAny K (.type "list") [.type "list", .type "tuple"] = some true := kitAny_cons (b := true) (kit_ty (by decide +kernel)) (fun h => by cases h) fun _ => rfl
theorem kit_tup : PySem.W.kitAny K (.type "tuple") [.type "list", .type "tuple"] = some true := kitAny_cons (b := false) (kit_ty (by decide +kernel)) (fun _ => kitAny_cons (b := true) (kit_ty (by decide +kernel)) (fun h => by cases h) fun _ => rfl) fun h => by cases h
/-- neither a list nor a tuple -/
def NoSeq (K : PySem.W.Frag) (H : Hp) (x : V) : Prop := ∃ t, TyX K H x t ∧ PySem.W.kitAny K t [.type "list", .type "tuple"] = some false
def itm (K : PySem.W.Frag) (H : Hp) (v : V) (r : Bool) : Prop := ∃ b c, Kd K H v b c ∧ r = (b || c)
def spAre (K : PySem.W.Frag) : Sp := fun vs H Q _ => ∃ x, vs = [x] ∧ ((NoSeq K H x ∧ ∀ H2, Same H H2 → Q (.bl false) H2) ∨ ∃ p xs bs, x = .ref p ∧ Seq H p xs ∧ xs.length ≤ 100 ∧ Paired (itm K H) xs bs ∧ ∀ H2, Same H H2 → Q (.bl (bs.all id)) H2)
theorem scAre : FnScope ["value", "item"] ["value"] (defScope sareuratios) := ⟨rfl, rfl, rfl, by decide +kernel, rfl, by decide +kernel, by decide +kernel⟩
theorem ok_are (S : Hd K mg) (F : L2.Fun K "are_ratios" "are_ratios" sareuratios f fd) : FnOk P w K mg base CX0 4 f fd ["value"] (spAre K) := by
  obtain ⟨fL, fdL, FL, gL, kL, bL⟩ := (pr_isl (w := w) (base := base) S).ex
  obtain ⟨fR, fdR, FR, gR, kR, bR⟩ := (pr_isr (w := w) (base := base) S).ex
  refine F.ok scAre (fun vs H Q E h => ?_) (fun cdv A outer s H vs Q E hr h => ?_)
  · obtain ⟨x, rfl, _⟩ := h
    rfl
  · obtain ⟨x, rfl, h⟩ := h
    rcases h with ⟨⟨t, ty, ht⟩, k⟩ | ⟨p, xs, bs, rfl, hp | hp, hl, hb, k⟩
    · refine ⟨_, PSs.nox (pss_one (ps_ret (pe_and (pe_call FL (hr.mono (by decide)) rfl gL kL bL .nil pass0 (pa_cons (pv 0) pa_nil)) (pe_one (pe_callB (cr_all rfl) rfl (S.free 45) (by decide +kernel) (pa_cons
        (pe_lc (own := [("item", 1)]) (g := gName 1) (tt := tYes) rfl scAre.nd (pi_list (pv 0)) (blkOk_by (own := [("item", 1)]) (N := ["value", "item"]) (sc := defScope sareuratios) (by decide +kernel)) (fun _ _ _ _ _ => pg_name (i := 1) scAre.nd rfl (Or.inl rfl)) (fun _ _ _ _ _ => pts_nil)
          (fun _ _ _ _ _ => pe_call FR (hr.mono (by decide)) rfl gR kR bR .nil pass0 (pa_cons (pv 1) pa_nil))) pa_nil)))))), ?_⟩
      exact ⟨_, rfl, x, t, false, rfl, ty, ht, fun H2 e2 => ⟨false, rfl, iteF (k H2 e2)⟩⟩
    · refine ⟨_, PSs.nox (pss_one (ps_ret (pe_and (pe_call FL (hr.mono (by decide)) rfl gL kL bL .nil pass0 (pa_cons (pv 0) pa_nil)) (pe_one (pe_callB (cr_all rfl) rfl (S.free 45) (by decide +kernel) (pa_cons
        (pe_lc (own := [("item", 1)]) (g := gName 1) (tt := tYes) rfl scAre.nd (pi_list (pv 0)) (blkOk_by (own := [("item", 1)]) (N := ["value", "item"]) (sc := defScope sareuratios) (by decide +kernel)) (fun _ _ _ _ _ => pg_name (i := 1) scAre.nd rfl (Or.inl rfl)) (fun _ _ _ _ _ => pts_nil)
          (fun _ _ _ _ _ => pe_call FR (hr.mono (by decide)) rfl gR kR bR .nil pass0 (pa_cons (pv 1) pa_nil))) pa_nil)))))), ?_⟩
      refine ⟨_, rfl, _, _, true, rfl, .base (.lst hp), kit_lst, fun H2 e2 => ⟨true, rfl, iteT ?_⟩⟩
      refine ⟨_, rfl, p, rfl, ⟨_, SqL.of (e2 _ _ hp)⟩, fun D hD => ?_⟩
      refine lc_list (xs := xs) (fun i H3 => H3 D = some (.lst ((bs.take i).map V.bl)) ∧ Same H2 H3) ⟨by rw [upd_same]; rfl, samu hD⟩ (fun i H3 _ ⟨_, e3⟩ => SqL.of (e3 _ _ (e2 _ _ hp))) (fun i v H3 hv ⟨h1, e3⟩ => ?_) fun H3 ⟨h1, e3⟩ => ?_
      · obtain ⟨r, hr2, b, c, kd, rfl⟩ := Paired.at_ hb hv
        refine ⟨rfl, ?_⟩
        show tCall (spIsR K) [] E0 (tCons (tVar 1) tNil) _ H3 _
        have hlt : i < bs.length := (List.getElem?_eq_some_iff.mp hr2).1
        refine ⟨_, rfl, v, b, c, rfl, kd.same (e2.trans e3), _, h1, by rw [List.length_map, List.length_take, sizeLine_eq, ← Paired.len hb]; omega, ?_, fun q o z => by rw [upd_ne (fun y => by rw [y, hD] at z; cases z)]; exact e3 _ _ z⟩
        rw [upd_same, List.take_add_one, hr2, List.map_append]
        rfl
      · refine ⟨D, bs, rfl, SqL.of ?_, k H3 (e2.trans e3)⟩
        rw [h1, Paired.len hb, List.take_length]
    · refine ⟨_, PSs.nox (pss_one (ps_ret (pe_and (pe_call FL (hr.mono (by decide)) rfl gL kL bL .nil pass0 (pa_cons (pv 0) pa_nil)) (pe_one (pe_callB (cr_all rfl) rfl (S.free 45) (by decide +kernel) (pa_cons
        (pe_lc (own := [("item", 1)]) (g := gName 1) (tt := tYes) rfl scAre.nd (pi_tup (pv 0)) (blkOk_by (own := [("item", 1)]) (N := ["value", "item"]) (sc := defScope sareuratios) (by decide +kernel)) (fun _ _ _ _ _ => pg_name (i := 1) scAre.nd rfl (Or.inl rfl)) (fun _ _ _ _ _ => pts_nil)
          (fun _ _ _ _ _ => pe_call FR (hr.mono (by decide)) rfl gR kR bR .nil pass0 (pa_cons (pv 1) pa_nil))) pa_nil)))))), ?_⟩
      refine ⟨_, rfl, _, _, true, rfl, .base (.tup hp), kit_tup, fun H2 e2 => ⟨true, rfl, iteT ?_⟩⟩
      refine ⟨_, rfl, p, rfl, ⟨_, SqT.of (e2 _ _ hp)⟩, fun D hD => ?_⟩
      refine lc_tup (xs := xs) (fun i H3 => H3 D = some (.lst ((bs.take i).map V.bl)) ∧ Same H2 H3) ⟨by rw [upd_same]; rfl, samu hD⟩ (fun i H3 _ ⟨_, e3⟩ => SqT.of (e3 _ _ (e2 _ _ hp))) (fun i v H3 hv ⟨h1, e3⟩ => ?_) fun H3 ⟨h1, e3⟩ => ?_
      · obtain ⟨r, hr2, b, c, kd, rfl⟩ := Paired.at_ hb hv
        refine ⟨rfl, ?_⟩
        show tCall (spIsR K) [] E0 (tCons (tVar 1) tNil) _ H3 _
        have hlt : i < bs.length := (List.getElem?_eq_some_iff.mp hr2).1
        refine ⟨_, rfl, v, b, c, rfl, kd.same (e2.trans e3), _, h1, by rw [List.length_map, List.length_take, sizeLine_eq, ← Paired.len hb]; omega, ?_, fun q o z => by rw [upd_ne (fun y => by rw [y, hD] at z; cases z)]; exact e3 _ _ z⟩
        rw [upd_same, List.take_add_one, hr2, List.map_append]
        rfl
      · refine ⟨D, bs, rfl, SqL.of ?_, k H3 (e2.trans e3)⟩
        rw [h1, Paired.len hb, List.take_length]
theorem pr_are (S : Hd K mg) : Pr w K mg base CX0 4 "are_ratios" ["value"] (spAre K) := by
  obtain ⟨fd, F⟩ := S.def_ 26 (d := dareuratios)
  have F := fun_of (st := sareuratios) F
  exact ⟨_, fd, ok_are S F, S.glo 17, F.kp, F.binds fun _ _ _ _ _ _ us hl => match us, hl with | [_], _ => rfl⟩
end
end Kw
end

/-! Kw12 -/
section
set_option maxHeartbeats 4000000
set_option exponentiation.threshold 10000
/-! added, least_of, greatest_of (gen_kw12.py) -/
namespace Kw
open PySem PySem.Spec PyProof.Rows L2 He Er Ow
section
variable {w : World} {K : PySem.W.Frag} {mg : Str → Option Value} {base : Heap} {f : Addr} {fd : FuncData} {H H2 : Hp} {x y : V} {b c : Bool} {t : Value}
/-- no list or tuple of ratios -/
def Bad (K : PySem.W.Frag) (H : Hp) (x : V) : Prop := NoSeq K H x ∨ ∃ p xs bs, x = .ref p ∧ Seq H p xs ∧ xs.length ≤ 100 ∧ Paired (itm K H) xs bs ∧ bs.all id = false
theorem Bad.are {Q : VK} {E : XK} (h : Bad K H x) (k : ∀ H2, Same H H2 → Q (.bl false) H2) : spAre K [x] H Q E := by
  rcases h with h | ⟨p, xs, bs, rfl, hp, hl, hb, h⟩
  · exact ⟨_, rfl, .inl ⟨h, k⟩⟩
  · exact ⟨_, rfl, .inr ⟨p, xs, bs, rfl, hp, hl, hb, by rw [h]; exact k⟩⟩
def rat (K : PySem.W.Frag) (H : Hp) (v : V) (r : Rat) : Prop := RV K H v r ∧ Rm.Bd 2000 r
theorem rats_itm (S : Hd K mg) {xs : List V} {rs : List Rat} (h : Paired (rat K H) xs rs) : ∃ bs : List Bool, Paired (itm K H) xs bs ∧ bs.all id = true := by
  induction h with
  | nil => exact ⟨[], .nil, rfl⟩
  | cons r t ih =>
    obtain ⟨bs, h1, h2⟩ := ih
    obtain ⟨b, c, kd, e⟩ := S.kd_rv r.1
    exact ⟨true :: bs, .cons ⟨b, c, kd, e.symm⟩ h1, by rw [List.all_cons, h2]; rfl⟩
theorem rats_are (S : Hd K mg) {Q : VK} {E : XK} {p : Addr} {xs : List V} {rs : List Rat} (hp : Seq H p xs) (hl : xs.length ≤ 100) (h : Paired (rat K H) xs rs) (k : ∀ H2, Same H H2 → Q (.bl true) H2) : spAre K [.ref p] H Q E := by
  obtain ⟨bs, h1, h2⟩ := rats_itm S h
  exact ⟨_, rfl, .inr ⟨p, xs, bs, rfl, hp, hl, h1, by rw [h2]; exact k⟩⟩
/-- a ratio at the right of an operator, or in a call -/
theorem Hd.tyRV (S : Hd K mg) {v : V} {r : Rat} (h : RV K H v r) : ∃ t, TyX K H v t ∧ (t = .ref (cR K) ∨ ∃ n : String, n ∈ isiN ∧ t = .type n) := by
  rcases h with ⟨a, rfl, dx, h⟩ | ⟨n, rfl, _⟩
  · exact ⟨_, S.tyR h, .inl rfl⟩
  · exact ⟨_, .base (.int n), .inr ⟨"int", by simp [isiN], rfl⟩⟩
def sumr (rs : List Rat) : Rat := rs.foldl (fun a b => a + b) 0
theorem sum_take {rs : List Rat} {i : Nat} {r : Rat} (h : rs[i]? = some r) : sumr (rs.take (i + 1)) = sumr (rs.take i) + r := by
  unfold sumr
  rw [List.take_add_one, h, List.foldl_append]
  rfl
def spAdded (K : PySem.W.Frag) : Sp := fun vs H Q E => ∃ x, vs = [x] ∧ ((Bad K H x ∧ Rz K H E "ratios") ∨ ∃ p xs rs, x = .ref p ∧ Seq H p xs ∧ xs.length ≤ 100 ∧ Paired (rat K H) xs rs ∧ (∀ j, Rm.Bd 2000 (sumr (rs.take j))) ∧ NewR K H Q (sumr rs))
theorem scAdded : FnScope ["ratios", "total", "ratio"] ["ratios"] (defScope sadded) := ⟨rfl, rfl, rfl, by decide +kernel, rfl, by decide +kernel, by decide +kernel⟩
theorem zero_mk : Rm.mk 0 1 = 0 := Rm.int_mk 0
theorem big0 : big 0 := by unfold big; decide
theorem new_rat_same {H3 : Hp} {a dx : Addr} {o1 o2 : HO} (nx : H a = none) (ndx : H dx = none) (hs : ∀ b o, b ≠ a → (upd (upd H dx o1) a o2) b = some o → H3 b = some o) : Same H H3 :=
  fun b o e => hs b o (ne_of_none e nx) (new_same a dx _ _ nx ndx b o e)
theorem ok_added (S : Hd K mg) (F : L2.Fun K "added" "added" sadded f fd) : FnOk P w K mg base (L2.CX P w) 8 f fd ["ratios"] (spAdded K) := by
  obtain ⟨fA, fdA, FA, gA, kA, bA⟩ := (pr_are (w := w) (base := base) S).ex
  obtain ⟨fdP, FP, bP⟩ := (mr_add (w := w) (base := base) S).ex
  obtain ⟨fdM, d, FM, bM, rM, bM2⟩ := (mkR (w := w) (base := base) S).ex
  refine F.okX scAdded (fun vs H Q E h => ?_) (fun cdv A outer s H vs Q E hr h => ?_)
  · obtain ⟨x, rfl, _⟩ := h
    rfl
  · obtain ⟨x, rfl, h⟩ := h
    rcases h with ⟨hb, e⟩ | ⟨p, xs, rs, rfl, hp | hp, hl, hx, bd, k⟩
    · refine ⟨_, pss_cons (ps_if (pt_not (pt_val (pe_call FA (hr.mono (by decide)) rfl gA kA bA .nil pass0 (pa_cons (pv 0) pa_nil)))) (pss_one (ps_raise rfl (takes_of rfl rfl rfl rfl) (pmk_part rfl S (hr.mono (by decide)) rfl pe_str (by decide) (by decide +kernel)))) pss_nil)
        (pss_cons (ps_set (i := 1) scAdded.nd rfl (.inl rfl) (pe_make (E := E) S.mkr FM (hr.mono (by decide)) rfl (S.glo 12) bM2 rM (passX (takes_of rfl rfl rfl rfl)) (pa_cons pe_int pa_nil)))
        (pss_cons (ps_for (passes_of rfl) rfl (pi_list (pv 0)) (pg_name (i := 2) scAdded.nd rfl (.inl rfl)) (pss_one (ps_set (i := 1) scAdded.nd rfl (.inl rfl) (pe_op (op_own (E := E) S.op_add (S.noR (op := .Add) (by simp [dunN, Operator.info])) FP hr bP (passX (takes_of rfl rfl rfl rfl))) (pv 1) (pv 2)))))
        (pss_one (ps_ret (pv 1))))), ?_⟩
      rcases hb with hb | ⟨p, xs, bs, rfl, hp, hl, hb, hf⟩
      · exact ⟨_, rfl, x, rfl, .inl ⟨hb, fun H2 e2 => ⟨_, rfl, iteT fun d nd => e d _ (e2.trans (samu nd)) upd_same⟩⟩⟩
      · exact ⟨_, rfl, _, rfl, .inr ⟨p, xs, bs, rfl, hp, hl, hb, fun H2 e2 => ⟨_, rfl, itt (by rw [hf]; rfl) fun d nd => e d _ (e2.trans (samu nd)) upd_same⟩⟩⟩
    · refine ⟨_, pss_cons (ps_if (pt_not (pt_val (pe_call FA (hr.mono (by decide)) rfl gA kA bA .nil pass0 (pa_cons (pv 0) pa_nil)))) (pss_one (ps_raise rfl (takes_of rfl rfl rfl rfl) (pmk_part rfl S (hr.mono (by decide)) rfl pe_str (by decide) (by decide +kernel)))) pss_nil)
        (pss_cons (ps_set (i := 1) scAdded.nd rfl (.inl rfl) (pe_make (E := E) S.mkr FM (hr.mono (by decide)) rfl (S.glo 12) bM2 rM (passX (takes_of rfl rfl rfl rfl)) (pa_cons pe_int pa_nil)))
        (pss_cons (ps_for (passes_of rfl) rfl (pi_list (pv 0)) (pg_name (i := 2) scAdded.nd rfl (.inl rfl)) (pss_one (ps_set (i := 1) scAdded.nd rfl (.inl rfl) (pe_op (op_own (E := E) S.op_add (S.noR (op := .Add) (by simp [dunN, Operator.info])) FP hr bP (passX (takes_of rfl rfl rfl rfl))) (pv 1) (pv 2)))))
        (pss_one (ps_ret (pv 1))))), ?_⟩
      obtain ⟨bs, hb, hf⟩ := rats_itm S hx
      refine ⟨_, rfl, _, rfl, .inr ⟨p, xs, bs, rfl, .inl hp, hl, hb, fun H2 e2 => ⟨_, rfl, itf (by rw [hf]; rfl) ?_⟩⟩⟩
      refine fun a dx nx ndx ne => ⟨a, dx, .int 0, .int 1, rfl, upd_same, .inl ⟨0, 1, rfl, rfl, by decide, big0, big1, fun H3 hs h3 => ⟨rfl, ?_⟩⟩⟩
      have ha : IsR K H3 a 0 := ⟨dx, by rw [h3, zero_mk]⟩
      have e3' := e2.trans (new_rat_same nx ndx hs)
      refine ⟨_, rfl, p, rfl, ⟨_, SqL.of (e3' _ _ hp)⟩, ?_⟩
      refine for_list (xs := xs) (fun i σ H4 => ∃ (a : Addr) (z : Option V), σ = [some (.ref p), some (.ref a), z] ∧ Same H H4 ∧ IsR K H4 a (sumr (rs.take i))) ⟨a, _, rfl, e3', ha⟩ (fun i σ H4 _ ⟨_, _, _, e4, _⟩ => SqL.of (e4 _ _ hp)) (fun i v σ H4 hv ⟨a, z, hσ, e4, h4⟩ => ?_) fun σ H4 ⟨a, z, hσ, e4, h4⟩ => ?_
      · subst hσ
        obtain ⟨r, hr2, hrv, hbd⟩ := Paired.at_ hx hv
        show tAsg (tOp (rOwn K (cR K) .Add (spOp K fun r s => r + s) E) (tVar 1) (tVar 2)) (gName 1) _ _ H4
        obtain ⟨da, ea⟩ := h4
        obtain ⟨t, ty, ht⟩ := S.tyRV (hrv.same e4)
        refine ⟨_, rfl, _, rfl, a, da, _, t, rfl, ea, ty, S.meek (op := .Add) (by simp [dunN, Operator.info]) ht, a, v, _, rfl, ⟨da, ea⟩, bd i, .inl ⟨r, hrv.same e4, hbd, fun a2 H5 e5 h5 => ?_⟩⟩
        exact ⟨a2, _, rfl, e4.trans e5, by rw [sum_take hr2]; exact h5⟩
      · subst hσ
        refine ⟨_, rfl, k a H4 e4 ?_⟩
        rw [Paired.len hx, List.take_length] at h4
        exact h4
    · refine ⟨_, pss_cons (ps_if (pt_not (pt_val (pe_call FA (hr.mono (by decide)) rfl gA kA bA .nil pass0 (pa_cons (pv 0) pa_nil)))) (pss_one (ps_raise rfl (takes_of rfl rfl rfl rfl) (pmk_part rfl S (hr.mono (by decide)) rfl pe_str (by decide) (by decide +kernel)))) pss_nil)
        (pss_cons (ps_set (i := 1) scAdded.nd rfl (.inl rfl) (pe_make (E := E) S.mkr FM (hr.mono (by decide)) rfl (S.glo 12) bM2 rM (passX (takes_of rfl rfl rfl rfl)) (pa_cons pe_int pa_nil)))
        (pss_cons (ps_for (passes_of rfl) rfl (pi_tup (pv 0)) (pg_name (i := 2) scAdded.nd rfl (.inl rfl)) (pss_one (ps_set (i := 1) scAdded.nd rfl (.inl rfl) (pe_op (op_own (E := E) S.op_add (S.noR (op := .Add) (by simp [dunN, Operator.info])) FP hr bP (passX (takes_of rfl rfl rfl rfl))) (pv 1) (pv 2)))))
        (pss_one (ps_ret (pv 1))))), ?_⟩
      obtain ⟨bs, hb, hf⟩ := rats_itm S hx
      refine ⟨_, rfl, _, rfl, .inr ⟨p, xs, bs, rfl, .inr hp, hl, hb, fun H2 e2 => ⟨_, rfl, itf (by rw [hf]; rfl) ?_⟩⟩⟩
      refine fun a dx nx ndx ne => ⟨a, dx, .int 0, .int 1, rfl, upd_same, .inl ⟨0, 1, rfl, rfl, by decide, big0, big1, fun H3 hs h3 => ⟨rfl, ?_⟩⟩⟩
      have ha : IsR K H3 a 0 := ⟨dx, by rw [h3, zero_mk]⟩
      have e3' := e2.trans (new_rat_same nx ndx hs)
      refine ⟨_, rfl, p, rfl, ⟨_, SqT.of (e3' _ _ hp)⟩, ?_⟩
      refine for_tup (xs := xs) (fun i σ H4 => ∃ (a : Addr) (z : Option V), σ = [some (.ref p), some (.ref a), z] ∧ Same H H4 ∧ IsR K H4 a (sumr (rs.take i))) ⟨a, _, rfl, e3', ha⟩ (fun i σ H4 _ ⟨_, _, _, e4, _⟩ => SqT.of (e4 _ _ hp)) (fun i v σ H4 hv ⟨a, z, hσ, e4, h4⟩ => ?_) fun σ H4 ⟨a, z, hσ, e4, h4⟩ => ?_
      · subst hσ
        obtain ⟨r, hr2, hrv, hbd⟩ := Paired.at_ hx hv
        show tAsg (tOp (rOwn K (cR K) .Add (spOp K fun r s => r + s) E) (tVar 1) (tVar 2)) (gName 1) _ _ H4
        obtain ⟨da, ea⟩ := h4
        obtain ⟨t, ty, ht⟩ := S.tyRV (hrv.same e4)
        refine ⟨_, rfl, _, rfl, a, da, _, t, rfl, ea, ty, S.meek (op := .Add) (by simp [dunN, Operator.info]) ht, a, v, _, rfl, ⟨da, ea⟩, bd i, .inl ⟨r, hrv.same e4, hbd, fun a2 H5 e5 h5 => ?_⟩⟩
        exact ⟨a2, _, rfl, e4.trans e5, by rw [sum_take hr2]; exact h5⟩
      · subst hσ
        refine ⟨_, rfl, k a H4 e4 ?_⟩
        rw [Paired.len hx, List.take_length] at h4
        exact h4
theorem pr_added (S : Hd K mg) : Pr w K mg base (L2.CX P w) 8 "added" ["ratios"] (spAdded K) := by
  obtain ⟨fd, F⟩ := S.def_ 23 (d := dadded)
  have F := fun_of (st := sadded) F
  exact ⟨_, fd, ok_added S F, S.glo 14, F.kp, F.binds fun _ _ _ _ _ _ us hl => match us, hl with | [_], _ => rfl⟩
/-! ### the extremes -/
def stp (g : Int) (b r : Rat) : Rat := if Rm.cmp b r = -g then r else b
def ext (g : Int) : List Rat → Rat
  | [] => 0
  | r :: rs => (r :: rs).foldl (stp g) r
def spExt (K : PySem.W.Frag) : Sp := fun vs H Q E => ∃ (x : V) (g : Int), vs = [x, .int g] ∧ (((Bad K H x ∨ ∃ p, x = .ref p ∧ Seq H p []) ∧ Rz K H E "ratios") ∨ ∃ p xs rs, x = .ref p ∧ Seq H p xs ∧ xs ≠ [] ∧ xs.length ≤ 100 ∧ Paired (rat K H) xs rs ∧ NewR K H Q (ext g rs))
theorem scExt : FnScope ["ratios", "sign", "best", "ratio"] ["ratios", "sign"] (defScope suextreme) := ⟨rfl, rfl, rfl, by decide +kernel, rfl, by decide +kernel, by decide +kernel⟩
theorem at0 {v : V} {xs : List V} : atI (v :: xs) 0 = some v := atI_nat (j := 0) rfl
theorem ok_ext (S : Hd K mg) (F : L2.Fun K "_extreme" "_extreme" suextreme f fd) : FnOk P w K mg base (L2.CX P w) 8 f fd ["ratios", "sign"] (spExt K) := by
  obtain ⟨fA, fdA, FA, gA, kA, bA⟩ := (pr_are (w := w) (base := base) S).ex
  obtain ⟨fdC, FC, bC⟩ := (mr_comp (w := w) (base := base) S).ex
  obtain ⟨p2, gO, fdO, FO, MO, bO, _⟩ := (of_of (w := w) (base := base) S).ex
  refine F.okX scExt (fun vs H Q E h => ?_) (fun cdv A outer s H vs Q E hr h => ?_)
  · obtain ⟨x, g, rfl, _⟩ := h
    rfl
  · obtain ⟨x, g, rfl, h⟩ := h
    rcases h with ⟨hb | ⟨p, rfl, hp⟩, e⟩ | ⟨p, xs, rs, rfl, hp | hp, hn, hl, hx, k⟩
    · refine ⟨_, pss_cons (ps_if (PW.pt (pw_or (pt_not (pt_val (pe_call FA (hr.mono (by decide)) rfl gA kA bA .nil pass0 (pa_cons (pv 0) pa_nil)))) (pw_or1 (pt_cmpR op_eq (pe_callB call_len_seq rfl (S.free 51) (by decide +kernel) (pa_cons (pv 0) pa_nil)) pe_int (nomark _))))) (pss_one (ps_raise rfl (takes_of rfl rfl rfl rfl) (pmk_part rfl S (hr.mono (by decide)) rfl pe_str (by decide) (by decide +kernel)))) pss_nil)
        (pss_cons (ps_set (i := 2) scExt.nd rfl (.inl rfl) (pe_statX (E := E) (pe_glob (v := .ref (cR K)) rfl (S.glo 12) rfl) MO FO (hr.mono (by decide)) bO (passX (takes_of rfl rfl rfl rfl)) (pa_cons (pe_ix ix_list (pv 0) pe_int (fun _ _ => rfl)) pa_nil)))
        (pss_cons (ps_for (passes_of rfl) rfl (pi_list (pv 0)) (pg_name (i := 3) scExt.nd rfl (.inl rfl)) (pss_one (ps_if (pt_cmpR op_eq (pe_meth (E := E) (pv 2) S.cls S.me_compared FC hr bC .nil (passX (takes_of rfl rfl rfl rfl)) (pa_cons (pv 3) pa_nil)) (pe_un un_neg (pv 1)) (nomark _))
          (pss_one (ps_set (i := 2) scExt.nd rfl (.inl rfl) (pe_statX (E := E) (pe_glob (v := .ref (cR K)) rfl (S.glo 12) rfl) MO FO (hr.mono (by decide)) bO (passX (takes_of rfl rfl rfl rfl)) (pa_cons (pv 3) pa_nil)))) pss_nil)))
        (pss_one (ps_ret (pv 2))))), ?_⟩
      rcases hb with hb | ⟨p, xs, bs, rfl, hp, hl, hb, hf⟩
      · exact ⟨_, rfl, x, rfl, .inl ⟨hb, fun H2 e2 => ⟨_, rfl, iteT (iteT fun d nd => e d _ (e2.trans (samu nd)) upd_same)⟩⟩⟩
      · exact ⟨_, rfl, _, rfl, .inr ⟨p, xs, bs, rfl, hp, hl, hb, fun H2 e2 => ⟨_, rfl, itt (by rw [hf]; rfl) (iteT fun d nd => e d _ (e2.trans (samu nd)) upd_same)⟩⟩⟩
    · refine ⟨_, pss_cons (ps_if (PW.pt (pw_or (pt_not (pt_val (pe_call FA (hr.mono (by decide)) rfl gA kA bA .nil pass0 (pa_cons (pv 0) pa_nil)))) (pw_or1 (pt_cmpR op_eq (pe_callB call_len_seq rfl (S.free 51) (by decide +kernel) (pa_cons (pv 0) pa_nil)) pe_int (nomark _))))) (pss_one (ps_raise rfl (takes_of rfl rfl rfl rfl) (pmk_part rfl S (hr.mono (by decide)) rfl pe_str (by decide) (by decide +kernel)))) pss_nil)
        (pss_cons (ps_set (i := 2) scExt.nd rfl (.inl rfl) (pe_statX (E := E) (pe_glob (v := .ref (cR K)) rfl (S.glo 12) rfl) MO FO (hr.mono (by decide)) bO (passX (takes_of rfl rfl rfl rfl)) (pa_cons (pe_ix ix_list (pv 0) pe_int (fun _ _ => rfl)) pa_nil)))
        (pss_cons (ps_for (passes_of rfl) rfl (pi_list (pv 0)) (pg_name (i := 3) scExt.nd rfl (.inl rfl)) (pss_one (ps_if (pt_cmpR op_eq (pe_meth (E := E) (pv 2) S.cls S.me_compared FC hr bC .nil (passX (takes_of rfl rfl rfl rfl)) (pa_cons (pv 3) pa_nil)) (pe_un un_neg (pv 1)) (nomark _))
          (pss_one (ps_set (i := 2) scExt.nd rfl (.inl rfl) (pe_statX (E := E) (pe_glob (v := .ref (cR K)) rfl (S.glo 12) rfl) MO FO (hr.mono (by decide)) bO (passX (takes_of rfl rfl rfl rfl)) (pa_cons (pv 3) pa_nil)))) pss_nil)))
        (pss_one (ps_ret (pv 2))))), ?_⟩
      refine ⟨_, rfl, _, rfl, .inr ⟨p, [], [], rfl, hp, by simp, .nil, fun H2 e2 => ⟨_, rfl, iteF ?_⟩⟩⟩
      have hs : SqL K H2 p [] ∨ SqT K H2 p [] := (hp.same e2).imp SqL.of SqT.of
      exact ⟨_, rfl, p, [], rfl, hs, rfl, _, rfl, iteT fun d nd => e d _ (e2.trans (samu nd)) upd_same⟩
    · refine ⟨_, pss_cons (ps_if (PW.pt (pw_or (pt_not (pt_val (pe_call FA (hr.mono (by decide)) rfl gA kA bA .nil pass0 (pa_cons (pv 0) pa_nil)))) (pw_or1 (pt_cmpR op_eq (pe_callB call_len_seq rfl (S.free 51) (by decide +kernel) (pa_cons (pv 0) pa_nil)) pe_int (nomark _))))) (pss_one (ps_raise rfl (takes_of rfl rfl rfl rfl) (pmk_part rfl S (hr.mono (by decide)) rfl pe_str (by decide) (by decide +kernel)))) pss_nil)
        (pss_cons (ps_set (i := 2) scExt.nd rfl (.inl rfl) (pe_statX (E := E) (pe_glob (v := .ref (cR K)) rfl (S.glo 12) rfl) MO FO (hr.mono (by decide)) bO (passX (takes_of rfl rfl rfl rfl)) (pa_cons (pe_ix ix_list (pv 0) pe_int (fun _ _ => rfl)) pa_nil)))
        (pss_cons (ps_for (passes_of rfl) rfl (pi_list (pv 0)) (pg_name (i := 3) scExt.nd rfl (.inl rfl)) (pss_one (ps_if (pt_cmpR op_eq (pe_meth (E := E) (pv 2) S.cls S.me_compared FC hr bC .nil (passX (takes_of rfl rfl rfl rfl)) (pa_cons (pv 3) pa_nil)) (pe_un un_neg (pv 1)) (nomark _))
          (pss_one (ps_set (i := 2) scExt.nd rfl (.inl rfl) (pe_statX (E := E) (pe_glob (v := .ref (cR K)) rfl (S.glo 12) rfl) MO FO (hr.mono (by decide)) bO (passX (takes_of rfl rfl rfl rfl)) (pa_cons (pv 3) pa_nil)))) pss_nil)))
        (pss_one (ps_ret (pv 2))))), ?_⟩
      cases hx with
      | nil => exact absurd rfl hn
      | @cons v r xs rs hr0 hx =>
      have hx2 : Paired (rat K H) (v :: xs) (r :: rs) := .cons hr0 hx
      obtain ⟨bs, hb, hf⟩ := rats_itm S hx2
      refine ⟨_, rfl, _, rfl, .inr ⟨p, v :: xs, bs, rfl, .inl hp, hl, hb, fun H2 e2 => ⟨_, rfl, itf (by rw [hf]; rfl) ?_⟩⟩⟩
      refine ⟨_, rfl, p, v :: xs, rfl, .inl (SqL.of (e2 _ _ hp)), rfl, _, rfl, itf (decide_eq_false fun z => by have := V.int.inj z; rw [List.length_cons] at this; omega) ?_⟩
      refine ⟨rfl, _, rfl, p, _, _, v, rfl, rfl, SqL.of (e2 _ _ hp), at0, v, rfl, .inl ⟨r, hr0.1.same e2, hr0.2.mono (by decide), fun a H3 e3 ha => ?_⟩⟩
      have e3' := e2.trans e3
      refine ⟨_, rfl, p, rfl, ⟨_, SqL.of (e3' _ _ hp)⟩, ?_⟩
      refine for_list (xs := v :: xs) (fun i σ H4 => ∃ (a : Addr) (z : Option V), σ = [some (.ref p), some (.int g), some (.ref a), z] ∧ Same H H4 ∧ IsR K H4 a (((r :: rs).take i).foldl (stp g) r) ∧ Rm.Bd 2000 (((r :: rs).take i).foldl (stp g) r)) ⟨a, _, rfl, e3', ha, hr0.2⟩ (fun i σ H4 _ ⟨_, _, _, e4, _⟩ => SqL.of (e4 _ _ hp)) (fun i u σ H4 hv ⟨a, z, hσ, e4, h4, b4⟩ => ?_) fun σ H4 ⟨a, z, hσ, e4, h4, b4⟩ => ?_
      · subst hσ
        obtain ⟨q, hq, hqv, hqb⟩ := Paired.at_ hx2 hv
        have nx : ((r :: rs).take (i + 1)).foldl (stp g) r = stp g (((r :: rs).take i).foldl (stp g) r) q := by
          rw [List.take_add_one, hq, List.foldl_append]
          rfl
        generalize ((r :: rs).take i).foldl (stp g) r = m at *
        show tIfS (tTest (tOp rEq (tMeth (cR K) "compared" (spComp K) [] E (tVar 2) (tCons (tVar 3) tNil)) (tUn (rU fun i => V.int (-i)) (tVar 1)))) (tAsg (tStatX (cR K) (spOth K "value") E (tC (.ref (cR K))) (tCons (tVar 3) tNil)) (gName 2)) tNext _ _ H4
        obtain ⟨da, ea⟩ := h4
        refine ⟨_, rfl, a, da, _, rfl, ea, rfl, _, rfl, a, u, m, rfl, ⟨da, ea⟩, b4, .inl ⟨q, hqv.same e4, hqb, fun H5 e5 => ?_⟩⟩
        refine ⟨_, rfl, g, rfl, rfl, _, rfl, ?_⟩
        have e45 := e4.trans e5
        by_cases hc : Rm.cmp m q = -g
        · rw [show stp g m q = q from if_pos hc] at nx
          refine itt (by rw [dec_int]; exact decide_eq_true hc) ⟨rfl, _, rfl, u, rfl, .inl ⟨q, hqv.same e45, hqb.mono (by decide), fun a2 H6 e6 h6 => ?_⟩⟩
          exact ⟨a2, _, rfl, e45.trans e6, by rw [nx]; exact h6, by rw [nx]; exact hqb⟩
        · rw [show stp g m q = m from if_neg hc] at nx
          refine itf (by rw [dec_int]; exact decide_eq_false hc) ?_
          exact ⟨a, _, rfl, e45, by rw [nx]; exact ⟨da, e5 _ _ ea⟩, by rw [nx]; exact b4⟩
      · subst hσ
        refine ⟨_, rfl, k a H4 e4 ?_⟩
        rw [Paired.len hx2, List.take_length] at h4
        exact h4
    · refine ⟨_, pss_cons (ps_if (PW.pt (pw_or (pt_not (pt_val (pe_call FA (hr.mono (by decide)) rfl gA kA bA .nil pass0 (pa_cons (pv 0) pa_nil)))) (pw_or1 (pt_cmpR op_eq (pe_callB call_len_seq rfl (S.free 51) (by decide +kernel) (pa_cons (pv 0) pa_nil)) pe_int (nomark _))))) (pss_one (ps_raise rfl (takes_of rfl rfl rfl rfl) (pmk_part rfl S (hr.mono (by decide)) rfl pe_str (by decide) (by decide +kernel)))) pss_nil)
        (pss_cons (ps_set (i := 2) scExt.nd rfl (.inl rfl) (pe_statX (E := E) (pe_glob (v := .ref (cR K)) rfl (S.glo 12) rfl) MO FO (hr.mono (by decide)) bO (passX (takes_of rfl rfl rfl rfl)) (pa_cons (pe_ix ix_tup (pv 0) pe_int (fun _ _ => rfl)) pa_nil)))
        (pss_cons (ps_for (passes_of rfl) rfl (pi_tup (pv 0)) (pg_name (i := 3) scExt.nd rfl (.inl rfl)) (pss_one (ps_if (pt_cmpR op_eq (pe_meth (E := E) (pv 2) S.cls S.me_compared FC hr bC .nil (passX (takes_of rfl rfl rfl rfl)) (pa_cons (pv 3) pa_nil)) (pe_un un_neg (pv 1)) (nomark _))
          (pss_one (ps_set (i := 2) scExt.nd rfl (.inl rfl) (pe_statX (E := E) (pe_glob (v := .ref (cR K)) rfl (S.glo 12) rfl) MO FO (hr.mono (by decide)) bO (passX (takes_of rfl rfl rfl rfl)) (pa_cons (pv 3) pa_nil)))) pss_nil)))
        (pss_one (ps_ret (pv 2))))), ?_⟩
      cases hx with
      | nil => exact absurd rfl hn
      | @cons v r xs rs hr0 hx =>
      have hx2 : Paired (rat K H) (v :: xs) (r :: rs) := .cons hr0 hx
      obtain ⟨bs, hb, hf⟩ := rats_itm S hx2
      refine ⟨_, rfl, _, rfl, .inr ⟨p, v :: xs, bs, rfl, .inr hp, hl, hb, fun H2 e2 => ⟨_, rfl, itf (by rw [hf]; rfl) ?_⟩⟩⟩
      refine ⟨_, rfl, p, v :: xs, rfl, .inr (SqT.of (e2 _ _ hp)), rfl, _, rfl, itf (decide_eq_false fun z => by have := V.int.inj z; rw [List.length_cons] at this; omega) ?_⟩
      refine ⟨rfl, _, rfl, p, _, _, v, rfl, rfl, SqT.of (e2 _ _ hp), at0, v, rfl, .inl ⟨r, hr0.1.same e2, hr0.2.mono (by decide), fun a H3 e3 ha => ?_⟩⟩
      have e3' := e2.trans e3
      refine ⟨_, rfl, p, rfl, ⟨_, SqT.of (e3' _ _ hp)⟩, ?_⟩
      refine for_tup (xs := v :: xs) (fun i σ H4 => ∃ (a : Addr) (z : Option V), σ = [some (.ref p), some (.int g), some (.ref a), z] ∧ Same H H4 ∧ IsR K H4 a (((r :: rs).take i).foldl (stp g) r) ∧ Rm.Bd 2000 (((r :: rs).take i).foldl (stp g) r)) ⟨a, _, rfl, e3', ha, hr0.2⟩ (fun i σ H4 _ ⟨_, _, _, e4, _⟩ => SqT.of (e4 _ _ hp)) (fun i u σ H4 hv ⟨a, z, hσ, e4, h4, b4⟩ => ?_) fun σ H4 ⟨a, z, hσ, e4, h4, b4⟩ => ?_
      · subst hσ
        obtain ⟨q, hq, hqv, hqb⟩ := Paired.at_ hx2 hv
        have nx : ((r :: rs).take (i + 1)).foldl (stp g) r = stp g (((r :: rs).take i).foldl (stp g) r) q := by
          rw [List.take_add_one, hq, List.foldl_append]
          rfl
        generalize ((r :: rs).take i).foldl (stp g) r = m at *
        show tIfS (tTest (tOp rEq (tMeth (cR K) "compared" (spComp K) [] E (tVar 2) (tCons (tVar 3) tNil)) (tUn (rU fun i => V.int (-i)) (tVar 1)))) (tAsg (tStatX (cR K) (spOth K "value") E (tC (.ref (cR K))) (tCons (tVar 3) tNil)) (gName 2)) tNext _ _ H4
        obtain ⟨da, ea⟩ := h4
        refine ⟨_, rfl, a, da, _, rfl, ea, rfl, _, rfl, a, u, m, rfl, ⟨da, ea⟩, b4, .inl ⟨q, hqv.same e4, hqb, fun H5 e5 => ?_⟩⟩
        refine ⟨_, rfl, g, rfl, rfl, _, rfl, ?_⟩
        have e45 := e4.trans e5
        by_cases hc : Rm.cmp m q = -g
        · rw [show stp g m q = q from if_pos hc] at nx
          refine itt (by rw [dec_int]; exact decide_eq_true hc) ⟨rfl, _, rfl, u, rfl, .inl ⟨q, hqv.same e45, hqb.mono (by decide), fun a2 H6 e6 h6 => ?_⟩⟩
          exact ⟨a2, _, rfl, e45.trans e6, by rw [nx]; exact h6, by rw [nx]; exact hqb⟩
        · rw [show stp g m q = m from if_neg hc] at nx
          refine itf (by rw [dec_int]; exact decide_eq_false hc) ?_
          exact ⟨a, _, rfl, e45, by rw [nx]; exact ⟨da, e5 _ _ ea⟩, by rw [nx]; exact b4⟩
      · subst hσ
        refine ⟨_, rfl, k a H4 e4 ?_⟩
        rw [Paired.len hx2, List.take_length] at h4
        exact h4
theorem pr_ext (S : Hd K mg) : Pr w K mg base (L2.CX P w) 8 "_extreme" ["ratios", "sign"] (spExt K) := by
  obtain ⟨fd, F⟩ := S.def_ 28 (d := duextreme)
  have F := fun_of (st := suextreme) F
  exact ⟨_, fd, ok_ext S F, S.glo 19, F.kp, F.binds fun _ _ _ _ _ _ us hl => match us, hl with | [_, _], _ => rfl⟩
def spEnd (K : PySem.W.Frag) (g : Int) : Sp := fun vs H Q E => ∃ (x : V), vs = [x] ∧ (((Bad K H x ∨ ∃ p, x = .ref p ∧ Seq H p []) ∧ Rz K H E "ratios") ∨ ∃ p xs rs, x = .ref p ∧ Seq H p xs ∧ xs ≠ [] ∧ xs.length ≤ 100 ∧ Paired (rat K H) xs rs ∧ NewR K H Q (ext g rs))
theorem scLeast : FnScope ["ratios"] ["ratios"] (defScope sleastuof) := ⟨rfl, rfl, rfl, by decide +kernel, rfl, by decide +kernel, by decide +kernel⟩
theorem ok_least (S : Hd K mg) (F : L2.Fun K "least_of" "least_of" sleastuof f fd) : FnOk P w K mg base (L2.CX P w) 9 f fd ["ratios"] (spEnd K (-1)) := by
  obtain ⟨fA, fdA, FA, gA, kA, bA⟩ := (pr_ext (w := w) (base := base) S).ex
  refine F.okX scLeast (fun vs H Q E h => ?_) (fun cdv A outer s H vs Q E hr h => ?_)
  · obtain ⟨x, rfl, _⟩ := h
    rfl
  · obtain ⟨x, rfl, h⟩ := h
    refine ⟨_, pss_one (ps_ret (pe_call (E := E) FA hr rfl gA kA bA .nil (passX (takes_of rfl rfl rfl rfl)) (pa_cons (pv 0) (pa_cons (pe_un un_neg pe_int) pa_nil)))), ?_⟩
    exact ⟨_, rfl, _, rfl, x, _, rfl, h⟩
theorem pr_least (S : Hd K mg) : Pr w K mg base (L2.CX P w) 9 "least_of" ["ratios"] (spEnd K (-1)) := by
  obtain ⟨fd, F⟩ := S.def_ 24 (d := dleastuof)
  have F := fun_of (st := sleastuof) F
  exact ⟨_, fd, ok_least S F, S.glo 15, F.kp, F.binds fun _ _ _ _ _ _ us hl => match us, hl with | [_], _ => rfl⟩
theorem scGreat : FnScope ["ratios"] ["ratios"] (defScope sgreatestuof) := ⟨rfl, rfl, rfl, by decide +kernel, rfl, by decide +kernel, by decide +kernel⟩
theorem ok_great (S : Hd K mg) (F : L2.Fun K "greatest_of" "greatest_of" sgreatestuof f fd) : FnOk P w K mg base (L2.CX P w) 9 f fd ["ratios"] (spEnd K 1) := by
  obtain ⟨fA, fdA, FA, gA, kA, bA⟩ := (pr_ext (w := w) (base := base) S).ex
  refine F.okX scGreat (fun vs H Q E h => ?_) (fun cdv A outer s H vs Q E hr h => ?_)
  · obtain ⟨x, rfl, _⟩ := h
    rfl
  · obtain ⟨x, rfl, h⟩ := h
    refine ⟨_, pss_one (ps_ret (pe_call (E := E) FA hr rfl gA kA bA .nil (passX (takes_of rfl rfl rfl rfl)) (pa_cons (pv 0) (pa_cons pe_int pa_nil)))), ?_⟩
    exact ⟨_, rfl, x, _, rfl, h⟩
theorem pr_great (S : Hd K mg) : Pr w K mg base (L2.CX P w) 9 "greatest_of" ["ratios"] (spEnd K 1) := by
  obtain ⟨fd, F⟩ := S.def_ 25 (d := dgreatestuof)
  have F := fun_of (st := sgreatestuof) F
  exact ⟨_, fd, ok_great S F, S.glo 16, F.kp, F.binds fun _ _ _ _ _ _ us hl => match us, hl with | [_], _ => rfl⟩
end
end Kw
end

/-! Kw13 -/
section
set_option maxHeartbeats 4000000
set_option exponentiation.threshold 10000
/-! is_within, is_name, is_label -/
namespace Kw
open PySem PySem.Spec PyProof.Rows L2 He Er Ow
section
variable {w : World} {K : PySem.W.Frag} {mg : Str → Option Value} {base : Heap} {f : Addr} {fd : FuncData} {H H2 : Hp} {x y : V} {b c : Bool} {t : Value}
def optV : Option Int → V
  | none => .non
  | some n => .int n
def loB (n : Int) : Option Int → Bool
  | none => true
  | some l => decide (l ≤ n)
def hiB (n : Int) : Option Int → Bool
  | none => true
  | some m => decide (n ≤ m)
def inB (n : Int) (lo hi : Option Int) : Bool := loB n lo && hiB n hi
def spWithin (K : PySem.W.Frag) : Sp := fun vs H Q _ => ∃ (x : V) (lo hi : Option Int), vs = [x, optV lo, optV hi] ∧ ((∃ c, Kd K H x false c ∧ Q (.bl false) H) ∨ ∃ n, x = .int n ∧ Q (.bl (inB n lo hi)) H)
theorem scWithin : FnScope ["value", "least", "most"] ["value", "least", "most"] (defScope sisuwithin) := ⟨rfl, rfl, rfl, by decide +kernel, rfl, by decide +kernel, by decide +kernel⟩
theorem ok_within (S : Hd K mg) (F : L2.Fun K "is_within" "is_within" sisuwithin f fd) : FnOk P w K mg base CX0 2 f fd ["value", "least", "most"] (spWithin K) := by
  obtain ⟨fI, fdI, FI, gI, kI, bI⟩ := (pr_int (w := w) (base := base) S).ex
  refine F.ok scWithin (fun vs H Q E h => ?_) (fun cdv A outer s H vs Q E hr h => ?_)
  · obtain ⟨x, lo, hi, rfl, _⟩ := h
    rfl
  · obtain ⟨x, lo, hi, rfl, h⟩ := h
    refine ⟨_, PSs.nox (pss_cons (ps_if (pt_not (pt_val (pe_call FI hr rfl gI kI bI .nil pass0 (pa_cons (pv 0) pa_nil)))) (pss_one (ps_ret pe_bl)) pss_nil)
      (pss_one (ps_ret (pe_and (pe_or (pe_cmpR op_isN (pv 1) pe_non (nomark _)) (pe_one (pe_cmpR op_ge (pv 0) (pv 1) (nomark _)))) (pe_one (pe_or (pe_cmpR op_isN (pv 2) pe_non (nomark _)) (pe_one (pe_cmpR op_le (pv 0) (pv 2) (nomark _))))))))), ?_⟩
    rcases h with ⟨c, kd, k⟩ | ⟨n, rfl, k⟩
    · exact ⟨_, rfl, x, false, c, rfl, kd, _, rfl, iteT k⟩
    · refine ⟨_, rfl, .int n, true, false, rfl, S.kd_int, _, rfl, iteF ?_⟩
      unfold inB at k
      have non_ : ∀ l : Int, decide (V.int l = V.non) = false := fun l => decide_eq_false (fun z => by cases z)
      have hi2 : ∀ r : Bool, Q (.bl (r && hiB n hi)) H → ∃ c, V.bl r = V.bl c ∧ if c = true then tOrV (tOp (fun x y H Q => y = V.non ∧ Q (V.bl (decide (x = V.non))) H) (tVar 2) (tC V.non)) (tOp (rI0 fun i j => V.bl (decide (i ≤ j))) (tVar 0) (tVar 2)) [some (V.int n), some (optV lo), some (optV hi)] H Q else Q (V.bl false) H := by
        intro r k
        refine ⟨r, rfl, ?_⟩
        cases r with
        | false => exact iteF k
        | true =>
          rw [Bool.true_and] at k
          refine iteT ?_
          cases hi with
          | none => exact ⟨_, rfl, rfl, _, rfl, iteT k⟩
          | some m => exact ⟨_, rfl, rfl, _, rfl, itf (non_ m) ⟨_, rfl, _, rfl, _, _, rfl, rfl, k⟩⟩
      cases lo with
      | none => exact ⟨_, rfl, rfl, _, rfl, iteT (hi2 _ k)⟩
      | some l => exact ⟨_, rfl, rfl, _, rfl, itf (non_ l) ⟨_, rfl, _, rfl, _, _, rfl, rfl, hi2 _ k⟩⟩
theorem pr_within (S : Hd K mg) : Pr w K mg base CX0 2 "is_within" ["value", "least", "most"] (spWithin K) := by
  obtain ⟨fd, F⟩ := S.def_ 1 (d := disuwithin)
  have F := fun_of (st := sisuwithin) F
  exact ⟨_, fd, ok_within S F, S.glo 1, F.kp, F.binds fun _ _ _ _ _ _ us hl => match us, hl with | [_, _, _], _ => rfl⟩
/-! ### is_name -/
def NoStr (K : PySem.W.Frag) (H : Hp) (x : V) : Prop := ∃ t, TyX K H x t ∧ PySem.W.kitOne K t (.type "str") = some false
def spName (K : PySem.W.Frag) : Sp := fun vs H Q _ => ∃ x, vs = [x] ∧ ((NoStr K H x ∧ Q (.bl false) H) ∨ ∃ z : Str, x = .str z ∧ z.length ≤ 1000 ∧ Tm.Asc z ∧ Q (.bl (Tm.nameL z)) H)
theorem scName : FnScope ["value"] ["value"] (defScope sisuname) := ⟨rfl, rfl, rfl, by decide +kernel, rfl, by decide +kernel, by decide +kernel⟩
theorem ok_name (S : Hd K mg) (F : L2.Fun K "is_name" "is_name" sisuname f fd) : FnOk P w K mg base CX0 1 f fd ["value"] (spName K) := by
  refine F.ok scName (fun vs H Q E h => ?_) (fun cdv A outer s H vs Q E hr h => ?_)
  · obtain ⟨x, rfl, _⟩ := h
    rfl
  · obtain ⟨x, rfl, h⟩ := h
    refine ⟨_, PSs.nox (pss_cons (ps_if (PW.pt (pw_or (pt_not (pt_val (pe_callB call_isi rfl (S.free 50) (by decide +kernel) (pa_cons (pv 0) (pa_cons (pe_bltn (v := .ty "str") rfl (S.free 57) (by decide +kernel) rfl) pa_nil)))))
        (pw_or1 (pt_not (pt_chain op_le op_le pe_int (pe_callB call_len_str rfl (S.free 51) (by decide +kernel) (pa_cons (pv 0) pa_nil)) pe_int))))) (pss_one (ps_ret pe_bl)) pss_nil)
      (pss_one (ps_ret (pe_and (pe_m0 PySem.F.slot_str_isascii PySem.F.type_str_isascii mt_isascii (pv 0)) (pe_and (pe_m0 PySem.F.slot_str_isalnum PySem.F.type_str_isalnum mt_isalnum (pv 0))
        (pe_and (pe_cmpR op_eq (pv 0) (pe_lower (pv 0)) (nomark _)) (pe_one (pe_not (pe_m0 PySem.F.slot_str_isdigit PySem.F.type_str_isdigit mt_isdigit (pe_ix ix_str (pv 0) pe_int (fun _ _ => rfl))))))))))), ?_⟩
    rcases h with ⟨⟨t, ty, ht⟩, k⟩ | ⟨z, rfl, hz, ha, k⟩
    · exact ⟨_, rfl, x, .ty "str", t, _, false, rfl, .ty "str", ty, ht, _, rfl, iteT (iteT k)⟩
    · refine ⟨_, rfl, .str z, .ty "str", _, _, true, rfl, .ty "str", .base (.str z), kit_ty (by decide +kernel), _, rfl, iteF ?_⟩
      rw [← Tm.name_eq ha] at k
      unfold Tm.nameB at k
      refine ⟨_, rfl, _, rfl, fits (Nat.le_trans hz (by decide)), _, _, rfl, rfl, _, rfl, ?_⟩
      by_cases c1 : 1 ≤ (z.length : Int)
      · rw [decide_eq_true c1, Bool.true_and] at k
        refine itt (decide_eq_true c1) ⟨_, _, rfl, rfl, _, rfl, ?_⟩
        by_cases c2 : (z.length : Int) ≤ 12
        · rw [decide_eq_true c2, Bool.true_and] at k
          refine itf (by rw [decide_eq_true c2]; rfl) ⟨_, rfl, ⟨_, rfl⟩, z, rfl, rfl, trivial, _, rfl, ?_⟩
          cases hA : Txt.isascii z with
          | false =>
            simp only [hA, Bool.false_and] at k
            exact iteF k
          | true =>
            simp only [hA, Bool.true_and] at k
            refine iteT ⟨_, rfl, ⟨_, rfl⟩, z, rfl, rfl, trivial, _, rfl, ?_⟩
            cases hB : Txt.isalnum z with
            | false =>
              simp only [hB, Bool.false_and] at k
              exact iteF k
            | true =>
              simp only [hB, Bool.true_and] at k
              refine iteT ⟨_, rfl, _, rfl, ⟨_, rfl⟩, z, rfl, rfl, Nat.le_trans hz (by decide), rfl, _, rfl, ?_⟩
              by_cases c3 : z = Txt.lower z
              · rw [decide_eq_true c3, Bool.true_and] at k
                obtain ⟨c, r, e⟩ : ∃ c r, Tm.tl z = c :: r := by
                  cases e : Tm.tl z with
                  | nil =>
                    rw [Tm.len_tl z, e] at c1
                    exact absurd c1 (by decide)
                  | cons c r => exact ⟨c, r, rfl⟩
                have hc : c < 128 := ha c (by rw [e]; exact List.mem_cons_self ..)
                refine itt (decide_eq_true (congrArg V.str c3)) ⟨_, rfl, z, 0, c, rfl, rfl, fits (Nat.le_trans hz (by decide)), ?_, ⟨_, rfl⟩, _, rfl, rfl, trivial, _, rfl, ?_⟩
                · show atI (Tm.tl z) 0 = some c
                  rw [e]
                  exact atI_nat (j := 0) rfl
                · have d : Txt.isdigit ⟨#[c]⟩ = Tm.fig c := by
                    have e1 : Txt.isdigit ⟨#[c]⟩ = Unicode.isDigit c := by
                      unfold Txt.isdigit
                      simp [PySem.Str.length]
                    rw [e1]
                    exact Tm.dig_tab ⟨c, hc⟩
                  rw [e] at k
                  rw [d]
                  exact k
              · rw [decide_eq_false c3, Bool.false_and] at k
                exact itf (decide_eq_false fun y => c3 (V.str.inj y)) k
        · rw [decide_eq_false c2] at k
          simp only [Bool.false_and] at k
          exact itt (by rw [decide_eq_false c2]; rfl) k
      · rw [decide_eq_false c1] at k
        simp only [Bool.false_and] at k
        exact itf (decide_eq_false c1) ⟨_, rfl, iteT k⟩
theorem pr_name (S : Hd K mg) : Pr w K mg base CX0 1 "is_name" ["value"] (spName K) := by
  obtain ⟨fd, F⟩ := S.def_ 2 (d := disuname)
  have F := fun_of (st := sisuname) F
  exact ⟨_, fd, ok_name S F, S.glo 2, F.kp, F.binds fun _ _ _ _ _ _ us hl => match us, hl with | [_], _ => rfl⟩
/-! ### is_label -/
def spLabel (K : PySem.W.Frag) : Sp := fun vs H Q _ => ∃ x, vs = [x] ∧ ((NoStr K H x ∧ Q (.bl false) H) ∨ ∃ z : Str, x = .str z ∧ z.length ≤ 1000 ∧ Tm.Asc z ∧ ∀ H2, Same H H2 → Q (.bl (Tm.labelS (Tm.tl z))) H2)
theorem scLabel : FnScope ["value", "name", "_", "point"] ["value"] (defScope sisulabel) := ⟨rfl, rfl, rfl, by decide +kernel, rfl, by decide +kernel, by decide +kernel⟩
theorem ok_label (S : Hd K mg) (F : L2.Fun K "is_label" "is_label" sisulabel f fd) : FnOk P w K mg base CX0 2 f fd ["value"] (spLabel K) := by
  obtain ⟨fN, fdN, FN, gN, kN, bN⟩ := (pr_name (w := w) (base := base) S).ex
  refine F.ok scLabel (fun vs H Q E h => ?_) (fun cdv A outer s H vs Q E hr h => ?_)
  · obtain ⟨x, rfl, _⟩ := h
    rfl
  · obtain ⟨x, rfl, h⟩ := h
    refine ⟨_, PSs.nox (pss_cons (ps_if (pt_not (pt_val (pe_callB call_isi rfl (S.free 50) (by decide +kernel) (pa_cons (pv 0) (pa_cons (pe_bltn (v := .ty "str") rfl (S.free 57) (by decide +kernel) rfl) pa_nil))))) (pss_one (ps_ret pe_bl)) pss_nil)
      (pss_cons (ps_asg (pe_partition (pv 0) pe_str) (pg_tup rfl (pgs_cons (pg_name (i := 1) scLabel.nd rfl (.inl rfl)) (pgs_cons (pg_name (i := 2) scLabel.nd rfl (.inl rfl)) (pgs_cons (pg_name (i := 3) scLabel.nd rfl (.inl rfl)) pgs_nil)))))
      (pss_one (ps_ret (pe_and (pe_call FN hr rfl gN kN bN .nil pass0 (pa_cons (pv 1) pa_nil)) (pe_one (pe_call FN hr rfl gN kN bN .nil pass0 (pa_cons (pv 3) pa_nil)))))))), ?_⟩
    rcases h with ⟨⟨t, ty, ht⟩, k⟩ | ⟨z, rfl, hz, ha, k⟩
    · exact ⟨_, rfl, x, .ty "str", t, _, false, rfl, .ty "str", ty, ht, _, rfl, iteT k⟩
    · refine ⟨_, rfl, .str z, .ty "str", _, _, true, rfl, .ty "str", .base (.str z), kit_ty (by decide +kernel), _, rfl, iteF ?_⟩
      obtain ⟨a, m, b, ep, el, h1, h2, l1, l2⟩ := Tm.part_dot z
      refine ⟨_, rfl, ⟨_, rfl⟩, z, Tm.dot, rfl, rfl, by decide +kernel, fits (Nat.le_trans hz (by decide)), fun p np => ?_⟩
      rw [ep]
      rw [← el] at k
      have lz : (Tm.tl z).length ≤ 1000 := by rw [← Tm.len_tl]; exact hz
      refine ⟨p, [.str a, .str m, .str b], rfl, SqT.of upd_same, rfl, ?_⟩
      refine ⟨_, _, rfl, _, _, rfl, _, _, rfl, rfl, _, rfl, _, rfl, .inr ⟨a, rfl, by rw [Tm.len_tl]; omega, fun c hc => ha c (h1 c hc), _, rfl, ?_⟩⟩
      cases hn : Tm.nameL a with
      | false =>
        rw [hn, Bool.false_and] at k
        exact iteF (k _ (samu np))
      | true =>
        rw [hn, Bool.true_and] at k
        exact iteT ⟨_, rfl, _, rfl, .inr ⟨b, rfl, by rw [Tm.len_tl]; omega, fun c hc => ha c (h2 c hc), k _ (samu np)⟩⟩
theorem pr_label (S : Hd K mg) : Pr w K mg base CX0 2 "is_label" ["value"] (spLabel K) := by
  obtain ⟨fd, F⟩ := S.def_ 3 (d := disulabel)
  have F := fun_of (st := sisulabel) F
  exact ⟨_, fd, ok_label S F, S.glo 3, F.kp, F.binds fun _ _ _ _ _ _ us hl => match us, hl with | [_], _ => rfl⟩
end
end Kw
end

/-! Kw14 -/
section
set_option maxHeartbeats 4000000
set_option exponentiation.threshold 10000
/-! Ratio.read -/
namespace Kw
open PySem PySem.Spec PyProof.Rows L2 He Er Ow
section
variable {w : World} {K : PySem.W.Frag} {mg : Str → Option Value} {base : Heap} {f : Addr} {fd : FuncData} {H H2 : Hp} {x y : V} {b c : Bool} {t : Value}
def spWords : Sp := fun vs H Q _ => ∃ z : Str, vs = [.str z] ∧ z.length ≤ 1000 ∧ 32 ∉ TL.tl z ∧ ∀ p H2, Same H H2 → H2 p = some (.lst [.str z]) → Q (.ref p) H2
theorem scWords : FnScope ["text"] ["text"] (defScope swordsuof) := ⟨rfl, rfl, rfl, by decide +kernel, rfl, by decide +kernel, by decide +kernel⟩
theorem ok_words (S : Hd K mg) (F : L2.Fun K "words_of" "words_of" swordsuof f fd) : FnOk P w K mg base CX0 1 f fd ["text"] spWords := by
  refine F.ok scWords (fun vs H Q E h => ?_) (fun cdv A outer s H vs Q E hr h => ?_)
  · obtain ⟨z, rfl, _⟩ := h
    rfl
  · obtain ⟨z, rfl, hz, h32, k⟩ := h
    refine ⟨_, PSs.nox (pss_cons (ps_if (pt_not (pt_val (pe_callB call_isi rfl (S.free 50) (by decide +kernel) (pa_cons (pv 0) (pa_cons (pe_bltn (v := .ty "str") rfl (S.free 57) (by decide +kernel) rfl) pa_nil))))) (pss_one ps_never) pss_nil)
      (pss_one (ps_ret (pe_split (pv 0) pe_str)))), ?_⟩
    refine ⟨_, rfl, .str z, .ty "str", _, _, true, rfl, .ty "str", .base (.str z), kit_ty (by decide +kernel), _, rfl, iteF ?_⟩
    refine ⟨_, rfl, ⟨_, rfl⟩, z, " ", rfl, rfl, by decide +kernel, fits (by omega), fun p np => ?_⟩
    rw [Nm.split_one h32]
    exact k p _ (samu np) upd_same
theorem pr_words (S : Hd K mg) : Pr w K mg base CX0 1 "words_of" ["text"] spWords := by
  obtain ⟨fd, F⟩ := S.def_ 6 (d := dwordsuof)
  have F := fun_of (st := swordsuof) F
  exact ⟨_, fd, ok_words S F, S.glo 9, F.kp, F.binds fun _ _ _ _ _ _ us hl => match us, hl with | [_], _ => rfl⟩
def spWordAt : Sp := fun vs H Q _ => ∃ (p : Addr) (z : Str), vs = [.ref p, .int 0] ∧ H p = some (.lst [.str z]) ∧ Q (.str z) H
theorem scWordAt : FnScope ["words", "at"] ["words", "at"] (defScope sworduat) := ⟨rfl, rfl, rfl, by decide +kernel, rfl, by decide +kernel, by decide +kernel⟩
theorem ok_wordAt (S : Hd K mg) (F : L2.Fun K "word_at" "word_at" sworduat f fd) : FnOk P w K mg base CX0 1 f fd ["words", "at"] spWordAt := by
  refine F.ok scWordAt (fun vs H Q E h => ?_) (fun cdv A outer s H vs Q E hr h => ?_)
  · obtain ⟨p, z, rfl, _⟩ := h
    rfl
  · obtain ⟨p, z, rfl, hp, k⟩ := h
    refine ⟨_, PSs.nox (pss_cons (ps_if (pt_cmpR op_ge (pv 1) (pe_callB call_len_seq rfl (S.free 51) (by decide +kernel) (pa_cons (pv 0) pa_nil)) (nomark _)) (pss_one ps_never) pss_nil)
      (pss_one (ps_ret (pe_ix ix_list (pv 0) (pv 1) (fun _ _ => rfl))))), ?_⟩
    refine ⟨_, rfl, _, rfl, p, _, rfl, .inl (SqL.of hp), _, _, rfl, rfl, _, rfl, itf (decide_eq_false (by simp)) ?_⟩
    exact ⟨_, rfl, _, rfl, p, _, _, _, rfl, rfl, SqL.of hp, at0, k⟩
theorem pr_wordAt (S : Hd K mg) : Pr w K mg base CX0 1 "word_at" ["words", "at"] spWordAt := by
  obtain ⟨fd, F⟩ := S.def_ 7 (d := dworduat)
  have F := fun_of (st := sworduat) F
  exact ⟨_, fd, ok_wordAt S F, S.glo 10, F.kp, F.binds fun _ _ _ _ _ _ us hl => match us, hl with | [_, _], _ => rfl⟩
def spEndAt : Sp := fun vs H Q _ => ∃ (p : Addr) (z : V), vs = [.ref p, .int 1] ∧ H p = some (.lst [z]) ∧ Q .non H
theorem scEndAt : FnScope ["words", "at"] ["words", "at"] (defScope senduat) := ⟨rfl, rfl, rfl, by decide +kernel, rfl, by decide +kernel, by decide +kernel⟩
theorem ok_endAt (S : Hd K mg) (F : L2.Fun K "end_at" "end_at" senduat f fd) : FnOk P w K mg base CX0 1 f fd ["words", "at"] spEndAt := by
  refine F.ok scEndAt (fun vs H Q E h => ?_) (fun cdv A outer s H vs Q E hr h => ?_)
  · obtain ⟨p, z, rfl, _⟩ := h
    rfl
  · obtain ⟨p, z, rfl, hp, k⟩ := h
    refine ⟨_, PSs.nox (pss_one (ps_if (pt_cmpR op_lt (pv 1) (pe_callB call_len_seq rfl (S.free 51) (by decide +kernel) (pa_cons (pv 0) pa_nil)) (nomark _)) (pss_one ps_never) pss_nil)), ?_⟩
    exact ⟨_, rfl, _, rfl, p, _, rfl, .inl (SqL.of hp), _, _, rfl, rfl, _, rfl, itf (by simp) k⟩
theorem pr_endAt (S : Hd K mg) : Pr w K mg base CX0 1 "end_at" ["words", "at"] spEndAt := by
  obtain ⟨fd, F⟩ := S.def_ 8 (d := denduat)
  have F := fun_of (st := senduat) F
  exact ⟨_, fd, ok_endAt S F, S.glo 11, F.kp, F.binds fun _ _ _ _ _ _ us hl => match us, hl with | [_, _], _ => rfl⟩
/-! ### _is_count, _written -/
def spCount : Sp := fun vs H Q _ => ∃ m : Nat, vs = [.str (tx m)] ∧ m < 10 ^ 60 ∧ Q (.bl true) H
theorem scCount : FnScope ["word"] ["word"] (defScope suisucount) := ⟨rfl, rfl, rfl, by decide +kernel, rfl, by decide +kernel, by decide +kernel⟩
theorem ok_count (S : Hd K mg) (F : L2.Fun K "_is_count" "_is_count" suisucount f fd) : FnOk P w K mg base CX0 1 f fd ["word"] spCount := by
  obtain ⟨tB, hB⟩ := S.int (x := "MOST_DIGITS") (n := 60) 61
  refine F.ok scCount (fun vs H Q E h => ?_) (fun cdv A outer s H vs Q E hr h => ?_)
  · obtain ⟨m, rfl, _⟩ := h
    rfl
  · obtain ⟨m, rfl, hm, k⟩ := h
    refine ⟨_, PSs.nox (pss_one (ps_ret (pe_and (pe_chain op_le op_le pe_int (pe_callB call_len_str rfl (S.free 51) (by decide +kernel) (pa_cons (pv 0) pa_nil)) (pe_glob (v := .int 60) rfl hB ⟨_, rfl⟩)) (pe_and (pe_m0 PySem.F.slot_str_isascii PySem.F.type_str_isascii mt_isascii (pv 0)) (pe_one (pe_m0 PySem.F.slot_str_isdigit PySem.F.type_str_isdigit mt_isdigit (pv 0))))))), ?_⟩
    have l1 : 1 ≤ (tx (m : Int)).length := Nm.len_pos m
    have l2 : (tx (m : Int)).length ≤ 60 := Nm.len_nat m (k := 60) (by decide) hm
    refine ⟨_, rfl, _, rfl, fits (Nat.le_trans l2 (by decide)), _, _, rfl, rfl, _, rfl, itt (decide_eq_true (by omega)) ⟨_, _, rfl, rfl, _, rfl, itt (decide_eq_true (by omega)) ?_⟩⟩
    refine ⟨_, rfl, ⟨_, rfl⟩, _, rfl, rfl, trivial, _, rfl, itt (Nm.ascii m) ⟨_, rfl, ⟨_, rfl⟩, _, rfl, rfl, trivial, ?_⟩⟩
    rw [Nm.digits m]
    exact k
theorem pr_count (S : Hd K mg) : Pr w K mg base CX0 1 "_is_count" ["word"] spCount := by
  obtain ⟨fd, F⟩ := S.def_ 33 (d := duisucount)
  have F := fun_of (st := suisucount) F
  exact ⟨_, fd, ok_count S F, S.glo 24, F.kp, F.binds fun _ _ _ _ _ _ us hl => match us, hl with | [_], _ => rfl⟩
/-- parts of at most sixty figures -/
def s60 (r : Rat) : Prop := r.num.natAbs < 10 ^ 60 ∧ r.den < 10 ^ 60
theorem s60.sm {r : Rat} (h : s60 r) : sm r := ⟨Nat.lt_trans h.1 (by decide), Nat.lt_trans h.2 (by decide)⟩
theorem s60.big {n : Int} (h : n.natAbs < 10 ^ 60) : big n := Nat.lt_trans h (by decide : 10 ^ 60 < 2 ^ 8000)
def spWritten (K : PySem.W.Frag) : Sp := fun vs H Q _ => ∃ r : Rat, vs = [.str (txr r)] ∧ s60 r ∧ NewR K H Q r
def sla : Str := "/"
theorem tl_sla : TL.tl sla = [47] := by decide +kernel
/-- how the text parts at / -/
theorem part_txr (r : Rat) : Txt.partition (txr r) sla = (tx r.num, if r.den = 1 then Str.empty else sla, if r.den = 1 then Str.empty else tx (r.den : Int)) := by
  unfold txr
  split
  · exact TL.partition_none (s := 47) (S := []) tl_sla (Nm.free (by decide) (by decide))
  · exact TL.partition_app (s := 47) (S := []) tl_sla (Nm.free (by decide) (by decide))
theorem len_txr {r : Rat} (h : s60 r) : (txr r).length ≤ 200 := by
  unfold txr
  have h1 := len_tx h.sm.1
  have h2 := len_tx (n := (r.den : Int)) (by rw [Int.natAbs_natCast]; exact h.sm.2)
  split
  · omega
  · rw [PySem.Str.length_append, PySem.Str.length_append]
    have : ("/" : Str).length = 1 := by decide +kernel
    omega
theorem free_txr (r : Rat) : 32 ∉ TL.tl (txr r) := by
  unfold txr
  split
  · exact Nm.free (by decide) (by decide)
  · rw [TL.tl_append, TL.tl_append]
    intro q
    rcases List.mem_append.mp q with q | q
    · rcases List.mem_append.mp q with q | q
      · exact Nm.free (by decide) (by decide) q
      · rw [show TL.tl ("/" : Str) = [47] from tl_sla] at q
        exact absurd q (by decide)
    · exact Nm.free (by decide) (by decide) q
theorem int_tx {m : Nat} (h : m < 10 ^ 60) : intText? (tx (m : Int)) = some (m : Int) := TL.int_num (Nat.le_trans (TL.numL_len (by decide) h) (by decide))
theorem scWritten : FnScope ["word", "top", "slash", "bottom", "above", "below", "ratio"] ["word"] (defScope suwritten) := ⟨rfl, rfl, rfl, by decide +kernel, rfl, by decide +kernel, by decide +kernel⟩
theorem ok_written (S : Hd K mg) (F : L2.Fun K "_written" "_written" suwritten f fd) : FnOk P w K mg base CX0 6 f fd ["word"] (spWritten K) := by
  obtain ⟨fC, fdC, FC, gC, kC, bC⟩ := (pr_count (w := w) (base := base) S).ex
  obtain ⟨fdM, d, FM, bM, rM, bM2⟩ := (mkR (w := w) (base := base) S).ex
  obtain ⟨fdD, FD, bD⟩ := (mr_str (w := w) (base := base) S).ex
  refine F.ok scWritten (fun vs H Q E h => ?_) (fun cdv A outer s H vs Q E hr h => ?_)
  · obtain ⟨r, rfl, _⟩ := h
    rfl
  · obtain ⟨r, rfl, hs, k⟩ := h
    refine ⟨_, PSs.nox (pss_cons (ps_asg (pe_partition (pv 0) pe_str) (pg_tup rfl (pgs_cons (pg_name (i := 1) scWritten.nd rfl (.inl rfl)) (pgs_cons (pg_name (i := 2) scWritten.nd rfl (.inl rfl)) (pgs_cons (pg_name (i := 3) scWritten.nd rfl (.inl rfl)) pgs_nil)))))
      (pss_cons (ps_set (i := 4) scWritten.nd rfl (.inl rfl) (pe_m1 PySem.F.slot_str_removeprefix PySem.F.type_str_removeprefix mt_removeprefix (pv 1) pe_str))
      (pss_cons (ps_if (PW.pt (pw_or (pt_not (pt_val (pe_call FC (hr.mono (by decide)) rfl gC kC bC .nil pass0 (pa_cons (pv 4) pa_nil)))) (pw_or1 (PW.pt (pw_and (pt_cmpR op_eq (pv 2) pe_str (nomark _)) (pw_and1 (pt_not (pt_val (pe_call FC (hr.mono (by decide)) rfl gC kC bC .nil pass0 (pa_cons (pv 3) pa_nil)))))))))) (pss_one (ps_ret pe_non)) pss_nil)
      (pss_cons (ps_set (i := 5) scWritten.nd rfl (.inl rfl) (pe_ifExp (pt_cmpR op_eq (pv 2) pe_str (nomark _)) (pe_callTy call_int_str rfl (S.free 49) (by decide +kernel) (pa_cons (pv 3) pa_nil)) pe_int))
      (pss_cons (ps_if (pt_cmpR op_eq (pv 5) pe_int (nomark _)) (pss_one (ps_ret pe_non)) pss_nil)
      (pss_cons (ps_set (i := 6) scWritten.nd rfl (.inl rfl) (pe_make S.mkr (quiet FM) (hr.mono (by decide)) rfl (S.glo 12) bM .nil pass0 (pa_cons (pe_ifExp (pt_cmpR op_ne (pv 1) (pv 4) (nomark _)) (pe_un un_neg (pe_callTy call_int_str rfl (S.free 49) (by decide +kernel) (pa_cons (pv 4) pa_nil))) (pe_callTy call_int_str rfl (S.free 49) (by decide +kernel) (pa_cons (pv 4) pa_nil))) (pa_cons (pv 5) pa_nil))))
      (pss_one (ps_ret (pe_ifExp (pt_cmpR op_eq (pe_callTy (str_own S.mc_str FD (hr.mono (by decide)) bD) rfl (S.free 57) (by decide +kernel) (pa_cons (pv 6) pa_nil)) (pv 0) (nomark _)) (pv 6) pe_non))))))))), ?_⟩
    have h1 := hs.1
    have h2 := hs.2
    refine ⟨_, rfl, ⟨_, rfl⟩, txr r, sla, rfl, rfl, by decide +kernel, fits (Nat.le_trans (len_txr hs) (by decide)), fun p np => ?_⟩
    rw [part_txr]
    refine ⟨p, _, rfl, SqT.of upd_same, rfl, _, _, rfl, _, _, rfl, _, _, rfl, rfl, ?_⟩
    have e1 := samu (o := .tup [.str (tx r.num), .str (if r.den = 1 then Str.empty else sla), .str (if r.den = 1 then Str.empty else tx (r.den : Int))]) np
    refine ⟨_, rfl, ⟨_, rfl⟩, tx r.num, Nm.mns, rfl, rfl, fits (Nat.le_trans (len_tx hs.sm.1) (by decide)), ?_⟩
    rw [Nm.rp]
    have ne_sla : ¬ (V.str Str.empty = V.str sla) := fun z => absurd (congrArg TL.tl (V.str.inj z)) (by decide +kernel)
    have den0 : r.den ≠ 0 := r.den_nz
    have fin : ∀ (sl bo : V) (H1 : Hp), Same H H1 → ∀ D : Int, D = (r.den : Int) → (tSeq (tIfS (tTest (tOp rEq (tVar 5) (tC (.int 0)))) (tRet (tC .non)) tNext) (tSeq (tAsg (tMake (cR K) (fun vs H Q x => spInit K vs H Q E0) [] E0 (tCons (tIf (tTest (tOp rNe (tVar 1) (tVar 4))) (tUn (rU fun i => V.int (-i)) (tCB (fun xs H Q => ∃ a n, xs = [V.str a] ∧ intText? a = some n ∧ a.length ≤ 640 ∧ Q (V.int n) H) (tCons (tVar 4) tNil))) (tCB (fun xs H Q => ∃ a n, xs = [V.str a] ∧ intText? a = some n ∧ a.length ≤ 640 ∧ Q (V.int n) H) (tCons (tVar 4) tNil))) (tCons (tVar 5) tNil))) (gName 6)) (tRet (tIf (tTest (tOp rEq (tCB (rOwnT (cR K) (spStr K)) (tCons (tVar 6) tNil)) (tVar 0))) (tVar 6) (tC .non))))) { nx := fun _ H' => Q .non H', rt := Q } [some (.str (txr r)), some (.str (tx r.num)), some sl, some bo, some (.str (tx (r.num.natAbs : Int))), some (.int D), none] H1 := by
      rintro sl bo H1 e1 D rfl
      have l1 : (tx (r.num.natAbs : Int)).length ≤ 640 := Nat.le_trans (Nm.len_nat r.num.natAbs (k := 60) (by decide) h1) (by decide)
      have dz : (r.den : Int) ≠ 0 := Int.ne_of_gt (Rm.den_pos r)
      have bd : big (r.den : Int) := s60.big (by rw [Int.natAbs_natCast]; exact h2)
      have rest : ∀ (a dx : Addr) (H3 : Hp), H1 a = none → H1 dx = none → (∀ b o, b ≠ a → (upd (upd H1 dx (.own a)) a (.ins (cR K) dx [])) b = some o → H3 b = some o) → H3 a = some (.ins (cR K) dx (rfs r)) → (tRet (tIf (tTest (tOp rEq (tCB (rOwnT (cR K) (spStr K)) (tCons (tVar 6) tNil)) (tVar 0))) (tVar 6) (tC .non))) { nx := fun _ H' => Q .non H', rt := Q } [some (.str (txr r)), some (.str (tx r.num)), some sl, some bo, some (.str (tx (r.num.natAbs : Int))), some (.int r.den), some (.ref a)] H3 := by
        intro a dx H3 nx ndx hs3 h3
        refine ⟨_, rfl, a, dx, _, rfl, h3, a, r, rfl, ⟨dx, h3⟩, hs.sm, _, rfl, _, rfl, rfl, _, rfl, itt (decide_eq_true rfl) ⟨_, rfl, ?_⟩⟩
        exact k a H3 (e1.trans (new_rat_same nx ndx hs3)) ⟨dx, h3⟩
      refine ⟨_, rfl, rfl, _, rfl, itf (decide_eq_false fun z => dz (V.int.inj z)) ?_⟩
      refine ⟨_, rfl, _, rfl, rfl, _, rfl, ?_⟩
      by_cases hn : r.num < 0
      · have e2 : Rm.mk (-(r.num.natAbs : Int)) r.den = r := by
          rw [show (-(r.num.natAbs : Int)) = r.num by omega]
          exact Rm.mk_self r
        refine itt (by rw [decide_eq_false (fun z => (Nm.ne_abs.mpr hn) (V.str.inj z))]; rfl) ⟨_, rfl, _, _, rfl, int_tx h1, l1, _, rfl, _, rfl, ?_⟩
        refine fun a dx nx ndx ne => ⟨a, dx, _, _, rfl, upd_same, .inl ⟨_, _, rfl, rfl, dz, s60.big (by rw [Int.natAbs_neg, Int.natAbs_natCast]; exact h1), bd, fun H3 hs3 h3 => ⟨rfl, ?_⟩⟩⟩
        rw [e2] at h3
        exact rest a dx H3 nx ndx hs3 h3
      · have e2 : Rm.mk (r.num.natAbs : Int) r.den = r := by
          rw [show ((r.num.natAbs : Int)) = r.num by omega]
          exact Rm.mk_self r
        have eq : tx r.num = tx (r.num.natAbs : Int) := Decidable.byContradiction fun z => hn (Nm.ne_abs.mp z)
        refine itf (by rw [decide_eq_true (congrArg V.str eq)]; rfl) ⟨_, rfl, _, _, rfl, int_tx h1, l1, _, rfl, ?_⟩
        refine fun a dx nx ndx ne => ⟨a, dx, _, _, rfl, upd_same, .inl ⟨_, _, rfl, rfl, dz, s60.big (by rw [Int.natAbs_natCast]; exact h1), bd, fun H3 hs3 h3 => ⟨rfl, ?_⟩⟩⟩
        rw [e2] at h3
        exact rest a dx H3 nx ndx hs3 h3
    by_cases hd : r.den = 1
    · simp only [if_pos hd]
      refine ⟨_, rfl, r.num.natAbs, rfl, h1, _, rfl, iteF ⟨_, rfl, rfl, _, rfl, itf (decide_eq_false ne_sla) (iteF ?_)⟩⟩
      refine ⟨_, rfl, rfl, _, rfl, itf (decide_eq_false ne_sla) ?_⟩
      exact fin _ _ _ (samu np) 1 (by rw [hd]; rfl)
    · simp only [if_neg hd]
      refine ⟨_, rfl, r.num.natAbs, rfl, h1, _, rfl, iteF ⟨_, rfl, rfl, _, rfl, itt (decide_eq_true rfl) ⟨_, rfl, r.den, rfl, h2, _, rfl, iteF ?_⟩⟩⟩
      refine ⟨_, rfl, rfl, _, rfl, itt (decide_eq_true rfl) ⟨_, rfl, _, (r.den : Int), rfl, int_tx h2, Nat.le_trans (Nm.len_nat r.den (k := 60) (by decide) h2) (by decide), ?_⟩⟩
      exact fin _ _ _ (samu np) r.den rfl
theorem pr_written (S : Hd K mg) : Pr w K mg base CX0 6 "_written" ["word"] (spWritten K) := by
  obtain ⟨fd, F⟩ := S.def_ 32 (d := duwritten)
  have F := fun_of (st := suwritten) F
  exact ⟨_, fd, ok_written S F, S.glo 23, F.kp, F.binds fun _ _ _ _ _ _ us hl => match us, hl with | [_], _ => rfl⟩
def spRatAt (K : PySem.W.Frag) : Sp := fun vs H Q _ => ∃ (p : Addr) (r : Rat), vs = [.ref p, .int 0] ∧ H p = some (.lst [.str (txr r)]) ∧ s60 r ∧ NewR K H Q r
theorem scRatAt : FnScope ["words", "at", "ratio"] ["words", "at"] (defScope sratiouat) := ⟨rfl, rfl, rfl, by decide +kernel, rfl, by decide +kernel, by decide +kernel⟩
theorem ok_ratAt (S : Hd K mg) (F : L2.Fun K "ratio_at" "ratio_at" sratiouat f fd) : FnOk P w K mg base CX0 7 f fd ["words", "at"] (spRatAt K) := by
  obtain ⟨fW, fdW, FW, gW, kW, bW⟩ := (pr_written (w := w) (base := base) S).ex
  obtain ⟨fA, fdA, FA, gA, kA, bA⟩ := (pr_wordAt (w := w) (base := base) S).ex
  refine F.ok scRatAt (fun vs H Q E h => ?_) (fun cdv A outer s H vs Q E hr h => ?_)
  · obtain ⟨p, r, rfl, _⟩ := h
    rfl
  · obtain ⟨p, r, rfl, hp, hs, k⟩ := h
    refine ⟨_, PSs.nox (pss_cons (ps_set (i := 2) scRatAt.nd rfl (.inl rfl) (pe_call FW hr rfl gW kW bW .nil pass0 (pa_cons (pe_call FA (hr.mono (by decide)) rfl gA kA bA .nil pass0 (pa_cons (pv 0) (pa_cons (pv 1) pa_nil))) pa_nil)))
      (pss_cons (ps_if (pt_cmpR op_isN (pv 2) pe_non (nomark _)) (pss_one ps_never) pss_nil) (pss_one (ps_ret (pv 2))))), ?_⟩
    refine ⟨_, rfl, _, rfl, p, _, rfl, hp, r, rfl, hs, fun a H1 e1 ha => ?_⟩
    exact ⟨_, rfl, rfl, _, rfl, itf (decide_eq_false fun z => by cases z) ⟨_, rfl, k a H1 e1 ha⟩⟩
theorem pr_ratAt (S : Hd K mg) : Pr w K mg base CX0 7 "ratio_at" ["words", "at"] (spRatAt K) := by
  obtain ⟨fd, F⟩ := S.def_ 27 (d := dratiouat)
  have F := fun_of (st := sratiouat) F
  exact ⟨_, fd, ok_ratAt S F, S.glo 18, F.kp, F.binds fun _ _ _ _ _ _ us hl => match us, hl with | [_, _], _ => rfl⟩
/-- Ratio.read of a ratio's text -/
def spRead (K : PySem.W.Frag) : Sp := fun vs H Q _ => ∃ r : Rat, vs = [.str (txr r)] ∧ s60 r ∧ NewR K H Q r
theorem scRead : FnScope ["text", "words", "ratio"] ["text"] (defScope iRatioread) := ⟨rfl, rfl, rfl, by decide +kernel, rfl, by decide +kernel, by decide +kernel⟩
theorem ok_read (S : Hd K mg) (F : L2.Fun K "read" "Ratio.read" iRatioread f fd) : FnOk P w K mg base CX0 8 f fd ["text"] (spRead K) := by
  obtain ⟨fW, fdW, FW, gW, kW, bW⟩ := (pr_words (w := w) (base := base) S).ex
  obtain ⟨fA, fdA, FA, gA, kA, bA⟩ := (pr_ratAt (w := w) (base := base) S).ex
  obtain ⟨fE, fdE, FE, gE, kE, bE⟩ := (pr_endAt (w := w) (base := base) S).ex
  refine F.ok scRead (fun vs H Q E h => ?_) (fun cdv A outer s H vs Q E hr h => ?_)
  · obtain ⟨r, rfl, _⟩ := h
    rfl
  · obtain ⟨r, rfl, hs, k⟩ := h
    refine ⟨_, PSs.nox (pss_cons (ps_set (i := 1) scRead.nd rfl (.inl rfl) (pe_call FW (hr.mono (by decide)) rfl gW kW bW .nil pass0 (pa_cons (pv 0) pa_nil)))
      (pss_cons (ps_set (i := 2) scRead.nd rfl (.inl rfl) (pe_call FA hr rfl gA kA bA .nil pass0 (pa_cons (pv 1) (pa_cons pe_int pa_nil))))
      (pss_cons (ps_expr (pe_call FE (hr.mono (by decide)) rfl gE kE bE .nil pass0 (pa_cons (pv 1) (pa_cons pe_int pa_nil)))) (pss_one (ps_ret (pv 2)))))), ?_⟩
    refine ⟨_, rfl, _, rfl, Nat.le_trans (len_txr hs) (by decide), free_txr r, fun p H1 e1 hp => ?_⟩
    refine ⟨_, rfl, p, r, rfl, hp, hs, fun a H2 e2 ha => ?_⟩
    exact ⟨_, rfl, p, _, rfl, e2 _ _ hp, _, rfl, k a H2 (e1.trans e2) ha⟩
theorem of_read (S : Hd K mg) : Of w K mg base CX0 8 "read" "text" (spRead K) := by
  have h : pRatioread ∈ fp := List.mem_of_getElem? (i := 2) rfl
  obtain ⟨⟨fd, F⟩, rest, hr⟩ := S.defP (d := pRatioread) (st := iRatioread) h rfl rfl rfl
  exact ⟨_, _, fd, ok_read S F, S.smet h rfl rfl hr F.kp, F.binds fun _ _ _ _ _ _ us hl => match us, hl with | [_], _ => rfl, _, _, F⟩
end
end Kw
end

/-! Kw15 -/
section
set_option maxHeartbeats 4000000
set_option exponentiation.threshold 10000
namespace Kw
open PySem PySem.Spec PyProof.Rows L2 He Er Ow
section
variable {w : World} {K : PySem.W.Frag} {mg : Str → Option Value} {base : Heap} {f : Addr} {fd : FuncData}
/-! ### what draws -/
theorem pow40 : (10 : Int) ^ (40 : Int).toNat = 10000000000000000000000000000000000000000 := by decide +kernel
theorem pow41 : (10 : Int) ^ (41 : Int).toNat = 100000000000000000000000000000000000000000 := by decide +kernel
theorem jug_step {n r b M : Int} (h0 : 0 ≤ n) (h1 : n < M) (hM : 110000000000000000000000000000000000000000 ≤ M) (r0 : 0 ≤ r) (r1 : r < 10000000000000000000000000000000000000000) (hb : b = 0 ∨ b = 1) :
    0 ≤ n * 1231 + r + 100000000000000000000000000000000000000000 * b ∧ n * 1231 + r + 100000000000000000000000000000000000000000 * b < M * 2048 := by
  rcases hb with rfl | rfl <;> omega
theorem fmod_pos {x m : Int} (h : 0 < m) : 0 ≤ x.fmod m ∧ x.fmod m < m := by
  rw [Int.fmod_eq_emod_of_nonneg x (Int.le_of_lt h)]
  exact ⟨Int.emod_nonneg _ (Int.ne_of_gt h), Int.emod_lt_of_pos _ h⟩
theorem nat_of_lt {n : Int} {k : Nat} (h0 : 0 ≤ n) (h : n < ((2 ^ k : Nat) : Int)) : n.natAbs < 2 ^ k := by omega
theorem jugM (i : Nat) : (((2 ^ (150 + 11 * i) : Nat) : Int)) * 2048 = ((2 ^ (150 + 11 * (i + 1)) : Nat) : Int) := by
  have e : 2 ^ (150 + 11 * (i + 1)) = 2 ^ (150 + 11 * i) * 2048 := by
    rw [show 150 + 11 * (i + 1) = (150 + 11 * i) + 11 by omega, Nat.pow_add]
  rw [e]
  rfl
theorem jugM0 (i : Nat) : (110000000000000000000000000000000000000000 : Int) ≤ ((2 ^ (150 + 11 * i) : Nat) : Int) := by
  have e : 2 ^ 150 ≤ 2 ^ (150 + 11 * i) := Nat.pow_le_pow_right (by decide) (by omega)
  have e2 : (110000000000000000000000000000000000000000 : Nat) ≤ 2 ^ 150 := by decide +kernel
  exact Int.ofNat_le.mpr (Nat.le_trans e2 e)
theorem cut_mem {xs : List V} {a b : Option Int} {x : V} (h : x ∈ cutV xs a b) : x ∈ xs := List.mem_of_mem_drop (List.mem_of_mem_take h)
theorem cut_len {xs : List V} {a b : Option Int} : (cutV xs a b).length ≤ xs.length := by
  unfold cutV
  rw [List.length_take, List.length_drop]
  omega
def spJug (K : PySem.W.Frag) : Sp := fun vs H Q _ => ∃ (a : Addr) (ns : List Int), vs = [.ref a] ∧ SqL K H a (ns.map V.int) ∧ ns.length ≤ 63 ∧ ∀ p H2 (n : Int), Same H H2 → H2 p = some (.lst [.int n, .int 0]) → 0 ≤ n → n.natAbs < 2 ^ 900 → Q (.ref p) H2
abbrev nJug : List Str := ["_law_script", "_law_whole", "_law_cell"]
theorem sc_jug : FnScope nJug ["_law_script"] (defScope sLchurn) := ⟨rfl, rfl, rfl, by decide +kernel, rfl, by decide +kernel, by decide +kernel⟩
theorem sqL_same {H H2 : Hp} {a : Addr} {xs : List V} (s : Same H H2) (h : SqL K H a xs) : SqL K H2 a xs := by
  rcases h with h | h
  · rcases h with h | ⟨o, h⟩
    · exact .inl (.inl (s _ _ h))
    · exact .inl (.inr ⟨o, s _ _ h⟩)
  · exact .inr h
theorem ok_Ljug (S : Hd K mg) (F : L2.Fun K "_law_churn" "_law_churn" sLchurn f fd) : FnOk P w K mg base CX0 1 f fd ["_law_script"] (spJug K) := by
  refine F.ok sc_jug (fun vs H Q E h => ?_) (fun cdv A outer s H vs Q E hr h => ?_)
  · obtain ⟨a, ns, rfl, _⟩ := h
    rfl
  · obtain ⟨a, ns, rfl, hS, h63, k⟩ := h
    refine ⟨_, PSs.nox (pss_cons (ps_set (i := 1) sc_jug.nd rfl (.inl rfl) pe_int)
      (pss_cons (ps_for PassesOwn.never rfl (pi_list (pe_slice sl_list (pv 0) po_none (po_some pe_int))) (pg_name (i := 2) sc_jug.nd rfl (.inl rfl))
        (pss_one (ps_set (i := 1) sc_jug.nd rfl (.inl rfl) (pe_op op_add (pe_op op_add (pe_op op_mulW (pv 1) pe_int)
            (pe_op op_modN (pe_callB call_abs rfl (S.free 44) (by decide +kernel) (pa_cons (pe_callTy call_int1 rfl (S.free 49) (by decide +kernel) (pa_cons (pv 2) pa_nil)) pa_nil)) (pe_op op_pow pe_int pe_int)))
            (pe_op op_mulW (pe_op op_pow pe_int pe_int) (pe_callTy call_int1 rfl (S.free 49) (by decide +kernel) (pa_cons (pe_cmpR op_lt (pv 2) pe_int (nomark _)) pa_nil)))))))
      (pss_one (ps_ret (pe_lst (pa_cons (pv 1) (pa_cons pe_int pa_nil))))))), ?_⟩
    refine ⟨_, rfl, _, rfl, a, _, rfl, hS, fun p hp => ?_⟩
    have hl : (cutV (ns.map V.int) none (some 40)).length ≤ 63 := Nat.le_trans cut_len (by rw [List.length_map]; exact h63)
    refine ⟨p, rfl, ⟨_, SqL.of upd_same⟩, ?_⟩
    refine for_list (a := p) (xs := cutV (ns.map V.int) none (some 40)) (fun i σ' H' => H' = upd H p (.lst (cutV (ns.map V.int) none (some 40))) ∧ ∃ (n : Int) (c : Option V), σ' = [some (.ref a), some (.int n), c] ∧ 0 ≤ n ∧ n < ((2 ^ (150 + 11 * i) : Nat) : Int)) ⟨rfl, 73, none, rfl, by decide, by decide +kernel⟩
      (fun i σ' H' hi hp => ?_) (fun i x σ' H' hx hp => ?_) fun σ' H' hp => ?_
    · rw [hp.1]
      exact SqL.of upd_same
    · obtain ⟨rfl, n, c, rfl, h0, h1⟩ := hp
      have hx2 := cut_mem (List.mem_of_getElem? hx)
      obtain ⟨z, _, rfl⟩ := List.mem_map.mp hx2
      have hi : i < 63 := Nat.lt_of_lt_of_le (List.getElem?_eq_some_iff.mp hx).1 hl
      have hn : n.natAbs < 2 ^ 900 := Nat.lt_of_lt_of_le (nat_of_lt h0 h1) (Nat.pow_le_pow_right (by decide) (by omega))
      refine ⟨_, rfl, _, _, rfl, rfl, wide_mul (a := 900) (b := 11) hn (by decide) (by decide) (by decide) (by decide), ?_⟩
      refine ⟨_, rfl, .inl ⟨_, rfl, _, rfl, _, _, rfl, rfl, ⟨by decide, by decide, by decide⟩, _, _, rfl, rfl, (by show (10 : Int) ^ (40 : Int).toNat ≠ 0; rw [pow40]; decide), ?_⟩⟩
      refine ⟨_, _, rfl, rfl, _, _, rfl, rfl, ⟨by decide, by decide, by decide⟩, ?_⟩
      refine ⟨_, rfl, _, _, rfl, rfl, .inr ⟨_, rfl, ?_⟩⟩
      refine ⟨_, _, rfl, rfl, wide_mul (a := 137) (b := 1) (by rw [pow41]; decide +kernel) (by split <;> decide) (by decide) (by decide) (by decide), ?_⟩
      refine ⟨_, _, rfl, rfl, ?_⟩
      have hf := fmod_pos (x := if z < 0 then -z else z) (m := (10 : Int) ^ (40 : Int).toNat) (by rw [pow40]; decide)
      rw [pow40] at hf
      have hs := jug_step (b := if decide (z < 0) = true then 1 else 0) h0 h1 (jugM0 i) hf.1 hf.2 (by split; exact .inr rfl; exact .inl rfl)
      rw [jugM] at hs
      rw [← pow41, ← pow40] at hs
      exact ⟨rfl, _, _, rfl, hs.1, hs.2⟩
    · obtain ⟨rfl, n, c, rfl, h0, h1⟩ := hp
      refine ⟨_, rfl, fits (Nat.le_of_ble_eq_true rfl), fun p2 hp2 => k p2 _ n (same_trans (same_new hp) (same_new hp2)) upd_same h0 ?_⟩
      exact Nat.lt_of_lt_of_le (nat_of_lt h0 h1) (Nat.pow_le_pow_right (by decide) (by omega))
/-- a jug stands at p -/
def Jug (H : Hp) (p : Addr) (B : Int) : Prop := ∃ n c : Int, H p = some (.lst [.int n, .int c]) ∧ 0 ≤ n ∧ n.natAbs < 2 ^ 900 ∧ 0 ≤ c ∧ c ≤ B
def spPour : Sp := fun vs H Q _ => ∃ (p : Addr) (m B : Int), vs = [.ref p, .int m] ∧ Jug H p B ∧ B ≤ 100000 ∧ 0 < m ∧ m.natAbs < 2 ^ 200 ∧ ∀ H2 r, (∀ b, b ≠ p → H2 b = H b) → Jug H2 p (B + 1) → 0 ≤ r → r < m → Q (.int r) H2
abbrev nPour : List Str := ["_law_churn_here", "_law_many", "_law_rest"]
theorem sc_pour : FnScope nPour ["_law_churn_here", "_law_many"] (defScope sLskim) := ⟨rfl, rfl, rfl, by decide +kernel, rfl, by decide +kernel, by decide +kernel⟩
theorem pour_new {x : Int} (h0 : 0 ≤ x) (h1 : x < 1073741824) : 0 ≤ (x ^ 13).fdiv 7 ∧ ((x ^ 13).fdiv 7).natAbs < 2 ^ 900 := by
  obtain ⟨k, rfl⟩ := Int.eq_ofNat_of_zero_le h0
  have hk : k < 2 ^ 30 := by
    rw [show (2 : Nat) ^ 30 = 1073741824 by decide]
    omega
  have e : ((k : Int) ^ 13).fdiv 7 = ((k ^ 13 / 7 : Nat) : Int) := by
    rw [Int.fdiv_eq_ediv_of_nonneg _ (by decide)]
    rw [show (k : Int) ^ 13 = ((k ^ 13 : Nat) : Int) by simp]
    rfl
  rw [e]
  refine ⟨Int.natCast_nonneg _, ?_⟩
  show k ^ 13 / 7 < 2 ^ 900
  have h2 : k ^ 13 < (2 ^ 30) ^ 13 := Nat.pow_lt_pow_left hk (by decide)
  have h3 : k ^ 13 / 7 ≤ k ^ 13 := Nat.div_le_self _ _
  have h4 : (2 ^ 30) ^ 13 ≤ 2 ^ 900 := by rw [← Nat.pow_mul]; exact Nat.pow_le_pow_right (by decide) (by decide)
  omega
theorem ok_Lpour (F : L2.Fun K "_law_skim" "_law_skim" sLskim f fd) : FnOk P w K mg base CX0 1 f fd ["_law_churn_here", "_law_many"] spPour := by
  refine F.ok sc_pour (fun vs H Q E h => ?_) (fun cdv A outer s H vs Q E hr h => ?_)
  · obtain ⟨p, m, B, rfl, _⟩ := h
    rfl
  · obtain ⟨p, m, B, rfl, ⟨n, c, hp, n0, n1, c0, c1⟩, hB, m0, m1, k⟩ := h
    refine ⟨_, PSs.nox (pss_cons (ps_if (pt_cmpR op_eq (pe_ix ix_list (pv 0) pe_int (fun _ _ => rfl)) pe_int (nomark _))
        (pss_cons (ps_asg (pe_op op_add (pe_ix ix_list (pv 0) pe_int (fun _ _ => rfl)) pe_int) (pg_sub (pv 0) pe_int set_list))
        (pss_one (ps_asg (pe_op op_fdivN (pe_op op_pow (pe_op op_add (pe_op op_mul pe_int (pe_ix ix_list (pv 0) pe_int (fun _ _ => rfl))) pe_int) pe_int) pe_int) (pg_sub (pv 0) pe_int set_list)))) pss_nil)
      (pss_cons (ps_set (i := 2) sc_pour.nd rfl (.inl rfl) (pe_ix ix_list (pv 0) pe_int (fun _ _ => rfl)))
      (pss_cons (ps_asg (pe_op op_fdivW (pv 2) (pv 1)) (pg_sub (pv 0) pe_int set_list))
      (pss_one (ps_ret (pe_op op_modN (pv 2) (pv 1))))))), ?_⟩
    refine ⟨_, rfl, p, _, 0, _, rfl, rfl, SqL.of hp, rfl, ?_⟩
    refine ⟨rfl, _, rfl, ite2 (fun h => ?_) (fun h => ?_)⟩
    · refine ⟨_, rfl, p, _, 1, _, rfl, rfl, SqL.of hp, rfl, _, _, rfl, rfl, _, rfl, p, _, 1, 1, rfl, rfl, hp, rfl, ?_⟩
      refine ⟨_, rfl, p, _, 1, _, rfl, rfl, SqL.of upd_same, rfl, ?_⟩
      refine ⟨_, _, rfl, rfl, .inl (by constructor <;> decide), ?_⟩
      refine ⟨_, _, rfl, rfl, _, _, rfl, rfl, ⟨by decide, by decide, ?_⟩, _, _, rfl, rfl, ⟨by decide, by decide⟩, _, rfl, p, _, 0, 0, rfl, rfl, upd_same, rfl, ?_⟩
      · have : (2 : Nat) ^ 64 = 18446744073709551616 := by decide
        omega
      have hw : 0 ≤ (((1013 * (c + 1) + 3547) ^ (13 : Int).toNat).fdiv 7) ∧ (((1013 * (c + 1) + 3547) ^ (13 : Int).toNat).fdiv 7).natAbs < 2 ^ 900 := pour_new (x := 1013 * (c + 1) + 3547) (by omega) (by omega)
      refine ⟨_, rfl, p, _, 0, _, rfl, rfl, SqL.of upd_same, rfl, ?_⟩
      refine ⟨_, rfl, _, rfl, _, _, rfl, rfl, wide_div m0 m1 (by decide) (by decide), _, rfl, p, _, 0, 0, rfl, rfl, upd_same, rfl, ?_⟩
      refine ⟨_, rfl, _, rfl, _, _, rfl, rfl, Int.ne_of_gt m0, ?_⟩
      have hf := fmod_pos (x := (((1013 * (c + 1) + 3547) ^ (13 : Int).toNat).fdiv 7)) m0
      refine k _ _ (fun b hb => ?_) ⟨_, _, upd_same, Int.ediv_nonneg hw.1 (Int.le_of_lt m0), ?_, (by omega), (by omega)⟩ hf.1 hf.2
      · rw [upd_ne hb, upd_ne hb, upd_ne hb]
      · have h5 : (((1013 * (c + 1) + 3547) ^ (13 : Int).toNat).fdiv 7) / m ≤ (((1013 * (c + 1) + 3547) ^ (13 : Int).toNat).fdiv 7) := Int.ediv_le_self _ hw.1
        have h6 : 0 ≤ (((1013 * (c + 1) + 3547) ^ (13 : Int).toNat).fdiv 7) / m := Int.ediv_nonneg hw.1 (Int.le_of_lt m0)
        have h7 := hw.2
        omega
    · refine ⟨_, rfl, p, _, 0, _, rfl, rfl, SqL.of hp, rfl, ?_⟩
      refine ⟨_, rfl, _, rfl, _, _, rfl, rfl, wide_div m0 m1 (by decide) (by decide), _, rfl, p, _, 0, 0, rfl, rfl, hp, rfl, ?_⟩
      refine ⟨_, rfl, _, rfl, _, _, rfl, rfl, Int.ne_of_gt m0, ?_⟩
      have hf := fmod_pos (x := n) m0
      refine k _ _ (fun b hb => ?_) ⟨_, _, upd_same, Int.ediv_nonneg n0 (Int.le_of_lt m0), ?_, c0, (by omega)⟩ hf.1 hf.2
      · exact upd_ne hb
      · have h5 : n / m ≤ n := Int.ediv_le_self _ n0
        have h6 : 0 ≤ n / m := Int.ediv_nonneg n0 (Int.le_of_lt m0)
        have h7 := n1
        omega
theorem pr_churn (S : Hd K mg) : Pr w K mg base CX0 1 "_law_churn" ["_law_script"] (spJug K) := by
  obtain ⟨fd, F⟩ := S.def_ 34 (d := dLchurn)
  have F := fun_of (st := sLchurn) F
  exact ⟨_, fd, ok_Ljug S F, S.glo 25, F.kp, F.binds fun _ _ _ _ _ _ us hl => match us, hl with | [_], _ => rfl⟩
theorem pr_skim (S : Hd K mg) : Pr w K mg base CX0 1 "_law_skim" ["_law_churn_here", "_law_many"] spPour := by
  obtain ⟨fd, F⟩ := S.def_ 35 (d := dLskim)
  have F := fun_of (st := sLskim) F
  exact ⟨_, fd, ok_Lpour F, S.glo 26, F.kp, F.binds fun _ _ _ _ _ _ us hl => match us, hl with | [_, _], _ => rfl⟩
end
end Kw
end

/-! Kw16 -/
section
set_option maxHeartbeats 4000000
set_option exponentiation.threshold 10000
/-! _law_divisor, _law_due, _law_is -/
namespace Kw
open PySem PySem.Spec PyProof.Rows L2 He Er Ow
section
variable {w : World} {K : PySem.W.Frag} {mg : Str → Option Value} {base : Heap} {f : Addr} {fd : FuncData} {H H2 : Hp} {x y : V} {b c : Bool} {t : Value}
def spDiv : Sp := fun vs H Q _ => ∃ p q : Int, vs = [.int p, .int q] ∧ Q (.int ((Int.gcd p q : Nat) : Int)) H
theorem scDiv : FnScope ["_law_one", "_law_other"] ["_law_one", "_law_other"] (defScope sLdivisor) := ⟨rfl, rfl, rfl, by decide +kernel, rfl, by decide +kernel, by decide +kernel⟩
theorem gcd_fmod (a b : Int) : Int.gcd b (a.fmod b) = Int.gcd a b := by
  rw [Int.fmod_def, Int.sub_eq_add_neg, ← Int.mul_neg, Int.gcd_add_mul_left_right, Int.gcd_comm]
theorem fmod_lt {a b : Int} (h : b ≠ 0) : (a.fmod b).natAbs < b.natAbs := by
  rcases Int.lt_trichotomy b 0 with z | z | z
  · have e := Int.neg_fmod_neg (-a) b
    rw [Int.neg_neg] at e
    have h1 := Int.fmod_nonneg_of_pos (-a) (b := -b) (by omega)
    have h2 := Int.fmod_lt_of_pos (-a) (b := -b) (by omega)
    have e2 := Int.neg_fmod_neg a b
    rw [e2] at h1 h2
    omega
  · exact absurd z h
  · have h1 := Int.fmod_nonneg_of_pos a z
    have h2 := Int.fmod_lt_of_pos a z
    omega
theorem ok_div (S : Hd K mg) (F : L2.Fun K "_law_divisor" "_law_divisor" sLdivisor f fd) : FnOk P w K mg base CX0 1 f fd ["_law_one", "_law_other"] spDiv := by
  refine F.ok scDiv (fun vs H Q E h => ?_) (fun cdv A outer s H vs Q E hr h => ?_)
  · obtain ⟨p, q, rfl, _⟩ := h
    rfl
  · obtain ⟨p, q, rfl, k⟩ := h
    refine ⟨_, PSs.nox (pss_cons (ps_while PassesOwn.never (pt_cmpR op_ne (pv 1) pe_int (nomark _)) (pss_one (ps_par (i := 0) (j := 1) (by rfl) scDiv.nd rfl rfl (by decide) rfl rfl (pa_cons (pv 1) (pa_cons (pe_op op_modN (pv 0) (pv 1)) pa_nil)) (by rfl))))
      (pss_one (ps_ret (pe_callB call_abs rfl (S.free 44) (by decide +kernel) (pa_cons (pv 0) pa_nil))))), ?_⟩
    refine while_by (fun σ' H' => H' = H ∧ ∃ a b : Int, σ' = [some (.int a), some (.int b)] ∧ Int.gcd a b = Int.gcd p q) (fun σ' _ => match σ' with | [_, some (.int b)] => b.natAbs | _ => 0) ⟨rfl, p, q, rfl, rfl⟩ (fun σ' H' ⟨hH, a, b, hσ, hg⟩ => ?_) (fun σ H Q Q' h => by
      rintro ⟨v, h1, h2, r, h3, h4⟩
      exact ⟨v, h1, h2, r, h3, h _ _ h4⟩)
    subst hH hσ
    refine ⟨_, rfl, rfl, _, rfl, ?_⟩
    by_cases hb : b = 0
    · subst hb
      refine itf (by rw [decide_eq_true rfl]; rfl) ⟨_, rfl, _, rfl, ?_⟩
      rw [← hg, Int.gcd_zero] at k
      have e : (if a < 0 then -a else a) = ((a.natAbs : Nat) : Int) := by
        split <;> omega
      rw [e]
      exact k
    · refine itt (by rw [dec_int, decide_eq_false hb]; rfl) ⟨_, rfl, _, rfl, _, rfl, _, _, rfl, rfl, hb, _, _, rfl, ⟨rfl, _, _, rfl, ?_⟩, fmod_lt hb⟩
      rw [gcd_fmod, hg]
theorem pr_div (S : Hd K mg) : Pr w K mg base CX0 1 "_law_divisor" ["_law_one", "_law_other"] spDiv := by
  obtain ⟨fd, F⟩ := S.def_ 42 (d := dLdivisor)
  have F := fun_of (st := sLdivisor) F
  exact ⟨_, fd, ok_div S F, S.glo 33, F.kp, F.binds fun _ _ _ _ _ _ us hl => match us, hl with | [_, _], _ => rfl⟩
def spDue : Sp := fun vs H Q _ => ∃ p q : Int, vs = [.int p, .int q] ∧ q ≠ 0 ∧ big q ∧ ∀ t H2, Same H H2 → H2 t = some (.tup [.int (Rm.mk p q).num, .int ((Rm.mk p q).den : Int)]) → Q (.ref t) H2
theorem scDue : FnScope ["_law_top", "_law_bottom", "_law_common"] ["_law_top", "_law_bottom"] (defScope sLdue) := ⟨rfl, rfl, rfl, by decide +kernel, rfl, by decide +kernel, by decide +kernel⟩
theorem ok_due (S : Hd K mg) (F : L2.Fun K "_law_due" "_law_due" sLdue f fd) : FnOk P w K mg base CX0 2 f fd ["_law_top", "_law_bottom"] spDue := by
  obtain ⟨fD, fdD, FD, gD, kD, bD⟩ := (pr_div (w := w) (base := base) S).ex
  refine F.ok scDue (fun vs H Q E h => ?_) (fun cdv A outer s H vs Q E hr h => ?_)
  · obtain ⟨p, q, rfl, _⟩ := h
    rfl
  · obtain ⟨p, q, rfl, hq, bq, k⟩ := h
    refine ⟨_, PSs.nox (pss_cons (ps_set (i := 2) scDue.nd rfl (.inl rfl) (pe_call FD hr rfl gD kD bD .nil pass0 (pa_cons (pv 0) (pa_cons (pv 1) pa_nil))))
      (pss_cons (ps_if (pt_cmpR op_lt (pv 1) pe_int (nomark _)) (pss_one (ps_set (i := 2) scDue.nd rfl (.inl rfl) (pe_un un_neg (pv 2)))) pss_nil)
      (pss_one (ps_ret (pe_tup (pa_cons (pe_op op_fdivZ (pv 0) (pv 2)) (pa_cons (pe_op op_fdivZ (pv 1) (pv 2)) pa_nil))))))), ?_⟩
    have g9 : ∀ p2 : Int, CDivZ p2 (Rm.sh p q) := fun p2 => zdiv (b := 8001) (Rm.sh_ne hq) (sh_lt hq bq) (by decide) (by decide)
    have fin : ∀ z : Int, z = Rm.sh p q → (tRet (tTup (tCons (tOp (rI CDivZ fun i j => V.int (i.fdiv j)) (tVar 0) (tVar 2)) (tCons (tOp (rI CDivZ fun i j => V.int (i.fdiv j)) (tVar 1) (tVar 2)) tNil)))) { nx := fun _ H' => Q .non H', rt := Q } [some (.int p), some (.int q), some (.int z)] H := by
      rintro z rfl
      refine ⟨_, rfl, _, rfl, _, _, rfl, rfl, g9 p, _, rfl, _, rfl, _, _, rfl, rfl, g9 q, (by show 2 ≤ sizeLine; decide), fun t nt => ?_⟩
      refine k t _ (samu nt) ?_
      rw [upd_same, ← Rm.sh_top (p := p) hq, ← Rm.sh_bot (p := p) hq]
    refine ⟨_, rfl, _, rfl, p, q, rfl, _, rfl, _, _, rfl, rfl, _, rfl, ?_⟩
    by_cases h0 : q < 0
    · exact itt (decide_eq_true h0) ⟨_, rfl, _, rfl, fin _ (by unfold Rm.sh; rw [if_neg (by omega)])⟩
    · exact itf (decide_eq_false h0) (fin _ (by unfold Rm.sh; rw [if_pos (by omega)]))
theorem pr_due (S : Hd K mg) : Pr w K mg base CX0 2 "_law_due" ["_law_top", "_law_bottom"] spDue := by
  obtain ⟨fd, F⟩ := S.def_ 43 (d := dLdue)
  have F := fun_of (st := sLdue) F
  exact ⟨_, fd, ok_due S F, S.glo 34, F.kp, F.binds fun _ _ _ _ _ _ us hl => match us, hl with | [_, _], _ => rfl⟩
def spIs (K : PySem.W.Frag) : Sp := fun vs H Q _ => ∃ (a : Addr) (r : Rat) (p q : Int), vs = [.ref a, .int p, .int q] ∧ IsR K H a r ∧ q ≠ 0 ∧ big q ∧ ∀ H2, Same H H2 → Q (.bl (decide (r = Rm.mk p q))) H2
theorem scIs : FnScope ["_law_ratio", "_law_top", "_law_bottom"] ["_law_ratio", "_law_top", "_law_bottom"] (defScope sLis) := ⟨rfl, rfl, rfl, by decide +kernel, rfl, by decide +kernel, by decide +kernel⟩
theorem sh2 (a b : Int) : SeqAt.shaped (.tuple [.int a, .int b]) = true := rfl
theorem eqv2 (a b c d : Int) : PyData.eqv (.tuple [.int a, .int b]) (.tuple [.int c, .int d]) = decide (a = c ∧ b = d) := by
  simp [PyData.eqv, PyData.eqvAll, Bool.decide_and]
  rfl
theorem ok_is (S : Hd K mg) (F : L2.Fun K "_law_is" "_law_is" sLis f fd) : FnOk P w K mg base CX0 3 f fd ["_law_ratio", "_law_top", "_law_bottom"] (spIs K) := by
  obtain ⟨fD, fdD, FD, gD, kD, bD⟩ := (pr_due (w := w) (base := base) S).ex
  refine F.ok scIs (fun vs H Q E h => ?_) (fun cdv A outer s H vs Q E hr h => ?_)
  · obtain ⟨a, r, p, q, rfl, _⟩ := h
    rfl
  · obtain ⟨a, r, p, q, rfl, ⟨da, ea⟩, hq, bq, k⟩ := h
    have hu : (A.deeper (envOfC "_law_is" (defScope sLis) s.heap.objs.size f cdv)).units + 64 < cLine := by have := hr.un; omega
    refine ⟨_, PSs.nox (pss_one (ps_ret (pe_and (pe_callB call_isi rfl (S.free 50) (by decide +kernel) (pa_cons (pv 0) (pa_cons (pe_glob (v := .ref (cR K)) rfl (S.glo 12) rfl) pa_nil)))
      (pe_one (pe_cmpR (op_eqD hu) (pe_tup (pa_cons (pe_fld (pv 0) rfl) (pa_cons (pe_fld (pv 0) rfl) pa_nil))) (pe_call FD hr rfl gD kD bD .nil pass0 (pa_cons (pv 1) (pa_cons (pv 2) pa_nil))) (nomark _)))))), ?_⟩
    obtain ⟨t, i, o, ty, h1, h2, h3, h4, h5⟩ := S.kd_rat ⟨da, ea⟩
    refine ⟨_, rfl, _, _, t, _, true, rfl, .own _, ty, h4, true, rfl, iteT ?_⟩
    refine ⟨_, rfl, _, _, da, _, _, rfl, ea, S.cls, S.noTop, rfl, _, rfl, _, _, da, _, _, rfl, ea, S.cls, S.noBot, rfl, (by show 2 ≤ sizeLine; decide), fun u nu => ?_⟩
    refine ⟨_, rfl, _, rfl, p, q, rfl, hq, bq, fun v H2 e2 hv => ?_⟩
    refine ⟨.tuple [.int r.num, .int r.den], .tuple [.int (Rm.mk p q).num, .int (Rm.mk p q).den], .tup (SqT.of (e2 _ _ upd_same)) (.cons (.int _) (.cons (.int _) .nil)), .tup (SqT.of hv) (.cons (.int _) (.cons (.int _) .nil)), sh2 _ _, sh2 _ _, ?_⟩
    rw [eqv2]
    have e : decide (r.num = (Rm.mk p q).num ∧ (r.den : Int) = ((Rm.mk p q).den : Int)) = decide (r = Rm.mk p q) :=
      decide_eq_decide.mpr ⟨fun z => (Rm.ext_iff _ _).mpr ⟨z.1, Int.ofNat.inj z.2⟩, fun z => by rw [z]; exact ⟨rfl, rfl⟩⟩
    rw [e]
    exact k _ ((samu nu).trans e2)
theorem pr_is (S : Hd K mg) : Pr w K mg base CX0 3 "_law_is" ["_law_ratio", "_law_top", "_law_bottom"] (spIs K) := by
  obtain ⟨fd, F⟩ := S.def_ 44 (d := dLis)
  have F := fun_of (st := sLis) F
  exact ⟨_, fd, ok_is S F, S.glo 35, F.kp, F.binds fun _ _ _ _ _ _ us hl => match us, hl with | [_, _, _], _ => rfl⟩
end
end Kw
end

/-! Kw17 -/
section
set_option maxHeartbeats 4000000
set_option exponentiation.threshold 10000
/-! _law_texts_right -/
namespace Kw
open PySem PySem.Spec PyProof.Rows L2 He Er Ow
section
variable {w : World} {K : PySem.W.Frag} {mg : Str → Option Value} {base : Heap} {f : Addr} {fd : FuncData} {H H2 : Hp} {x y : V} {b c : Bool} {t : Value}
theorem s60_mk {p q : Int} (hq : q ≠ 0) (h1 : p.natAbs < 10 ^ 60) (h2 : q.natAbs < 10 ^ 60) : s60 (Rm.mk p q) := ⟨Nat.lt_of_le_of_lt (Rm.num_le p q hq) h1, Nat.lt_of_le_of_lt (Rm.den_le p q hq) h2⟩
theorem s60.bd {r : Rat} (h : s60 r) : Rm.Bd 2000 r := ⟨Nat.lt_trans h.1 (by decide : 10 ^ 60 < 2 ^ 2000), Nat.lt_trans h.2 (by decide : 10 ^ 60 < 2 ^ 2000)⟩
theorem sign_b2i (n : Int) : (if decide (0 < n) = true then (1 : Int) else 0) - (if decide (n < 0) = true then (1 : Int) else 0) = n.sign := by
  rcases Int.lt_trichotomy n 0 with h | h | h
  · rw [decide_eq_false (by omega), decide_eq_true h, Int.sign_eq_neg_one_of_neg h]; rfl
  · subst h; rfl
  · rw [decide_eq_true h, decide_eq_false (by omega), Int.sign_eq_one_of_pos h]; rfl
def spTexts (K : PySem.W.Frag) : Sp := fun vs H Q _ => ∃ (a : Addr) (p q : Int), vs = [.ref a, .int p, .int q] ∧ q ≠ 0 ∧ p.natAbs < 10 ^ 60 ∧ q.natAbs < 10 ^ 60 ∧ IsR K H a (Rm.mk p q) ∧ ∀ H2, Same H H2 → Q (.bl true) H2
theorem scTexts : FnScope ["_law_ratio", "_law_top", "_law_bottom", "_law_due_here", "_law_text_here", "_law_odd"] ["_law_ratio", "_law_top", "_law_bottom"] (defScope sLtextsuright) := ⟨rfl, rfl, rfl, by decide +kernel, rfl, by decide +kernel, by decide +kernel⟩
theorem ok_texts (S : Hd K mg) (F : L2.Fun K "_law_texts_right" "_law_texts_right" sLtextsuright f fd) : FnOk P w K mg base CX0 12 f fd ["_law_ratio", "_law_top", "_law_bottom"] (spTexts K) := by
  obtain ⟨fD, fdD, FD, gD, kD, bD⟩ := (pr_due (w := w) (base := base) S).ex
  obtain ⟨fI, fdI, FI, gI, kI, bI⟩ := (pr_is (w := w) (base := base) S).ex
  obtain ⟨fdS, FS, bS⟩ := (mr_str (w := w) (base := base) S).ex
  obtain ⟨fdR, FR, bR⟩ := (mr_repr (w := w) (base := base) S).ex
  obtain ⟨fdE, FE, bE⟩ := (mr_eq (w := w) (base := base) S).ex
  obtain ⟨fdB, FB, bB⟩ := (mr_bool (w := w) (base := base) S).ex
  obtain ⟨fdN, FN, bN⟩ := (mr_neg (w := w) (base := base) S).ex
  obtain ⟨fdA, FA, bA⟩ := (mr_abs (w := w) (base := base) S).ex
  obtain ⟨pr, gr, fdX, FX, MX, bX, _⟩ := (of_read (w := w) (base := base) S).ex
  obtain ⟨p1, g1, fd1, F1, O1, b1⟩ := (po_sgn (w := w) (base := base) S).ex
  obtain ⟨p2, g2, fd2, F2, O2, b2⟩ := (po_wh (w := w) (base := base) S).ex
  refine F.ok scTexts (fun vs H Q E h => ?_) (fun cdv A outer s H vs Q E hr h => ?_)
  · obtain ⟨a, p, q, rfl, _⟩ := h
    rfl
  · obtain ⟨a, p, q, rfl, hq, hp1, hq1, ha, k⟩ := h
    have hu : (A.deeper (envOfC "_law_texts_right" (defScope sLtextsuright) s.heap.objs.size f cdv)).units + 64 < cLine := by have := hr.un; omega
    refine ⟨_, PSs.nox (pss_cons (ps_set (i := 3) scTexts.nd rfl (.inl rfl) (pe_call FD (hr.mono (by decide)) rfl gD kD bD .nil pass0 (pa_cons (pv 1) (pa_cons (pv 2) pa_nil)))) (pss_cons (ps_set (i := 4) scTexts.nd rfl (.inl rfl) (pe_cut (pe_ifExp (pt_cmpR op_eq (pe_ix ix_tup (pv 3) pe_int (fun _ _ => rfl)) pe_int (nomark _)) (pe_callTy call_str_int rfl (S.free 57) (by decide +kernel) (pa_cons (pe_ix ix_tup (pv 3) pe_int (fun _ _ => rfl)) pa_nil)) (pe_op op_add_str (pe_op op_add_str (pe_callTy call_str_int rfl (S.free 57) (by decide +kernel) (pa_cons (pe_ix ix_tup (pv 3) pe_int (fun _ _ => rfl)) pa_nil)) pe_str) (pe_callTy call_str_int rfl (S.free 57) (by decide +kernel) (pa_cons (pe_ix ix_tup (pv 3) pe_int (fun _ _ => rfl)) pa_nil)))))) (pss_cons (ps_if (pt_cut (PW.pt (pw_or (pt_cmpR op_ne (pe_callTy (str_own S.mc_str FS (hr.mono (by decide)) bS) rfl (S.free 57) (by decide +kernel) (pa_cons (pv 0) pa_nil)) (pv 4) (nomark _)) (pw_or (pt_cmpR op_ne (pe_callB (Ow.repr_own S.mc_repr FR (hr.mono (by decide)) bR) rfl (S.free 55) (by decide +kernel) (pa_cons (pv 0) pa_nil)) (pv 4) (nomark _)) (pw_or (pt_not (pt_cmpR (eq_own S.mc_eq FE (hr.mono (by decide)) bE) (pe_stat (pe_glob (v := .ref (cR K)) rfl (S.glo 12) rfl) MX FX (hr.mono (by decide)) bX (pa_cons (pv 4) pa_nil)) (pv 0) (nomark _))) (pw_or1 (pt_not (pt_val (pe_call FI (hr.mono (by decide)) rfl gI kI bI .nil pass0 (pa_cons (pe_stat (pe_glob (v := .ref (cR K)) rfl (S.glo 12) rfl) MX FX (hr.mono (by decide)) bX (pa_cons (pv 4) pa_nil)) (pa_cons (pv 1) (pa_cons (pv 2) pa_nil)))))))))))) (pss_one (ps_ret pe_bl)) pss_nil) (pss_cons (ps_if (pt_cut (PW.pt (pw_or (pt_cmpR op_ne (pe_prop (pv 0) S.cls O1 F1 (hr.mono (by decide)) b1 .nil pass0 rfl) (pe_op op_sub (pe_callTy call_int1 rfl (S.free 49) (by decide +kernel) (pa_cons (pe_cmpR op_gt (pe_ix ix_tup (pv 3) pe_int (fun _ _ => rfl)) pe_int (nomark _)) pa_nil)) (pe_callTy call_int1 rfl (S.free 49) (by decide +kernel) (pa_cons (pe_cmpR op_lt (pe_ix ix_tup (pv 3) pe_int (fun _ _ => rfl)) pe_int (nomark _)) pa_nil))) (nomark _)) (pw_or (pt_cmpR op_ne (pe_prop (pv 0) S.cls O2 F2 (hr.mono (by decide)) b2 .nil pass0 rfl) (pe_cmpR op_eq (pe_ix ix_tup (pv 3) pe_int (fun _ _ => rfl)) pe_int (nomark _)) (nomark _)) (pw_or1 (pt_cmpR op_ne (pe_callTy (call_bool_own S.mc_bool FB (hr.mono (by decide)) bB) rfl (S.free 46) (by decide +kernel) (pa_cons (pv 0) pa_nil)) (pe_cmpR op_ne (pe_ix ix_tup (pv 3) pe_int (fun _ _ => rfl)) pe_int (nomark _)) (nomark _))))))) (pss_one (ps_ret pe_bl)) pss_nil) (pss_cons (ps_if (pt_cut (PW.pt (pw_or (pt_cmpR op_ne (pe_cmpR (eq_own S.mc_eq FE (hr.mono (by decide)) bE) (pv 0) (pe_ix ix_tup (pv 3) pe_int (fun _ _ => rfl)) (nomark _)) (pe_cmpR op_eq (pe_ix ix_tup (pv 3) pe_int (fun _ _ => rfl)) pe_int (nomark _)) (nomark _)) (pw_or1 (pt_cmpR (op_neD hu) (pe_lc (own := [("_law_odd", 5)]) (g := gName 5) (by rfl) scTexts.nd (pi_list (pe_lst (pa_cons (pv 4) (pa_cons pe_non (pa_cons (pe_lst (pa_cons (pe_ix ix_tup (pv 3) pe_int (fun _ _ => rfl)) pa_nil)) (pa_cons (pe_cmpR op_eq (pe_ix ix_tup (pv 3) pe_int (fun _ _ => rfl)) pe_int (nomark _)) pa_nil)))))) (blkOk_by (own := [("_law_odd", 5)]) (N := ["_law_ratio", "_law_top", "_law_bottom", "_law_due_here", "_law_text_here", "_law_odd"]) (sc := defScope sLtextsuright) (by decide +kernel)) (fun _ _ _ _ _ => pg_name (i := 5) scTexts.nd rfl (Or.inl rfl)) (fun _ _ _ _ _ => pts_one (pt_cmpR (show OpR _ (compareOp .Eq) (rCmpOwn K (cR K) (spEq K)) from eq_own S.mc_eq FE (hr.mono (by decide)) bE) (pv 0) (pv 5) (nomark _))) (fun _ _ _ _ _ => (pv 5))) (pe_lst pa_nil) (nomark _)))))) (pss_one (ps_ret pe_bl)) pss_nil) (pss_one (ps_ret (pe_and (pe_call FI (hr.mono (by decide)) rfl gI kI bI .nil pass0 (pa_cons (pe_un (un_own S.mc_neg FN (hr.mono (by decide)) bN) (pv 0)) (pa_cons (pe_un un_neg (pv 1)) (pa_cons (pv 2) pa_nil)))) (pe_one (pe_call FI (hr.mono (by decide)) rfl gI kI bI .nil pass0 (pa_cons (pe_callB (abs_own S.mc_abs FA (hr.mono (by decide)) bA) rfl (S.free 44) (by decide +kernel) (pa_cons (pv 0) pa_nil)) (pa_cons (pe_callB call_abs rfl (S.free 44) (by decide +kernel) (pa_cons (pv 1) pa_nil)) (pa_cons (pe_callB call_abs rfl (S.free 44) (by decide +kernel) (pa_cons (pv 2) pa_nil)) pa_nil))))))))))))), ?_⟩
    have bq : big q := s60.big hq1
    have hs := s60_mk hq hp1 hq1
    refine ⟨_, rfl, _, rfl, p, q, rfl, hq, bq, fun td H1 e1 hd => ?_⟩
    have ha1 := ha.same e1
    have k1 : ∀ H2, Same H1 H2 → Q (.bl true) H2 := fun H2 e2 => k H2 (e1.trans e2)
    have fN : -Rm.mk p q = Rm.mk (-p) q := Rm.neg_mk2 p q
    have fA : absr (Rm.mk p q) = Rm.mk (if p < 0 then -p else p) (if q < 0 then -q else q) := Rm.abs_mk hq
    clear k ha
    generalize hrr : Rm.mk p q = r at *
    have hn := hs.sm.1
    have hdn : ((r.den : Int)).natAbs < 10 ^ 64 := by rw [Int.natAbs_natCast]; exact hs.sm.2
    have ty := S.kd_rat ha1
    have tdx : ∀ {H2 : Hp}, Same H1 H2 → SqT K H2 td [.int r.num, .int r.den] := fun e => SqT.of (e _ _ hd)
    refine ⟨fun v H2 => v = .str (txr r) ∧ H2 = H1, ?_, ?_⟩
    · refine ⟨_, rfl, td, _, _, _, rfl, rfl, SqT.of hd, rfl, rfl, _, rfl, ?_⟩
      by_cases h0 : r.den = 1
      · refine itt (by rw [dec_int, h0]; rfl) ⟨_, rfl, td, _, _, _, rfl, rfl, SqT.of hd, rfl, _, rfl, log64 hn, ?_, rfl⟩
        rw [show txr r = Str.ofString (toString r.num) by unfold txr; rw [if_pos h0]; rfl]
      · refine itf (by rw [dec_int]; exact decide_eq_false fun z => h0 (Int.ofNat.inj z)) ⟨_, rfl, td, _, _, _, rfl, rfl, SqT.of hd, rfl, _, rfl, log64 hn, _, _, rfl, rfl, fits ?_, _, rfl, td, _, _, _, rfl, rfl, SqT.of hd, rfl, _, rfl, log64 hdn, _, _, rfl, rfl, fits ?_, ?_, rfl⟩
        · exact Nat.le_trans (Nat.add_le_add_right (len_tx hn) _) (by decide)
        · rw [PySem.Str.length_append]
          exact Nat.le_trans (Nat.add_le_add (Nat.add_le_add_right (len_tx hn) _) (len_tx hdn)) (by decide)
        · rw [show txr r = Str.ofString (toString r.num) ++ Str.ofString "/" ++ Str.ofString (toString (r.den : Int)) by unfold txr; rw [if_neg h0]; rfl]
    rintro _ Hx ⟨rfl, hx⟩
    rw [hx]
    clear hx
    obtain ⟨da, ea⟩ := id ha1
    have kd := S.kd_rat ha1
    have tyA : ∀ {H2 : Hp}, Same H1 H2 → ∃ t, TyX K H2 (.ref a) t ∧ PySem.W.notFirst K (cR K) t = true := fun e => (S.kd_rat (ha1.same e)).ty
    have nn : ∀ v : V, (!decide (v = v)) = false := fun v => by rw [decide_eq_true rfl]; rfl
    refine ⟨fun b H2 => b = false ∧ Same H1 H2, ?_, ?_⟩
    · refine ⟨_, rfl, a, da, _, rfl, ea, a, r, rfl, ⟨da, ea⟩, hs.sm, _, rfl, _, rfl, rfl, _, rfl, itf (nn _) ?_⟩
      refine ⟨_, rfl, a, da, _, rfl, ea, a, r, rfl, ⟨da, ea⟩, hs.sm, _, rfl, _, rfl, rfl, _, rfl, itf (nn _) ?_⟩
      refine ⟨rfl, _, rfl, r, rfl, hs, fun b H2 e2 hb => ?_⟩
      obtain ⟨db, eb⟩ := id hb
      obtain ⟨t, ty, nf⟩ := tyA e2
      refine ⟨_, rfl, b, db, _, t, rfl, eb, ty, nf, b, .ref a, r, rfl, hb, .inl ⟨r, .inl ⟨a, rfl, ha1.same e2⟩, _, rfl, itf (by rw [decide_eq_true rfl]; rfl) ?_⟩⟩
      refine ⟨rfl, _, rfl, r, rfl, hs, fun c H3 e3 hc => ?_⟩
      refine ⟨_, rfl, _, rfl, c, r, p, q, rfl, hc, hq, bq, fun H4 e4 => ⟨_, rfl, ?_, e2.trans (e3.trans e4)⟩⟩
      rw [hrr, decide_eq_true rfl]
      rfl
    rintro _ H2 ⟨rfl, e2⟩
    refine iteF ?_
    have ea2 := e2 _ _ ea
    refine ⟨fun b H3 => b = false ∧ Same H2 H3, ?_, ?_⟩
    · refine ⟨_, rfl, a, da, _, rfl, ea2, a, r, rfl, ⟨da, ea2⟩, ?_⟩
      refine ⟨_, rfl, td, _, _, _, rfl, rfl, tdx e2, rfl, _, _, rfl, rfl, .inr ⟨_, rfl, _, rfl, td, _, _, _, rfl, rfl, tdx e2, rfl, _, _, rfl, rfl, .inr ⟨_, rfl, _, _, rfl, rfl, rfl, _, rfl, ?_⟩⟩⟩
      have es := sign_b2i r.num
      refine itf (by show (!decide (V.int r.num.sign = V.int ((if decide (0 < r.num) = true then (1 : Int) else 0) - (if decide (r.num < 0) = true then 1 else 0)))) = false; rw [es]; exact nn _) ?_
      refine ⟨_, rfl, a, da, _, rfl, ea2, a, r, rfl, ⟨da, ea2⟩, ?_⟩
      refine ⟨_, rfl, td, _, _, _, rfl, rfl, tdx e2, rfl, rfl, rfl, _, rfl, ?_⟩
      have ew : decide (V.int (r.den : Int) = V.int 1) = decide (r.den = 1) := by
        rw [dec_int]
        exact decide_eq_decide.mpr ⟨fun z => Int.ofNat.inj z, fun z => by rw [z]; rfl⟩
      refine itf (by rw [ew]; exact nn _) ?_
      refine ⟨_, rfl, a, da, _, rfl, ea2, a, r, rfl, ⟨da, ea2⟩, _, rfl, ?_⟩
      refine ⟨_, rfl, td, _, _, _, rfl, rfl, tdx e2, rfl, rfl, rfl, _, rfl, ?_, Same.refl _⟩
      have eb : (r.num != 0) = !decide (V.int r.num = V.int 0) := by
        rw [dec_int]
        rfl
      rw [eb]
      exact nn _
    rintro _ H3 ⟨rfl, e3⟩
    refine iteF ?_
    have e13 := e2.trans e3
    have ea3 := e13 _ _ ea
    refine ⟨fun b H4 => b = false ∧ Same H3 H4, ?_, ?_⟩
    · obtain ⟨_, nf, _⟩ := S.isiT (n := "int") (by simp [isiN])
      refine ⟨_, rfl, _, rfl, td, _, _, _, rfl, rfl, tdx e13, rfl, a, da, _, _, rfl, ea3, .base (.int _), nf, a, _, r, rfl, ⟨da, ea3⟩, .inl ⟨(r.num : Rat), .inr ⟨r.num, rfl, rfl⟩, ?_⟩⟩
      refine ⟨_, rfl, td, _, _, _, rfl, rfl, tdx e13, rfl, rfl, rfl, _, rfl, ?_⟩
      have ew : decide (V.int (r.den : Int) = V.int 1) = decide (r = (r.num : Rat)) := by
        rw [dec_int]
        exact decide_eq_decide.mpr ⟨fun z => (Rm.ext_iff _ _).mpr ⟨by rw [Rat.num_intCast], by rw [Rat.den_intCast]; exact Int.ofNat.inj z⟩, fun z => by rw [z, Rat.den_intCast]; rfl⟩
      refine itf (by rw [ew]; exact nn _) ?_
      refine ⟨_, rfl, _, rfl, td, _, _, _, rfl, rfl, tdx e13, rfl, (by show 1 ≤ sizeLine; decide), fun l nl => ?_⟩
      have el := samu (o := .lst [.int r.num]) nl
      have kl : Kd K (upd H3 l (.lst [.int r.num])) (.ref l) false false := S.kd_lst upd_same
      refine ⟨_, rfl, td, _, _, _, rfl, rfl, tdx (e13.trans el), rfl, rfl, (by show 4 ≤ sizeLine; decide), fun u nu => ?_⟩
      have eu := samu (o := .lst [.str (txr r), .non, .ref l, .bl (decide (V.int r.num = V.int 1))]) nu
      generalize hHl : upd H3 l (.lst [.int r.num]) = Hl at *
      refine ⟨u, rfl, ⟨_, SqL.of upd_same⟩, fun D hD => ?_⟩
      refine lc_list (a := u) (xs := [.str (txr r), .non, .ref l, .bl (decide (V.int r.num = V.int 1))]) (fun i H5 => H5 D = some (.lst []) ∧ Same (upd Hl u (.lst [.str (txr r), .non, .ref l, .bl (decide (V.int r.num = V.int 1))])) H5) ⟨upd_same, samu hD⟩ (fun i H5 _ ⟨_, e⟩ => SqL.of (e _ _ upd_same)) (fun i v H5 hv ⟨h1, e5⟩ => ?_) (fun H5 ⟨h1, e5⟩ => ?_)
      · have odd : Kd K H5 v false false := by
          match i, hv with
          | 0, hv => cases hv; exact S.kd_str
          | 1, hv => cases hv; exact S.kd_non
          | 2, hv => cases hv; exact kl.same (eu.trans e5)
          | 3, hv => cases hv; exact S.kd_bl
          | n + 4, hv => simp at hv
        obtain ⟨t, ty, nf⟩ := odd.ty
        have ea5 : H5 a = some (.ins (cR K) da (rfs r)) := e5 _ _ (eu _ _ (el _ _ ea3))
        refine ⟨rfl, ?_⟩
        exact ⟨_, rfl, _, rfl, a, da, _, t, rfl, ea5, ty, nf, a, v, r, rfl, ⟨da, ea5⟩, .inr ⟨odd, _, rfl, iteF ⟨h1, e5⟩⟩⟩
      · refine ⟨(by show 0 ≤ sizeLine; decide), fun z nz => ?_⟩
        refine ⟨.list [], .list [], .lst (SqL.of ((samu nz) _ _ h1)) .nil, .lst (SqL.of upd_same) .nil, rfl, rfl, _, rfl, rfl, ?_⟩
        exact el.trans (eu.trans (e5.trans (samu nz)))
    rintro _ H4 ⟨rfl, e4⟩
    refine iteF ?_
    have e14 := e13.trans e4
    have ea4 := e14 _ _ ea
    refine ⟨_, rfl, a, da, _, rfl, ea4, a, r, rfl, ⟨da, ea4⟩, hs.bd, fun b H5 e5 hb => ?_⟩
    refine ⟨_, rfl, _, rfl, _, rfl, b, _, -p, q, rfl, hb, hq, bq, fun H6 e6 => ?_⟩
    refine ⟨_, rfl, itt (decide_eq_true fN) ?_⟩
    have e46 := e5.trans e6
    refine ⟨_, rfl, a, da, _, rfl, e46 _ _ ea4, a, r, rfl, ⟨da, e46 _ _ ea4⟩, hs.bd, fun c H7 e7 hc => ?_⟩
    refine ⟨_, rfl, _, rfl, _, rfl, _, rfl, c, _, _, _, rfl, hc, ?_, ?_, fun H8 e8 => ?_⟩
    · split <;> omega
    · split
      · exact s60.big (by rw [Int.natAbs_neg]; exact hq1)
      · exact bq
    · rw [decide_eq_true fA]
      exact k1 _ (e14.trans (e46.trans (e7.trans e8)))
theorem pr_texts (S : Hd K mg) : Pr w K mg base CX0 12 "_law_texts_right" ["_law_ratio", "_law_top", "_law_bottom"] (spTexts K) := by
  obtain ⟨fd, F⟩ := S.def_ 45 (d := dLtextsuright)
  have F := fun_of (st := sLtextsuright) F
  exact ⟨_, fd, ok_texts S F, S.glo 36, F.kp, F.binds fun _ _ _ _ _ _ us hl => match us, hl with | [_, _, _], _ => rfl⟩
end
end Kw
end

/-! Kw18 -/
section
set_option maxHeartbeats 4000000
set_option exponentiation.threshold 10000
/-! _law_sums_right -/
namespace Kw
open PySem PySem.Spec PyProof.Rows L2 He Er Ow
section
variable {w : World} {K : PySem.W.Frag} {mg : Str → Option Value} {base : Heap} {f : Addr} {fd : FuncData} {H H2 : Hp} {x y : V} {b c : Bool} {t : Value} {a : Addr} {r s : Rat} {Q : VK}
theorem own_add (S : Hd K mg) (ha : IsR K H a r) (hy : RV K H y s) (br : Rm.Bd 2000 r) (bs : Rm.Bd 2000 s) (k : NewR K H Q (r + s)) : rOwn K (cR K) .Add (fun vs H Q _ => spOp K (fun r s => r + s) vs H Q E0) E0 (.ref a) y H Q := by
  obtain ⟨da, ea⟩ := ha
  obtain ⟨t, ty, ht⟩ := S.tyRV hy
  exact ⟨a, da, _, t, rfl, ea, ty, S.meek (op := .Add) (by simp [dunN, Operator.info]) ht, a, y, r, rfl, ⟨da, ea⟩, br, .inl ⟨s, hy, bs, k⟩⟩
theorem own_sub (S : Hd K mg) (ha : IsR K H a r) (hy : RV K H y s) (br : Rm.Bd 2000 r) (bs : Rm.Bd 2000 s) (k : NewR K H Q (r - s)) : rOwn K (cR K) .Sub (fun vs H Q _ => spOp K (fun r s => r - s) vs H Q E0) E0 (.ref a) y H Q := by
  obtain ⟨da, ea⟩ := ha
  obtain ⟨t, ty, ht⟩ := S.tyRV hy
  exact ⟨a, da, _, t, rfl, ea, ty, S.meek (op := .Sub) (by simp [dunN, Operator.info]) ht, a, y, r, rfl, ⟨da, ea⟩, br, .inl ⟨s, hy, bs, k⟩⟩
theorem own_mul (S : Hd K mg) (ha : IsR K H a r) (hy : RV K H y s) (br : Rm.Bd 2000 r) (bs : Rm.Bd 2000 s) (k : NewR K H Q (r * s)) : rOwn K (cR K) .Mult (fun vs H Q _ => spOp K (fun r s => r * s) vs H Q E0) E0 (.ref a) y H Q := by
  obtain ⟨da, ea⟩ := ha
  obtain ⟨t, ty, ht⟩ := S.tyRV hy
  exact ⟨a, da, _, t, rfl, ea, ty, S.meek (op := .Mult) (by simp [dunN, Operator.info]) ht, a, y, r, rfl, ⟨da, ea⟩, br, .inl ⟨s, hy, bs, k⟩⟩
theorem rv_nf (S : Hd K mg) (hy : RV K H y s) : ∃ t, TyX K H y t ∧ PySem.W.notFirst K (cR K) t = true := by
  rcases hy with ⟨a, rfl, h⟩ | ⟨n, rfl, _⟩
  · exact (S.kd_rat h).ty
  · exact (S.kd_int (n := n)).ty
theorem own_eq (S : Hd K mg) (ha : IsR K H a r) (hy : RV K H y s) (k : Q (.bl (decide (r = s))) H) : rCmpOwn K (cR K) (spEq K) (.ref a) y H Q := by
  obtain ⟨da, ea⟩ := ha
  obtain ⟨t, ty, nf⟩ := rv_nf S hy
  exact ⟨a, da, _, t, rfl, ea, ty, nf, a, y, r, rfl, ⟨da, ea⟩, .inl ⟨s, hy, k⟩⟩
theorem RV.of (h : IsR K H a r) : RV K H (.ref a) r := .inl ⟨a, rfl, h⟩
/-- a drawn pair -/
def Pq (p q : Int) : Prop := q ≠ 0 ∧ p.natAbs < 10 ^ 26 ∧ q.natAbs < 10 ^ 26
theorem lt500 {n : Int} {k : Nat} (h : n.natAbs < 10 ^ k) (hk : 10 ^ k ≤ 2 ^ 500) : n.natAbs < 2 ^ 500 := Nat.lt_of_lt_of_le h hk
theorem Pq.p {p q : Int} (h : Pq p q) : p.natAbs < 2 ^ 100 := Nat.lt_trans h.2.1 (by decide : 10 ^ 26 < 2 ^ 100)
theorem Pq.q {p q : Int} (h : Pq p q) : q.natAbs < 2 ^ 100 := Nat.lt_trans h.2.2 (by decide : 10 ^ 26 < 2 ^ 100)
theorem up {n : Int} {j k : Nat} (h : n.natAbs < 2 ^ j) (l : j ≤ k) : n.natAbs < 2 ^ k := Nat.lt_of_lt_of_le h (Nat.pow_le_pow_right (by decide) l)
theorem Pq.bd {p q : Int} (h : Pq p q) : Rm.Bd 2000 (Rm.mk p q) := Rm.bd_mk h.1 (up h.p (by decide)) (up h.q (by decide))
theorem big_up {n : Int} {j : Nat} (h : n.natAbs < 2 ^ j) (l : j ≤ 8000) : big n := up h l
theorem add_mk2 {p q u v : Int} (hq : q ≠ 0) (hv : v ≠ 0) : Rm.mk p q + Rm.mk u v = Rm.mk (p * v + u * q) (q * v) := Rat.divInt_add_divInt p u hq hv
theorem sub_mk2 {p q u v : Int} (hq : q ≠ 0) (hv : v ≠ 0) : Rm.mk p q - Rm.mk u v = Rm.mk (p * v - u * q) (q * v) := Rat.divInt_sub_divInt p u hq hv
theorem mul_mk2 (p q u v : Int) : Rm.mk p q * Rm.mk u v = Rm.mk (p * u) (q * v) := Rat.divInt_mul_divInt p u
theorem div_mk2 (p q u v : Int) : Rm.mk p q / Rm.mk u v = Rm.mk (p * v) (q * u) := by
  rw [Rat.div_def, Rat.inv_divInt]
  exact Rat.divInt_mul_divInt p v
theorem mk_ne0 {p q : Int} (hq : q ≠ 0) (h : p ≠ 0) : Rm.mk p q ≠ 0 := by
  intro z
  have c := Rm.cross (p := p) hq
  rw [z] at c
  have e : p * 1 = 0 * q := c
  rw [Int.zero_mul, Int.mul_one] at e
  exact h e
theorem cmp_self (r : Rat) : Rm.cmp r r = 0 := (Rm.cmp_zero r r).mpr rfl
theorem ext2 (g : Int) (hg : g ≠ 0) (r s : Rat) : ext g [r, s] = if Rm.cmp r s = -g then s else r := by
  show stp g (stp g r r) s = _
  have e : stp g r r = r := by
    unfold stp
    rw [cmp_self, if_neg (by omega)]
  rw [e]
  rfl
theorem bd0' : Rm.Bd 2000 0 := ⟨by show (0 : Int).natAbs < _; decide, by show 1 < _; decide⟩
def spEnds (K : PySem.W.Frag) : Sp := fun vs H Q _ => ∃ (ta tb a : Addr) (y : V) (p q u v : Int), vs = [.ref ta, .ref tb, .ref a, y] ∧ H ta = some (.tup [.int p, .int q]) ∧ H tb = some (.tup [.int u, .int v]) ∧ Pq p q ∧ Pq u v ∧ IsR K H a (Rm.mk p q) ∧ RV K H y (Rm.mk u v) ∧ ∀ H2, Same H H2 → Q (.bl true) H2
theorem scSums : FnScope ["_law_a", "_law_b", "_law_one", "_law_other", "_law_apart", "_law_least", "_law_greatest"] ["_law_a", "_law_b", "_law_one", "_law_other"] (defScope sLsumsuright) := ⟨rfl, rfl, rfl, by decide +kernel, rfl, by decide +kernel, by decide +kernel⟩
theorem ok_sums (S : Hd K mg) (PN : Pr w K mg base CX0 14 "_law_ends_right" ["_law_a", "_law_b", "_law_one", "_law_other"] (spEnds K)) (F : L2.Fun K "_law_sums_right" "_law_sums_right" sLsumsuright f fd) : FnOk P w K mg base CX0 15 f fd ["_law_a", "_law_b", "_law_one", "_law_other"] (spEnds K) := by
  obtain ⟨fI, fdI, FI, gI, kI, bI⟩ := (pr_is (w := w) (base := base) S).ex
  obtain ⟨fL, fdL, FL, gL, kL, bL⟩ := (pr_least (w := w) (base := base) S).quiet.ex
  obtain ⟨fG, fdG, FG, gG, kG, bG⟩ := (pr_great (w := w) (base := base) S).quiet.ex
  obtain ⟨fD, fdD, FD, gD, kD, bD⟩ := (pr_added (w := w) (base := base) S).quiet.ex
  obtain ⟨fN, fdN, FN, gN, kN, bN⟩ := PN.ex
  obtain ⟨fdE, FE, bE⟩ := (mr_eq (w := w) (base := base) S).ex
  obtain ⟨fdA, FAdd, bAdd⟩ := (mr_add (w := w) (base := base) S).quiet.ex
  obtain ⟨fdS, FSub, bSub⟩ := (mr_sub (w := w) (base := base) S).quiet.ex
  obtain ⟨fdM, FMult, bMult⟩ := (mr_mul (w := w) (base := base) S).quiet.ex
  obtain ⟨fdO, FO, bO⟩ := (mr_over (w := w) (base := base) S).quiet.ex
  obtain ⟨fdC, FC, bC⟩ := (mr_comp (w := w) (base := base) S).quiet.ex
  obtain ⟨fdB, FB, bB⟩ := (mr_below (w := w) (base := base) S).quiet.ex
  refine F.ok scSums (fun vs H Q E h => ?_) (fun cdv A outer s H vs Q E hr h => ?_)
  · obtain ⟨ta, tb, a, y, p, q, u, v, rfl, _⟩ := h
    rfl
  · obtain ⟨ta, tb, a, y, p, q, u, v, rfl, hta, htb, pq, uv, ha, hy, k⟩ := h
    refine ⟨_, PSs.nox (pss_cons (ps_if (pt_cut (pt_not (pt_val (pe_call FI (hr.mono (by decide)) rfl gI kI bI .nil pass0 (pa_cons (pe_op (op_own (E := E0) S.op_add (S.noR (op := .Add) (by simp [dunN, Operator.info])) FAdd (hr.mono (by decide)) bAdd pass0) (pv 2) (pv 3)) (pa_cons (pe_op op_add (pe_op op_mulW (pe_ix ix_tup (pv 0) pe_int (fun _ _ => rfl)) (pe_ix ix_tup (pv 1) pe_int (fun _ _ => rfl))) (pe_op op_mulW (pe_ix ix_tup (pv 1) pe_int (fun _ _ => rfl)) (pe_ix ix_tup (pv 0) pe_int (fun _ _ => rfl)))) (pa_cons (pe_op op_mulW (pe_ix ix_tup (pv 0) pe_int (fun _ _ => rfl)) (pe_ix ix_tup (pv 1) pe_int (fun _ _ => rfl))) pa_nil))))))) (pss_one (ps_ret pe_bl)) pss_nil) (pss_cons (ps_if (pt_cut (PW.pt (pw_or (pt_not (pt_val (pe_call FI (hr.mono (by decide)) rfl gI kI bI .nil pass0 (pa_cons (pe_op (op_own (E := E0) S.op_sub (S.noR (op := .Sub) (by simp [dunN, Operator.info])) FSub (hr.mono (by decide)) bSub pass0) (pv 2) (pv 3)) (pa_cons (pe_op op_sub (pe_op op_mulW (pe_ix ix_tup (pv 0) pe_int (fun _ _ => rfl)) (pe_ix ix_tup (pv 1) pe_int (fun _ _ => rfl))) (pe_op op_mulW (pe_ix ix_tup (pv 1) pe_int (fun _ _ => rfl)) (pe_ix ix_tup (pv 0) pe_int (fun _ _ => rfl)))) (pa_cons (pe_op op_mulW (pe_ix ix_tup (pv 0) pe_int (fun _ _ => rfl)) (pe_ix ix_tup (pv 1) pe_int (fun _ _ => rfl))) pa_nil)))))) (pw_or1 (pt_not (pt_val (pe_call FI (hr.mono (by decide)) rfl gI kI bI .nil pass0 (pa_cons (pe_op (op_own (E := E0) S.op_mul (S.noR (op := .Mult) (by simp [dunN, Operator.info])) FMult (hr.mono (by decide)) bMult pass0) (pv 2) (pv 3)) (pa_cons (pe_op op_mulW (pe_ix ix_tup (pv 0) pe_int (fun _ _ => rfl)) (pe_ix ix_tup (pv 1) pe_int (fun _ _ => rfl))) (pa_cons (pe_op op_mulW (pe_ix ix_tup (pv 0) pe_int (fun _ _ => rfl)) (pe_ix ix_tup (pv 1) pe_int (fun _ _ => rfl))) pa_nil)))))))))) (pss_one (ps_ret pe_bl)) pss_nil) (pss_cons (ps_if (pt_cut (PW.pt (pw_and (pt_cmpR op_ne (pe_ix ix_tup (pv 1) pe_int (fun _ _ => rfl)) pe_int (nomark _)) (pw_and1 (pt_not (pt_val (pe_call FI (hr.mono (by decide)) rfl gI kI bI .nil pass0 (pa_cons (pe_meth (pv 2) S.cls S.me_over FO (hr.mono (by decide)) bO .nil pass0 (pa_cons (pv 3) pa_nil)) (pa_cons (pe_op op_mulW (pe_ix ix_tup (pv 0) pe_int (fun _ _ => rfl)) (pe_ix ix_tup (pv 1) pe_int (fun _ _ => rfl))) (pa_cons (pe_op op_mulW (pe_ix ix_tup (pv 0) pe_int (fun _ _ => rfl)) (pe_ix ix_tup (pv 1) pe_int (fun _ _ => rfl))) pa_nil)))))))))) (pss_one (ps_ret pe_bl)) pss_nil) (pss_cons (ps_set (i := 4) scSums.nd rfl (.inl rfl) (pe_op op_mulW (pe_op op_sub (pe_op op_mulW (pe_ix ix_tup (pv 0) pe_int (fun _ _ => rfl)) (pe_ix ix_tup (pv 1) pe_int (fun _ _ => rfl))) (pe_op op_mulW (pe_ix ix_tup (pv 1) pe_int (fun _ _ => rfl)) (pe_ix ix_tup (pv 0) pe_int (fun _ _ => rfl)))) (pe_op op_mulW (pe_ix ix_tup (pv 0) pe_int (fun _ _ => rfl)) (pe_ix ix_tup (pv 1) pe_int (fun _ _ => rfl))))) (pss_cons (ps_if (pt_cut (PW.pt (pw_or (pt_cmpR op_ne (pe_meth (pv 2) S.cls S.me_compared FC (hr.mono (by decide)) bC .nil pass0 (pa_cons (pv 3) pa_nil)) (pe_op op_sub (pe_callTy call_int1 rfl (S.free 49) (by decide +kernel) (pa_cons (pe_cmpR op_gt (pv 4) pe_int (nomark _)) pa_nil)) (pe_callTy call_int1 rfl (S.free 49) (by decide +kernel) (pa_cons (pe_cmpR op_lt (pv 4) pe_int (nomark _)) pa_nil))) (nomark _)) (pw_or1 (pt_cmpR op_ne (pe_meth (pv 2) S.cls S.me_is_below FB (hr.mono (by decide)) bB .nil pass0 (pa_cons (pv 3) pa_nil)) (pe_cmpR op_lt (pv 4) pe_int (nomark _)) (nomark _)))))) (pss_one (ps_ret pe_bl)) pss_nil) (pss_cons (ps_if (pt_cut (pt_cmpR op_ne (pe_cmpR (eq_own S.mc_eq FE (hr.mono (by decide)) bE) (pv 2) (pv 3) (nomark _)) (pe_cmpR op_eq (pv 4) pe_int (nomark _)) (nomark _))) (pss_one (ps_ret pe_bl)) pss_nil) (pss_cons (ps_asg (pe_cut (pe_ifExp (pt_cmpR op_le (pv 4) pe_int (nomark _)) (pe_tup (pa_cons (pv 2) (pa_cons (pv 3) pa_nil))) (pe_tup (pa_cons (pv 3) (pa_cons (pv 2) pa_nil))))) (pg_tup rfl (pgs_cons (pg_name (i := 5) scSums.nd rfl (.inl rfl)) (pgs_cons (pg_name (i := 6) scSums.nd rfl (.inl rfl)) pgs_nil)))) (pss_cons (ps_if (pt_cut (PW.pt (pw_or (pt_not (pt_cmpR (eq_own S.mc_eq FE (hr.mono (by decide)) bE) (pe_call FL (hr.mono (by decide)) rfl gL kL bL .nil pass0 (pa_cons (pe_lst (pa_cons (pv 2) (pa_cons (pv 3) pa_nil))) pa_nil)) (pv 5) (nomark _))) (pw_or1 (pt_not (pt_cmpR (eq_own S.mc_eq FE (hr.mono (by decide)) bE) (pe_call FG (hr.mono (by decide)) rfl gG kG bG .nil pass0 (pa_cons (pe_tup (pa_cons (pv 2) (pa_cons (pv 3) pa_nil))) pa_nil)) (pv 6) (nomark _))))))) (pss_one (ps_ret pe_bl)) pss_nil) (pss_one (ps_ret (pe_and (pe_cmpR (eq_own S.mc_eq FE (hr.mono (by decide)) bE) (pe_call FD (hr.mono (by decide)) rfl gD kD bD .nil pass0 (pa_cons (pe_lst (pa_cons (pv 2) (pa_cons (pv 3) (pa_cons (pv 2) pa_nil)))) pa_nil)) (pe_op (op_own (E := E0) S.op_add (S.noR (op := .Add) (by simp [dunN, Operator.info])) FAdd (hr.mono (by decide)) bAdd pass0) (pe_op (op_own (E := E0) S.op_add (S.noR (op := .Add) (by simp [dunN, Operator.info])) FAdd (hr.mono (by decide)) bAdd pass0) (pv 2) (pv 3)) (pv 2)) (nomark _)) (pe_one (pe_call FN (hr.mono (by decide)) rfl gN kN bN .nil pass0 (pa_cons (pv 0) (pa_cons (pv 1) (pa_cons (pv 2) (pa_cons (pv 3) pa_nil))))))))))))))))), ?_⟩
    obtain ⟨da, ea⟩ := id ha
    have br := pq.bd
    have bs := uv.bd
    have tA : ∀ {H2 : Hp}, Same H H2 → SqT K H2 ta [.int p, .int q] := fun e => SqT.of (e _ _ hta)
    have tB : ∀ {H2 : Hp}, Same H H2 → SqT K H2 tb [.int u, .int v] := fun e => SqT.of (e _ _ htb)
    have hp := up pq.p (k := 300) (by decide)
    have hq := up pq.q (k := 300) (by decide)
    have hu := up uv.p (k := 300) (by decide)
    have hv := up uv.q (k := 300) (by decide)
    have q0 := pq.1
    have v0 := uv.1
    have wm : ∀ {a b : Int}, a.natAbs < 2 ^ 300 → b.natAbs < 2 ^ 300 → CMulW a b := fun x y => wide_mul x y (by decide) (by decide) (by decide)
    have nn : ∀ v : V, (!decide (v = v)) = false := fun v => by rw [decide_eq_true rfl]; rfl
    have qv0 : q * v ≠ 0 := Int.mul_ne_zero q0 v0
    have bqv : big (q * v) := big_up (Rm.mul_lt hq hv) (by decide)
    have eA := add_mk2 (p := p) (u := u) q0 v0
    have eS := sub_mk2 (p := p) (u := u) q0 v0
    have eM := mul_mk2 p q u v
    have eD := div_mk2 p q u v
    have eC := Rm.cmp_mk (p := p) (u := u) q0 v0
    have sl := Same.refl H
    generalize hR : Rm.mk p q = r at *
    generalize hS : Rm.mk u v = s at *
    refine ⟨fun b H2 => b = false ∧ Same H H2, ?_, ?_⟩
    · refine ⟨_, rfl, _, rfl, own_add S ha hy br bs fun c H1 e1 hc => ?_⟩
      refine ⟨_, rfl, ta, _, _, _, rfl, rfl, tA (e1), rfl, _, rfl, tb, _, _, _, rfl, rfl, tB (e1), rfl, _, _, rfl, rfl, wm hp hv, _, rfl, tb, _, _, _, rfl, rfl, tB (e1), rfl, _, rfl, ta, _, _, _, rfl, rfl, tA (e1), rfl, _, _, rfl, rfl, wm hu hq, _, _, rfl, rfl, _, rfl, ta, _, _, _, rfl, rfl, tA (e1), rfl, _, rfl, tb, _, _, _, rfl, rfl, tB (e1), rfl, _, _, rfl, rfl, wm hq hv, c, r + s, _, _, rfl, hc, qv0, bqv, fun H2 e2 => ⟨_, rfl, ?_, e1.trans e2⟩⟩
      rw [decide_eq_true eA]
      rfl
    rintro _ Ha ⟨rfl, ea1⟩
    refine iteF ?_
    have haA := ha.same ea1
    have hyA := hy.same ea1
    refine ⟨fun b H2 => b = false ∧ Same Ha H2, ?_, ?_⟩
    · refine ⟨_, rfl, _, rfl, own_sub S haA hyA br bs fun c H1 e1 hc => ?_⟩
      have e1' := ea1.trans e1
      refine ⟨_, rfl, ta, _, _, _, rfl, rfl, tA (e1'), rfl, _, rfl, tb, _, _, _, rfl, rfl, tB (e1'), rfl, _, _, rfl, rfl, wm hp hv, _, rfl, tb, _, _, _, rfl, rfl, tB (e1'), rfl, _, rfl, ta, _, _, _, rfl, rfl, tA (e1'), rfl, _, _, rfl, rfl, wm hu hq, _, _, rfl, rfl, _, rfl, ta, _, _, _, rfl, rfl, tA (e1'), rfl, _, rfl, tb, _, _, _, rfl, rfl, tB (e1'), rfl, _, _, rfl, rfl, wm hq hv, c, r - s, _, _, rfl, hc, qv0, bqv, fun H2 e2 => ⟨_, rfl, itf (by rw [decide_eq_true eS]; rfl) ?_⟩⟩
      have e12 := e1.trans e2
      refine ⟨_, rfl, _, rfl, own_mul S (haA.same e12) (hyA.same e12) br bs fun c H3 e3 hc => ?_⟩
      have e3' := ea1.trans (e12.trans e3)
      refine ⟨_, rfl, ta, _, _, _, rfl, rfl, tA (e3'), rfl, _, rfl, tb, _, _, _, rfl, rfl, tB (e3'), rfl, _, _, rfl, rfl, wm hp hu, _, rfl, ta, _, _, _, rfl, rfl, tA (e3'), rfl, _, rfl, tb, _, _, _, rfl, rfl, tB (e3'), rfl, _, _, rfl, rfl, wm hq hv, c, r * s, _, _, rfl, hc, qv0, bqv, fun H4 e4 => ⟨_, rfl, ?_, e12.trans (e3.trans e4)⟩⟩
      rw [decide_eq_true eM]
      rfl
    rintro _ Hb ⟨rfl, ea2⟩
    refine iteF ?_
    have eb1 := ea1.trans ea2
    have haB := ha.same eb1
    have hyB := hy.same eb1
    have eaB := eb1 _ _ ea
    refine ⟨fun b H2 => b = false ∧ Same Hb H2, ?_, ?_⟩
    · refine ⟨_, rfl, tb, _, _, _, rfl, rfl, tB (eb1), rfl, rfl, _, rfl, ?_⟩
      by_cases hu0 : u = 0
      · subst hu0
        exact itf (nn _) ⟨rfl, Same.refl _⟩
      · refine itt (by rw [dec_int, decide_eq_false hu0]; rfl) ?_
        refine ⟨_, rfl, a, da, _, rfl, eaB, rfl, _, rfl, a, y, r, rfl, haB, br, .inl ⟨s, hyB, bs, (by rw [← hS]; exact mk_ne0 v0 hu0), fun c H1 e1 hc => ?_⟩⟩
        have e1' := eb1.trans e1
        refine ⟨_, rfl, ta, _, _, _, rfl, rfl, tA (e1'), rfl, _, rfl, tb, _, _, _, rfl, rfl, tB (e1'), rfl, _, _, rfl, rfl, wm hp hv, _, rfl, ta, _, _, _, rfl, rfl, tA (e1'), rfl, _, rfl, tb, _, _, _, rfl, rfl, tB (e1'), rfl, _, _, rfl, rfl, wm hq hu, c, r / s, _, _, rfl, hc, Int.mul_ne_zero q0 hu0, big_up (Rm.mul_lt hq hu) (by decide), fun H2 e2 => ⟨_, rfl, ?_, e1.trans e2⟩⟩
        rw [decide_eq_true eD]
        rfl
    rintro _ Hc ⟨rfl, ea3⟩
    refine iteF ?_
    have ec1 := eb1.trans ea3
    have haC := ha.same ec1
    have hyC := hy.same ec1
    have eaC := ec1 _ _ ea
    have b1 := Rm.sub_lt (Rm.mul_lt hp hv) (Rm.mul_lt hu hq)
    have b2 := Rm.mul_lt hq hv
    refine ⟨_, rfl, ta, _, _, _, rfl, rfl, tA (ec1), rfl, _, rfl, tb, _, _, _, rfl, rfl, tB (ec1), rfl, _, _, rfl, rfl, wm hp hv, _, rfl, tb, _, _, _, rfl, rfl, tB (ec1), rfl, _, rfl, ta, _, _, _, rfl, rfl, tA (ec1), rfl, _, _, rfl, rfl, wm hu hq, _, _, rfl, rfl, _, rfl, ta, _, _, _, rfl, rfl, tA (ec1), rfl, _, rfl, tb, _, _, _, rfl, rfl, tB (ec1), rfl, _, _, rfl, rfl, wm hq hv, _, _, rfl, rfl, wide_mul b1 b2 (by decide) (by decide) (by decide), ?_⟩
    show tSeq _ _ _ [some (.ref ta), some (.ref tb), some (.ref a), some y, some (.int ((p * v - u * q) * (q * v))), none, none] Hc
    generalize hap : (p * v - u * q) * (q * v) = ap at *
    have eneg : decide (Rm.cmp r s < 0) = decide (ap < 0) := by
      rw [eC]
      exact decide_eq_decide.mpr Int.sign_neg_iff
    refine ⟨fun b H2 => b = false ∧ Same Hc H2, ?_, ?_⟩
    · refine ⟨_, rfl, a, da, _, rfl, eaC, rfl, _, rfl, a, y, r, rfl, haC, br, .inl ⟨s, hyC, bs, fun H1 e1 => ?_⟩⟩
      refine ⟨_, rfl, _, _, rfl, rfl, .inr ⟨_, rfl, _, rfl, _, _, rfl, rfl, .inr ⟨_, rfl, _, _, rfl, rfl, rfl, _, rfl, ?_⟩⟩⟩
      have es := sign_b2i ap
      refine itf (by show (!decide (V.int (Rm.cmp r s) = V.int ((if decide (0 < ap) = true then (1 : Int) else 0) - (if decide (ap < 0) = true then 1 else 0)))) = false; rw [es, eC]; exact nn _) ?_
      refine ⟨_, rfl, a, da, _, rfl, e1 _ _ eaC, rfl, _, rfl, a, y, r, rfl, haC.same e1, br, .inl ⟨s, hyC.same e1, bs, fun H2 e2 => ?_⟩⟩
      refine ⟨_, rfl, _, _, rfl, rfl, rfl, _, rfl, ?_, e1.trans e2⟩
      rw [eneg]
      exact nn _
    rintro _ Hd ⟨rfl, ea4⟩
    refine iteF ?_
    have ed1 := ec1.trans ea4
    have haD := ha.same ed1
    have hyD := hy.same ed1
    have eqz : decide (r = s) = decide (V.int ap = V.int 0) := by
      rw [dec_int]
      refine decide_eq_decide.mpr ⟨fun z => ?_, fun z => ?_⟩
      · have := (Rm.cmp_zero r s).mpr z
        rw [eC] at this
        exact Int.sign_eq_zero_iff_zero.mp this
      · refine (Rm.cmp_zero r s).mp ?_
        rw [eC, z]
        rfl
    refine ⟨fun b H2 => b = false ∧ Same Hd H2, ?_, ?_⟩
    · refine ⟨_, rfl, _, rfl, own_eq S haD hyD ⟨_, rfl, rfl, rfl, _, rfl, ?_, Same.refl _⟩⟩
      rw [eqz]
      exact nn _
    rintro _ He ⟨rfl, ea5⟩
    refine iteF ?_
    have ee1 := ed1.trans ea5
    have haE := ha.same ee1
    have hyE := hy.same ee1
    have pick : ∃ (lo hi : V) (rl rh : Rat), ext (-1) [r, s] = rl ∧ ext 1 [r, s] = rh ∧ (∀ {H2 : Hp}, Same H H2 → RV K H2 lo rl) ∧ (∀ {H2 : Hp}, Same H H2 → RV K H2 hi rh) ∧ ((ap ≤ 0 ∧ lo = .ref a ∧ hi = y) ∨ (¬ ap ≤ 0 ∧ lo = y ∧ hi = .ref a)) := by
      rw [ext2 (-1) (by decide), ext2 1 (by decide), eC]
      by_cases h0 : ap ≤ 0
      · have n1 : ¬ ap.sign = - -1 := fun z => by
          have := Int.sign_eq_one_iff_pos.mp z
          omega
        rw [if_neg n1]
        by_cases h1 : ap = 0
        · have e : r = s := (Rm.cmp_zero r s).mp (by rw [eC, h1]; rfl)
          refine ⟨.ref a, y, r, s, rfl, ?_, fun e => RV.of (ha.same e), fun e => hy.same e, .inl ⟨h0, rfl, rfl⟩⟩
          split
          · rfl
          · exact e
        · refine ⟨.ref a, y, r, s, rfl, ?_, fun e => RV.of (ha.same e), fun e => hy.same e, .inl ⟨h0, rfl, rfl⟩⟩
          rw [if_pos (Int.sign_eq_neg_one_of_neg (by omega))]
      · refine ⟨y, .ref a, s, r, ?_, ?_, fun e => hy.same e, fun e => RV.of (ha.same e), .inr ⟨h0, rfl, rfl⟩⟩
        · rw [if_pos (by rw [Int.sign_eq_one_of_pos (by omega)]; rfl)]
        · rw [if_neg]
          intro z
          have := Int.sign_eq_neg_one_iff_neg.mp z
          omega
    obtain ⟨lo, hi, rl, rh, el, eh, hlo, hhi, hpick⟩ := pick
    refine ⟨fun v H2 => ∃ t, v = .ref t ∧ H2 t = some (.tup [lo, hi]) ∧ Same He H2, ?_, ?_⟩
    · refine ⟨_, rfl, _, _, rfl, rfl, _, rfl, ?_⟩
      rcases hpick with ⟨h0, rfl, rfl⟩ | ⟨h0, rfl, rfl⟩
      · exact itt (decide_eq_true h0) ⟨_, rfl, _, rfl, (by show 2 ≤ sizeLine; decide), fun t nt => ⟨t, rfl, upd_same, samu nt⟩⟩
      · exact itf (decide_eq_false h0) ⟨_, rfl, _, rfl, (by show 2 ≤ sizeLine; decide), fun t nt => ⟨t, rfl, upd_same, samu nt⟩⟩
    rintro _ Hf ⟨tt, rfl, htt, ea6⟩
    refine ⟨tt, _, rfl, SqT.of htt, rfl, _, _, rfl, _, _, rfl, rfl, ?_⟩
    show tSeq _ _ _ [some (.ref ta), some (.ref tb), some (.ref a), some y, some (.int ap), some lo, some hi] Hf
    have ef1 := ee1.trans ea6
    refine ⟨fun b H2 => b = false ∧ Same Hf H2, ?_, ?_⟩
    · refine ⟨_, rfl, _, rfl, (by show 2 ≤ sizeLine; decide), fun l nl => ?_⟩
      have e1 := ef1.trans (samu (o := .lst [.ref a, y]) nl)
      refine ⟨.ref l, rfl, .inr ⟨l, [.ref a, y], [r, s], rfl, .inl upd_same, by simp, by simp, .cons ⟨RV.of (ha.same e1), br⟩ (.cons ⟨hy.same e1, bs⟩ .nil), fun c H2 e2 hc => ?_⟩⟩
      refine ⟨_, rfl, own_eq S hc (hlo (e1.trans e2)) ⟨_, rfl, itf (by rw [el, decide_eq_true rfl]; rfl) ?_⟩⟩
      have e3 := (samu (o := .lst [.ref a, y]) nl).trans e2
      refine ⟨_, rfl, _, rfl, (by show 2 ≤ sizeLine; decide), fun u nu => ?_⟩
      have e4 := ef1.trans (e3.trans (samu (o := .tup [.ref a, y]) nu))
      refine ⟨.ref u, rfl, .inr ⟨u, [.ref a, y], [r, s], rfl, .inr upd_same, by simp, by simp, .cons ⟨RV.of (ha.same e4), br⟩ (.cons ⟨hy.same e4, bs⟩ .nil), fun c H5 e5 hc => ?_⟩⟩
      refine ⟨_, rfl, own_eq S hc (hhi (e4.trans e5)) ⟨_, rfl, ?_, e3.trans ((samu nu).trans e5)⟩⟩
      rw [eh, decide_eq_true rfl]
      rfl
    rintro _ Hg ⟨rfl, ea7⟩
    refine iteF ?_
    have eg1 := ef1.trans ea7
    have b300 : ∀ {n m : Int}, n.natAbs < 2 ^ 300 → m.natAbs < 2 ^ 300 → (n * m).natAbs < 2 ^ 600 := fun x y => Rm.mul_lt x y
    have bd2 : Rm.Bd 2000 (r + s) := by
      rw [eA]
      exact Rm.bd_mk qv0 (up (Rm.add_lt (b300 hp hv) (b300 hu hq)) (by decide)) (up (b300 hq hv) (by decide))
    have bd3 : Rm.Bd 2000 (r + s + r) := by
      rw [eA, ← hR, add_mk2 qv0 q0]
      refine Rm.bd_mk (Int.mul_ne_zero qv0 q0) (up (Rm.add_lt (n := 1000) (up (Rm.mul_lt (Rm.add_lt (b300 hp hv) (b300 hu hq)) hq) (by decide)) (up (Rm.mul_lt hp (b300 hq hv)) (by decide))) (by decide)) (up (Rm.mul_lt (b300 hq hv) hq) (by decide))
    refine ⟨_, rfl, _, rfl, _, rfl, (by show 3 ≤ sizeLine; decide), fun l nl => ?_⟩
    have e1 := eg1.trans (samu (o := .lst [.ref a, y, .ref a]) nl)
    have es : sumr [r, s, r] = r + s + r := by
      show (0 + r + s + r) = _
      rw [Rat.zero_add]
    refine ⟨.ref l, rfl, .inr ⟨l, [.ref a, y, .ref a], [r, s, r], rfl, .inl upd_same, by simp, .cons ⟨RV.of (ha.same e1), br⟩ (.cons ⟨hy.same e1, bs⟩ (.cons ⟨RV.of (ha.same e1), br⟩ .nil)), fun j => ?_, fun c H2 e2 hc => ?_⟩⟩
    · match j with
      | 0 => exact bd0'
      | 1 => rw [show sumr (List.take 1 [r, s, r]) = r by show (0 + r) = r; rw [Rat.zero_add]]; exact br
      | 2 => rw [show sumr (List.take 2 [r, s, r]) = r + s by show (0 + r + s) = _; rw [Rat.zero_add]]; exact bd2
      | n + 3 => rw [show List.take (n + 3) [r, s, r] = [r, s, r] by simp, es]; exact bd3
    have e12 := e1.trans e2
    refine ⟨_, rfl, _, rfl, own_add S (ha.same e12) (hy.same e12) br bs fun c2 H3 e3 hc2 => ?_⟩
    have e13 := e12.trans e3
    refine ⟨_, rfl, own_add S hc2 (RV.of (ha.same e13)) bd2 br fun c3 H4 e4 hc3 => ?_⟩
    refine own_eq S (hc.same (e3.trans e4)) (RV.of hc3) ⟨_, rfl, itt (by rw [es, decide_eq_true rfl]) ?_⟩
    have e14 := e13.trans e4
    exact ⟨_, rfl, _, rfl, _, rfl, _, rfl, ta, tb, a, y, p, q, u, v, rfl, e14 _ _ hta, e14 _ _ htb, pq, uv, by rw [hR]; exact ha.same e14, by rw [hS]; exact hy.same e14, fun H5 e5 => k H5 (e14.trans e5)⟩
end
end Kw
end

/-! Kw19 -/
section
set_option maxHeartbeats 4000000
set_option exponentiation.threshold 10000
/-! _law_ends_right -/
namespace Kw
open PySem PySem.Spec PyProof.Rows L2 He Er Ow
theorem cmp_neg (r s : Rat) : Rm.cmp r s < 0 ↔ r < s := by
  unfold Rm.cmp
  rw [Int.sign_neg_iff, Rat.lt_iff]
  omega
theorem cmp_one (r s : Rat) : Rm.cmp r s = 1 ↔ s < r := by
  unfold Rm.cmp
  rw [Int.sign_eq_one_iff_pos, Rat.lt_iff]
  omega
theorem cmp_mone (r s : Rat) : Rm.cmp r s = -1 ↔ r < s := by
  unfold Rm.cmp
  rw [Int.sign_eq_neg_one_iff_neg, Rat.lt_iff]
  omega
theorem min_fold : ∀ (rs : List Rat) (b : Rat), rs.foldl (stp (-1)) b ≤ b ∧ (∀ x ∈ rs, rs.foldl (stp (-1)) b ≤ x) ∧ (rs.foldl (stp (-1)) b = b ∨ rs.foldl (stp (-1)) b ∈ rs)
  | [], b => ⟨Rat.le_refl, (fun x h => by cases h), .inl rfl⟩
  | r :: rs, b => by
    obtain ⟨h1, h2, h3⟩ := min_fold rs (stp (-1) b r)
    have k : stp (-1) b r ≤ b ∧ stp (-1) b r ≤ r ∧ (stp (-1) b r = b ∨ stp (-1) b r = r) := by
      by_cases h : Rm.cmp b r = - -1
      · rw [show stp (-1) b r = r from if_pos h]
        exact ⟨Rat.le_of_lt ((cmp_one b r).mp h), Rat.le_refl, .inr rfl⟩
      · rw [show stp (-1) b r = b from if_neg h]
        exact ⟨Rat.le_refl, Rat.not_lt.mp fun z => h ((cmp_one b r).mpr z), .inl rfl⟩
    refine ⟨Rat.le_trans h1 k.1, fun x hx => ?_, ?_⟩
    · rcases List.mem_cons.mp hx with rfl | hx
      · exact Rat.le_trans h1 k.2.1
      · exact h2 x hx
    · rcases h3 with h3 | h3
      · rcases k.2.2 with e | e
        · exact .inl (h3.trans e)
        · exact .inr (by rw [show (r :: rs).foldl (stp (-1)) b = rs.foldl (stp (-1)) (stp (-1) b r) from rfl, h3, e]; exact List.mem_cons_self ..)
      · exact .inr (List.mem_cons_of_mem _ h3)
theorem max_fold : ∀ (rs : List Rat) (b : Rat), b ≤ rs.foldl (stp 1) b ∧ (∀ x ∈ rs, x ≤ rs.foldl (stp 1) b) ∧ (rs.foldl (stp 1) b = b ∨ rs.foldl (stp 1) b ∈ rs)
  | [], b => ⟨Rat.le_refl, (fun x h => by cases h), .inl rfl⟩
  | r :: rs, b => by
    obtain ⟨h1, h2, h3⟩ := max_fold rs (stp 1 b r)
    have k : b ≤ stp 1 b r ∧ r ≤ stp 1 b r ∧ (stp 1 b r = b ∨ stp 1 b r = r) := by
      by_cases h : Rm.cmp b r = -1
      · rw [show stp 1 b r = r from if_pos h]
        exact ⟨Rat.le_of_lt ((cmp_mone b r).mp h), Rat.le_refl, .inr rfl⟩
      · rw [show stp 1 b r = b from if_neg h]
        exact ⟨Rat.le_refl, Rat.not_lt.mp fun z => h ((cmp_mone b r).mpr z), .inl rfl⟩
    refine ⟨Rat.le_trans k.1 h1, fun x hx => ?_, ?_⟩
    · rcases List.mem_cons.mp hx with rfl | hx
      · exact Rat.le_trans k.2.1 h1
      · exact h2 x hx
    · rcases h3 with h3 | h3
      · rcases k.2.2 with e | e
        · exact .inl (h3.trans e)
        · exact .inr (by rw [show (r :: rs).foldl (stp 1) b = rs.foldl (stp 1) (stp 1 b r) from rfl, h3, e]; exact List.mem_cons_self ..)
      · exact .inr (List.mem_cons_of_mem _ h3)
theorem ext_min {rs : List Rat} (h : rs ≠ []) : (∀ x ∈ rs, ext (-1) rs ≤ x) ∧ ext (-1) rs ∈ rs := by
  cases rs with
  | nil => exact absurd rfl h
  | cons r rs =>
    obtain ⟨_, h2, h3⟩ := min_fold (r :: rs) r
    exact ⟨h2, h3.elim (fun e => by rw [show ext (-1) (r :: rs) = r from e]; exact List.mem_cons_self ..) id⟩
theorem ext_max {rs : List Rat} (h : rs ≠ []) : (∀ x ∈ rs, x ≤ ext 1 rs) ∧ ext 1 rs ∈ rs := by
  cases rs with
  | nil => exact absurd rfl h
  | cons r rs =>
    obtain ⟨_, h2, h3⟩ := max_fold (r :: rs) r
    exact ⟨h2, h3.elim (fun e => by rw [show ext 1 (r :: rs) = r from e]; exact List.mem_cons_self ..) id⟩
theorem bd_add {r s : Rat} (h1 : Rm.Bd 200 r) (h2 : Rm.Bd 200 s) : Rm.Bd 2000 (r + s) := by
  rw [← Rm.add_mk]
  exact Rm.bd_mk (Int.mul_ne_zero (Int.ne_of_gt (Rm.den_pos r)) (Int.ne_of_gt (Rm.den_pos s))) (up (Rm.add_lt (Rm.mul_lt h1.1 (bden h2)) (Rm.mul_lt h2.1 (bden h1))) (by decide)) (up (Rm.mul_lt (bden h1) (bden h2)) (by decide))
theorem fdiv_bd {p q : Int} (hq : q ≠ 0) (h : p.natAbs < 2 ^ 100) : (p.fdiv q).natAbs < 2 ^ 102 := by
  have e := Int.fmod_def p q
  have l := fmod_lt (a := p) hq
  have m : (q * p.fdiv q).natAbs ≤ p.natAbs + q.natAbs := by
    have : q * p.fdiv q = p - p.fmod q := by omega
    rw [this]
    omega
  rw [Int.natAbs_mul] at m
  have q1 : 1 ≤ q.natAbs := Nat.pos_of_ne_zero (Int.natAbs_ne_zero.mpr hq)
  have k : (p.fdiv q).natAbs ≤ p.natAbs + 1 := by
    refine Decidable.byContradiction fun z => ?_
    have z : p.natAbs + 2 ≤ (p.fdiv q).natAbs := by omega
    have z2 := Nat.mul_le_mul_left q.natAbs z
    have z3 : q.natAbs * (p.natAbs + 2) = q.natAbs * p.natAbs + 2 * q.natAbs := by rw [Nat.mul_add, Nat.mul_comm q.natAbs 2]
    have z4 := Nat.mul_le_mul_right p.natAbs q1
    rw [Nat.one_mul] at z4
    omega
  have t : (2 : Nat) ^ 102 = 4 * 2 ^ 100 := by decide
  omega
section
variable {w : World} {K : PySem.W.Frag} {mg : Str → Option Value} {base : Heap} {f : Addr} {fd : FuncData} {H H2 : Hp} {x y : V} {b c : Bool} {t : Value} {a : Addr} {r s : Rat} {Q : VK}
theorem isR_inj (h1 : IsR K H a r) (h2 : IsR K H a s) : r = s := by
  obtain ⟨d1, e1⟩ := h1
  obtain ⟨d2, e2⟩ := h2
  rw [e1] at e2
  have e3 := HO.ins.inj (Option.some.inj e2)
  have e4 : rfs r = rfs s := e3.2.2
  unfold rfs at e4
  injection e4 with e5 e6
  injection e6 with e7 _
  refine (Rm.ext_iff _ _).mpr ⟨V.int.inj (Prod.mk.inj e5).2, Int.ofNat.inj (V.int.inj (Prod.mk.inj e7).2)⟩
theorem paired_rat_same {xs : List V} {rs : List Rat} (h : Paired (rat K H) xs rs) (e : Same H H2) : Paired (rat K H2) xs rs := by
  induction h with
  | nil => exact .nil
  | cons r t ih => exact .cons ⟨r.1.same e, r.2⟩ ih
/-- low not in row, where low is one of the row's -/
theorem own_notIn {l : Addr} {xs : List V} {rs : List Rat} (ha : IsR K H a r) (hl : H l = some (.lst xs)) (hx : Paired (rat K H) xs rs) (hm : r ∈ rs) (k : Q (.bl false) H) : rNotInOwn (cR K) (spEq K) (.ref a) (.ref l) H Q := by
  obtain ⟨da, ea⟩ := id ha
  refine ⟨a, da, l, _, xs, rs.map fun x => decide (x = r), rfl, ea, rfl, hl, by rw [List.length_map]; exact Paired.len hx, fun i v b hv hb => ?_, ?_⟩
  · obtain ⟨x, hx2, hrv, _⟩ := Paired.at_ hx hv
    rw [List.getElem?_map, hx2] at hb
    obtain rfl := Option.some.inj hb
    rcases hrv with ⟨c, rfl, hc⟩ | ⟨n, rfl, rfl⟩
    · by_cases hca : c = a
      · subst hca
        exact .inl ⟨rfl, decide_eq_true (isR_inj hc ha)⟩
      · obtain ⟨dc, ec⟩ := id hc
        exact .inr (.inl ⟨c, dc, _, rfl, hca, ec, c, .ref a, x, rfl, hc, .inl ⟨r, RV.of ha, rfl, rfl⟩⟩)
    · exact .inr (.inr ⟨n, rfl, a, .int n, r, rfl, ha, .inl ⟨(n : Rat), .inr ⟨n, rfl, rfl⟩, congrArg V.bl (decide_eq_decide.mpr ⟨fun z => z.symm, fun z => z.symm⟩), rfl⟩⟩)
  · have e : (rs.map fun x => decide (x = r)).any id = true := by
      rw [List.any_eq_true]
      exact ⟨true, List.mem_map.mpr ⟨r, hm, decide_eq_true rfl⟩, rfl⟩
    rw [e]
    exact k
theorem scEnds : FnScope ["_law_a", "_law_b", "_law_one", "_law_other", "_law_whole", "_law_row", "_law_low", "_law_high", "_law_item"] ["_law_a", "_law_b", "_law_one", "_law_other"] (defScope sLendsuright) := ⟨rfl, rfl, rfl, by decide +kernel, rfl, by decide +kernel, by decide +kernel⟩
/-- a row of drawn ratios -/
def Row (K : PySem.W.Frag) (H : Hp) (v : V) : Prop := ∃ (l : Addr) (vs : List V) (rs : List Rat), v = .ref l ∧ H l = some (.lst vs) ∧ vs ≠ [] ∧ vs.length ≤ 100 ∧ Paired (rat K H) vs rs ∧ ∀ x ∈ rs, Rm.Bd 200 x
theorem Row.same {v : V} (h : Row K H v) (e : Same H H2) : Row K H2 v := by
  obtain ⟨l, vs, rs, h1, h2, h3, h4, h5, h6⟩ := h
  exact ⟨l, vs, rs, h1, e _ _ h2, h3, h4, paired_rat_same h5 e, h6⟩
theorem ok_ends (S : Hd K mg) (F : L2.Fun K "_law_ends_right" "_law_ends_right" sLendsuright f fd) : FnOk P w K mg base CX0 14 f fd ["_law_a", "_law_b", "_law_one", "_law_other"] (spEnds K) := by
  obtain ⟨fI, fdI, FI, gI, kI, bI⟩ := (pr_is (w := w) (base := base) S).ex
  obtain ⟨fL, fdL, FL, gL, kL, bL⟩ := (pr_least (w := w) (base := base) S).quiet.ex
  obtain ⟨fG, fdG, FG, gG, kG, bG⟩ := (pr_great (w := w) (base := base) S).quiet.ex
  obtain ⟨fD, fdD, FD, gD, kD, bD⟩ := (pr_added (w := w) (base := base) S).quiet.ex
  obtain ⟨fdE, FE, bE⟩ := (mr_eq (w := w) (base := base) S).ex
  obtain ⟨fdA, FAdd, bAdd⟩ := (mr_add (w := w) (base := base) S).quiet.ex
  obtain ⟨fdB, FB, bB⟩ := (mr_below (w := w) (base := base) S).quiet.ex
  obtain ⟨pO, gO, fdO, FO0, MO, bO, _⟩ := (of_of (w := w) (base := base) S).ex
  have FO := quiet FO0
  refine F.ok scEnds (fun vs H Q E h => ?_) (fun cdv A outer s H vs Q E hr h => ?_)
  · obtain ⟨ta, tb, a, y, p, q, u, v, rfl, _⟩ := h
    rfl
  · obtain ⟨ta, tb, a, y, p, q, u, v, rfl, hta, htb, pq, uv, ha, hy, k⟩ := h
    have hu : (A.deeper (envOfC "_law_ends_right" (defScope sLendsuright) s.heap.objs.size f cdv)).units + 64 < cLine := by have := hr.un; omega
    refine ⟨_, PSs.nox (pss_cons (ps_set (i := 4) scEnds.nd rfl (.inl rfl) (pe_op op_fdivZ (pe_ix ix_tup (pv 0) pe_int (fun _ _ => rfl)) (pe_ix ix_tup (pv 0) pe_int (fun _ _ => rfl)))) (pss_cons (ps_for PassesOwn.never rfl (pi_list (pe_lst (pa_cons (pe_lst (pa_cons (pv 2) (pa_cons (pv 3) (pa_cons (pv 4) pa_nil)))) (pa_cons (pe_lst (pa_cons (pv 4) (pa_cons (pv 2) (pa_cons (pv 3) pa_nil)))) (pa_cons (pe_lst (pa_cons (pv 3) (pa_cons (pv 4) (pa_cons (pv 2) pa_nil)))) pa_nil))))) (pg_name (i := 5) scEnds.nd rfl (.inl rfl)) (pss_cons (ps_asg (pe_tup (pa_cons (pe_call FL (hr.mono (by decide)) rfl gL kL bL .nil pass0 (pa_cons (pv 5) pa_nil)) (pa_cons (pe_call FG (hr.mono (by decide)) rfl gG kG bG .nil pass0 (pa_cons (pe_callTy call_tuple_of rfl (S.free 59) (by decide +kernel) (pa_cons (pv 5) pa_nil)) pa_nil)) pa_nil))) (pg_tup rfl (pgs_cons (pg_name (i := 6) scEnds.nd rfl (.inr rfl)) (pgs_cons (pg_name (i := 7) scEnds.nd rfl (.inr rfl)) pgs_nil)))) (pss_cons (ps_if (pt_cut (PW.pt (pw_or (pt_not (pt_val (pe_callB call_isi rfl (S.free 50) (by decide +kernel) (pa_cons (pv 6) (pa_cons (pe_glob (v := .ref (cR K)) rfl (S.glo 12) rfl) pa_nil))))) (pw_or (pt_not (pt_val (pe_callB call_isi rfl (S.free 50) (by decide +kernel) (pa_cons (pv 7) (pa_cons (pe_glob (v := .ref (cR K)) rfl (S.glo 12) rfl) pa_nil))))) (pw_or1 (pt_not (pt_cmpR (eq_own S.mc_eq FE (hr.mono (by decide)) bE) (pe_call FD (hr.mono (by decide)) rfl gD kD bD .nil pass0 (pa_cons (pe_lst (pa_cons (pv 6) (pa_cons (pv 7) pa_nil))) pa_nil)) (pe_op (op_own (E := E0) S.op_add (S.noR (op := .Add) (by simp [dunN, Operator.info])) FAdd (hr.mono (by decide)) bAdd pass0) (pv 6) (pv 7)) (nomark _)))))))) (pss_one (ps_ret pe_bl)) pss_nil) (pss_one (ps_if (pt_cut (PW.pt (pw_or (pt_cmpR (op_neD hu) (pe_lc (own := [("_law_item", 8)]) (g := gName 8) (by rfl) scEnds.nd (pi_list (pv 5)) (blkOk_by (own := [("_law_item", 8)]) (N := ["_law_a", "_law_b", "_law_one", "_law_other", "_law_whole", "_law_row", "_law_low", "_law_high", "_law_item"]) (sc := defScope sLendsuright) (by decide +kernel)) (fun _ _ _ _ _ => pg_name (i := 8) scEnds.nd rfl (Or.inl rfl)) (fun _ _ _ _ _ => pts_one (PW.pt (pw_or (pt_val (pe_meth (pe_stat (pe_glob (v := .ref (cR K)) rfl (S.glo 12) rfl) MO FO (hr.mono (by decide)) bO (pa_cons (pv 8) pa_nil)) S.cls S.me_is_below FB (hr.mono (by decide)) bB .nil pass0 (pa_cons (pv 6) pa_nil))) (pw_or1 (pt_val (pe_meth (pv 7) S.cls S.me_is_below FB (hr.mono (by decide)) bB .nil pass0 (pa_cons (pv 8) pa_nil))))))) (fun _ _ _ _ _ => (pv 8))) (pe_lst pa_nil) (nomark _)) (pw_or (pt_cmpR (op_notIn_own S.mc_eq S.isiR.2 S.intEq S.subInt FE (hr.mono (by decide)) bE) (pv 6) (pv 5) rfl) (pw_or1 (pt_cmpR (op_notIn_own S.mc_eq S.isiR.2 S.intEq S.subInt FE (hr.mono (by decide)) bE) (pv 7) (pv 5) rfl)))))) (pss_one (ps_ret pe_bl)) pss_nil))))) (pss_one (ps_ret (pe_and (pe_call FI (hr.mono (by decide)) rfl gI kI bI .nil pass0 (pa_cons (pe_call FL (hr.mono (by decide)) rfl gL kL bL .nil pass0 (pa_cons (pe_lst (pa_cons (pv 4) pa_nil)) pa_nil)) (pa_cons (pv 4) (pa_cons pe_int pa_nil)))) (pe_one (pe_call FI (hr.mono (by decide)) rfl gI kI bI .nil pass0 (pa_cons (pe_call FG (hr.mono (by decide)) rfl gG kG bG .nil pass0 (pa_cons (pe_tup (pa_cons (pv 4) pa_nil)) pa_nil)) (pa_cons (pv 4) (pa_cons pe_int pa_nil)))))))))), ?_⟩
    obtain ⟨da, ea⟩ := id ha
    have q0 := pq.1
    have hp := up pq.p (k := 150) (by decide)
    have hq := up pq.q (k := 150) (by decide)
    have tA : ∀ {H2 : Hp}, Same H H2 → SqT K H2 ta [.int p, .int q] := fun e => SqT.of (e _ _ hta)
    have wb := fdiv_bd q0 pq.p
    have b200 : ∀ {p q : Int}, Pq p q → Rm.Bd 200 (Rm.mk p q) := fun h => Rm.bd_mk h.1 (up h.p (by decide)) (up h.q (by decide))
    have wB : Rm.Bd 200 ((p.fdiv q : Int) : Rat) := ⟨by rw [Rat.num_intCast]; exact up wb (by decide), by rw [Rat.den_intCast]; decide⟩
    have bW : big (p.fdiv q) := big_up wb (by decide)
    have eW : ∀ g : Int, ext g [((p.fdiv q : Int) : Rat)] = Rm.mk (p.fdiv q) 1 := fun g => by
      show stp g _ _ = _
      unfold stp
      rw [Rm.int_mk]
      split <;> rfl
    have nn : ∀ v : V, (!decide (v = v)) = false := fun v => by rw [decide_eq_true rfl]; rfl
    refine ⟨_, rfl, ta, _, _, _, rfl, rfl, tA (Same.refl _), rfl, _, rfl, ta, _, _, _, rfl, rfl, tA (Same.refl _), rfl, _, _, rfl, rfl, zdiv q0 hq (by decide) (by decide), ?_⟩
    show tSeq _ _ _ [some (.ref ta), some (.ref tb), some (.ref a), some y, some (.int (p.fdiv q)), none, none, none, none] H
    generalize hW : p.fdiv q = W at *
    have iR : ∀ {H2 : Hp}, Same H H2 → rat K H2 (.ref a) (Rm.mk p q) ∧ rat K H2 y (Rm.mk u v) ∧ rat K H2 (.int W) (W : Rat) := fun e => ⟨⟨RV.of (ha.same e), pq.bd⟩, ⟨hy.same e, uv.bd⟩, ⟨.inr ⟨W, rfl, rfl⟩, wB.mono (by decide)⟩⟩
    refine ⟨_, rfl, _, rfl, _, rfl, (by show 3 ≤ sizeLine; decide), fun l1 n1 => ?_⟩
    refine ⟨_, rfl, _, rfl, _, rfl, (by show 3 ≤ sizeLine; decide), fun l2 n2 => ?_⟩
    refine ⟨_, rfl, _, rfl, _, rfl, (by show 3 ≤ sizeLine; decide), fun l3 n3 => ?_⟩
    have s1 := samu (o := .lst [.ref a, y, .int W]) n1
    have h1 : upd H l1 (.lst [.ref a, y, .int W]) l1 = some (.lst [.ref a, y, .int W]) := upd_same
    generalize upd H l1 (.lst [.ref a, y, .int W]) = Ha at *
    have s2 := samu (o := .lst [.int W, .ref a, y]) n2
    have h2 : upd Ha l2 (.lst [.int W, .ref a, y]) l2 = some (.lst [.int W, .ref a, y]) := upd_same
    generalize upd Ha l2 (.lst [.int W, .ref a, y]) = Hb at *
    have s3 := samu (o := .lst [y, .int W, .ref a]) n3
    have h3 : upd Hb l3 (.lst [y, .int W, .ref a]) l3 = some (.lst [y, .int W, .ref a]) := upd_same
    refine ⟨(by show 3 ≤ sizeLine; decide), fun L nL => ?_⟩
    refine ⟨L, rfl, ⟨_, SqL.of upd_same⟩, ?_⟩
    generalize upd Hb l3 (.lst [y, .int W, .ref a]) = Hc at *
    have s4 := samu (o := .lst [.ref l1, .ref l2, .ref l3]) nL
    have h4 : upd Hc L (.lst [.ref l1, .ref l2, .ref l3]) L = some (.lst [.ref l1, .ref l2, .ref l3]) := upd_same
    have e4 := s1.trans (s2.trans (s3.trans s4))
    have bdl : ∀ x : Rat, x = Rm.mk p q ∨ x = Rm.mk u v ∨ x = (W : Rat) → Rm.Bd 200 x := by
      rintro x (rfl | rfl | rfl)
      · exact b200 pq
      · exact b200 uv
      · exact wB
    obtain ⟨i1, i2, i3⟩ := iR e4
    have rows : ∀ (i : Nat) (v : V), ([.ref l1, .ref l2, .ref l3] : List V)[i]? = some v → Row K (upd Hc L (.lst [.ref l1, .ref l2, .ref l3])) v := by
      intro i v hv
      match i, hv with
      | 0, hv =>
        cases hv
        exact ⟨l1, _, _, rfl, (s2.trans (s3.trans s4)) _ _ h1, by simp, by simp, .cons i1 (.cons i2 (.cons i3 .nil)), fun x hx => bdl x (by simpa using hx)⟩
      | 1, hv =>
        cases hv
        exact ⟨l2, _, _, rfl, (s3.trans s4) _ _ h2, by simp, by simp, .cons i3 (.cons i1 (.cons i2 .nil)), fun x hx => bdl x (by simp at hx; rcases hx with h | h | h <;> simp [h])⟩
      | 2, hv =>
        cases hv
        exact ⟨l3, _, _, rfl, s4 _ _ h3, by simp, by simp, .cons i2 (.cons i3 (.cons i1 .nil)), fun x hx => bdl x (by simp at hx; rcases hx with h | h | h <;> simp [h])⟩
      | n + 3, hv => simp at hv
    generalize upd Hc L (.lst [.ref l1, .ref l2, .ref l3]) = Hd at *
    refine for_list (a := L) (xs := [.ref l1, .ref l2, .ref l3]) (fun _ σ H5 => Same Hd H5 ∧ ∃ c5 c6 c7 c8 : Option V, σ = [some (.ref ta), some (.ref tb), some (.ref a), some y, some (.int W), c5, c6, c7, c8]) ⟨Same.refl _, _, _, _, _, rfl⟩ (fun i σ H5 _ ⟨e, _⟩ => SqL.of (e _ _ h4)) (fun i v σ H5 hv ⟨e5, c5, c6, c7, c8, hσ⟩ => ?_) (fun σ H5 ⟨e5, c5, c6, c7, c8, hσ⟩ => ?_)
    · subst hσ
      obtain ⟨l, vs, rs, rfl, hl, hne, hlen, hx, hbd⟩ := (rows i v hv).same e5
      have rne : rs ≠ [] := fun z => hne (by have := Paired.len hx; rw [z] at this; exact List.length_eq_zero_iff.mp this)
      obtain ⟨mn1, mn2⟩ := ext_min rne
      obtain ⟨mx1, mx2⟩ := ext_max rne
      refine ⟨_, rfl, .ref l, rfl, .inr ⟨l, vs, rs, rfl, .inl hl, hne, hlen, hx, fun lo H6 e6 hlo => ?_⟩⟩
      refine ⟨_, rfl, l, _, rfl, .inl ⟨SqL.of (e6 _ _ hl), fun u2 nu => ?_⟩⟩
      have e7 := e6.trans (samu (o := .tup vs) nu)
      refine ⟨.ref u2, rfl, .inr ⟨u2, vs, rs, rfl, .inr upd_same, hne, hlen, paired_rat_same hx e7, fun hi H8 e8 hhi => ?_⟩⟩
      have e58 := e7.trans e8
      have hlo8 := hlo.same ((samu (o := .tup vs) nu).trans e8)
      refine ⟨(by show 2 ≤ sizeLine; decide), fun tt nt => ?_⟩
      refine ⟨tt, _, rfl, SqT.of upd_same, rfl, _, _, rfl, _, _, rfl, rfl, ?_⟩
      have e9 := e58.trans (samu (o := .tup [.ref lo, .ref hi]) nt)
      have hlo9 := hlo8.same (samu (o := .tup [.ref lo, .ref hi]) nt)
      have hhi9 := hhi.same (samu (o := .tup [.ref lo, .ref hi]) nt)
      show tSeq _ _ _ [some (.ref ta), some (.ref tb), some (.ref a), some y, some (.int W), some (.ref l), some (.ref lo), some (.ref hi), c8] (upd H8 tt (.tup [.ref lo, .ref hi]))
      generalize upd H8 tt (.tup [.ref lo, .ref hi]) = H9 at *
      have blo := hbd _ mn2
      have bhi := hbd _ mx2
      refine ⟨fun b Hx => b = false ∧ Same H9 Hx, ?_, ?_⟩
      · obtain ⟨t1, _, _, ty1, _, _, _, kt1, _⟩ := S.kd_rat hlo9
        obtain ⟨t2, _, _, ty2, _, _, _, kt2, _⟩ := S.kd_rat hhi9
        refine ⟨_, rfl, _, _, t1, _, true, rfl, .own _, ty1, kt1, _, rfl, iteF ?_⟩
        refine ⟨_, rfl, _, _, t2, _, true, rfl, .own _, ty2, kt2, _, rfl, iteF ?_⟩
        refine ⟨_, rfl, _, rfl, (by show 2 ≤ sizeLine; decide), fun z nz => ?_⟩
        have ez := samu (o := .lst [.ref lo, .ref hi]) nz
        have es : sumr [ext (-1) rs, ext 1 rs] = ext (-1) rs + ext 1 rs := by
          show (0 + ext (-1) rs + ext 1 rs) = _
          rw [Rat.zero_add]
        have bs2 := bd_add blo bhi
        refine ⟨.ref z, rfl, .inr ⟨z, [.ref lo, .ref hi], [ext (-1) rs, ext 1 rs], rfl, .inl upd_same, by simp, .cons ⟨RV.of (hlo9.same ez), blo.mono (by decide)⟩ (.cons ⟨RV.of (hhi9.same ez), bhi.mono (by decide)⟩ .nil), fun j => ?_, fun c Hx ex hc => ?_⟩⟩
        · match j with
          | 0 => exact bd0'
          | 1 => rw [show sumr (List.take 1 [ext (-1) rs, ext 1 rs]) = ext (-1) rs by show (0 + ext (-1) rs) = _; rw [Rat.zero_add]]; exact blo.mono (by decide)
          | n + 2 => rw [show List.take (n + 2) [ext (-1) rs, ext 1 rs] = [ext (-1) rs, ext 1 rs] by simp, es]; exact bs2
        · have exx := ez.trans ex
          refine ⟨_, rfl, _, rfl, own_add S (hlo9.same exx) (RV.of (hhi9.same exx)) (blo.mono (by decide)) (bhi.mono (by decide)) fun d Hy ey hd => ?_⟩
          refine own_eq S (hc.same ey) (RV.of hd) ⟨_, rfl, ?_, exx.trans ey⟩
          rw [es, decide_eq_true rfl]
          rfl
      rintro _ Hx ⟨rfl, ex⟩
      refine iteF ?_
      have e5x := e9.trans ex
      have hlx := e5x _ _ hl
      have hxx := paired_rat_same hx e5x
      have hlox := hlo9.same ex
      have hhix := hhi9.same ex
      refine ⟨fun b Hz => b = false ∧ Same Hx Hz, ?_, ?_⟩
      · refine ⟨_, rfl, l, rfl, ⟨_, SqL.of hlx⟩, fun D hD => ?_⟩
        refine lc_list (a := l) (xs := vs) (fun i H7 => H7 D = some (.lst []) ∧ Same Hx H7) ⟨upd_same, samu hD⟩ (fun i H7 _ ⟨_, e⟩ => SqL.of (e _ _ hlx)) (fun i z H7 hz ⟨g1, g2⟩ => ?_) (fun H7 ⟨g1, g2⟩ => ?_)
        · obtain ⟨x, hx2, hrv, hxb⟩ := Paired.at_ hxx hz
          have hxm := List.mem_of_getElem? hx2
          refine ⟨rfl, ?_⟩
          have lt1 : decide (Rm.cmp x (ext (-1) rs) < 0) = false := decide_eq_false fun n => Rat.not_lt.mpr (mn1 x hxm) ((cmp_neg _ _).mp n)
          have lt2 : decide (Rm.cmp (ext 1 rs) x < 0) = false := decide_eq_false fun n => Rat.not_lt.mpr (mx1 x hxm) ((cmp_neg _ _).mp n)
          refine ⟨rfl, _, rfl, z, rfl, .inl ⟨x, hrv.same g2, hxb.mono (by decide), fun c Hc ec hc => ?_⟩⟩
          obtain ⟨dc, edc⟩ := id hc
          have hloc := (hlox.same g2).same ec
          refine ⟨c, dc, _, rfl, edc, rfl, _, rfl, c, .ref lo, x, rfl, hc, hxb, .inl ⟨_, RV.of hloc, blo.mono (by decide), fun Hd2 ed => ⟨_, rfl, itf lt1 ?_⟩⟩⟩
          obtain ⟨dh, edh⟩ := (hhix.same g2).same (ec.trans ed)
          refine ⟨_, rfl, hi, dh, _, rfl, edh, rfl, _, rfl, hi, z, _, rfl, ⟨dh, edh⟩, bhi.mono (by decide), .inl ⟨x, (hrv.same g2).same (ec.trans ed), hxb, fun He ee => ⟨_, rfl, itf lt2 ?_⟩⟩⟩
          have eall := ec.trans (ed.trans ee)
          exact ⟨eall _ _ g1, g2.trans eall⟩
        · refine ⟨(by show 0 ≤ sizeLine; decide), fun z nz => ?_⟩
          have ez := samu (o := .lst []) nz
          refine ⟨.list [], .list [], .lst (SqL.of (ez _ _ g1)) .nil, .lst (SqL.of upd_same) .nil, rfl, rfl, _, rfl, iteF ?_⟩
          have eg := g2.trans ez
          refine ⟨_, rfl, _, rfl, own_notIn (hlox.same eg) (eg _ _ hlx) (paired_rat_same hxx eg) mn2 ⟨_, rfl, iteF ?_⟩⟩
          exact ⟨_, rfl, _, rfl, own_notIn (hhix.same eg) (eg _ _ hlx) (paired_rat_same hxx eg) mx2 ⟨_, rfl, rfl, eg⟩⟩
      rintro _ Hz ⟨rfl, ez⟩
      exact iteF ⟨e5.trans (e5x.trans ez), _, _, _, _, rfl⟩
    · subst hσ
      have e15 := e4.trans e5
      refine ⟨_, rfl, (by show 1 ≤ sizeLine; decide), fun z nz => ?_⟩
      have ez := e15.trans (samu (o := .lst [.int W]) nz)
      refine ⟨.ref z, rfl, .inr ⟨z, [.int W], [(W : Rat)], rfl, .inl upd_same, by simp, by simp, .cons (iR ez).2.2 .nil, fun c H6 e6 hc => ?_⟩⟩
      refine ⟨_, rfl, c, _, W, 1, rfl, hc, by decide, big1, fun H7 e7 => ⟨_, rfl, itt (by rw [eW, decide_eq_true rfl]) ?_⟩⟩
      have e17 := ez.trans (e6.trans e7)
      refine ⟨_, rfl, (by show 1 ≤ sizeLine; decide), fun z2 nz2 => ?_⟩
      have ez2 := e17.trans (samu (o := .tup [.int W]) nz2)
      refine ⟨.ref z2, rfl, .inr ⟨z2, [.int W], [(W : Rat)], rfl, .inr upd_same, by simp, by simp, .cons (iR ez2).2.2 .nil, fun c2 H8 e8 hc2 => ?_⟩⟩
      refine ⟨_, rfl, c2, _, W, 1, rfl, hc2, by decide, big1, fun H9 e9 => ?_⟩
      rw [eW, decide_eq_true rfl]
      exact k _ (ez2.trans (e8.trans e9))
theorem pr_ends (S : Hd K mg) : Pr w K mg base CX0 14 "_law_ends_right" ["_law_a", "_law_b", "_law_one", "_law_other"] (spEnds K) := by
  obtain ⟨fd, F⟩ := S.def_ 47 (d := dLendsuright)
  have F := fun_of (st := sLendsuright) F
  exact ⟨_, fd, ok_ends S F, S.glo 38, F.kp, F.binds fun _ _ _ _ _ _ us hl => match us, hl with | [_, _, _, _], _ => rfl⟩
theorem pr_sums (S : Hd K mg) : Pr w K mg base CX0 15 "_law_sums_right" ["_law_a", "_law_b", "_law_one", "_law_other"] (spEnds K) := by
  obtain ⟨fd, F⟩ := S.def_ 46 (d := dLsumsuright)
  have F := fun_of (st := sLsumsuright) F
  exact ⟨_, fd, ok_sums S (pr_ends S) F, S.glo 37, F.kp, F.binds fun _ _ _ _ _ _ us hl => match us, hl with | [_, _, _, _], _ => rfl⟩
end
end Kw
end

/-! Kw20 -/
section
set_option maxHeartbeats 4000000
set_option exponentiation.threshold 10000
/-! _law_near_right -/
namespace Kw
open PySem PySem.Spec PyProof.Rows L2 He Er Ow
abbrev cat (us ws : List Value) : List Value := us ++ ws
structure PrK (w : World) (K : PySem.W.Frag) (mg : Str → Option Value) (base : Heap) (k : Nat) (x p : Str) (sp : Sp) : Prop where
  ex : ∃ f fd, FnOk P w K mg base CX0 k f fd [p] sp ∧ mg x = some (.ref f) ∧ PySem.W.keepIn K (.ref f) = true ∧ KBn K fd [p] 0 [p] (fun us ws => us ++ ws) (fun vs zs => vs ++ zs)
structure MrK (w : World) (K : PySem.W.Frag) (mg : Str → Option Value) (base : Heap) (k : Nat) (m p : Str) (sp : Sp) : Prop where
  ex : ∃ fd, FnOk P w K mg base CX0 k (ma K (cR K) m) fd ["self", p] sp ∧ KBn K fd ["self", p] 1 [p] (fun us ws => us ++ ws) (fun vs zs => vs ++ zs)
structure OfK (w : World) (K : PySem.W.Frag) (mg : Str → Option Value) (base : Heap) (k : Nat) (m p : Str) (sp : Sp) : Prop where
  ex : ∃ p2 g fd, FnOk P w K mg base CX0 k g fd [p] sp ∧ SMet K (cR K) (.type "type") m p2 g ∧ KBn K fd [p] 0 [p] (fun us ws => us ++ ws) (fun vs zs => vs ++ zs)
structure MkRK (w : World) (K : PySem.W.Frag) (mg : Str → Option Value) (base : Heap) : Prop where
  ex : ∃ (fd : FuncData) (gg : List Value → List Value → List Value), FnOk P w K mg base (L2.CX P w) 4 (ma K (cR K) "__init__") fd ["self", "top", "bottom"] (spInit K) ∧ KBn K fd ["self", "top", "bottom"] 1 ["bottom", "top"] gg (fun vs zs => vs ++ zs.reverse)
section
variable {w : World} {K : PySem.W.Frag} {mg : Str → Option Value} {base : Heap} {f : Addr} {fd : FuncData} {H H2 : Hp} {x y : V} {b c : Bool} {t : Value} {a : Addr} {r s : Rat} {Q : VK}
theorem Hd.noNe (S : Hd K mg) : PySem.W.findIn K (.ref (cR K)) "__ne__" = some (some (.builtin "object.__ne__")) := eqO_ok (ba (ba (ba (ba S.b5).2).2).2).1
theorem Hd.mroO (S : Hd K mg) : PySem.W.mroIn K (cR K) (.type "object") = some true := of_decide_eq_true (ba (ba (ba (ba (ba S.b5).2).2).2).2).1
theorem prk_added (S : Hd K mg) : PrK w K mg base 8 "added" "ratios" (fun vs H Q _ => spAdded K vs H Q E0) := by
  obtain ⟨fd, F⟩ := S.def_ 23 (d := dadded)
  have F := fun_of (st := sadded) F
  exact ⟨_, fd, quiet (ok_added S F), S.glo 14, F.kp, fun_kbn F 0 _ fun _ _ _ _ _ _ us ws l1 l2 => match us, ws, l1, l2 with | [], [_], _, _ => rfl⟩
theorem prk_least (S : Hd K mg) : PrK w K mg base 9 "least_of" "ratios" (fun vs H Q _ => spEnd K (-1) vs H Q E0) := by
  obtain ⟨fd, F⟩ := S.def_ 24 (d := dleastuof)
  have F := fun_of (st := sleastuof) F
  exact ⟨_, fd, quiet (ok_least S F), S.glo 15, F.kp, fun_kbn F 0 _ fun _ _ _ _ _ _ us ws l1 l2 => match us, ws, l1, l2 with | [], [_], _, _ => rfl⟩
theorem prk_great (S : Hd K mg) : PrK w K mg base 9 "greatest_of" "ratios" (fun vs H Q _ => spEnd K 1 vs H Q E0) := by
  obtain ⟨fd, F⟩ := S.def_ 25 (d := dgreatestuof)
  have F := fun_of (st := sgreatestuof) F
  exact ⟨_, fd, quiet (ok_great S F), S.glo 16, F.kp, fun_kbn F 0 _ fun _ _ _ _ _ _ us ws l1 l2 => match us, ws, l1, l2 with | [], [_], _, _ => rfl⟩
theorem prk_isr (S : Hd K mg) : PrK w K mg base 2 "is_ratio" "value" (spIsR K) := by
  obtain ⟨fd, F⟩ := S.def_ 22 (d := disuratio)
  have F := fun_of (st := sisuratio) F
  exact ⟨_, fd, ok_isr S F, S.glo 13, F.kp, fun_kbn F 0 _ fun _ _ _ _ _ _ us ws l1 l2 => match us, ws, l1, l2 with | [], [_], _, _ => rfl⟩
theorem mrk_comp (S : Hd K mg) : MrK w K mg base 7 "compared" "other" (fun vs H Q _ => spComp K vs H Q E0) := by
  obtain ⟨fd, F⟩ := S.def_ 14 (d := dRatiocompared)
  have F := fun_of (st := iRatiocompared) F
  exact ⟨fd, quiet (ok_comp S F), fun_kbn F 1 _ fun _ _ _ _ _ _ us ws l1 l2 => match us, ws, l1, l2 with | [_], [_], _, _ => rfl⟩
theorem mrk_below (S : Hd K mg) : MrK w K mg base 8 "is_below" "other" (fun vs H Q _ => spBelow K vs H Q E0) := by
  obtain ⟨fd, F⟩ := S.def_ 15 (d := dRatioisubelow)
  have F := fun_of (st := iRatioisubelow) F
  exact ⟨fd, quiet (ok_below S F), fun_kbn F 1 _ fun _ _ _ _ _ _ us ws l1 l2 => match us, ws, l1, l2 with | [_], [_], _, _ => rfl⟩
theorem mrk_over (S : Hd K mg) : MrK w K mg base 7 "over" "other" (fun vs H Q _ => spOver K vs H Q E0) := by
  obtain ⟨fd, F⟩ := S.def_ 13 (d := dRatioover)
  have F := fun_of (st := iRatioover) F
  exact ⟨fd, quiet (ok_over S F), fun_kbn F 1 _ fun _ _ _ _ _ _ us ws l1 l2 => match us, ws, l1, l2 with | [_], [_], _, _ => rfl⟩
theorem ofk_of (S : Hd K mg) : OfK w K mg base 6 "of" "value" (fun vs H Q _ => spOth K "value" vs H Q E0) := by
  have h : pRatioof ∈ fp := List.mem_of_getElem? (i := 3) rfl
  obtain ⟨⟨fd, F⟩, rest, hr⟩ := S.defP (d := pRatioof) (st := iRatioof) h rfl rfl rfl
  exact ⟨_, _, fd, quiet (ok_of S F), S.smet h rfl rfl hr F.kp, fun_kbn F 0 _ fun _ _ _ _ _ _ us ws l1 l2 => match us, ws, l1, l2 with | [], [_], _, _ => rfl⟩
theorem ofk_read (S : Hd K mg) : OfK w K mg base 8 "read" "text" (spRead K) := by
  have h : pRatioread ∈ fp := List.mem_of_getElem? (i := 2) rfl
  obtain ⟨⟨fd, F⟩, rest, hr⟩ := S.defP (d := pRatioread) (st := iRatioread) h rfl rfl rfl
  exact ⟨_, _, fd, ok_read S F, S.smet h rfl rfl hr F.kp, fun_kbn F 0 _ fun _ _ _ _ _ _ us ws l1 l2 => match us, ws, l1, l2 with | [], [_], _, _ => rfl⟩
theorem mkrk (S : Hd K mg) : MkRK w K mg base := by
  obtain ⟨fd, F⟩ := S.s.d.def_ 9 (d := dRatiouuinituu) rfl
  have F : FunD K "__init__" "Ratio.__init__" (defArgs iRatiouuinituu) (defBody iRatiouuinituu) (defScope iRatiouuinituu) [.int 1] [] (ma K (cR K) "__init__") fd := F
  obtain ⟨its, b⟩ := F.kbindsD (ps := ["self", "top", "bottom"]) 1 ["bottom", "top"] (fun us _ ws => us ++ ws.reverse) (by simp) (fun r1 _ r3 => r1.append (vals_rev r3)) fun T kV doc pm an cdv ct us its ws hu hi hw => match us, hu, its, hi, ws, hw with
    | [_], _, [_], _, [_, _], _ => ⟨_, rfl, rfl⟩
  exact ⟨fd, _, ok_init S F, b⟩
theorem own_ne (S : Hd K mg) (ha : IsR K H a r) (hy : RV K H y s) (k : Q (.bl (!decide (r = s))) H) : rNeOwn K (cR K) (spEq K) (.ref a) y H Q := by
  obtain ⟨da, ea⟩ := ha
  obtain ⟨t, ty, nf⟩ := rv_nf S hy
  exact ⟨a, da, _, t, rfl, ea, ty, nf, a, y, r, rfl, ⟨da, ea⟩, .inl ⟨s, hy, _, rfl, k⟩⟩
def spNear (K : PySem.W.Frag) : Sp := fun vs H Q _ => ∃ (ta a : Addr) (p q : Int), vs = [.ref ta, .ref a] ∧ H ta = some (.tup [.int p, .int q]) ∧ Pq p q ∧ IsR K H a (Rm.mk p q) ∧ ∀ H2, Same H H2 → Q (.bl true) H2
theorem scNear : FnScope ["_law_a", "_law_one", "_law_great", "_law_near", "_law_sign", "_law_low", "_law_high"] ["_law_a", "_law_one"] (defScope sLnearuright) := ⟨rfl, rfl, rfl, by decide +kernel, rfl, by decide +kernel, by decide +kernel⟩
theorem ok_near (S : Hd K mg) (F : L2.Fun K "_law_near_right" "_law_near_right" sLnearuright f fd) : FnOk P w K mg base CX0 12 f fd ["_law_a", "_law_one"] (spNear K) := by
  obtain ⟨fD, fdD, FD, gD, kD, bD⟩ := (prk_added (w := w) (base := base) S).ex
  obtain ⟨fL, fdL, FL, gL, kL, bL⟩ := (prk_least (w := w) (base := base) S).ex
  obtain ⟨fG, fdG, FG, gG, kG, bG⟩ := (prk_great (w := w) (base := base) S).ex
  obtain ⟨fI, fdI, FI, gI, kI, bI⟩ := (prk_isr (w := w) (base := base) S).ex
  obtain ⟨fdMk, ggM, FMk, bMk⟩ := (mkrk (w := w) (base := base) S).ex
  obtain ⟨fdM, dM, FM, bM, rM, bM2⟩ := (mkR (w := w) (base := base) S).ex
  obtain ⟨fdE, FE, bE⟩ := (mr_eq (w := w) (base := base) S).ex
  obtain ⟨fdA, FAdd, bAdd⟩ := (mr_add (w := w) (base := base) S).quiet.ex
  obtain ⟨fdMm, FMult, bMult⟩ := (mr_mul (w := w) (base := base) S).quiet.ex
  obtain ⟨fdC, FC, bC⟩ := (mr_comp (w := w) (base := base) S).quiet.ex
  obtain ⟨fdB, FB, bB⟩ := (mr_below (w := w) (base := base) S).quiet.ex
  obtain ⟨fdCk, FCk, bCk⟩ := (mrk_comp (w := w) (base := base) S).ex
  obtain ⟨fdBk, FBk, bBk⟩ := (mrk_below (w := w) (base := base) S).ex
  obtain ⟨fdOk, FOk, bOk⟩ := (mrk_over (w := w) (base := base) S).ex
  obtain ⟨fdS, FS, bS⟩ := (mr_str (w := w) (base := base) S).ex
  obtain ⟨pO, gO, fdO, FO, MO, bO⟩ := (ofk_of (w := w) (base := base) S).ex
  obtain ⟨pX, gX, fdX, FX, MX, bX⟩ := (ofk_read (w := w) (base := base) S).ex
  refine F.ok scNear (fun vs H Q E h => ?_) (fun cdv A outer s H vs Q E hr h => ?_)
  · obtain ⟨ta, a, p, q, rfl, _⟩ := h
    rfl
  · obtain ⟨ta, a, p, q, rfl, hta, pq, ha, k⟩ := h
    refine ⟨_, PSs.nox (pss_cons (ps_set (i := 2) scNear.nd rfl (.inl rfl) (pe_op op_pow pe_int pe_int)) (pss_cons (ps_par (i := 3) (j := 4) (by rfl) scNear.nd rfl rfl (by decide) rfl rfl (pa_cons (pe_makeK0 S.mkr (quiet FMk) (hr.mono (by decide)) rfl (S.glo 12) bMk pass0 (pk_cons (pe_op op_mulW (pe_ix ix_tup (pv 0) pe_int (fun _ _ => rfl)) (pv 2)) (pk_cons (pe_op op_add (pe_op op_mulW (pe_ix ix_tup (pv 0) pe_int (fun _ _ => rfl)) (pv 2)) pe_int) pk_nil))) (pa_cons (pe_cut (pe_ifExp (pt_cmpR op_gt (pe_ix ix_tup (pv 0) pe_int (fun _ _ => rfl)) pe_int (nomark _)) pe_int (pe_un un_neg pe_int))) pa_nil)) (by rfl)) (pss_cons (ps_if (pt_cut (PW.pt (pw_or (pt_cmpR (eq_own S.mc_eq FE (hr.mono (by decide)) bE) (pv 3) (pv 1) (nomark _)) (pw_or (pt_cmpR (eq_own S.mc_eq FE (hr.mono (by decide)) bE) (pv 1) (pv 3) (nomark _)) (pw_or (pt_cmpR op_ne (pe_methKw (pv 3) S.cls S.me_compared FCk (hr.mono (by decide)) bCk pass0 (pk_cons (pv 1) pk_nil)) (pv 4) (nomark _)) (pw_or1 (pt_cmpR op_ne (pe_meth (pv 1) S.cls S.me_compared FC (hr.mono (by decide)) bC .nil pass0 (pa_cons (pv 3) pa_nil)) (pe_un un_neg (pv 4)) (nomark _)))))))) (pss_one (ps_ret pe_bl)) pss_nil) (pss_cons (ps_if (pt_cut (PW.pt (pw_or (pt_cmpR op_ne (pe_methKw (pv 1) S.cls S.me_is_below FBk (hr.mono (by decide)) bBk pass0 (pk_cons (pv 3) pk_nil)) (pe_cmpR op_gt (pv 4) pe_int (nomark _)) (nomark _)) (pw_or (pt_cmpR op_ne (pe_meth (pv 3) S.cls S.me_is_below FB (hr.mono (by decide)) bB .nil pass0 (pa_cons (pv 1) pa_nil)) (pe_cmpR op_lt (pv 4) pe_int (nomark _)) (nomark _)) (pw_or1 (pt_cmpR (ne_own S.mc_eq S.noNe S.mroO FE (hr.mono (by decide)) bE) (pe_kw FD (hr.mono (by decide)) rfl gD kD bD pass0 (pk_cons (pe_lst (pa_cons (pv 3) (pa_cons (pv 1) pa_nil))) pk_nil)) (pe_op (op_own (E := E0) S.op_add (S.noR (op := .Add) (by simp [dunN, Operator.info])) FAdd (hr.mono (by decide)) bAdd pass0) (pv 3) (pv 1)) (nomark _))))))) (pss_one (ps_ret pe_bl)) pss_nil) (pss_cons (ps_asg (pe_cut (pe_ifExp (pt_cmpR op_gt (pv 4) pe_int (nomark _)) (pe_tup (pa_cons (pv 1) (pa_cons (pv 3) pa_nil))) (pe_tup (pa_cons (pv 3) (pa_cons (pv 1) pa_nil))))) (pg_tup rfl (pgs_cons (pg_name (i := 5) scNear.nd rfl (.inl rfl)) (pgs_cons (pg_name (i := 6) scNear.nd rfl (.inl rfl)) pgs_nil)))) (pss_cons (ps_if (pt_cut (PW.pt (pw_or (pt_cmpR (ne_own S.mc_eq S.noNe S.mroO FE (hr.mono (by decide)) bE) (pe_kw FL (hr.mono (by decide)) rfl gL kL bL pass0 (pk_cons (pe_lst (pa_cons (pv 3) (pa_cons (pv 1) pa_nil))) pk_nil)) (pv 5) (nomark _)) (pw_or (pt_cmpR (ne_own S.mc_eq S.noNe S.mroO FE (hr.mono (by decide)) bE) (pe_kw FG (hr.mono (by decide)) rfl gG kG bG pass0 (pk_cons (pe_tup (pa_cons (pv 3) (pa_cons (pv 1) pa_nil))) pk_nil)) (pv 6) (nomark _)) (pw_or1 (pt_cmpR (ne_own S.mc_eq S.noNe S.mroO FE (hr.mono (by decide)) bE) (pe_statKw (pe_glob (v := .ref (cR K)) rfl (S.glo 12) rfl) MX FX (hr.mono (by decide)) bX pass0 (pk_cons (pe_callTy (str_own S.mc_str FS (hr.mono (by decide)) bS) rfl (S.free 57) (by decide +kernel) (pa_cons (pv 3) pa_nil)) pk_nil)) (pv 3) (nomark _))))))) (pss_one (ps_ret pe_bl)) pss_nil) (pss_one (ps_ret (pe_and (pe_cmpR (eq_own S.mc_eq FE (hr.mono (by decide)) bE) (pe_statKw (pe_glob (v := .ref (cR K)) rfl (S.glo 12) rfl) MO FO (hr.mono (by decide)) bO pass0 (pk_cons (pv 3) pk_nil)) (pv 3) (nomark _)) (pe_and (pe_or (pe_cmpR op_eq (pe_ix ix_tup (pv 0) pe_int (fun _ _ => rfl)) pe_int (nomark _)) (pe_one (pe_cmpR (eq_own S.mc_eq FE (hr.mono (by decide)) bE) (pe_methKw (pv 3) S.cls S.me_over FOk (hr.mono (by decide)) bOk pass0 (pk_cons (pv 1) pk_nil)) (pe_op (op_own (E := E0) S.op_mul (S.noR (op := .Mult) (by simp [dunN, Operator.info])) FMult (hr.mono (by decide)) bMult pass0) (pv 3) (pe_make S.mkr (quiet FM) (hr.mono (by decide)) rfl (S.glo 12) bM .nil pass0 (pa_cons (pe_ix ix_tup (pv 0) pe_int (fun _ _ => rfl)) (pa_cons (pe_ix ix_tup (pv 0) pe_int (fun _ _ => rfl)) pa_nil)))) (nomark _)))) (pe_one (pe_kw FI (hr.mono (by decide)) rfl gI kI bI pass0 (pk_cons (pv 3) pk_nil))))))))))))), ?_⟩
    obtain ⟨da, ea⟩ := id ha
    have q0 := pq.1
    have hp := up pq.p (k := 200) (by decide)
    have hq := up pq.q (k := 200) (by decide)
    have tA : ∀ {H2 : Hp}, Same H H2 → SqT K H2 ta [.int p, .int q] := fun e => SqT.of (e _ _ hta)
    have nn : ∀ v : V, (!decide (v = v)) = false := fun v => by rw [decide_eq_true rfl]; rfl
    refine ⟨_, _, rfl, rfl, ⟨by decide, by decide, by decide⟩, ?_⟩
    show tSeq _ _ _ [some (.ref ta), some (.ref a), some (.int ((10 : Int) ^ (30 : Int).toNat)), none, none, none, none] H
    have G0 : (0 : Int) < (10 : Int) ^ (30 : Int).toNat := by decide
    have Gb : ((10 : Int) ^ (30 : Int).toNat).natAbs < 2 ^ 200 := by decide
    have G60 : (p * (10 : Int) ^ (30 : Int).toNat + 1).natAbs < 10 ^ 60 ∧ (q * (10 : Int) ^ (30 : Int).toNat).natAbs < 10 ^ 60 := by
      have e : ((10 : Int) ^ (30 : Int).toNat).natAbs = 10 ^ 30 := by decide
      have m1 := Nat.mul_lt_mul_of_pos_right pq.2.1 (by decide : 0 < 10 ^ 30)
      have m2 := Nat.mul_lt_mul_of_pos_right pq.2.2 (by decide : 0 < 10 ^ 30)
      have a1 : (p * (10 : Int) ^ (30 : Int).toNat).natAbs < 10 ^ 26 * 10 ^ 30 := by rw [Int.natAbs_mul, e]; exact m1
      have a2 : (q * (10 : Int) ^ (30 : Int).toNat).natAbs < 10 ^ 26 * 10 ^ 30 := by rw [Int.natAbs_mul, e]; exact m2
      have t : (10 : Nat) ^ 26 * 10 ^ 30 < 10 ^ 60 := by decide
      exact ⟨Nat.lt_of_le_of_lt (Nat.le_trans (Int.natAbs_add_le _ _) (Nat.succ_le_of_lt a1)) t, Nat.lt_trans a2 t⟩
    generalize (10 : Int) ^ (30 : Int).toNat = G at *
    have qG0 : q * G ≠ 0 := Int.mul_ne_zero q0 (Int.ne_of_gt G0)
    have s6 : s60 (Rm.mk (p * G + 1) (q * G)) := s60_mk qG0 G60.1 G60.2
    have cN : Rm.cmp (Rm.mk (p * G + 1) (q * G)) (Rm.mk p q) = if 0 < q then 1 else -1 := by
      rw [Rm.cmp_mk qG0 q0]
      have e : ((p * G + 1) * q - p * (q * G)) * (q * G * q) = q * (q * q) * G := by grind
      rw [e]
      have qq : 0 < q * q := by
        rcases Int.lt_trichotomy q 0 with h | h | h
        · exact Int.mul_pos_of_neg_of_neg h h
        · exact absurd h q0
        · exact Int.mul_pos h h
      rw [Int.sign_mul, Int.sign_mul, Int.sign_eq_one_of_pos qq, Int.sign_eq_one_of_pos G0, Int.mul_one, Int.mul_one]
      split
      · rename_i h
        exact Int.sign_eq_one_of_pos h
      · exact Int.sign_eq_neg_one_of_neg (by omega)
    have cR' : ∀ N r : Rat, Rm.cmp r N = -Rm.cmp N r := fun N r => by
      unfold Rm.cmp
      rw [← Int.sign_neg]
      congr 1
      omega
    have eOv : Rm.mk (p * G + 1) (q * G) / Rm.mk p q = Rm.mk (p * G + 1) (q * G) * Rm.mk q p := by rw [Rat.div_def, Rat.inv_divInt]
    refine ⟨_, rfl, ta, _, _, _, rfl, rfl, tA (Same.refl _), rfl, _, rfl, _, _, rfl, rfl, wide_mul hq Gb (by decide) (by decide) (by decide), ?_⟩
    refine ⟨_, rfl, ta, _, _, _, rfl, rfl, tA (Same.refl _), rfl, _, rfl, _, _, rfl, rfl, wide_mul hp Gb (by decide) (by decide) (by decide), _, _, rfl, rfl, rfl, rfl, ?_⟩
    refine fun x dx nx ndx ne => ⟨x, dx, .int (p * G + 1), .int (q * G), rfl, upd_same, .inl ⟨_, _, rfl, rfl, qG0, s60.big G60.1, s60.big G60.2, fun H1 hs1 h1 => ⟨rfl, ?_⟩⟩⟩
    have e1 : Same H H1 := new_rat_same nx ndx hs1
    have hN : IsR K H1 x (Rm.mk (p * G + 1) (q * G)) := ⟨dx, h1⟩
    have ha1 := ha.same e1
    have hr0 : Rm.Bd 2000 (Rm.mk p q) := pq.bd
    have bdq : Rm.Bd 2000 (Rm.mk q p) ∨ p = 0 := by
      by_cases h : p = 0
      · exact .inr h
      · exact .inl (Rm.bd_mk h (up hq (by decide)) (up hp (by decide)))
    have bq : big q := big_up hq (by decide)
    have bp : big p := big_up hp (by decide)
    have rne : p ≠ 0 → Rm.mk p q ≠ 0 := fun h => mk_ne0 q0 h
    have hrn : (Rm.mk p q).num.natAbs < 2 ^ 300 := Nat.lt_of_le_of_lt (Rm.num_le p q q0) (up hp (by decide))
    have hrd : (((Rm.mk p q).den : Int)).natAbs < 2 ^ 300 := by rw [Int.natAbs_natCast]; exact Nat.lt_of_le_of_lt (Rm.den_le p q q0) (up hq (by decide))
    generalize Rm.mk (p * G + 1) (q * G) = N at *
    generalize Rm.mk p q = r at *
    have bN := s6.bd
    refine ⟨fun v H2 => v = .int (if 0 < q then 1 else -1) ∧ H2 = H1, ?_, ?_⟩
    · refine ⟨_, rfl, ta, _, _, _, rfl, rfl, tA e1, rfl, _, _, rfl, rfl, _, rfl, ?_⟩
      by_cases h : 0 < q
      · exact itt (decide_eq_true h) ⟨by rw [if_pos h], rfl⟩
      · exact itf (decide_eq_false h) ⟨_, rfl, by rw [if_neg h], rfl⟩
    rintro _ Hq ⟨rfl, hHq⟩
    rw [hHq]
    clear hHq
    refine ⟨_, _, rfl, ?_⟩
    show tSeq _ _ _ [some (.ref ta), some (.ref a), some (.int G), some (.ref x), some (.int (if 0 < q then 1 else -1)), none, none] H1
    have sg : ((if 0 < q then (1 : Int) else -1) = 1 ∧ 0 < q) ∨ ((if 0 < q then (1 : Int) else -1) = -1 ∧ ¬ 0 < q) := by
      by_cases h : 0 < q
      · exact .inl ⟨if_pos h, h⟩
      · exact .inr ⟨if_neg h, h⟩
    generalize hsg : (if 0 < q then (1 : Int) else -1) = g at *
    have neq : N ≠ r := fun z => by
      have := (Rm.cmp_zero N r).mpr z
      rw [cN] at this
      omega
    obtain ⟨dx1, ex1⟩ := id hN
    obtain ⟨da1, ea1⟩ := id ha1
    refine ⟨fun b H2 => b = false ∧ Same H1 H2, ?_, ?_⟩
    · refine ⟨_, rfl, _, rfl, own_eq S hN (RV.of ha1) ⟨_, rfl, itf (decide_eq_false neq) ?_⟩⟩
      refine ⟨_, rfl, _, rfl, own_eq S ha1 (RV.of hN) ⟨_, rfl, itf (decide_eq_false (Ne.symm neq)) ?_⟩⟩
      refine ⟨_, rfl, x, dx1, _, rfl, ex1, rfl, _, rfl, rfl, x, .ref a, N, rfl, ⟨dx1, ex1⟩, bN, .inl ⟨r, RV.of ha1, hr0, fun H2 e2 => ?_⟩⟩
      refine ⟨_, rfl, rfl, _, rfl, itf (by rw [cN]; exact nn _) ?_⟩
      refine ⟨_, rfl, a, da1, _, rfl, e2 _ _ ea1, rfl, _, rfl, a, .ref x, r, rfl, ⟨da1, e2 _ _ ea1⟩, hr0, .inl ⟨N, RV.of (hN.same e2), bN, fun H3 e3 => ?_⟩⟩
      refine ⟨_, rfl, _, rfl, rfl, _, rfl, ?_, e2.trans e3⟩
      rw [cR' N r, cN]
      exact nn _
    rintro _ Ha ⟨rfl, ea2⟩
    refine iteF ?_
    have hNa := hN.same ea2
    have haa := ha1.same ea2
    have exa := ea2 _ _ ex1
    have eaa := ea2 _ _ ea1
    have lt1 : decide (Rm.cmp r N < 0) = decide (0 < g) := by
      rw [cR' N r, cN]
      exact decide_eq_decide.mpr (by omega)
    have lt2 : decide (Rm.cmp N r < 0) = decide (g < 0) := by rw [cN]
    have es : sumr [N, r] = N + r := by
      show (0 + N + r) = _
      rw [Rat.zero_add]
    have b200N : Rm.Bd 2000 (N + r) := by
      rw [← Rm.add_mk]
      have n1 : N.num.natAbs < 2 ^ 300 := Nat.lt_trans s6.1 (by decide : 10 ^ 60 < 2 ^ 300)
      have n2 : ((N.den : Int)).natAbs < 2 ^ 300 := by rw [Int.natAbs_natCast]; exact Nat.lt_trans s6.2 (by decide : 10 ^ 60 < 2 ^ 300)
      have n3 := hrn
      have n4 := hrd
      exact Rm.bd_mk (Int.mul_ne_zero (Int.ne_of_gt (Rm.den_pos N)) (Int.ne_of_gt (Rm.den_pos r))) (up (Rm.add_lt (Rm.mul_lt n1 n4) (Rm.mul_lt n3 n2)) (by decide)) (up (Rm.mul_lt n2 n4) (by decide))
    refine ⟨fun b H2 => b = false ∧ Same Ha H2, ?_, ?_⟩
    · refine ⟨_, rfl, a, da1, _, rfl, eaa, rfl, _, rfl, rfl, a, .ref x, r, rfl, ⟨da1, eaa⟩, hr0, .inl ⟨N, RV.of hNa, bN, fun H2 e2 => ?_⟩⟩
      refine ⟨_, rfl, _, _, rfl, rfl, rfl, _, rfl, itf (by rw [lt1]; exact nn _) ?_⟩
      refine ⟨_, rfl, x, dx1, _, rfl, e2 _ _ exa, rfl, _, rfl, x, .ref a, N, rfl, ⟨dx1, e2 _ _ exa⟩, bN, .inl ⟨r, RV.of (haa.same e2), hr0, fun H3 e3 => ?_⟩⟩
      refine ⟨_, rfl, _, _, rfl, rfl, rfl, _, rfl, itf (by rw [lt2]; exact nn _) ?_⟩
      have e23 := e2.trans e3
      refine ⟨_, rfl, _, rfl, (by show 2 ≤ sizeLine; decide), fun l nl => ?_⟩
      have el := e23.trans (samu (o := .lst [.ref x, .ref a]) nl)
      refine ⟨rfl, .ref l, rfl, .inr ⟨l, [.ref x, .ref a], [N, r], rfl, .inl upd_same, by simp, .cons ⟨RV.of (hNa.same el), bN⟩ (.cons ⟨RV.of (haa.same el), hr0⟩ .nil), fun j => ?_, fun c H4 e4 hc => ?_⟩⟩
      · match j with
        | 0 => exact bd0'
        | 1 => rw [show sumr (List.take 1 [N, r]) = N by show (0 + N) = _; rw [Rat.zero_add]]; exact bN
        | n + 2 => rw [show List.take (n + 2) [N, r] = [N, r] by simp, es]; exact b200N
      · have e24 := el.trans e4
        refine ⟨_, rfl, _, rfl, own_add S (hNa.same e24) (RV.of (haa.same e24)) bN hr0 fun d H5 e5 hd => ?_⟩
        refine own_ne S (hc.same e5) (RV.of hd) ⟨_, rfl, ?_, e24.trans e5⟩
        rw [es, decide_eq_true rfl]
        rfl
    rintro _ Hb ⟨rfl, ea3⟩
    refine iteF ?_
    have e13 := ea2.trans ea3
    have hNb := hN.same e13
    have hab := ha1.same e13
    have pick : ∃ (lo hi : Addr) (rl rh : Rat), ext (-1) [N, r] = rl ∧ ext 1 [N, r] = rh ∧ (∀ {H2 : Hp}, Same Hb H2 → IsR K H2 lo rl) ∧ (∀ {H2 : Hp}, Same Hb H2 → IsR K H2 hi rh) ∧ ((0 < g ∧ lo = a ∧ hi = x) ∨ (¬ 0 < g ∧ lo = x ∧ hi = a)) := by
      rw [ext2 (-1) (by decide), ext2 1 (by decide), cN]
      rcases sg with ⟨h1, _⟩ | ⟨h1, _⟩
      · refine ⟨a, x, r, N, if_pos (by omega), if_neg (by omega), fun e => hab.same e, fun e => hNb.same e, .inl ⟨by omega, rfl, rfl⟩⟩
      · refine ⟨x, a, N, r, if_neg (by omega), if_pos (by omega), fun e => hNb.same e, fun e => hab.same e, .inr ⟨by omega, rfl, rfl⟩⟩
    obtain ⟨lo, hi, rl, rh, el, eh, hlo, hhi, hpick⟩ := pick
    refine ⟨fun v H2 => ∃ t, v = .ref t ∧ H2 t = some (.tup [.ref lo, .ref hi]) ∧ Same Hb H2, ?_, ?_⟩
    · refine ⟨_, rfl, _, _, rfl, rfl, _, rfl, ?_⟩
      rcases hpick with ⟨h0, rfl, rfl⟩ | ⟨h0, rfl, rfl⟩
      · exact itt (decide_eq_true h0) ⟨_, rfl, _, rfl, (by show 2 ≤ sizeLine; decide), fun t nt => ⟨t, rfl, upd_same, samu nt⟩⟩
      · exact itf (decide_eq_false h0) ⟨_, rfl, _, rfl, (by show 2 ≤ sizeLine; decide), fun t nt => ⟨t, rfl, upd_same, samu nt⟩⟩
    rintro _ Hf ⟨tt, rfl, htt, ea6⟩
    refine ⟨tt, _, rfl, SqT.of htt, rfl, _, _, rfl, _, _, rfl, rfl, ?_⟩
    show tSeq _ _ _ [some (.ref ta), some (.ref a), some (.int G), some (.ref x), some (.int g), some (.ref lo), some (.ref hi)] Hf
    have hNf := hNb.same ea6
    have haf := hab.same ea6
    obtain ⟨dxf, exf⟩ := id hNf
    refine ⟨fun b H2 => b = false ∧ Same Hf H2, ?_, ?_⟩
    · refine ⟨_, rfl, _, rfl, (by show 2 ≤ sizeLine; decide), fun l nl => ?_⟩
      have e1 := samu (o := .lst [.ref x, .ref a]) nl
      refine ⟨rfl, .ref l, rfl, .inr ⟨l, [.ref x, .ref a], [N, r], rfl, .inl upd_same, by simp, by simp, .cons ⟨RV.of (hNf.same e1), bN⟩ (.cons ⟨RV.of (haf.same e1), hr0⟩ .nil), fun c H2 e2 hc => ?_⟩⟩
      refine ⟨_, rfl, own_ne S hc (RV.of (hlo (ea6.trans (e1.trans e2)))) ⟨_, rfl, itf (by rw [el, decide_eq_true rfl]; rfl) ?_⟩⟩
      have e3 := e1.trans e2
      refine ⟨_, rfl, _, rfl, (by show 2 ≤ sizeLine; decide), fun u nu => ?_⟩
      have e4 := e3.trans (samu (o := .tup [.ref x, .ref a]) nu)
      refine ⟨rfl, .ref u, rfl, .inr ⟨u, [.ref x, .ref a], [N, r], rfl, .inr upd_same, by simp, by simp, .cons ⟨RV.of (hNf.same e4), bN⟩ (.cons ⟨RV.of (haf.same e4), hr0⟩ .nil), fun c H5 e5 hc => ?_⟩⟩
      refine ⟨_, rfl, own_ne S hc (RV.of (hhi (ea6.trans (e4.trans e5)))) ⟨_, rfl, itf (by rw [eh, decide_eq_true rfl]; rfl) ?_⟩⟩
      have e6 := e4.trans e5
      refine ⟨rfl, _, rfl, x, dxf, _, rfl, e6 _ _ exf, x, N, rfl, ⟨dxf, e6 _ _ exf⟩, s6.sm, _, rfl, rfl, N, rfl, s6, fun c H7 e7 hc => ?_⟩
      refine ⟨_, rfl, own_ne S hc (RV.of ((hNf.same e6).same e7)) ⟨_, rfl, ?_, e6.trans e7⟩⟩
      rw [decide_eq_true rfl]
      rfl
    rintro _ Hg ⟨rfl, ea7⟩
    refine iteF ?_
    have hNg := hNf.same ea7
    have hag := haf.same ea7
    have eg := e1.trans (e13.trans (ea6.trans ea7))
    refine ⟨rfl, _, rfl, rfl, .ref x, rfl, .inl ⟨N, RV.of hNg, bN.mono (by decide), fun c H2 e2 hc => ?_⟩⟩
    refine ⟨_, rfl, own_eq S hc (RV.of (hNg.same e2)) ⟨_, rfl, itt (decide_eq_true rfl) ?_⟩⟩
    have e12 := eg.trans e2
    obtain ⟨dx2, ex2⟩ := hNg.same e2
    have fin : ∀ H3, Same Hg H3 → (tKw (spIsR K) 1 (fun vs zs => vs ++ zs) E0 [] (tCons (tVar 3) tNil)) [some (.ref ta), some (.ref a), some (.int G), some (.ref x), some (.int g), some (.ref lo), some (.ref hi)] H3 Q := fun H3 e3 =>
      ⟨_, rfl, rfl, .ref x, false, true, rfl, S.kd_rat (hNg.same e3), k H3 (eg.trans e3)⟩
    refine ⟨_, rfl, ta, _, _, _, rfl, rfl, tA e12, rfl, rfl, _, rfl, ?_⟩
    by_cases hp0 : p = 0
    · exact itt (by rw [dec_int]; exact decide_eq_true hp0) ⟨_, rfl, iteT (fin _ e2)⟩
    · refine itf (by rw [dec_int]; exact decide_eq_false hp0) ?_
      have bdq2 := bdq.resolve_right hp0
      refine ⟨_, rfl, x, dx2, _, rfl, ex2, rfl, _, rfl, rfl, x, .ref a, N, rfl, ⟨dx2, ex2⟩, bN, .inl ⟨r, RV.of (hag.same e2), hr0, rne hp0, fun d H3 e3 hd => ?_⟩⟩
      have e23 := e2.trans e3
      refine ⟨_, rfl, _, rfl, ta, _, _, _, rfl, rfl, tA (eg.trans e23), rfl, _, rfl, ta, _, _, _, rfl, rfl, tA (eg.trans e23), rfl, ?_⟩
      refine fun y2 dy ny ndy ne2 => ⟨y2, dy, .int q, .int p, rfl, upd_same, .inl ⟨q, p, rfl, rfl, hp0, bq, bp, fun H4 hs4 h4 => ⟨rfl, ?_⟩⟩⟩
      have e4 := new_rat_same ny ndy hs4
      have e24 := e23.trans e4
      refine own_mul S (hNg.same e24) (RV.of ⟨dy, h4⟩) bN bdq2 fun m H5 e5 hm => ?_
      refine own_eq S (hd.same (e4.trans e5)) (RV.of hm) ⟨_, rfl, itt (decide_eq_true eOv) ?_⟩
      exact fin _ (e24.trans e5)
theorem pr_near (S : Hd K mg) : Pr w K mg base CX0 12 "_law_near_right" ["_law_a", "_law_one"] (spNear K) := by
  obtain ⟨fd, F⟩ := S.def_ 48 (d := dLnearuright)
  have F := fun_of (st := sLnearuright) F
  exact ⟨_, fd, ok_near S F, S.glo 39, F.kp, F.binds fun _ _ _ _ _ _ us hl => match us, hl with | [_, _], _ => rfl⟩
end
end Kw
end

/-! Kw21 -/
section
set_option maxHeartbeats 4000000
set_option exponentiation.threshold 10000
/-! _law_refused -/
namespace Kw
open PySem PySem.Spec PyProof.Rows L2 He Er Ow LamX
/-- refused(ask, part): what ask raises, a BadRatio, has this part; or it raises nothing -/
def TTref (K : PySem.W.Frag) (part : Str) : (XK → Hp → VK → Prop) → Hp → VK → Prop := fun tl H Q =>
  tl (fun cls d H' => cls = .ref (cB K) ∧ ∃ dd, d = some dd ∧ H' dd = some (.xd [("part", .str part)]) ∧ Q (.bl true) H') H (fun _ H2 => Q (.bl false) H2)
theorem scRef : FnScope ["_law_ask", "_law_part", "error"] ["_law_ask", "_law_part"] (defScope sLrefused) := ⟨rfl, rfl, rfl, by decide +kernel, rfl, by decide +kernel, by decide +kernel⟩
theorem exm_own {K : PySem.W.Frag} {C : Addr} (E : ErrC K C) (m : PySem.W.mroIn K C (.ref C) = some true) : PySem.W.exmOne K (.ref C) (.ref C) = some true := by
  have h1 : PySem.W.subIn K (.ref C) (.ref C) = some true := m
  have h2 : (PySem.W.clsIn K C).isSome = true := by
    obtain ⟨cd, hc⟩ := E.cls
    rw [hc]; rfl
  simp [PySem.W.exmOne, PySem.W.kitCls, E.ec.hs, E.oex.tyC, h1, h2]
theorem Hd.exmB {K : PySem.W.Frag} {mg : Str → Option Value} (S : Hd K mg) : PySem.W.exmOne K (.ref (cB K)) (.ref (cB K)) = some true :=
  exm_own S.brE (of_decide_eq_true (ba (ba (ba (List.all_eq_true.mp S.b2 _ fs0)).2).2).1)
section
variable {X : Cx}
theorem ref_gives {g : Addr} {cdg : Value} {q z : Str} (S : Hd X.K X.mg) : Gives2 X ["_law_ask", "_law_part", "error"] "_law_refused" (defScope sLrefused) g cdg (defBody sLrefused) "_law_ask" q z (TTref X.K z) := by
  intro f c' s H Q tl act hc h
  refine ⟨_, pss_cons (L2.ps_try_as (X := (cxOf C8.CX0 X.prog X.w X.K X.mg X.base ["_law_ask", "_law_part", "error"] "_law_refused" (defScope sLrefused) g cdg X.A X.stack s H C8.E0).nox) (i := 2) (c := .ref (cB X.K))
      (tb := fun W D σ H => ∃ Ech : XK, (∀ cls d H', Ech cls d H' → W cls d σ H') ∧ σ[0]? = some (some (.ref f)) ∧ H c' = some (CodeO c' q) ∧ tl Ech H (fun _ H2 => D.nx σ H2))
      rfl rfl scRef.nd rfl rfl ⟨rfl, by decide, .inl (S.glo 7)⟩ LamX.takes0 (fun W pn xe tk _ => ?_) (fun a oe cls d pn hz hf => pss_one (ps_ret (pe_cmpR op_eq (pe_xf S.brE.xf S.noPart hz hf (pv 2)) (pv 1) (nomark _))))) (pss_one (ps_ret pe_bl)), ?_⟩
  · refine ⟨fun pins s' σ H' D I h' => ?_⟩
    obtain ⟨Ech, hW, h1, h2, h3⟩ := h'
    exact (pss_one (ps_expr (act W pn xe Ech _ _ tk))).run pins s' σ H' D I ⟨h1, h2, hW, h3⟩
  · refine ⟨fun cls d H' => cls = .ref (cB X.K) ∧ ∃ dd, d = some dd ∧ H' dd = some (.xd [("part", .str z)]) ∧ Q (.bl true) H', fun cls d H' hE => ?_, rfl, hc, h⟩
    obtain ⟨rfl, dd, rfl, hd, hq⟩ := hE
    refine ⟨true, S.exmB, fun _ a _ => ?_, nofun⟩
    refine ⟨.ref a, rfl, rfl, rfl, dd, _, .str z, rfl, hd, rfl, .str z, rfl, rfl, ?_⟩
    rw [decide_eq_true (rfl : V.str z = V.str z)]
    exact hq
end
end Kw
end

/-! Kw22 -/
section
set_option maxHeartbeats 4000000
set_option exponentiation.threshold 10000
/-! _law_errors_right -/
namespace Kw
open PySem PySem.Spec PyProof.Rows L2 He Er Ow LamX
/-- a def whose code object is known -/
structure FunC (K : PySem.W.Frag) (x qual : Str) (st : Stmt) (f : Addr) (fd : FuncData) (c : Addr) : Prop where
  ex : ∃ (oc : Value) (od : Option Addr) (kV doc pm : Value) (an : Option Addr) (ct : Value) (osl : Array (Option Value)),
    fd = PySem.W.fnOf x qual (defArgs st) (defBody st) (defScope st) .none kV doc pm an (.ref c) ct ∧ K.lookup f = some ⟨oc, od, .func fd, osl⟩ ∧ PySem.W.codeIn K (.ref c) qual = true
  kp : PySem.W.keepIn K (.ref f) = true
section
variable {P : Program} {w : World} {K : PySem.W.Frag} {mg : Str → Option Value} {base : Heap}
theorem FunC.ok {x qual : Str} {st : Stmt} {f c : Addr} {fd : FuncData} {N ps : List Str} {k : Nat} {sp : Sp} (F : FunC K x qual st f fd c) (Sc : FnScope N ps (defScope st)) (len : ∀ vs H Q E, sp vs H Q E → vs.length = ps.length)
    (hbody : ∀ (A : Around) (outer : List Env) (s : Shared) (H : Hp) (vs : List V) (Q : VK) (E : XK), Room k (A.deeper (envOfC qual (defScope st) s.heap.objs.size f (.ref c))) → sp vs H Q E →
      ∃ t, PSs (cxOf CX0 P w K mg base N qual (defScope st) f (.ref c) A outer s H E).nox (defBody st) t ∧ t { nx := fun _ H' => Q .non H', rt := Q } (start N vs) H) : FnOk P w K mg base CX0 (k + 1) f fd ps sp := by
  obtain ⟨oc, od, kV, doc, pm, an, ct, osl, rfl, lk, hcd⟩ := F.ex
  refine fn_of lk hcd Sc len fun A outer s H vs Q E hr hsp => ?_
  obtain ⟨t, h, q⟩ := hbody A outer s H vs Q E hr hsp
  exact ⟨t, h.nox, q⟩
end
section
variable {w : World} {K : PySem.W.Frag} {mg : Str → Option Value} {base : Heap} {f : Addr} {fd : FuncData} {H H2 : Hp} {x y : V} {b c : Bool} {t : Value} {a : Addr} {r s : Rat} {Q : VK}
theorem op_K {X : Cx} {op : Operator} {C : Addr} {sp : Sp} {E : XK} (h : X.K = K) (o : OpR X (binaryOp op) (rOwn X.K C op sp E)) : OpR X (binaryOp op) (rOwn K C op sp E) := h ▸ o
theorem pe_fldK {X : Cx} {e : Expr} {ta : TE} {fl : Str} {pos : Pos} (h : X.K = K) (he : PE X e ta) (hb : attributeBase e fl X.env (eval e X.env) = eval e X.env) : PE X (.Attribute e fl pos) (tFld K ta fl) := h ▸ pe_fld he hb
/-- the six odd values -/
inductive Odd (H : Hp) : V → Prop
  | non : Odd H .non
  | tru : Odd H (.bl true)
  | str : Odd H (.str "1/2")
  | lst {p : Addr} : H p = some (.lst [.int 1]) → Odd H (.ref p)
  | tup {p : Addr} : H p = some (.tup [.int 1, .int 2]) → Odd H (.ref p)
  | dic {p : Addr} : H p = some (.dK []) → Odd H (.ref p)
def qE : Str := "_law_errors_right.<locals>.<lambda>"
def spErr (K : PySem.W.Frag) (T : List (Addr × Str)) : Sp := fun vs H Q _ => ∃ (a : Addr) (x : V) (r : Rat), vs = [.ref a, x] ∧ IsR K H a r ∧ Rm.Bd 2000 r ∧ Odd H x ∧ Tabs T H ∧ ∀ H2, ExtN H H2 → Tabs T H2 → Q (.bl true) H2
theorem Odd.kd (S : Hd K mg) (h : Odd H x) : Kd K H x false false := by
  cases h with
  | non => exact S.kd_non
  | tru => exact S.kd_bl
  | str => exact S.kd_str
  | lst h => exact S.kd_lst h
  | tup h => exact S.kd_tup h
  | dic h => exact S.kd_dK h
theorem Odd.ext (h : Odd H x) (e : ∀ b o, H b = some o → (∀ ps, o ≠ .tbl ps) → H2 b = some o) : Odd H2 x := by
  cases h with
  | non => exact .non
  | tru => exact .tru
  | str => exact .str
  | lst h => exact .lst (e _ _ h nofun)
  | tup h => exact .tup (e _ _ h nofun)
  | dic h => exact .dic (e _ _ h nofun)
theorem Odd.same (h : Odd H x) (e : Same H H2) : Odd H2 x := h.ext fun b o z _ => e b o z
theorem IsR.ext (h : IsR K H a r) (e : ExtN H H2) : IsR K H2 a r := by
  obtain ⟨d, h⟩ := h
  exact ⟨d, e _ _ h nofun⟩
theorem Odd.app {p : Addr} {k : Nat} {o : HO} (h : Odd H x) (hp : H p = some (.lst (List.replicate k (.bl true)))) : Odd (upd H p o) x := by
  cases h with
  | non => exact .non
  | tru => exact .tru
  | str => exact .str
  | lst h =>
    refine .lst ((upd_ne (ne_of h hp fun z => ?_)).trans h)
    have z' : [V.int 1] = List.replicate k (V.bl true) := HO.lst.inj z
    cases k with
    | zero => cases z'
    | succ n => rw [List.replicate_succ] at z'; cases z'
  | tup h => exact .tup ((upd_ne (ne_of h hp nofun)).trans h)
  | dic h => exact .dic ((upd_ne (ne_of h hp nofun)).trans h)
theorem tabS_app {Pt p : Addr} {q : Str} {xs : List V} {o : HO} (h : TabS H Pt q) (hp : H p = some (.lst xs)) : TabS (upd H p o) Pt q := by
  obtain ⟨ps, e, tr, k⟩ := h
  refine ⟨ps, (upd_ne (ne_of e hp nofun)).trans e, tr, fun pos cv hc => ?_⟩
  obtain ⟨c, ec, hcc⟩ := k pos cv hc
  refine ⟨c, ec, (upd_ne (ne_of hcc hp fun z => ?_)).trans hcc⟩
  have z' : HO.ext _ = HO.lst xs := z
  cases z'
/-- what holds while the list of answers grows -/
structure Wd (K : PySem.W.Frag) (T : List (Addr × Str)) (H0 : Hp) (a p : Addr) (r : Rat) (x : V) (k : Nat) (H : Hp) : Prop where
  one : IsR K H a r
  odd : Odd H x
  tab : Tabs T H
  lst : H p = some (.lst (List.replicate k (.bl true)))
  new : H0 p = none
  ext : ExtN H0 H
theorem Wd.same {T : List (Addr × Str)} {H0 : Hp} {p : Addr} {k : Nat} (W : Wd K T H0 a p r x k H) (e : Same H H2) : Wd K T H0 a p r x k H2 :=
  ⟨W.one.same e, W.odd.same e, W.tab.ext e, e _ _ W.lst, W.new, W.ext.trans (ExtN.of e)⟩
theorem Wd.app {T : List (Addr × Str)} {H0 : Hp} {p : Addr} {k : Nat} (W : Wd K T H0 a p r x k H) : Wd K T H0 a p r x (k + 1) (upd H p (.lst (List.replicate k (.bl true) ++ [.bl true]))) := by
  obtain ⟨da, ea⟩ := W.one
  refine ⟨⟨da, (upd_ne (ne_of ea W.lst nofun)).trans ea⟩, W.odd.app W.lst, fun q hq => tabS_app (W.tab q hq) W.lst, ?_, W.new, fun b o e n => ?_⟩
  · rw [upd_same, List.replicate_succ']
  · exact (upd_ne (ne_of_none e W.new)).trans (W.ext b o e n)
/-- the lambda lets out a BadRatio with this part -/
def Lets (K : PySem.W.Frag) (σ : L2.St) (a : Addr) (r : Rat) (x : V) (part : Str) (t : XK → TE) : Prop := ∀ (E : XK) (H : Hp) (Q : VK), IsR K H a r → Odd H x → Rz K H E part → t E σ H Q
theorem err_step {T : List (Addr × Str)} {H0 : Hp} {p : Addr} {k : Nat} {D : Ends} {σ : L2.St} {rest : TS} {part : Str} {t : XK → TE} (hσ : σ[2]? = some (some (.ref p))) (W : Wd K T H0 a p r x k H) (hk : k < 100) (hR : Lets K σ a r x part t)
    (next : ∀ H', Wd K T H0 a p r x (k + 1) H' → rest D σ H') : tSeq (tDrop (tBM K "list" rAppend (tVar 2) (tCons (tLam T (TTref K part) t) tNil))) rest D σ H := by
  refine ⟨.ref p, hσ, .inl ⟨rfl, _, SqL.of W.lst⟩, W.tab, fun H1 e1 t1 => ?_⟩
  refine hR _ _ _ (W.one.ext e1) (W.odd.ext e1) fun d H2 e2 hd => ⟨rfl, d, rfl, hd, ?_⟩
  have W2 : Wd K T H0 a p r x k H2 := ⟨(W.one.ext e1).same e2, (W.odd.ext e1).same e2, t1.ext e2, e2 _ _ (e1 _ _ W.lst nofun), W.new, W.ext.trans (e1.trans (ExtN.of e2))⟩
  exact ⟨p, _, _, rfl, rfl, W2.lst, by rw [List.length_replicate]; exact small1000 (by omega), next _ W2.app⟩
theorem Kd.noRat (S : Hd K mg) (h : IsR K H a r) : NoSeq K H (.ref a) := by
  obtain ⟨dx, h⟩ := h
  exact ⟨_, S.tyR h, kitAny_cons (b := false) (S.isiT (n := "list") (by simp [isiN])).2.2 (fun _ => kitAny_cons (b := false) (S.isiT (n := "tuple") (by simp [isiN])).2.2 (fun _ => rfl) fun h => by cases h) fun h => by cases h⟩
theorem noStrS {z : Str} : NoSeq K H (.str z) := ⟨_, .base (.str z), kitAny_cons (b := false) (kit_ty (by decide +kernel)) (fun _ => kitAny_cons (b := false) (kit_ty (by decide +kernel)) (fun _ => rfl) fun h => by cases h) fun h => by cases h⟩
theorem noDic {p : Addr} {kvs : List (Key × V)} (h : H p = some (.dK kvs)) : NoSeq K H (.ref p) := ⟨_, .base (.dK h), kitAny_cons (b := false) (kit_ty (by decide +kernel)) (fun _ => kitAny_cons (b := false) (kit_ty (by decide +kernel)) (fun _ => rfl) fun h => by cases h) fun h => by cases h⟩
theorem itm_odd (S : Hd K mg) (h : Odd H x) : itm K H x false := ⟨_, _, h.kd S, rfl⟩
theorem itm_one (S : Hd K mg) (h : IsR K H a r) : itm K H (.ref a) true := ⟨_, _, S.kd_rat h, rfl⟩
theorem own_bad {op : Operator} {g : Rat → Rat → Rat} {E : XK} (S : Hd K mg) (ho : op.info.2 ∈ dunN) (ha : IsR K H a r) (br : Rm.Bd 2000 r) (hx : Odd H x) (k : Rz K H E "other") : rOwn K (cR K) op (spOp K g) E (.ref a) x H Q := by
  obtain ⟨da, ea⟩ := ha
  have kd := hx.kd S
  obtain ⟨t, _, _, ty, _, _, _, _, _, ht⟩ := id kd
  exact ⟨a, da, _, t, rfl, ea, ty, S.meek ho ht, a, x, r, rfl, ⟨da, ea⟩, br, .inr ⟨kd, k⟩⟩
end
end Kw
end

/-! Kw23 -/
section
set_option maxHeartbeats 4000000
set_option exponentiation.threshold 10000
/-! _law_errors_right, its body -/
namespace Kw
open PySem PySem.Spec PyProof.Rows L2 He Er Ow LamX
section
variable {w : World} {K : PySem.W.Frag} {mg : Str → Option Value} {base : Heap} {f : Addr} {fd : FuncData} {H H2 : Hp} {x y : V} {b c : Bool} {t : Value} {a : Addr} {r s : Rat} {Q : VK}
theorem err_new {D : Ends} {σ : L2.St} {rest : TS} (next : ∀ p, H p = none → rest D (σ.set 2 (some (.ref p))) (upd H p (.lst []))) : tSeq (tAsg (tLst tNil) (gName 2)) rest D σ H := ⟨Nat.zero_le _, fun p np => next p np⟩
theorem dp_trues : ∀ {n : Nat}, DpAll K H (List.replicate n (.bl true)) (List.replicate n (.bool true))
  | 0 => .nil
  | _ + 1 => .cons (.bl true) dp_trues
theorem scErr : FnScope ["_law_one", "_law_odd", "_law_found"] ["_law_one", "_law_odd"] (defScope sLerrorsuright) := ⟨rfl, rfl, rfl, by decide +kernel, rfl, by decide +kernel, by decide +kernel⟩
theorem ok_err {Pt cE : Addr} (S : Hd K mg) (F : FunC K "_law_errors_right" "_law_errors_right" sLerrorsuright f fd cE) (TB : TabB base mg cE Pt) : FnOk P w K mg base CX0 13 f fd ["_law_one", "_law_odd"] (spErr K [(Pt, qE)]) := by
  obtain ⟨fI, fdI, FI, gI, kI, bI⟩ := (pr_isr (w := w) (base := base) S).ex
  obtain ⟨fDx, fdDx, FDx, gDx, kDx, bDx⟩ := (pr_added (w := w) (base := base) S).ex
  obtain ⟨fD, fdD, FD, gD, kD, bD⟩ := (pr_added (w := w) (base := base) S).quiet.ex
  obtain ⟨fLx, fdLx, FLx, gLx, kLx, bLx⟩ := (pr_least (w := w) (base := base) S).ex
  obtain ⟨fGx, fdGx, FGx, gGx, kGx, bGx⟩ := (pr_great (w := w) (base := base) S).ex
  obtain ⟨fdAdd, FAdd, bAdd⟩ := (mr_add (w := w) (base := base) S).ex
  obtain ⟨fdSub, FSub, bSub⟩ := (mr_sub (w := w) (base := base) S).ex
  obtain ⟨fdMult, FMult, bMult⟩ := (mr_mul (w := w) (base := base) S).ex
  obtain ⟨fdV, FV, bV⟩ := (mr_over (w := w) (base := base) S).ex
  obtain ⟨fdC, FC, bC⟩ := (mr_comp (w := w) (base := base) S).ex
  obtain ⟨fdB, FB, bB⟩ := (mr_below (w := w) (base := base) S).ex
  obtain ⟨fdE, FE, bE⟩ := (mr_eq (w := w) (base := base) S).ex
  obtain ⟨pO, fO, fdO, FO, MO, bO, _⟩ := (of_of (w := w) (base := base) S).ex
  obtain ⟨fdM, dM, FM, bM, rM, bM2⟩ := (mkR (w := w) (base := base) S).ex
  obtain ⟨fdR, FR⟩ := S.def_ 49 (d := dLrefused)
  have FR := fun_of (st := sLrefused) FR
  have kR := FR.kp
  obtain ⟨ocR, odR, kVR, docR, pmR, anR, cdR, ctR, oslR, eR, lkR, hcR⟩ := FR.ex
  refine F.ok scErr (fun vs H Q E h => ?_) (fun A outer s H vs Q E hr h => ?_)
  · obtain ⟨a, x, r, rfl, _⟩ := h
    rfl
  · obtain ⟨a, x, r, rfl, ha, br, hx, hT, k⟩ := h
    have hu : (A.deeper (envOfC "_law_errors_right" (defScope sLerrorsuright) s.heap.objs.size f (.ref cE))).units + 64 < cLine := by have := hr.un; omega
    subst eR
    have lam {z : Str} {zp pp pq pl : Pos} {j : Nat} {params : Arguments} {body : Expr} {scope : Scope} {t : XK → TE} (hL : lamSB (defScope sLerrorsuright) scope = true)
        (hdef : defaultsOf params (cxOf CX0 P w K mg base ["_law_one", "_law_odd", "_law_found"] "_law_errors_right" (defScope sLerrorsuright) f (.ref cE) A outer s H E).nox.env = ([], []))
        (hbind : ∀ (q : Str) (cl : List (Str × Addr)) (pm cv ctv : Value), bindArgs (PySem.W.kla_fn "<lambda>" q params body scope cl pm cv ctv) ⟨[], []⟩ = pure [])
        (hbody : ∀ (A' : Around) (outer' : List Env) (s' : Shared) (H' : Hp) (E' : XK) (f' c' : Addr), Room 10 (A'.deeper (lamEnv (cxOf CX0 P w K mg base ["_law_one", "_law_odd", "_law_found"] "_law_errors_right" (defScope sLerrorsuright) f (.ref cE) A outer s H E).nox scope s'.heap.objs.size f' c')) → PE (lamCx (cxOf CX0 P w K mg base ["_law_one", "_law_odd", "_law_found"] "_law_errors_right" (defScope sLerrorsuright) f (.ref cE) A outer s H E).nox A' outer' s' H' E' scope f' c') body (t E')) :
        PE (cxOf CX0 P w K mg base ["_law_one", "_law_odd", "_law_found"] "_law_errors_right" (defScope sLerrorsuright) f (.ref cE) A outer s H E).nox (.Call (.Name "_law_refused" pp) [.Lambda params body scope pl, .Constant (.str z) j zp] [] pq) (tLam [(Pt, qE)] (TTref K z) t) :=
      pe_lam2 (Ng := ["_law_ask", "_law_part", "error"]) rfl (S.glo 40) kR lkR hcR (.all fun us hl => match us, hl with | [_, _], _ => rfl) scRef rfl (.inl rfl) (ref_gives (X := (cxOf CX0 P w K mg base ["_law_one", "_law_odd", "_law_found"] "_law_errors_right" (defScope sLerrorsuright) f (.ref cE) A outer s H E).nox) S) TB rfl (by simp; rfl) (by simp; rfl) (hr.mono (by decide)) (LamX.lamS_by hL) hdef hbind hbody
    refine ⟨_, PSs.nox (pss_cons (ps_if (pt_cut (PW.pt (pw_or (pt_val (pe_call FI (hr.mono (by decide)) rfl gI kI bI .nil pass0 (pa_cons (pv 1) pa_nil))) (pw_or (pt_not (pt_val (pe_call FI (hr.mono (by decide)) rfl gI kI bI .nil pass0 (pa_cons (pv 0) pa_nil)))) (pw_or1 (pt_not (pt_val (pe_call FI (hr.mono (by decide)) rfl gI kI bI .nil pass0 (pa_cons (pe_fld (pv 0) rfl) pa_nil))))))))) (pss_one (ps_ret pe_bl)) pss_nil) (pss_cons (ps_set (i := 2) scErr.nd rfl (.inl rfl) (pe_lst pa_nil)) (pss_cons (ps_expr (pe_bm PySem.F.plainAttrs_list PySem.F.slot_list_append PySem.F.type_list_append mt_append (pv 2) (pa_cons (lam (by decide +kernel) rfl (fun _ _ _ _ _ => rfl) (fun A outer s H E f c' hr2 => (pe_make (E := E) S.mkr FM (hr2.mono (by decide)) rfl (S.glo 12) bM2 rM (passX (takes_of rfl rfl rfl rfl)) (pa_cons (pv 1) pa_nil)))) pa_nil))) (pss_cons (ps_expr (pe_bm PySem.F.plainAttrs_list PySem.F.slot_list_append PySem.F.type_list_append mt_append (pv 2) (pa_cons (lam (by decide +kernel) rfl (fun _ _ _ _ _ => rfl) (fun A outer s H E f c' hr2 => (pe_make (E := E) S.mkr FM (hr2.mono (by decide)) rfl (S.glo 12) bM .nil (passX (takes_of rfl rfl rfl rfl)) (pa_cons pe_int (pa_cons (pv 1) pa_nil))))) pa_nil))) (pss_cons (ps_expr (pe_bm PySem.F.plainAttrs_list PySem.F.slot_list_append PySem.F.type_list_append mt_append (pv 2) (pa_cons (lam (by decide +kernel) rfl (fun _ _ _ _ _ => rfl) (fun A outer s H E f c' hr2 => (pe_make (E := E) S.mkr FM (hr2.mono (by decide)) rfl (S.glo 12) bM .nil (passX (takes_of rfl rfl rfl rfl)) (pa_cons (pv 1) (pa_cons (pv 1) pa_nil))))) pa_nil))) (pss_cons (ps_expr (pe_bm PySem.F.plainAttrs_list PySem.F.slot_list_append PySem.F.type_list_append mt_append (pv 2) (pa_cons (lam (by decide +kernel) rfl (fun _ _ _ _ _ => rfl) (fun A outer s H E f c' hr2 => (pe_make (E := E) S.mkr FM (hr2.mono (by decide)) rfl (S.glo 12) bM .nil (passX (takes_of rfl rfl rfl rfl)) (pa_cons pe_int (pa_cons (pv 0) pa_nil))))) pa_nil))) (pss_cons (ps_expr (pe_bm PySem.F.plainAttrs_list PySem.F.slot_list_append PySem.F.type_list_append mt_append (pv 2) (pa_cons (lam (by decide +kernel) rfl (fun _ _ _ _ _ => rfl) (fun A outer s H E f c' hr2 => (pe_make (E := E) S.mkr FM (hr2.mono (by decide)) rfl (S.glo 12) bM .nil (passX (takes_of rfl rfl rfl rfl)) (pa_cons (pe_fldK (K := K) rfl (pv 0) rfl) (pa_cons pe_int pa_nil))))) pa_nil))) (pss_cons (ps_expr (pe_bm PySem.F.plainAttrs_list PySem.F.slot_list_append PySem.F.type_list_append mt_append (pv 2) (pa_cons (lam (by decide +kernel) rfl (fun _ _ _ _ _ => rfl) (fun A outer s H E f c' hr2 => (pe_op (op_K (K := K) rfl (op_own (E := E) S.op_add (S.noR (op := .Add) (by simp [dunN, Operator.info])) FAdd (hr2.mono (by decide)) bAdd (passX (takes_of rfl rfl rfl rfl)))) (pv 0) (pv 1)))) pa_nil))) (pss_cons (ps_expr (pe_bm PySem.F.plainAttrs_list PySem.F.slot_list_append PySem.F.type_list_append mt_append (pv 2) (pa_cons (lam (by decide +kernel) rfl (fun _ _ _ _ _ => rfl) (fun A outer s H E f c' hr2 => (pe_op (op_K (K := K) rfl (op_own (E := E) S.op_sub (S.noR (op := .Sub) (by simp [dunN, Operator.info])) FSub (hr2.mono (by decide)) bSub (passX (takes_of rfl rfl rfl rfl)))) (pv 0) (pv 1)))) pa_nil))) (pss_cons (ps_expr (pe_bm PySem.F.plainAttrs_list PySem.F.slot_list_append PySem.F.type_list_append mt_append (pv 2) (pa_cons (lam (by decide +kernel) rfl (fun _ _ _ _ _ => rfl) (fun A outer s H E f c' hr2 => (pe_op (op_K (K := K) rfl (op_own (E := E) S.op_mul (S.noR (op := .Mult) (by simp [dunN, Operator.info])) FMult (hr2.mono (by decide)) bMult (passX (takes_of rfl rfl rfl rfl)))) (pv 0) (pv 1)))) pa_nil))) (pss_cons (ps_expr (pe_bm PySem.F.plainAttrs_list PySem.F.slot_list_append PySem.F.type_list_append mt_append (pv 2) (pa_cons (lam (by decide +kernel) rfl (fun _ _ _ _ _ => rfl) (fun A outer s H E f c' hr2 => (pe_meth (E := E) (pv 0) S.cls S.me_over FV (hr2.mono (by decide)) bV .nil (passX (takes_of rfl rfl rfl rfl)) (pa_cons (pv 1) pa_nil)))) pa_nil))) (pss_cons (ps_expr (pe_bm PySem.F.plainAttrs_list PySem.F.slot_list_append PySem.F.type_list_append mt_append (pv 2) (pa_cons (lam (by decide +kernel) rfl (fun _ _ _ _ _ => rfl) (fun A outer s H E f c' hr2 => (pe_meth (E := E) (pv 0) S.cls S.me_compared FC (hr2.mono (by decide)) bC .nil (passX (takes_of rfl rfl rfl rfl)) (pa_cons (pv 1) pa_nil)))) pa_nil))) (pss_cons (ps_expr (pe_bm PySem.F.plainAttrs_list PySem.F.slot_list_append PySem.F.type_list_append mt_append (pv 2) (pa_cons (lam (by decide +kernel) rfl (fun _ _ _ _ _ => rfl) (fun A outer s H E f c' hr2 => (pe_meth (E := E) (pv 0) S.cls S.me_is_below FB (hr2.mono (by decide)) bB .nil (passX (takes_of rfl rfl rfl rfl)) (pa_cons (pv 1) pa_nil)))) pa_nil))) (pss_cons (ps_expr (pe_bm PySem.F.plainAttrs_list PySem.F.slot_list_append PySem.F.type_list_append mt_append (pv 2) (pa_cons (lam (by decide +kernel) rfl (fun _ _ _ _ _ => rfl) (fun A outer s H E f c' hr2 => (pe_meth (E := E) (pv 0) S.cls S.me_over FV (hr2.mono (by decide)) bV .nil (passX (takes_of rfl rfl rfl rfl)) (pa_cons pe_int pa_nil)))) pa_nil))) (pss_cons (ps_expr (pe_bm PySem.F.plainAttrs_list PySem.F.slot_list_append PySem.F.type_list_append mt_append (pv 2) (pa_cons (lam (by decide +kernel) rfl (fun _ _ _ _ _ => rfl) (fun A outer s H E f c' hr2 => (pe_statX (E := E) (pe_glob (v := .ref (cR K)) rfl (S.glo 12) rfl) MO FO (hr2.mono (by decide)) bO (passX (takes_of rfl rfl rfl rfl)) (pa_cons (pv 1) pa_nil)))) pa_nil))) (pss_cons (ps_expr (pe_bm PySem.F.plainAttrs_list PySem.F.slot_list_append PySem.F.type_list_append mt_append (pv 2) (pa_cons (lam (by decide +kernel) rfl (fun _ _ _ _ _ => rfl) (fun A outer s H E f c' hr2 => (pe_call (E := E) FDx (hr2.mono (by decide)) rfl gDx kDx bDx .nil (passX (takes_of rfl rfl rfl rfl)) (pa_cons (pe_lst (pa_cons (pv 0) (pa_cons (pv 1) pa_nil))) pa_nil)))) pa_nil))) (pss_cons (ps_expr (pe_bm PySem.F.plainAttrs_list PySem.F.slot_list_append PySem.F.type_list_append mt_append (pv 2) (pa_cons (lam (by decide +kernel) rfl (fun _ _ _ _ _ => rfl) (fun A outer s H E f c' hr2 => (pe_call (E := E) FLx (hr2.mono (by decide)) rfl gLx kLx bLx .nil (passX (takes_of rfl rfl rfl rfl)) (pa_cons (pe_lst (pa_cons (pv 1) pa_nil)) pa_nil)))) pa_nil))) (pss_cons (ps_expr (pe_bm PySem.F.plainAttrs_list PySem.F.slot_list_append PySem.F.type_list_append mt_append (pv 2) (pa_cons (lam (by decide +kernel) rfl (fun _ _ _ _ _ => rfl) (fun A outer s H E f c' hr2 => (pe_call (E := E) FGx (hr2.mono (by decide)) rfl gGx kGx bGx .nil (passX (takes_of rfl rfl rfl rfl)) (pa_cons (pe_lst pa_nil) pa_nil)))) pa_nil))) (pss_cons (ps_expr (pe_bm PySem.F.plainAttrs_list PySem.F.slot_list_append PySem.F.type_list_append mt_append (pv 2) (pa_cons (lam (by decide +kernel) rfl (fun _ _ _ _ _ => rfl) (fun A outer s H E f c' hr2 => (pe_call (E := E) FLx (hr2.mono (by decide)) rfl gLx kLx bLx .nil (passX (takes_of rfl rfl rfl rfl)) (pa_cons (pe_tup pa_nil) pa_nil)))) pa_nil))) (pss_cons (ps_expr (pe_bm PySem.F.plainAttrs_list PySem.F.slot_list_append PySem.F.type_list_append mt_append (pv 2) (pa_cons (lam (by decide +kernel) rfl (fun _ _ _ _ _ => rfl) (fun A outer s H E f c' hr2 => (pe_call (E := E) FDx (hr2.mono (by decide)) rfl gDx kDx bDx .nil (passX (takes_of rfl rfl rfl rfl)) (pa_cons (pv 0) pa_nil)))) pa_nil))) (pss_cons (ps_expr (pe_bm PySem.F.plainAttrs_list PySem.F.slot_list_append PySem.F.type_list_append mt_append (pv 2) (pa_cons (lam (by decide +kernel) rfl (fun _ _ _ _ _ => rfl) (fun A outer s H E f c' hr2 => (pe_make (E := E) S.mkr FM (hr2.mono (by decide)) rfl (S.glo 12) bM2 rM (passX (takes_of rfl rfl rfl rfl)) (pa_cons (pv 0) pa_nil)))) pa_nil))) (pss_cons (ps_expr (pe_bm PySem.F.plainAttrs_list PySem.F.slot_list_append PySem.F.type_list_append mt_append (pv 2) (pa_cons (lam (by decide +kernel) rfl (fun _ _ _ _ _ => rfl) (fun A outer s H E f c' hr2 => (pe_call (E := E) FDx (hr2.mono (by decide)) rfl gDx kDx bDx .nil (passX (takes_of rfl rfl rfl rfl)) (pa_cons pe_dnewK pa_nil)))) pa_nil))) (pss_cons (ps_expr (pe_bm PySem.F.plainAttrs_list PySem.F.slot_list_append PySem.F.type_list_append mt_append (pv 2) (pa_cons (lam (by decide +kernel) rfl (fun _ _ _ _ _ => rfl) (fun A outer s H E f c' hr2 => (pe_call (E := E) FDx (hr2.mono (by decide)) rfl gDx kDx bDx .nil (passX (takes_of rfl rfl rfl rfl)) (pa_cons pe_str pa_nil)))) pa_nil))) (pss_cons (ps_expr (pe_bm PySem.F.plainAttrs_list PySem.F.slot_list_append PySem.F.type_list_append mt_append (pv 2) (pa_cons (lam (by decide +kernel) rfl (fun _ _ _ _ _ => rfl) (fun A outer s H E f c' hr2 => (pe_call (E := E) FGx (hr2.mono (by decide)) rfl gGx kGx bGx .nil (passX (takes_of rfl rfl rfl rfl)) (pa_cons (pe_disp (pps_cons pe_int pe_int pps_nil) (by rfl) (by rfl) (fun z => by cases z) (by decide)) pa_nil)))) pa_nil))) (pss_cons (ps_expr (pe_bm PySem.F.plainAttrs_list PySem.F.slot_list_append PySem.F.type_list_append mt_append (pv 2) (pa_cons (lam (by decide +kernel) rfl (fun _ _ _ _ _ => rfl) (fun A outer s H E f c' hr2 => (pe_call (E := E) FLx (hr2.mono (by decide)) rfl gLx kLx bLx .nil (passX (takes_of rfl rfl rfl rfl)) (pa_cons (pe_disp (pps_cons (pe_fldK (K := K) rfl (pv 0) rfl) (pv 0) pps_nil) (by rfl) (by rfl) (fun z => by cases z) (by decide)) pa_nil)))) pa_nil))) (pss_one (ps_ret (pe_and (pe_cmpR (op_eqD hu) (pv 2) (pe_op op_rep (pe_lst (pa_cons pe_bl pa_nil)) pe_int) (nomark _)) (pe_and (pe_cmpR (eq_own S.mc_eq FE (hr.mono (by decide)) bE) (pe_call FD (hr.mono (by decide)) rfl gD kD bD .nil pass0 (pa_cons (pe_lst pa_nil) pa_nil)) pe_int (nomark _)) (pe_and (pe_callB call_isi rfl (S.free 50) (by decide +kernel) (pa_cons (pe_call FD (hr.mono (by decide)) rfl gD kD bD .nil pass0 (pa_cons (pe_tup pa_nil) pa_nil)) (pa_cons (pe_glob (v := .ref (cR K)) rfl (S.glo 12) rfl) pa_nil))) (pe_one (pe_cmpR (eq_own S.mc_eq FE (hr.mono (by decide)) bE) (pe_stat (pe_glob (v := .ref (cR K)) rfl (S.glo 12) rfl) MO (quiet FO) (hr.mono (by decide)) bO (pa_cons (pv 0) pa_nil)) (pv 0) (nomark _))))))))))))))))))))))))))))))))), ?_⟩
    refine ⟨fun bb H2 => bb = false ∧ H2 = H, ?_, ?_⟩
    · have kd := hx.kd S
      have ka := S.kd_rat ha
      obtain ⟨da, ea⟩ := id ha
      refine ⟨_, rfl, x, _, _, rfl, kd, _, rfl, itf rfl ?_⟩
      refine ⟨_, rfl, _, _, _, rfl, ka, _, rfl, itf rfl ?_⟩
      refine ⟨_, rfl, a, _, da, _, _, rfl, ea, S.cls, S.noTop, rfl, _, _, _, rfl, S.kd_int, _, rfl, rfl, rfl⟩
    intro bb H2 hb
    obtain ⟨rfl, eH⟩ := hb
    rw [eH]
    clear eH H2
    refine itf rfl ?_
    show tSeq (tAsg (tLst tNil) (gName 2)) _ _ _ _
    refine err_new fun p np => ?_
    have W0 : Wd K [(Pt, qE)] H a p r x 0 (upd H p (.lst [])) := by
      have e : Same H (upd H p (.lst [])) := samu np
      exact ⟨ha.same e, hx.same e, hT.ext e, upd_same, np, ExtN.of e⟩
    generalize upd H p (.lst []) = H1 at W0 ⊢
    refine err_step (k := 0) (T := [(Pt, qE)]) (H0 := H) (a := a) (r := r) (x := x) (p := p) rfl W0 (by decide) ?_ fun H1 W1 => ?_
    · intro E H Q ha hx rz
      exact ⟨x, rfl, mk_top (hx.kd S) rz⟩
    clear W0
    refine err_step (k := 1) (T := [(Pt, qE)]) (H0 := H) (a := a) (r := r) (x := x) (p := p) rfl W1 (by decide) ?_ fun H1 W2 => ?_
    · intro E H Q ha hx rz
      exact ⟨x, rfl, mk_bot (.inl ⟨_, hx.kd S⟩) rz⟩
    clear W1
    refine err_step (k := 2) (T := [(Pt, qE)]) (H0 := H) (a := a) (r := r) (x := x) (p := p) rfl W2 (by decide) ?_ fun H1 W3 => ?_
    · intro E H Q ha hx rz
      exact ⟨x, rfl, x, rfl, mk_top (hx.kd S) rz⟩
    clear W2
    refine err_step (k := 3) (T := [(Pt, qE)]) (H0 := H) (a := a) (r := r) (x := x) (p := p) rfl W3 (by decide) ?_ fun H1 W4 => ?_
    · intro E H Q ha hx rz
      exact ⟨.ref a, rfl, mk_bot (.inl ⟨_, S.kd_rat ha⟩) rz⟩
    clear W3
    refine err_step (k := 4) (T := [(Pt, qE)]) (H0 := H) (a := a) (r := r) (x := x) (p := p) rfl W4 (by decide) ?_ fun H1 W5 => ?_
    · intro E H Q ha hx rz
      obtain ⟨da, ea⟩ := id ha
      exact ⟨.ref a, rfl, a, _, da, _, _, rfl, ea, S.cls, S.noTop, rfl, mk_bot (.inr rfl) rz⟩
    clear W4
    refine err_step (k := 5) (T := [(Pt, qE)]) (H0 := H) (a := a) (r := r) (x := x) (p := p) rfl W5 (by decide) ?_ fun H1 W6 => ?_
    · intro E H Q ha hx rz
      exact ⟨.ref a, rfl, x, rfl, own_bad S (op := .Add) (by simp [dunN, Operator.info]) ha br hx rz⟩
    clear W5
    refine err_step (k := 6) (T := [(Pt, qE)]) (H0 := H) (a := a) (r := r) (x := x) (p := p) rfl W6 (by decide) ?_ fun H1 W7 => ?_
    · intro E H Q ha hx rz
      exact ⟨.ref a, rfl, x, rfl, own_bad S (op := .Sub) (by simp [dunN, Operator.info]) ha br hx rz⟩
    clear W6
    refine err_step (k := 7) (T := [(Pt, qE)]) (H0 := H) (a := a) (r := r) (x := x) (p := p) rfl W7 (by decide) ?_ fun H1 W8 => ?_
    · intro E H Q ha hx rz
      exact ⟨.ref a, rfl, x, rfl, own_bad S (op := .Mult) (by simp [dunN, Operator.info]) ha br hx rz⟩
    clear W7
    refine err_step (k := 8) (T := [(Pt, qE)]) (H0 := H) (a := a) (r := r) (x := x) (p := p) rfl W8 (by decide) ?_ fun H1 W9 => ?_
    · intro E H Q ha hx rz
      obtain ⟨da, ea⟩ := id ha
      exact ⟨.ref a, rfl, a, da, _, rfl, ea, rfl, x, rfl, a, x, r, rfl, ha, br, .inr (.inl ⟨hx.kd S, rz⟩)⟩
    clear W8
    refine err_step (k := 9) (T := [(Pt, qE)]) (H0 := H) (a := a) (r := r) (x := x) (p := p) rfl W9 (by decide) ?_ fun H1 W10 => ?_
    · intro E H Q ha hx rz
      obtain ⟨da, ea⟩ := id ha
      exact ⟨.ref a, rfl, a, da, _, rfl, ea, rfl, x, rfl, a, x, r, rfl, ha, br, .inr ⟨hx.kd S, rz⟩⟩
    clear W9
    refine err_step (k := 10) (T := [(Pt, qE)]) (H0 := H) (a := a) (r := r) (x := x) (p := p) rfl W10 (by decide) ?_ fun H1 W11 => ?_
    · intro E H Q ha hx rz
      obtain ⟨da, ea⟩ := id ha
      exact ⟨.ref a, rfl, a, da, _, rfl, ea, rfl, x, rfl, a, x, r, rfl, ha, br, .inr ⟨hx.kd S, rz⟩⟩
    clear W10
    refine err_step (k := 11) (T := [(Pt, qE)]) (H0 := H) (a := a) (r := r) (x := x) (p := p) rfl W11 (by decide) ?_ fun H1 W12 => ?_
    · intro E H Q ha hx rz
      obtain ⟨da, ea⟩ := id ha
      exact ⟨.ref a, rfl, a, da, _, rfl, ea, rfl, a, .int 0, r, rfl, ha, br, .inr (.inr ⟨.inr ⟨0, rfl, rfl⟩, rz⟩)⟩
    clear W11
    refine err_step (k := 12) (T := [(Pt, qE)]) (H0 := H) (a := a) (r := r) (x := x) (p := p) rfl W12 (by decide) ?_ fun H1 W13 => ?_
    · intro E H Q ha hx rz
      exact ⟨rfl, x, rfl, x, rfl, .inr ⟨hx.kd S, rz⟩⟩
    clear W12
    refine err_step (k := 13) (T := [(Pt, qE)]) (H0 := H) (a := a) (r := r) (x := x) (p := p) rfl W13 (by decide) ?_ fun H1 W14 => ?_
    · intro E H Q ha hx rz
      exact ⟨.ref a, rfl, x, rfl, (by show 2 ≤ sizeLine; decide), fun p np => ⟨.ref p, rfl, .inl ⟨.inr ⟨p, [.ref a, x], [true, false], rfl, .inl upd_same, (by show 2 ≤ 100; decide), .cons (itm_one S (ha.same (samu np))) (.cons (itm_odd S (hx.same (samu np))) .nil), rfl⟩, rz.same (samu np)⟩⟩⟩
    clear W13
    refine err_step (k := 14) (T := [(Pt, qE)]) (H0 := H) (a := a) (r := r) (x := x) (p := p) rfl W14 (by decide) ?_ fun H1 W15 => ?_
    · intro E H Q ha hx rz
      exact ⟨x, rfl, (by show 1 ≤ sizeLine; decide), fun p np => ⟨.ref p, rfl, .inl ⟨.inl (.inr ⟨p, [x], [false], rfl, .inl upd_same, (by show 1 ≤ 100; decide), .cons (itm_odd S (hx.same (samu np))) .nil, rfl⟩), rz.same (samu np)⟩⟩⟩
    clear W14
    refine err_step (k := 15) (T := [(Pt, qE)]) (H0 := H) (a := a) (r := r) (x := x) (p := p) rfl W15 (by decide) ?_ fun H1 W16 => ?_
    · intro E H Q ha hx rz
      exact ⟨Nat.zero_le _, fun p np => ⟨.ref p, rfl, .inl ⟨.inr ⟨p, rfl, .inl upd_same⟩, rz.same (samu np)⟩⟩⟩
    clear W15
    refine err_step (k := 16) (T := [(Pt, qE)]) (H0 := H) (a := a) (r := r) (x := x) (p := p) rfl W16 (by decide) ?_ fun H1 W17 => ?_
    · intro E H Q ha hx rz
      exact ⟨Nat.zero_le _, fun p np => ⟨.ref p, rfl, .inl ⟨.inr ⟨p, rfl, .inr upd_same⟩, rz.same (samu np)⟩⟩⟩
    clear W16
    refine err_step (k := 17) (T := [(Pt, qE)]) (H0 := H) (a := a) (r := r) (x := x) (p := p) rfl W17 (by decide) ?_ fun H1 W18 => ?_
    · intro E H Q ha hx rz
      exact ⟨.ref a, rfl, .ref a, rfl, .inl ⟨.inl (Kd.noRat S ha), rz⟩⟩
    clear W17
    refine err_step (k := 18) (T := [(Pt, qE)]) (H0 := H) (a := a) (r := r) (x := x) (p := p) rfl W18 (by decide) ?_ fun H1 W19 => ?_
    · intro E H Q ha hx rz
      exact ⟨.ref a, rfl, mk_top (S.kd_rat ha) rz⟩
    clear W18
    refine err_step (k := 19) (T := [(Pt, qE)]) (H0 := H) (a := a) (r := r) (x := x) (p := p) rfl W19 (by decide) ?_ fun H1 W20 => ?_
    · intro E H Q ha hx rz
      exact fun d hd => ⟨.ref d, rfl, .inl ⟨.inl (noDic upd_same), rz.same (samu hd)⟩⟩
    clear W19
    refine err_step (k := 20) (T := [(Pt, qE)]) (H0 := H) (a := a) (r := r) (x := x) (p := p) rfl W20 (by decide) ?_ fun H1 W21 => ?_
    · intro E H Q ha hx rz
      exact ⟨.str "", rfl, .inl ⟨.inl noStrS, rz⟩⟩
    clear W20
    refine err_step (k := 21) (T := [(Pt, qE)]) (H0 := H) (a := a) (r := r) (x := x) (p := p) rfl W21 (by decide) ?_ fun H1 W22 => ?_
    · intro E H Q ha hx rz
      exact fun p np => ⟨upd_same, [(.inl 1, .int 2)], rfl, (by decide), .ref p, rfl, .inl ⟨.inl (.inl (noDic upd_same)), rz.same (by rw [upd_upd]; exact samu np)⟩⟩
    clear W21
    refine err_step (k := 22) (T := [(Pt, qE)]) (H0 := H) (a := a) (r := r) (x := x) (p := p) rfl W22 (by decide) ?_ fun H1 W23 => ?_
    · intro E H Q ha hx rz
      obtain ⟨da, ea⟩ := id ha
      refine fun p np => ⟨.ref a, rfl, a, _, da, _, _, rfl, (samu np) _ _ ea, S.cls, S.noTop, rfl, .ref a, rfl, upd_same, [(.inl r.num, .ref a)], rfl, (by show 1 ≤ 15; decide), .ref p, rfl, .inl ⟨.inl (.inl (noDic upd_same)), rz.same (by rw [upd_upd]; exact samu np)⟩⟩
    clear W22
    clear lam
    refine ⟨.ref p, rfl, (by show 1 ≤ sizeLine; decide), fun q nq => ?_⟩
    refine ⟨q, 23, [.bl true], rfl, rfl, upd_same, (by decide), (by decide), (by show 1 * 23 ≤ sizeLine; decide), fun q2 nq2 => ?_⟩
    have W := (W23.same (samu nq)).same (samu (o := .lst (List.replicate (23 : Int).toNat [V.bl true]).flatten) nq2)
    have hl : upd (upd H1 q (.lst [.bl true])) q2 (.lst (List.replicate (23 : Int).toNat [V.bl true]).flatten) q2 = some (.lst (List.replicate 23 (.bl true))) := upd_same
    generalize upd (upd H1 q (.lst [.bl true])) q2 (.lst (List.replicate (23 : Int).toNat [V.bl true]).flatten) = H3 at W hl ⊢
    clear W23 nq nq2 q
    refine ⟨.list (List.replicate 23 (.bool true)), .list (List.replicate 23 (.bool true)), .lst (SqL.of W.lst) dp_trues, .lst (SqL.of hl) dp_trues, (by decide +kernel), (by decide +kernel), ?_⟩
    rw [show PyData.eqv (.list (List.replicate 23 (.bool true))) (.list (List.replicate 23 (.bool true))) = true by decide +kernel]
    refine ⟨_, rfl, itt rfl ?_⟩
    refine ⟨Nat.zero_le _, fun q nq => ?_⟩
    have W2 := W.same (samu (o := .lst []) nq)
    refine ⟨.ref q, rfl, .inr ⟨q, [], [], rfl, .inl upd_same, (by show 0 ≤ 100; decide), .nil, fun j => ?_, fun c1 H4 e4 h4 => ?_⟩⟩
    · rw [List.take_nil]
      exact ⟨(by decide +kernel), (by decide +kernel)⟩
    have W3 := W2.same e4
    refine own_eq S h4 (.inr ⟨0, rfl, rfl⟩) ⟨_, rfl, itt (decide_eq_true rfl) ?_⟩
    refine ⟨Nat.zero_le _, fun q nq => ?_⟩
    have W4 := W3.same (samu (o := .tup []) nq)
    refine ⟨.ref q, rfl, .inr ⟨q, [], [], rfl, .inr upd_same, (by show 0 ≤ 100; decide), .nil, fun j => ?_, fun c2 H5 e5 h5 => ?_⟩⟩
    · rw [List.take_nil]
      exact ⟨(by decide +kernel), (by decide +kernel)⟩
    have W5 := W4.same e5
    obtain ⟨d5, h5'⟩ := id h5
    refine ⟨.ref c2, .ref (cR K), .ref (cR K), .ref (cR K), true, rfl, .own _, S.tyR h5', S.isiR.1, _, rfl, itt rfl ?_⟩
    refine ⟨rfl, .ref a, rfl, .ref a, rfl, .inl ⟨r, RV.of W5.one, br.mono (by decide), fun c3 H6 e6 h6 => ?_⟩⟩
    have W6 := W5.same e6
    refine ⟨.ref a, rfl, own_eq S h6 (RV.of W6.one) ?_⟩
    rw [decide_eq_true rfl]
    exact k _ W6.ext W6.tab
end
end Kw
end

/-! Kw24 -/
section
set_option maxHeartbeats 4000000
set_option exponentiation.threshold 10000
/-! _law_is_name -/
namespace Kw
open PySem PySem.Spec PyProof.Rows L2 He Er Ow
section
variable {w : World} {K : PySem.W.Frag} {mg : Str → Option Value} {base : Heap} {f : Addr} {fd : FuncData} {H H2 : Hp} {x y : V} {b c : Bool} {t : Value} {a : Addr} {r s : Rat} {Q : VK}
theorem same_upd {H1 : Hp} {D : Addr} {o : HO} (hD : H1 D = none) (e : Same H1 H) : Same H1 (upd H D o) := fun q u z => by rw [upd_ne (fun y => by rw [y, hD] at z; cases z)]; exact e _ _ z
def sgn (n : Nat) : V := .str ⟨#[n]⟩
def sgnD (n : Nat) : PyData := .str ⟨#[n]⟩
theorem dp_sgn : ∀ l : List Nat, DpAll K H (l.map sgn) (l.map sgnD)
  | [] => .nil
  | c :: l => .cons (.str _) (dp_sgn l)
theorem lay_sgn : ∀ l : List Nat, (∀ c ∈ l, c < 128) → PyData.canLayAll0 (l.map sgnD) = true
  | [], _ => rfl
  | c :: l, h => by
    have h1 : PyData.canLay0 (sgnD c) = true := by
      have hc := h c (by simp)
      show PyData.strOk ⟨#[c]⟩ = true
      simp [PyData.strOk]
      omega
    show (PyData.canLay0 (sgnD c) && PyData.canLayAll0 (l.map sgnD)) = true
    rw [h1, lay_sgn l fun d hd => h d (List.mem_cons_of_mem _ hd)]
    rfl
theorem dep_sgn : ∀ l : List Nat, PyData.depthAll (l.map sgnD) = 0
  | [] => rfl
  | c :: l => by
    show max 0 (PyData.depthAll (l.map sgnD)) = 0
    rw [dep_sgn l]
    rfl
theorem shp_sgn {l : List Nat} (h : ∀ c ∈ l, c < 128) : SeqAt.shaped (.list (l.map sgnD)) = true := by
  show (PyData.canLayAll0 (l.map sgnD) && decide (PyData.depthAll (l.map sgnD) + 1 ≤ 64)) = true
  rw [lay_sgn l h, dep_sgn l]
  rfl
theorem eqv_nil (l : List Nat) : PyData.eqv (.list (l.map sgnD)) (.list []) = l.isEmpty := by
  cases l <;> rfl
abbrev abc : Str := "abcdefghijklmnopqrstuvwxyz"
abbrev num10 : Str := "0123456789"
theorem in_abc (n : Nat) : decide (n ∈ abc.cps.toList) = Tm.small n := by
  have e : abc.cps.toList = List.range' 97 26 := by decide +kernel
  have m : n ∈ abc.cps.toList ↔ 97 ≤ n ∧ n ≤ 122 := by
    rw [e, List.mem_range'_1]
    omega
  exact decide_eq_decide.mpr m
theorem in_num (n : Nat) : decide (n ∈ num10.cps.toList) = Tm.fig n := by
  have e : num10.cps.toList = List.range' 48 10 := by decide +kernel
  have m : n ∈ num10.cps.toList ↔ 48 ≤ n ∧ n ≤ 57 := by
    rw [e, List.mem_range'_1]
    omega
  exact decide_eq_decide.mpr m
def badS (n : Nat) : Bool := !Tm.small n && !Tm.fig n
theorem nameS_bad (l : List Nat) (h1 : 1 ≤ l.length) (h2 : l.length ≤ 12) (h3 : Tm.small (l.headD 0) = true) : (l.filter badS).isEmpty = Tm.nameS l := by
  unfold Tm.nameS
  rw [decide_eq_true h1, decide_eq_true h2, h3, Bool.true_and, Bool.true_and, Bool.true_and, Bool.eq_iff_iff, List.isEmpty_iff, List.filter_eq_nil_iff, List.all_eq_true]
  constructor
  · intro q n hn
    have := q n hn
    unfold badS at this
    cases e1 : Tm.small n <;> cases e2 : Tm.fig n <;> simp_all
  · intro q n hn
    have := q n hn
    unfold badS
    cases e1 : Tm.small n <;> cases e2 : Tm.fig n <;> simp_all
def spLN : Sp := fun vs H Q _ => ∃ z : Str, vs = [.str z] ∧ z.length ≤ 1000 ∧ Tm.Asc z ∧ ∀ H2, Same H H2 → Q (.bl (Tm.nameS (Tm.tl z))) H2
theorem scLN : FnScope ["_law_text_here", "_law_small", "_law_figures", "_law_sign"] ["_law_text_here"] (defScope sLisuname) := ⟨rfl, rfl, rfl, by decide +kernel, rfl, by decide +kernel, by decide +kernel⟩
theorem ok_LN (S : Hd K mg) (F : L2.Fun K "_law_is_name" "_law_is_name" sLisuname f fd) : FnOk P w K mg base CX0 1 f fd ["_law_text_here"] spLN := by
  refine F.ok scLN (fun vs H Q E h => ?_) (fun cdv A outer s H vs Q E hr h => ?_)
  · obtain ⟨z, rfl, _⟩ := h
    rfl
  · obtain ⟨z, rfl, hz, ha, k⟩ := h
    have hu : (A.deeper (envOfC "_law_is_name" (defScope sLisuname) s.heap.objs.size f cdv)).units + 64 < cLine := by have := hr.un; omega
    refine ⟨_, PSs.nox (pss_cons (ps_asg (pe_tup (pa_cons pe_str (pa_cons pe_str pa_nil))) (pg_tup rfl (pgs_cons (pg_name (i := 1) scLN.nd rfl (.inr rfl)) (pgs_cons (pg_name (i := 2) scLN.nd rfl (.inr rfl)) pgs_nil)))) (pss_cons (ps_if (PW.pt (pw_or (pt_cmpR op_lt (pe_callB call_len_str rfl (S.free 51) (by decide +kernel) (pa_cons (pv 0) pa_nil)) pe_int (nomark _)) (pw_or (pt_cmpR op_gt (pe_callB call_len_str rfl (S.free 51) (by decide +kernel) (pa_cons (pv 0) pa_nil)) pe_int (nomark _)) (pw_or1 (pt_cmpR op_notIn_sign (pe_ix ix_str (pv 0) pe_int (fun _ _ => rfl)) (pv 1) rfl))))) (pss_one (ps_ret pe_bl)) pss_nil) (pss_one (ps_ret (pe_cmpR (op_eqD hu) (pe_lc (own := [("_law_sign", 3)]) (g := gName 3) (by rfl) scLN.nd (pi_str (pv 0)) (blkOk_by (own := [("_law_sign", 3)]) (N := ["_law_text_here", "_law_small", "_law_figures", "_law_sign"]) (sc := defScope sLisuname) (by decide +kernel)) (fun _ _ _ _ _ => pg_name (i := 3) scLN.nd rfl (Or.inl rfl)) (fun _ _ _ _ _ => pts_one (PW.pt (pw_and (pt_cmpR op_notIn_sign (pv 3) (pv 1) rfl) (pw_and1 (pt_cmpR op_notIn_sign (pv 3) (pv 2) rfl))))) (fun _ _ _ _ _ => (pv 3))) (pe_lst pa_nil) (nomark _)))))), ?_⟩
    refine ⟨(by show 2 ≤ sizeLine; decide), fun u nu => ?_⟩
    have e1 := samu (o := .tup [.str abc, .str num10]) nu
    refine ⟨u, [.str abc, .str num10], rfl, SqT.of upd_same, rfl, ?_⟩
    refine ⟨_, _, rfl, _, _, rfl, rfl, ?_⟩
    generalize upd H u (.tup [.str abc, .str num10]) = H1 at e1 ⊢
    have lz : z.length = (Tm.tl z).length := Tm.len_tl z
    have fz : z.length ≤ sizeLine := fits (Nat.le_trans hz (by decide))
    refine ⟨_, rfl, z, rfl, fz, _, _, rfl, rfl, _, rfl, ?_⟩
    by_cases c1 : (z.length : Int) < 1
    · refine itt (decide_eq_true c1) ?_
      have q := k _ e1
      have n : Tm.nameS (Tm.tl z) = false := by
        unfold Tm.nameS
        rw [decide_eq_false (by omega : ¬ 1 ≤ (Tm.tl z).length)]
        rfl
      rw [n] at q
      exact q
    refine itf (decide_eq_false c1) ?_
    refine ⟨_, rfl, z, rfl, fz, _, _, rfl, rfl, _, rfl, ?_⟩
    by_cases c2 : 12 < (z.length : Int)
    · refine itt (decide_eq_true c2) ?_
      have q := k _ e1
      have n : Tm.nameS (Tm.tl z) = false := by
        unfold Tm.nameS
        rw [decide_eq_false (by omega : ¬ (Tm.tl z).length ≤ 12), Bool.and_false]
        rfl
      rw [n] at q
      exact q
    refine itf (decide_eq_false c2) ?_
    cases etl : Tm.tl z with
    | nil => rw [etl] at lz; simp at lz; omega
    | cons c0 l0 =>
    have h0 : atI z.cps.toList 0 = some c0 := by
      have z2 : z.cps.toList = c0 :: l0 := etl
      rw [z2]
      exact atI_nat (j := 0) rfl
    refine ⟨_, rfl, z, 0, c0, rfl, rfl, fz, h0, _, rfl, c0, _, rfl, rfl, _, rfl, ?_⟩
    rw [in_abc]
    by_cases c3 : Tm.small c0 = true
    · rw [c3]
      refine itf rfl ?_
      refine ⟨.str z, rfl, z, rfl, fun D hD => ?_⟩
      refine lc_it walk_str (fun i H3 => H3 D = some (.lst ((((Tm.tl z).take i).filter badS).map sgn)) ∧ Same H1 H3) ⟨upd_same, samu hD⟩ (fun _ _ _ _ => trivial) (fun i v H3 H4 hi hp hy => ?_) fun H3 hp => ?_
      · obtain ⟨rfl, c, hc, rfl⟩ := hy
        obtain ⟨h1, e3⟩ := hp
        have hc2 : (Tm.tl z)[i]? = some c := by rw [← Array.getElem?_toList] at hc; exact hc
        have st : ((Tm.tl z).take (i + 1)).filter badS = ((Tm.tl z).take i).filter badS ++ (if badS c = true then [c] else []) := by
          rw [List.take_add_one, hc2, List.filter_append]
          by_cases q : badS c = true <;> simp [q]
        refine ⟨rfl, ?_⟩
        refine ⟨_, rfl, _, rfl, c, abc, rfl, rfl, _, rfl, ?_⟩
        cases s1 : Tm.small c with
        | true =>
          have nb : badS c = false := by unfold badS; rw [s1]; rfl
          refine itf (by rw [in_abc, s1]; rfl) (itf rfl ⟨?_, e3⟩)
          rw [st, nb, if_neg (by simp), List.append_nil]
          exact h1
        | false =>
          refine itt (by rw [in_abc, s1]; rfl) ?_
          refine ⟨_, rfl, _, rfl, c, num10, rfl, rfl, _, rfl, ?_⟩
          cases s2 : Tm.fig c with
          | true =>
            have nb : badS c = false := by unfold badS; rw [s2, Bool.not_true, Bool.and_false]
            refine itf (by rw [in_num, s2]; rfl) ⟨?_, e3⟩
            rw [st, nb, if_neg (by simp), List.append_nil]
            exact h1
          | false =>
            have nb : badS c = true := by unfold badS; rw [s1, s2]; rfl
            refine itt (by rw [in_num, s2]; rfl) ?_
            refine ⟨sgn c, rfl, _, h1, ?_, ?_, same_upd hD e3⟩
            · rw [List.length_map]
              refine small1000 (Nat.le_trans (List.length_filter_le _ _) ?_)
              rw [List.length_take, ← lz]
              omega
            · rw [upd_same, st, nb, if_pos rfl, List.map_append]
              rfl
      · obtain ⟨h1, e3⟩ := hp
        rw [show z.cps.size = (Tm.tl z).length by simp [Tm.tl], List.take_length] at h1
        refine ⟨Nat.zero_le _, fun D2 nD2 => ?_⟩
        have asc : ∀ c ∈ (Tm.tl z).filter badS, c < 128 := fun c hc => ha c ((List.mem_filter.mp hc).1)
        refine ⟨.list (((Tm.tl z).filter badS).map sgnD), .list [], .lst (SqL.of ((samu nD2) _ _ h1)) (dp_sgn _), .lst (SqL.of upd_same) .nil, shp_sgn asc, rfl, ?_⟩
        rw [eqv_nil, nameS_bad]
        · exact k _ (e1.trans (e3.trans (samu nD2)))
        · omega
        · omega
        · rw [etl]
          exact c3
    · have c3 : Tm.small c0 = false := by simpa using c3
      rw [c3]
      refine itt rfl ?_
      have q := k _ e1
      have n : Tm.nameS (Tm.tl z) = false := by
        unfold Tm.nameS
        rw [etl, List.headD_cons, c3, Bool.and_false]
        rfl
      rw [n] at q
      exact q
end
end Kw
end

/-! Kw25 -/
section
set_option maxHeartbeats 4000000
set_option exponentiation.threshold 10000
/-! _law_is_label -/
namespace Kw
open PySem PySem.Spec PyProof.Rows L2 He Er Ow
section
variable {w : World} {K : PySem.W.Frag} {mg : Str → Option Value} {base : Heap} {f : Addr} {fd : FuncData} {H H2 : Hp} {x y : V} {b c : Bool} {t : Value} {a : Addr} {r s : Rat} {Q : VK}
theorem pr_LN (S : Hd K mg) : Pr w K mg base CX0 1 "_law_is_name" ["_law_text_here"] spLN := by
  obtain ⟨fd, F⟩ := S.def_ 37 (d := dLisuname)
  have F := fun_of (st := sLisuname) F
  exact ⟨_, fd, ok_LN S F, S.glo 28, F.kp, F.binds fun _ _ _ _ _ _ us hl => match us, hl with | [_], _ => rfl⟩
def nat (n : Nat) : V := .int (n : Int)
/-- where the dots stand among the first n signs -/
def dts (l : List Nat) (n : Nat) : List Nat := (List.range n).filter fun i => l[i]? == some 46
theorem dts_succ (l : List Nat) (n : Nat) : dts l (n + 1) = dts l n ++ (if l[n]? = some 46 then [n] else []) := by
  unfold dts
  rw [List.range_succ, List.filter_append]
  by_cases q : l[n]? = some 46 <;> simp [q]
theorem dts_len (l : List Nat) : ∀ n, (dts l n).length = (l.take n).count 46
  | 0 => by simp [dts]
  | n + 1 => by
    rw [dts_succ, List.length_append, dts_len l n, List.take_add_one, List.count_append]
    cases q : l[n]? with
    | none => simp
    | some c =>
      by_cases e : c = 46
      · subst e; simp
      · simp [e, List.count_cons, Ne.symm e]
theorem mem_dts {l : List Nat} {n i : Nat} : i ∈ dts l n ↔ i < n ∧ l[i]? = some 46 := by
  unfold dts
  rw [List.mem_filter, List.mem_range]
  simp
theorem lab_one {l : List Nat} {p : Nat} (h : dts l l.length = [p]) : p < l.length ∧ Tm.labelS l = (Tm.nameS (l.take p) && Tm.nameS (l.drop (p + 1))) := by
  have hp : p ∈ dts l l.length := by rw [h]; simp
  obtain ⟨h1, h2⟩ := mem_dts.mp hp
  refine ⟨h1, ?_⟩
  have e : l = l.take p ++ 46 :: l.drop (p + 1) := by
    conv => lhs; rw [← List.take_append_drop p l]
    congr 1
    rw [List.drop_eq_getElem_cons h1]
    congr 1
    have := (List.getElem?_eq_some_iff.mp h2).2
    exact this
  have no : 46 ∉ l.take p := fun z => by
    obtain ⟨i, hi, e2⟩ := List.mem_iff_getElem.mp z
    rw [List.length_take] at hi
    rw [List.getElem_take] at e2
    have : i ∈ dts l l.length := mem_dts.mpr ⟨by omega, by rw [List.getElem?_eq_some_iff]; exact ⟨by omega, e2⟩⟩
    rw [h] at this
    have : i = p := by simpa using this
    omega
  unfold Tm.labelS
  have c := Tm.cut_app (b := l.drop (p + 1)) no
  rw [← e] at c
  rw [c]
theorem lab_not {l : List Nat} (h : (dts l l.length).length ≠ 1) : Tm.labelS l = false := by
  rw [dts_len, List.take_length] at h
  unfold Tm.labelS
  cases e : Tm.cut l with
  | none => rfl
  | some ab =>
    obtain ⟨a, b⟩ := ab
    obtain ⟨e1, e2⟩ := Tm.cut_some e
    show (Tm.nameS a && Tm.nameS b) = false
    cases q : Tm.nameS b with
    | false => exact Bool.and_false _
    | true =>
      refine absurd ?_ h
      have no : 46 ∉ b := fun z => by
        unfold Tm.nameS at q
        have q2 := (Bool.and_eq_true_iff.mp q).2
        have := List.all_eq_true.mp q2 46 z
        revert this
        decide
      rw [e1, List.count_append, List.count_cons_self, List.count_eq_zero_of_not_mem e2, List.count_eq_zero_of_not_mem no]
theorem tl_lo {z : Str} {p : Nat} (h : p ≤ (Tm.tl z).length) : Tm.tl (cutS z none (some (p : Int))) = (Tm.tl z).take p := by
  have lz : z.length = (Tm.tl z).length := Tm.len_tl z
  unfold cutS
  rw [Tm.tl_mk, HT.sIx_none, HT.sIx_nat, Nat.min_eq_left (by omega)]
  simp [Tm.tl]
theorem tl_hi {z : Str} {p : Nat} (h : p ≤ (Tm.tl z).length) : Tm.tl (cutS z (some (p : Int)) none) = (Tm.tl z).drop p := by
  have lz : z.length = (Tm.tl z).length := Tm.len_tl z
  unfold cutS
  rw [Tm.tl_mk, HT.sIx_none, HT.sIx_nat, Nat.min_eq_left (by omega), lz]
  show ((Tm.tl z).drop p).take ((Tm.tl z).length - p) = (Tm.tl z).drop p
  rw [← List.length_drop, List.take_length]
def spLL : Sp := fun vs H Q _ => ∃ z : Str, vs = [.str z] ∧ z.length ≤ 1000 ∧ Tm.Asc z ∧ ∀ H2, Same H H2 → Q (.bl (Tm.labelS (Tm.tl z))) H2
theorem scLL : FnScope ["_law_text_here", "_law_dots", "_law_at", "_law_sign"] ["_law_text_here"] (defScope sLisulabel) := ⟨rfl, rfl, rfl, by decide +kernel, rfl, by decide +kernel, by decide +kernel⟩
theorem ok_LL (S : Hd K mg) (F : L2.Fun K "_law_is_label" "_law_is_label" sLisulabel f fd) : FnOk P w K mg base CX0 2 f fd ["_law_text_here"] spLL := by
  obtain ⟨fN, fdN, FN, gN, kN, bN⟩ := (pr_LN (w := w) (base := base) S).ex
  refine F.ok scLL (fun vs H Q E h => ?_) (fun cdv A outer s H vs Q E hr h => ?_)
  · obtain ⟨z, rfl, _⟩ := h
    rfl
  · obtain ⟨z, rfl, hz, ha, k⟩ := h
    refine ⟨_, PSs.nox (pss_cons (ps_setLc (i := 1) (own := [("_law_at", 2), ("_law_sign", 3)]) (g := gTup K 2 (gCons (gName 2) (gCons (gName 3) gNil))) (by rfl) scLL.nd rfl rfl (sw_true rfl rfl rfl (by decide +kernel)) (pi_enumS rfl (S.free 48) (pa_cons (pv 0) pa_nil)) (blkOk_by (own := [("_law_at", 2), ("_law_sign", 3)]) (N := ["_law_text_here", "_law_dots", "_law_at", "_law_sign"]) (sc := defScope sLisulabel) (by decide +kernel)) (fun _ _ _ _ _ => pg_tup rfl (pgs_cons (pg_name (i := 2) scLL.nd rfl (Or.inl rfl)) (pgs_cons (pg_name (i := 3) scLL.nd rfl (Or.inl rfl)) pgs_nil))) (fun _ _ _ _ _ => pts_one (pt_cmpR op_eq (pv 3) pe_str (nomark _))) (fun _ _ _ _ _ => (pv 2))) (pss_one (ps_ret (pe_and (pe_cmpR op_eq (pe_callB call_len_seq rfl (S.free 51) (by decide +kernel) (pa_cons (pv 1) pa_nil)) pe_int (nomark _)) (pe_and (pe_call FN (hr.mono (by decide)) rfl gN kN bN .nil pass0 (pa_cons (pe_slice sl_str (pv 0) po_none (po_some (pe_ix ix_list (pv 1) pe_int (fun _ _ => rfl)))) pa_nil)) (pe_one (pe_call FN (hr.mono (by decide)) rfl gN kN bN .nil pass0 (pa_cons (pe_slice sl_str (pv 0) (po_some (pe_op op_add (pe_ix ix_list (pv 1) pe_int (fun _ _ => rfl)) pe_int)) po_none) pa_nil)))))))), ?_⟩
    have lz : z.length = (Tm.tl z).length := Tm.len_tl z
    refine ⟨.str z, rfl, z, rfl, fun D hD => ?_⟩
    refine lc_it walk_enumS (fun i H3 => H3 D = some (.lst ((dts (Tm.tl z) i).map nat)) ∧ Same H H3) ⟨upd_same, samu hD⟩ (fun _ _ _ _ => trivial) (fun i v H3 H4 hi hp hy => ?_) fun H3 hp => ?_
    · obtain ⟨T, c, rfl, nT, rfl, hc⟩ := hy
      obtain ⟨h1, e3⟩ := hp
      have hc2 : (Tm.tl z)[i]? = some c := by rw [← Array.getElem?_toList] at hc; exact hc
      have hT : T ≠ D := fun q => by rw [q, h1] at nT; cases nT
      refine ⟨T, [.int (i : Nat), .str ⟨#[c]⟩], rfl, SqT.of upd_same, rfl, ?_⟩
      refine ⟨_, _, rfl, _, _, rfl, rfl, ?_⟩
      refine ⟨rfl, ?_⟩
      refine ⟨_, rfl, rfl, _, rfl, ?_⟩
      have h4 : upd H3 T (.tup [.int (i : Nat), .str ⟨#[c]⟩]) D = some (.lst ((dts (Tm.tl z) i).map nat)) := (upd_ne (Ne.symm hT)).trans h1
      have e4 : Same H (upd H3 T (.tup [.int (i : Nat), .str ⟨#[c]⟩])) := same_trans e3 (samu nT)
      by_cases q : c = 46
      · subst q
        refine itt (by decide) ?_
        refine ⟨_, rfl, _, h4, ?_, ?_, same_upd hD e4⟩
        · rw [List.length_map]
          refine small1000 ?_
          have : (dts (Tm.tl z) i).length ≤ i := by
            unfold dts
            exact Nat.le_trans (List.length_filter_le _ _) (by rw [List.length_range]; exact Nat.le_refl _)
          have : i < z.length := hi
          omega
        · rw [upd_same, dts_succ, if_pos hc2, List.map_append]
          rfl
      · refine itf (decide_eq_false fun z2 => q ?_) ⟨?_, e4⟩
        · have z3 : (⟨#[c]⟩ : Str) = "." := V.str.inj z2
          have z4 := congrArg (fun s : Str => s.cps.toList) z3
          have z5 : [c] = [46] := z4.trans (by decide +kernel)
          exact List.cons.inj z5 |>.1
        · rw [h4, dts_succ, hc2, if_neg (fun z => q (Option.some.inj z)), List.append_nil]
    · obtain ⟨h1, e3⟩ := hp
      rw [show z.cps.size = (Tm.tl z).length by simp [Tm.tl]] at h1
      refine ⟨.ref D, rfl, D, _, rfl, .inl (SqL.of h1), rfl, _, rfl, ?_⟩
      rw [List.length_map]
      by_cases one : (dts (Tm.tl z) (Tm.tl z).length).length = 1
      · rw [one]
        refine itt (by decide) ?_
        obtain ⟨p, hp⟩ := List.length_eq_one_iff.mp one
        obtain ⟨hlt, hlab⟩ := lab_one hp
        rw [hp] at h1
        have hD0 : atI ([nat p]) 0 = some (nat p) := atI_nat (j := 0) rfl
        have fz : z.length ≤ sizeLine := fits (Nat.le_trans hz (by decide))
        refine ⟨.str z, rfl, .ref D, rfl, D, _, 0, nat p, rfl, rfl, SqL.of h1, hD0, ?_⟩
        have lo : Tm.tl (cutS z none (some (p : Int))) = (Tm.tl z).take p := tl_lo (Nat.le_of_lt hlt)
        have hi : Tm.tl (cutS z (some ((p + 1 : Nat) : Int)) none) = (Tm.tl z).drop (p + 1) := tl_hi hlt
        refine ⟨(p : Int), rfl, z, rfl, fz, cutS z none (some (p : Int)), rfl, Nat.le_trans (cutS_length _ _ _) hz, fun c hc => ha c (by rw [lo] at hc; exact List.mem_of_mem_take hc), fun H4 e4 => ⟨_, rfl, ?_⟩⟩
        rw [lo]
        cases n1 : Tm.nameS ((Tm.tl z).take p) with
        | false =>
          rw [n1, Bool.false_and] at hlab
          have q := k _ (e3.trans e4)
          rw [hlab] at q
          exact itf rfl q
        | true =>
          rw [n1, Bool.true_and] at hlab
          refine itt rfl ?_
          refine ⟨.str z, rfl, .ref D, rfl, D, _, 0, nat p, rfl, rfl, SqL.of (e4 _ _ h1), hD0, (p : Int), 1, rfl, rfl, ((p + 1 : Nat) : Int), rfl, z, rfl, fz, cutS z (some ((p + 1 : Nat) : Int)) none, rfl, Nat.le_trans (cutS_length _ _ _) hz, fun c hc => ha c (by rw [hi] at hc; exact List.mem_of_mem_drop hc), fun H5 e5 => ?_⟩
          have q := k _ (e3.trans (e4.trans e5))
          rw [hlab] at q
          rw [hi]
          exact q
      · refine itf (decide_eq_false fun q => one ?_) ?_
        · exact Int.ofNat.inj (V.int.inj q)
        · have q := k _ e3
          rw [lab_not one] at q
          exact q
end
end Kw
end

/-! Kw26 -/
section
set_option maxHeartbeats 4000000
set_option exponentiation.threshold 10000
/-! _law_text -/
namespace Kw
open PySem PySem.Spec PyProof.Rows L2 He Er Ow
section
variable {w : World} {K : PySem.W.Frag} {mg : Str → Option Value} {base : Heap} {f : Addr} {fd : FuncData} {H H2 : Hp} {x y : V} {b c : Bool} {t : Value} {a : Addr} {r s : Rat} {Q : VK}
theorem pr_LL (S : Hd K mg) : Pr w K mg base CX0 2 "_law_is_label" ["_law_text_here"] spLL := by
  obtain ⟨fd, F⟩ := S.def_ 38 (d := dLisulabel)
  have F := fun_of (st := sLisulabel) F
  exact ⟨_, fd, ok_LL S F, S.glo 29, F.kp, F.binds fun _ _ _ _ _ _ us hl => match us, hl with | [_], _ => rfl⟩
/-- all but p is kept -/
def Kp (p : Addr) (H H2 : Hp) : Prop := ∀ b o, b ≠ p → H b = some o → H2 b = some o
theorem Jug.keep {p : Addr} {B : Int} (h : Jug H p B) (e : H2 p = H p) : Jug H2 p B := by
  obtain ⟨n, c, q, r⟩ := h
  exact ⟨n, c, e.trans q, r⟩
theorem Jug.mono {p : Addr} {B C : Int} (h : Jug H p B) (e : B ≤ C) : Jug H p C := by
  obtain ⟨n, c, q, r1, r2, r3, r4⟩ := h
  exact ⟨n, c, q, r1, r2, r3, by omega⟩
theorem pick8 {r : Int} (h0 : 0 ≤ r) (h1 : r < 8) : ∃ m : Nat, atI ([.int 0, .int 1, .int 2, .int 5, .int 11, .int 12, .int 13, .int 26] : List V) r = some (.int (m : Int)) ∧ m ≤ 26 := by
  obtain ⟨n, rfl⟩ := Int.eq_ofNat_of_zero_le h0
  have hn : n < 8 := by omega
  match n, hn with
  | 0, _ => exact ⟨0, atI_nat rfl, by decide⟩
  | 1, _ => exact ⟨1, atI_nat rfl, by decide⟩
  | 2, _ => exact ⟨2, atI_nat rfl, by decide⟩
  | 3, _ => exact ⟨5, atI_nat rfl, by decide⟩
  | 4, _ => exact ⟨11, atI_nat rfl, by decide⟩
  | 5, _ => exact ⟨12, atI_nat rfl, by decide⟩
  | 6, _ => exact ⟨13, atI_nat rfl, by decide⟩
  | 7, _ => exact ⟨26, atI_nat rfl, by decide⟩
theorem pickS {r : Int} (h0 : 0 ≤ r) (h1 : r < 43) : ∃ c : Nat, atI (("abcdefghijklmnopqrstuvwxyz0123456789" ++ "aA._- ~" : Str)).cps.toList r = some c ∧ c < 128 := by
  obtain ⟨n, rfl⟩ := Int.eq_ofNat_of_zero_le h0
  have hl : (("abcdefghijklmnopqrstuvwxyz0123456789" ++ "aA._- ~" : Str)).cps.toList.length = 43 := by decide +kernel
  have ha : (("abcdefghijklmnopqrstuvwxyz0123456789" ++ "aA._- ~" : Str)).cps.toList.all (fun c => decide (c < 128)) = true := by decide +kernel
  have hn : n < (("abcdefghijklmnopqrstuvwxyz0123456789" ++ "aA._- ~" : Str)).cps.toList.length := by omega
  exact ⟨_, atI_nat (List.getElem?_eq_getElem hn), of_decide_eq_true (List.all_eq_true.mp ha _ (List.getElem_mem hn))⟩
theorem joinL1 : ∀ l : List Nat, TL.joinL [] (l.map fun c => [c]) = l
  | [] => rfl
  | [c] => rfl
  | c :: d :: l => by
    show [c] ++ ([] ++ TL.joinL [] ((d :: l).map fun c => [c])) = c :: d :: l
    rw [joinL1 (d :: l)]
    rfl
theorem join1 (l : List Nat) : Tm.tl (Txt.join "" (l.map (fun c => (⟨#[c]⟩ : Str)))) = l := by
  have e := SX.join_S [] (l.map fun c => [c])
  rw [joinL1, List.map_map] at e
  have e2 : Txt.join "" (l.map (fun c => (⟨#[c]⟩ : Str))) = _ := e
  rw [e2]
theorem sum_len : ∀ l : List Nat, ((l.map (fun c => (⟨#[c]⟩ : Str))).map (·.length)).sum = l.length
  | [] => rfl
  | c :: l => by
    rw [List.map_cons, List.map_cons, List.sum_cons, sum_len l, List.length_cons]
    show 1 + l.length = l.length + 1
    omega
theorem cut_in {z : Str} {lo hi : Option Int} {c : Nat} (h : c ∈ Tm.tl (cutS z lo hi)) : c ∈ Tm.tl z := by
  unfold cutS at h
  rw [Tm.tl_mk] at h
  exact List.mem_of_mem_drop (List.mem_of_mem_take h)
theorem len_cat (y z : Str) : (y ++ z).length = y.length + z.length := by
  rw [Tm.len_tl, Tm.len_tl y, Tm.len_tl z]
  have := TL.tl_append y z
  show (TL.tl (y ++ z)).length = _
  rw [this, List.length_append]
def spTx : Sp := fun vs H Q _ => ∃ (p : Addr) (B : Int), vs = [.ref p] ∧ Jug H p B ∧ B + 40 ≤ 100000 ∧ ∀ H2 z, Kp p H H2 → Jug H2 p (B + 40) → z.length ≤ 60 → Tm.Asc z → Q (.str z) H2
theorem scTx : FnScope ["_law_churn_here", "_law_signs", "_law_many", "_law_text_here", "_law_at", "_law_turn"] ["_law_churn_here"] (defScope sLtext) := ⟨rfl, rfl, rfl, by decide +kernel, rfl, by decide +kernel, by decide +kernel⟩
theorem ok_Tx (S : Hd K mg) (F : L2.Fun K "_law_text" "_law_text" sLtext f fd) : FnOk P w K mg base CX0 2 f fd ["_law_churn_here"] spTx := by
  obtain ⟨fK, fdK, FK, gK, kK, bK⟩ := (pr_skim (w := w) (base := base) S).ex
  refine F.ok scTx (fun vs H Q E h => ?_) (fun cdv A outer s H vs Q E hr h => ?_)
  · obtain ⟨p, B, rfl, _⟩ := h
    rfl
  · obtain ⟨p, B, rfl, hj, hB, k⟩ := h
    refine ⟨_, PSs.nox (pss_cons (ps_set (i := 1) scTx.nd rfl (.inr rfl) (pe_op op_add_str pe_str pe_str)) (pss_cons (ps_set (i := 2) scTx.nd rfl (.inl rfl) (pe_ix ix_tup (pe_tup (pa_cons pe_int (pa_cons pe_int (pa_cons pe_int (pa_cons pe_int (pa_cons pe_int (pa_cons pe_int (pa_cons pe_int (pa_cons pe_int pa_nil))))))))) (pe_call FK hr rfl gK kK bK .nil pass0 (pa_cons (pv 0) (pa_cons pe_int pa_nil))) (fun _ _ => rfl))) (pss_cons (ps_set (i := 3) scTx.nd rfl (.inl rfl) (pe_join pe_str (pe_lc (own := [("_law_turn", 5)]) (g := gName 5) (tt := tYes) (by rfl) scTx.nd (pi_range1 rfl (S.free 54) (pa_cons (pv 2) pa_nil)) (blkOk_by (own := [("_law_turn", 5)]) (N := ["_law_churn_here", "_law_signs", "_law_many", "_law_text_here", "_law_at", "_law_turn"]) (sc := defScope sLtext) (by decide +kernel)) (fun _ _ _ _ _ => pg_name (i := 5) scTx.nd rfl (Or.inl rfl)) (fun _ _ _ _ _ => pts_nil) (fun _ _ _ _ _ => (pe_ix ix_str (pv 1) (pe_call FK hr rfl gK kK bK .nil pass0 (pa_cons (pv 0) (pa_cons pe_int pa_nil))) (fun _ _ => rfl)))))) (pss_cons (ps_if (PW.pt (pw_and (pt_cmpR op_eq (pe_call FK hr rfl gK kK bK .nil pass0 (pa_cons (pv 0) (pa_cons pe_int pa_nil))) pe_int (nomark _)) (pw_and1 (pt_cmpR op_gt (pv 2) pe_int (nomark _))))) (pss_cons (ps_set (i := 4) scTx.nd rfl (.inl rfl) (pe_call FK hr rfl gK kK bK .nil pass0 (pa_cons (pv 0) (pa_cons (pv 2) pa_nil)))) (pss_one (ps_set (i := 3) scTx.nd rfl (.inl rfl) (pe_op op_add_str (pe_op op_add_str (pe_slice sl_str (pv 3) po_none (po_some (pv 4))) (pe_ix ix_str (pv 1) (pe_op op_add pe_int (pe_call FK hr rfl gK kK bK .nil pass0 (pa_cons (pv 0) (pa_cons pe_int pa_nil)))) (fun _ _ => rfl))) (pe_slice sl_str (pv 3) (po_some (pe_op op_add (pv 4) pe_int)) po_none))))) pss_nil) (pss_one (ps_ret (pv 3))))))), ?_⟩
    refine ⟨_, _, rfl, rfl, (by decide), ?_⟩
    refine ⟨(by show 8 ≤ sizeLine; decide), fun u nu => ?_⟩
    have pu : p ≠ u := fun q => by obtain ⟨n, c, e, _⟩ := hj; rw [q, nu] at e; cases e
    have hj1 : Jug (upd H u (.tup [.int 0, .int 1, .int 2, .int 5, .int 11, .int 12, .int 13, .int 26])) p B := hj.keep (upd_ne pu)
    have k1 : Kp p H (upd H u (.tup [.int 0, .int 1, .int 2, .int 5, .int 11, .int 12, .int 13, .int 26])) := fun b o _ e => (samu nu) b o e
    have hu1 : upd H u (.tup [.int 0, .int 1, .int 2, .int 5, .int 11, .int 12, .int 13, .int 26]) u = some (.tup [.int 0, .int 1, .int 2, .int 5, .int 11, .int 12, .int 13, .int 26]) := upd_same
    generalize upd H u (.tup [.int 0, .int 1, .int 2, .int 5, .int 11, .int 12, .int 13, .int 26]) = H1 at hj1 k1 hu1 ⊢
    refine ⟨.ref p, rfl, p, 8, B, rfl, hj1, (by omega), (by decide), (by decide), fun H2 r hs hj2 r0 r1 => ?_⟩
    obtain ⟨m, hm, hm2⟩ := pick8 r0 r1
    refine ⟨u, _, r, .int m, rfl, rfl, SqT.of ((hs u (Ne.symm pu)).trans hu1), hm, ?_⟩
    have k2 : Kp p H H2 := fun b o n e => (hs b n).trans (k1 b o n e)
    clear hs hu1 hj1 k1 hm nu pu
    refine ⟨⟨_, rfl⟩, .int m, rfl, m, rfl, (by omega), (by omega), fun D hD => ?_⟩
    have pD : p ≠ D := fun q => by obtain ⟨n, c, e, _⟩ := hj2; rw [q, hD] at e; cases e
    refine lc_it walk_range (fun i H3 => ∃ l : List Nat, l.length = i ∧ (∀ c ∈ l, c < 128) ∧ H3 D = some (.lst (l.map sgn)) ∧ Jug H3 p (B + 1 + i) ∧ Kp p H2 H3) ⟨[], rfl, (by simp), upd_same, (hj2.keep (upd_ne pD)).mono (by simp), fun b o _ e => (samu hD) b o e⟩ (fun _ _ _ _ => trivial) (fun i v H3 H4 hi hp hy => ?_) fun H3 hp => ?_
    · obtain ⟨rfl, rfl⟩ := hy
      obtain ⟨l, l1, l2, l3, l4, l5⟩ := hp
      have hi : i < m := by simpa using hi
      refine ⟨rfl, ?_⟩
      show tOp rIxS (tVar 1) (tCall spPour [] E0 (tCons (tVar 0) (tCons (tC (V.int 36)) tNil))) _ H4 _
      refine ⟨_, rfl, _, rfl, p, 36, B + 1 + i, rfl, l4, (by omega), (by decide), (by decide), fun H5 r5 hs5 hj5 r50 r51 => ?_⟩
      obtain ⟨c, hc, hc2⟩ := pickS r50 (by omega : r5 < 43)
      refine ⟨_, r5, c, rfl, rfl, (by decide), hc, _, (hs5 D (Ne.symm pD)).trans l3, ?_, l ++ [c], (by simp [l1]), fun d hd => ?_, ?_, ?_, fun b o n e => ?_⟩
      · rw [List.length_map, l1]
        exact small1000 (by omega)
      · rcases List.mem_append.mp hd with hd | hd
        · exact l2 d hd
        · have : d = c := by simpa using hd
          rw [this]
          exact hc2
      · rw [upd_same, List.map_append]
        rfl
      · exact (hj5.keep (upd_ne pD)).mono (by omega)
      · exact (upd_ne (fun z => by rw [z, hD] at e; cases e)).trans ((hs5 b n).trans (l5 b o n e))
    obtain ⟨l, l1, l2, l3, l4, l5⟩ := hp
    have l1 : l.length = m := by simpa using l1
    have hm3 : (m : Int).toNat = m := by simp
    rw [hm3] at l4
    refine ⟨_, D, l.map (fun c => (⟨#[c]⟩ : Str)), rfl, rfl, .inl (SqL.of (by rw [l3, List.map_map]; rfl)), ?_, ?_⟩
    · rw [sum_len, List.length_map]
      show l.length + l.length * 0 ≤ _
      omega
    have tz : Tm.tl (Txt.join "" (l.map (fun c => (⟨#[c]⟩ : Str)))) = l := join1 l
    generalize Txt.join "" (l.map (fun c => (⟨#[c]⟩ : Str))) = z0 at tz ⊢
    have a0 : Tm.Asc z0 := fun c hc => l2 c (by rw [← tz]; exact hc)
    have n0 : z0.length = m := by rw [Tm.len_tl, tz, l1]
    have k3 : Kp p H H3 := fun b o n e => l5 b o n (k2 b o n e)
    refine ⟨_, rfl, p, 3, B + 1 + m, rfl, l4, (by omega), (by decide), (by decide), fun H5 r5 hs5 hj5 r50 r51 => ?_⟩
    have k5 : Kp p H H5 := fun b o n e => (hs5 b n).trans (k3 b o n e)
    refine ⟨rfl, _, rfl, ?_⟩
    by_cases c1 : r5 = 0
    · subst c1
      refine itt (decide_eq_true rfl) ?_
      refine ⟨_, rfl, _, _, rfl, rfl, _, rfl, ?_⟩
      by_cases c2 : (0 : Int) < m
      · refine itt (decide_eq_true c2) ?_
        refine ⟨_, rfl, _, rfl, p, m, B + 1 + m + 1, rfl, hj5, (by omega), c2, ?_, fun H6 r6 hs6 hj6 r60 r61 => ?_⟩
        · show m < 2 ^ 200
          exact Nat.lt_of_le_of_lt hm2 (by decide)
        have k6 : Kp p H H6 := fun b o n e => (hs6 b n).trans (k5 b o n e)
        refine ⟨.str z0, rfl, .int r6, rfl, r6, rfl, z0, rfl, (by rw [n0]; exact fits (Nat.le_trans hm2 (by decide))), ?_⟩
        refine ⟨.str _, rfl, .ref p, rfl, p, 7, B + 1 + m + 1 + 1, rfl, hj6, (by omega), (by decide), (by decide), fun H7 r7 hs7 hj7 r70 r71 => ?_⟩
        have k7 : Kp p H H7 := fun b o n e => (hs7 b n).trans (k6 b o n e)
        obtain ⟨c, hc, hc2⟩ := pickS (r := 36 + r7) (by omega) (by omega)
        have q1 : (cutS z0 none (some r6)).length ≤ 26 := Nat.le_trans (cutS_length _ _ _) (by rw [n0]; exact hm2)
        have q2 : (cutS z0 (some (r6 + 1)) none).length ≤ 26 := Nat.le_trans (cutS_length _ _ _) (by rw [n0]; exact hm2)
        have q3 : (cutS z0 none (some r6) ++ (⟨#[c]⟩ : Str)).length ≤ 27 := by rw [len_cat]; show _ + 1 ≤ 27; omega
        refine ⟨36, r7, rfl, rfl, _, 36 + r7, c, rfl, rfl, (by decide), hc, _, _, rfl, rfl, ?_, ?_⟩
        · show _ + 1 ≤ _
          exact fits (by omega)
        refine ⟨.str z0, rfl, .int r6, rfl, r6, 1, rfl, rfl, r6 + 1, rfl, z0, rfl, (by rw [n0]; exact fits (Nat.le_trans hm2 (by decide))), _, _, rfl, rfl, fits (by omega), ?_⟩
        refine ⟨_, rfl, k _ _ k7 (hj7.mono (by omega)) (by rw [len_cat]; omega) fun d hd => ?_⟩
        have e1 : Tm.tl (cutS z0 none (some r6) ++ (⟨#[c]⟩ : Str) ++ cutS z0 (some (r6 + 1)) none) = Tm.tl (cutS z0 none (some r6)) ++ [c] ++ Tm.tl (cutS z0 (some (r6 + 1)) none) := by
          have g1 := TL.tl_append (cutS z0 none (some r6) ++ (⟨#[c]⟩ : Str)) (cutS z0 (some (r6 + 1)) none)
          have g2 := TL.tl_append (cutS z0 none (some r6)) (⟨#[c]⟩ : Str)
          rw [g2] at g1
          exact g1
        rw [e1] at hd
        rcases List.mem_append.mp hd with hd | hd
        · rcases List.mem_append.mp hd with hd | hd
          · exact a0 d (cut_in hd)
          · have : d = c := by simpa using hd
            rw [this]
            exact hc2
        · exact a0 d (cut_in hd)
      · refine itf (decide_eq_false c2) ?_
        exact ⟨_, rfl, k _ _ k5 (hj5.mono (by omega)) (by omega) a0⟩
    · refine itf (decide_eq_false fun q => c1 (V.int.inj q)) ?_
      exact ⟨_, rfl, k _ _ k5 (hj5.mono (by omega)) (by omega) a0⟩
end
end Kw
end

/-! Kw27 -/
section
set_option maxHeartbeats 4000000
set_option exponentiation.threshold 10000
/-! _law_pair -/
namespace Kw
open PySem PySem.Spec PyProof.Rows L2 He Er Ow
section
variable {w : World} {K : PySem.W.Frag} {mg : Str → Option Value} {base : Heap} {f : Addr} {fd : FuncData} {H H2 : Hp} {x y : V} {b c : Bool} {t : Value} {a : Addr} {r s : Rat} {Q : VK}
theorem pr_Tx (S : Hd K mg) : Pr w K mg base CX0 2 "_law_text" ["_law_churn_here"] spTx := by
  obtain ⟨fd, F⟩ := S.def_ 36 (d := dLtext)
  have F := fun_of (st := sLtext) F
  exact ⟨_, fd, ok_Tx S F, S.glo 27, F.kp, F.binds fun _ _ _ _ _ _ us hl => match us, hl with | [_], _ => rfl⟩
theorem pick4 {r : Int} (h0 : 0 ≤ r) (h1 : r < 4) : ∃ m : Int, atI ([.int 4, .int 13, .int (10 ^ (7 : Int).toNat), .int (10 ^ (25 : Int).toNat)] : List V) r = some (.int m) ∧ 0 < m ∧ m ≤ 10 ^ 25 := by
  obtain ⟨n, rfl⟩ := Int.eq_ofNat_of_zero_le h0
  have hn : n < 4 := by omega
  match n, hn with
  | 0, _ => exact ⟨4, atI_nat rfl, by decide, by decide⟩
  | 1, _ => exact ⟨13, atI_nat rfl, by decide, by decide⟩
  | 2, _ => exact ⟨10 ^ 7, atI_nat rfl, by decide, by decide⟩
  | 3, _ => exact ⟨10 ^ 25, atI_nat rfl, by decide, by decide⟩
theorem pq_of {r3 r4 r5 r6 m : Int} (a0 : 0 ≤ r3) (a1 : r3 < 2) (c0 : 0 ≤ r5) (c1 : r5 < 2) (b0 : 0 ≤ r4) (b1 : r4 < m) (d0 : 0 ≤ r6) (d1 : r6 < m) (h : m ≤ 10 ^ 25) : Pq ((2 * r5 - 1) * r6) ((2 * r3 - 1) * (1 + r4)) := by
  have h3 : r3 = 0 ∨ r3 = 1 := by omega
  have h5 : r5 = 0 ∨ r5 = 1 := by omega
  have e : (10 : Nat) ^ 26 = 100000000000000000000000000 := by decide
  have e2 : (10 : Int) ^ 25 = 10000000000000000000000000 := by decide
  rw [e2] at h
  unfold Pq
  rw [e]
  rcases h3 with rfl | rfl <;> rcases h5 with rfl | rfl <;> refine ⟨?_, ?_, ?_⟩ <;> simp <;> omega
def spPair : Sp := fun vs H Q _ => ∃ (p : Addr) (B : Int), vs = [.ref p] ∧ Jug H p B ∧ B + 10 ≤ 100000 ∧ ∀ H2 t a b, Kp p H H2 → Jug H2 p (B + 10) → H2 t = some (.tup [.int a, .int b]) → Pq a b → Q (.ref t) H2
theorem scPr : FnScope ["_law_churn_here", "_law_great", "_law_bottom"] ["_law_churn_here"] (defScope sLpair) := ⟨rfl, rfl, rfl, by decide +kernel, rfl, by decide +kernel, by decide +kernel⟩
theorem ok_Pr (S : Hd K mg) (F : L2.Fun K "_law_pair" "_law_pair" sLpair f fd) : FnOk P w K mg base CX0 2 f fd ["_law_churn_here"] spPair := by
  obtain ⟨fK, fdK, FK, gK, kK, bK⟩ := (pr_skim (w := w) (base := base) S).ex
  refine F.ok scPr (fun vs H Q E h => ?_) (fun cdv A outer s H vs Q E hr h => ?_)
  · obtain ⟨p, B, rfl, _⟩ := h
    rfl
  · obtain ⟨p, B, rfl, hj, hB, k⟩ := h
    refine ⟨_, PSs.nox (pss_cons (ps_set (i := 1) scPr.nd rfl (.inl rfl) (pe_ix ix_tup (pe_tup (pa_cons pe_int (pa_cons pe_int (pa_cons (pe_op op_pow pe_int pe_int) (pa_cons (pe_op op_pow pe_int pe_int) pa_nil))))) (pe_call FK hr rfl gK kK bK .nil pass0 (pa_cons (pv 0) (pa_cons pe_int pa_nil))) (fun _ _ => rfl))) (pss_cons (ps_set (i := 2) scPr.nd rfl (.inl rfl) (pe_op op_mulW (pe_op op_sub (pe_op op_mulW pe_int (pe_call FK hr rfl gK kK bK .nil pass0 (pa_cons (pv 0) (pa_cons pe_int pa_nil)))) pe_int) (pe_op op_add pe_int (pe_call FK hr rfl gK kK bK .nil pass0 (pa_cons (pv 0) (pa_cons (pv 1) pa_nil)))))) (pss_one (ps_ret (pe_tup (pa_cons (pe_op op_mulW (pe_op op_sub (pe_op op_mulW pe_int (pe_call FK hr rfl gK kK bK .nil pass0 (pa_cons (pv 0) (pa_cons pe_int pa_nil)))) pe_int) (pe_call FK hr rfl gK kK bK .nil pass0 (pa_cons (pv 0) (pa_cons (pv 1) pa_nil)))) (pa_cons (pv 2) pa_nil))))))), ?_⟩
    refine ⟨_, _, rfl, rfl, ⟨by decide, by decide, by decide⟩, _, _, rfl, rfl, ⟨by decide, by decide, by decide⟩, (by show 4 ≤ sizeLine; decide), fun u nu => ?_⟩
    have pu : p ≠ u := fun q => by obtain ⟨n, c, e, _⟩ := hj; rw [q, nu] at e; cases e
    have hj1 : Jug (upd H u (.tup [.int 4, .int 13, .int (10 ^ (7 : Int).toNat), .int (10 ^ (25 : Int).toNat)])) p B := hj.keep (upd_ne pu)
    have k1 : Kp p H (upd H u (.tup [.int 4, .int 13, .int (10 ^ (7 : Int).toNat), .int (10 ^ (25 : Int).toNat)])) := fun b o _ e => (samu nu) b o e
    have hu1 : upd H u (.tup [.int 4, .int 13, .int (10 ^ (7 : Int).toNat), .int (10 ^ (25 : Int).toNat)]) u = some (.tup [.int 4, .int 13, .int (10 ^ (7 : Int).toNat), .int (10 ^ (25 : Int).toNat)]) := upd_same
    generalize upd H u (.tup [.int 4, .int 13, .int (10 ^ (7 : Int).toNat), .int (10 ^ (25 : Int).toNat)]) = H1 at hj1 k1 hu1 ⊢
    refine ⟨.ref p, rfl, p, 4, B, rfl, hj1, (by omega), (by decide), (by decide), fun H2 r hs hj2 r0 r1 => ?_⟩
    obtain ⟨m, hm, m0, m1⟩ := pick4 r0 r1
    refine ⟨u, _, r, .int m, rfl, rfl, SqT.of ((hs u (Ne.symm pu)).trans hu1), hm, ?_⟩
    have k2 : Kp p H H2 := fun b o n e => (hs b n).trans (k1 b o n e)
    have mN : m.natAbs < 2 ^ 90 := by
      have : (10 : Int) ^ 25 < 2 ^ 90 := by decide
      have e : (2 : Int) ^ 90 = ((2 ^ 90 : Nat) : Int) := by decide
      omega
    refine ⟨.ref p, rfl, p, 2, B + 1, rfl, hj2, (by omega), (by decide), (by decide), fun H3 r3 hs3 hj3 a0 a1 => ?_⟩
    refine ⟨2, r3, rfl, rfl, wide_mul (a := 2) (b := 2) (by decide) (by omega) (by decide) (by decide) (by decide), _, 1, rfl, rfl, ?_⟩
    refine ⟨.ref p, rfl, .int m, rfl, p, m, B + 1 + 1, rfl, hj3, (by omega), m0, Nat.lt_trans mN (by decide), fun H4 r4 hs4 hj4 b0 b1 => ?_⟩
    have q4 : (1 + r4).natAbs < 2 ^ 91 := by
      have : (2 : Nat) ^ 91 = 2 * 2 ^ 90 := by decide
      omega
    refine ⟨1, r4, rfl, rfl, _, _, rfl, rfl, wide_mul (a := 3) (b := 91) (by show (2 * r3 - 1).natAbs < 8; omega) q4 (by decide) (by decide) (by decide), ?_⟩
    have k4 : Kp p H H4 := fun b o n e => (hs4 b n).trans ((hs3 b n).trans (k2 b o n e))
    refine ⟨.ref p, rfl, p, 2, B + 1 + 1 + 1, rfl, hj4, (by omega), (by decide), (by decide), fun H5 r5 hs5 hj5 c0 c1 => ?_⟩
    refine ⟨2, r5, rfl, rfl, wide_mul (a := 2) (b := 2) (by decide) (by omega) (by decide) (by decide) (by decide), _, 1, rfl, rfl, ?_⟩
    refine ⟨.ref p, rfl, .int m, rfl, p, m, B + 1 + 1 + 1 + 1, rfl, hj5, (by omega), m0, Nat.lt_trans mN (by decide), fun H6 r6 hs6 hj6 d0 d1 => ?_⟩
    have q6 : r6.natAbs < 2 ^ 91 := by
      have : (2 : Nat) ^ 91 = 2 * 2 ^ 90 := by decide
      omega
    refine ⟨_, r6, rfl, rfl, wide_mul (a := 3) (b := 91) (by show (2 * r5 - 1).natAbs < 8; omega) q6 (by decide) (by decide) (by decide), ?_⟩
    refine ⟨_, rfl, (by show 2 ≤ sizeLine; decide), fun t nt => ?_⟩
    have k6 : Kp p H H6 := fun b o n e => (hs6 b n).trans ((hs5 b n).trans (k4 b o n e))
    have pt : p ≠ t := fun q => by obtain ⟨n, c, e, _⟩ := hj6; rw [q, nt] at e; cases e
    exact k _ t _ _ (fun b o n e => (samu nt) b o (k6 b o n e)) ((hj6.keep (upd_ne pt)).mono (by omega)) upd_same (pq_of a0 a1 c0 c1 b0 b1 d0 d1 m1)
end
end Kw
end

/-! Kw28 -/
section
set_option maxHeartbeats 4000000
set_option exponentiation.threshold 10000
/-! _law_labels_right -/
namespace Kw
open PySem PySem.Spec PyProof.Rows L2 He Er Ow
section
variable {w : World} {K : PySem.W.Frag} {mg : Str → Option Value} {base : Heap} {f : Addr} {fd : FuncData} {H H2 : Hp} {x y : V} {b c : Bool} {t : Value} {a : Addr} {r s : Rat} {Q : VK}
theorem pr_Pr (S : Hd K mg) : Pr w K mg base CX0 2 "_law_pair" ["_law_churn_here"] spPair := by
  obtain ⟨fd, F⟩ := S.def_ 41 (d := dLpair)
  have F := fun_of (st := sLpair) F
  exact ⟨_, fd, ok_Pr S F, S.glo 32, F.kp, F.binds fun _ _ _ _ _ _ us hl => match us, hl with | [_], _ => rfl⟩
/-- a plain text that is not long -/
def Tx (n : Nat) (z : Str) : Prop := z.length ≤ n ∧ Tm.Asc z
theorem Tx.cat {n m : Nat} {y z : Str} (h : Tx n y) (g : Tx m z) : Tx (n + m) (y ++ z) := by
  refine ⟨by rw [len_cat]; exact Nat.add_le_add h.1 g.1, fun c hc => ?_⟩
  have e := TL.tl_append y z
  have hc2 : c ∈ TL.tl (y ++ z) := hc
  rw [e] at hc2
  rcases List.mem_append.mp hc2 with q | q
  · exact h.2 c q
  · exact g.2 c q
theorem Tx.fit {n : Nat} {z : Str} (h : Tx n z) (hn : n ≤ 1000) : z.length ≤ 1000 := Nat.le_trans h.1 hn
theorem tx_of {z : Str} (n : Nat) (h : (decide (z.length ≤ n) && z.cps.toList.all (fun c => decide (c < 128))) = true) : Tx n z := by
  obtain ⟨h1, h2⟩ := Bool.and_eq_true_iff.mp h
  exact ⟨of_decide_eq_true h1, fun c hc => of_decide_eq_true (List.all_eq_true.mp h2 c hc)⟩
theorem Jug.same {p : Addr} {B : Int} (h : Jug H p B) (e : Same H H2) : Jug H2 p B := by
  obtain ⟨n, c, q, r⟩ := h
  exact ⟨n, c, e _ _ q, r⟩
def spLb : Sp := fun vs H Q _ => ∃ (p : Addr) (B : Int) (z : Str), vs = [.ref p, .str z] ∧ Jug H p B ∧ B + 50 ≤ 100000 ∧ Tx 60 z ∧ ∀ H2, Kp p H H2 → Jug H2 p (B + 50) → Q (.bl true) H2
theorem scLb : FnScope ["_law_churn_here", "_law_text_here", "_law_other", "_law_made", "_law_one"] ["_law_churn_here", "_law_text_here"] (defScope sLlabelsuright) := ⟨rfl, rfl, rfl, by decide +kernel, rfl, by decide +kernel, by decide +kernel⟩
theorem ok_Lb (S : Hd K mg) (F : L2.Fun K "_law_labels_right" "_law_labels_right" sLlabelsuright f fd) : FnOk P w K mg base CX0 4 f fd ["_law_churn_here", "_law_text_here"] spLb := by
  obtain ⟨fT, fdT, FT, gT, kT, bT⟩ := (pr_Tx (w := w) (base := base) S).ex
  obtain ⟨fL, fdL, FL, gL, kL, bL⟩ := (pr_label (w := w) (base := base) S).ex
  obtain ⟨fLL, fdLL, FLL, gLL, kLL, bLL⟩ := (pr_LL (w := w) (base := base) S).ex
  obtain ⟨fN, fdN, FN, gN, kN, bN⟩ := (pr_name (w := w) (base := base) S).ex
  obtain ⟨fLN, fdLN, FLN, gLN, kLN, bLN⟩ := (pr_LN (w := w) (base := base) S).ex
  refine F.ok scLb (fun vs H Q E h => ?_) (fun cdv A outer s H vs Q E hr h => ?_)
  · obtain ⟨p, B, z, rfl, _⟩ := h
    rfl
  · obtain ⟨p, B, z, rfl, hj, hB, tz, k⟩ := h
    refine ⟨_, PSs.nox (pss_cons (ps_set (i := 2) scLb.nd rfl (.inl rfl) (pe_call FT (hr.mono (by decide)) rfl gT kT bT .nil pass0 (pa_cons (pv 0) pa_nil))) (pss_cons (ps_set (i := 3) scLb.nd rfl (.inl rfl) (pe_lst (pa_cons (pv 1) (pa_cons (pe_op op_add_str (pe_op op_add_str (pv 1) pe_str) (pv 2)) (pa_cons (pe_op op_add_str pe_str (pv 1)) (pa_cons (pe_op op_add_str (pv 2) pe_str) (pa_cons (pe_op op_add_str (pe_op op_add_str (pv 1) pe_str) (pv 2)) (pa_cons (pe_op op_add_str pe_str (pv 2)) (pa_cons (pe_op op_add_str pe_str (pv 2)) pa_nil))))))))) (pss_cons (ps_for PassesOwn.never rfl (pi_list (pv 3)) (pg_name (i := 4) scLb.nd rfl (.inl rfl)) (pss_one (ps_if (pt_cut (PW.pt (pw_or (pt_cmpR op_ne (pe_call FL (hr.mono (by decide)) rfl gL kL bL .nil pass0 (pa_cons (pv 4) pa_nil)) (pe_call FLL (hr.mono (by decide)) rfl gLL kLL bLL .nil pass0 (pa_cons (pv 4) pa_nil)) (nomark _)) (pw_or1 (pt_cmpR op_ne (pe_call FN (hr.mono (by decide)) rfl gN kN bN .nil pass0 (pa_cons (pv 4) pa_nil)) (pe_call FLN (hr.mono (by decide)) rfl gLN kLN bLN .nil pass0 (pa_cons (pv 4) pa_nil)) (nomark _)))))) (pss_one (ps_ret pe_bl)) pss_nil))) (pss_one (ps_ret (pe_and (pe_not (pe_call FL (hr.mono (by decide)) rfl gL kL bL .nil pass0 (pa_cons (pe_lst (pa_cons (pv 1) pa_nil)) pa_nil))) (pe_and (pe_not (pe_call FL (hr.mono (by decide)) rfl gL kL bL .nil pass0 (pa_cons pe_non pa_nil))) (pe_and (pe_not (pe_call FL (hr.mono (by decide)) rfl gL kL bL .nil pass0 (pa_cons pe_int pa_nil))) (pe_and (pe_call FL (hr.mono (by decide)) rfl gL kL bL .nil pass0 (pa_cons pe_str pa_nil)) (pe_one (pe_call FL (hr.mono (by decide)) rfl gL kL bL .nil pass0 (pa_cons pe_str pa_nil)))))))))))), ?_⟩
    refine ⟨_, rfl, p, B, rfl, hj, (by omega), fun H1 o k1 hj1 lo ao => ?_⟩
    have to : Tx 60 o := ⟨lo, ao⟩
    clear lo ao
    have f2 : ∀ {n m : Nat} {y z : Str}, Tx n y → Tx m z → n + m ≤ 1000 → y.length + z.length ≤ sizeLine := fun h g hn => fits (Nat.le_trans (Nat.add_le_add h.1 g.1) (Nat.le_trans hn (by decide)))
    have d1 : Tx 1 "." := tx_of 1 (by decide +kernel)
    have d2 : Tx 2 "a." := tx_of 2 (by decide +kernel)
    have d3 : Tx 3 ".b1" := tx_of 3 (by decide +kernel)
    have d4 : Tx 2 ".." := tx_of 2 (by decide +kernel)
    have d5 : Tx 6 "one.a." := tx_of 6 (by decide +kernel)
    refine ⟨.str z, rfl, ?_⟩
    refine ⟨.str z, rfl, z, ".", rfl, rfl, f2 tz d1 (by decide), .str o, rfl, _, o, rfl, rfl, f2 (tz.cat d1) to (by decide), ?_⟩
    refine ⟨.str z, rfl, "a.", z, rfl, rfl, f2 d2 tz (by decide), ?_⟩
    refine ⟨.str o, rfl, o, ".b1", rfl, rfl, f2 to d3 (by decide), ?_⟩
    refine ⟨.str z, rfl, z, "..", rfl, rfl, f2 tz d4 (by decide), .str o, rfl, _, o, rfl, rfl, f2 (tz.cat d4) to (by decide), ?_⟩
    refine ⟨.str o, rfl, "one.a.", o, rfl, rfl, f2 d5 to (by decide), ?_⟩
    refine ⟨.str o, rfl, ".", o, rfl, rfl, f2 d1 to (by decide), ?_⟩
    have all : ∀ s ∈ [z, z ++ "." ++ o, "a." ++ z, o ++ ".b1", z ++ ".." ++ o, "one.a." ++ o, "." ++ o], ∃ n, n ≤ 1000 ∧ Tx n s := by
      intro s hs
      simp only [List.mem_cons, List.not_mem_nil, or_false] at hs
      rcases hs with rfl | rfl | rfl | rfl | rfl | rfl | rfl
      · exact ⟨_, by decide, tz⟩
      · exact ⟨_, by decide, (tz.cat d1).cat to⟩
      · exact ⟨_, by decide, d2.cat tz⟩
      · exact ⟨_, by decide, to.cat d3⟩
      · exact ⟨_, by decide, (tz.cat d4).cat to⟩
      · exact ⟨_, by decide, d5.cat to⟩
      · exact ⟨_, by decide, d1.cat to⟩
    refine ⟨(by show 7 ≤ sizeLine; decide), fun l nl => ?_⟩
    have pl : p ≠ l := fun q => by obtain ⟨n, c, e, _⟩ := hj1; rw [q, nl] at e; cases e
    have hl2 : upd H1 l (.lst ([z, z ++ "." ++ o, "a." ++ z, o ++ ".b1", z ++ ".." ++ o, "one.a." ++ o, "." ++ o].map V.str)) l = some (.lst ([z, z ++ "." ++ o, "a." ++ z, o ++ ".b1", z ++ ".." ++ o, "one.a." ++ o, "." ++ o].map V.str)) := upd_same
    have hj2 : Jug (upd H1 l (.lst ([z, z ++ "." ++ o, "a." ++ z, o ++ ".b1", z ++ ".." ++ o, "one.a." ++ o, "." ++ o].map V.str))) p (B + 40) := hj1.keep (upd_ne pl)
    have k2 : Kp p H (upd H1 l (.lst ([z, z ++ "." ++ o, "a." ++ z, o ++ ".b1", z ++ ".." ++ o, "one.a." ++ o, "." ++ o].map V.str))) := fun b u n e => (samu nl) b u (k1 b u n e)
    show gName 3 (.ref l) _ (upd H1 l (.lst ([z, z ++ "." ++ o, "a." ++ z, o ++ ".b1", z ++ ".." ++ o, "one.a." ++ o, "." ++ o].map V.str))) _
    generalize upd H1 l (.lst ([z, z ++ "." ++ o, "a." ++ z, o ++ ".b1", z ++ ".." ++ o, "one.a." ++ o, "." ++ o].map V.str)) = H2 at hl2 hj2 k2 ⊢
    generalize [z, z ++ "." ++ o, "a." ++ z, o ++ ".b1", z ++ ".." ++ o, "one.a." ++ o, "." ++ o] = L at all hl2
    refine ⟨.ref l, rfl, l, rfl, ⟨_, SqL.of hl2⟩, ?_⟩
    refine for_list (a := l) (xs := L.map V.str) (fun _ σ H3 => Same H2 H3 ∧ ∃ c : Option V, σ = [some (.ref p), some (.str z), some (.str o), some (.ref l), c]) ⟨Same.refl _, _, rfl⟩ (fun i σ H3 _ ⟨e, _⟩ => SqL.of (e _ _ hl2)) (fun i v σ H3 hv hp => ?_) (fun σ H3 hp => ?_)
    · obtain ⟨e3, c5, rfl⟩ := hp
      obtain ⟨s1, hs1, rfl⟩ := List.mem_map.mp (List.mem_of_getElem? hv)
      obtain ⟨n, hn, tx⟩ := all s1 hs1
      refine ⟨fun b H4 => b = false ∧ Same H3 H4, ?_, ?_⟩
      · refine ⟨.str s1, rfl, .str s1, rfl, .inr ⟨s1, rfl, tx.fit hn, tx.2, fun H4 e4 => ?_⟩⟩
        refine ⟨.str s1, rfl, s1, rfl, tx.fit hn, tx.2, fun H5 e5 => ?_⟩
        refine ⟨rfl, _, rfl, itf (by simp) ?_⟩
        refine ⟨.str s1, rfl, .str s1, rfl, .inr ⟨s1, rfl, tx.fit hn, tx.2, ?_⟩⟩
        refine ⟨.str s1, rfl, s1, rfl, tx.fit hn, tx.2, fun H6 e6 => ?_⟩
        refine ⟨rfl, _, rfl, ?_, e4.trans (e5.trans e6)⟩
        rw [Tm.nameL_eq]
        simp
      · rintro _ H4 ⟨rfl, e4⟩
        exact itf rfl ⟨e3.trans e4, _, rfl⟩
    · obtain ⟨e3, c5, rfl⟩ := hp
      have l1 : Tm.labelS (Tm.tl "one.a1") = true := by decide +kernel
      have l2 : Tm.labelS (Tm.tl "z.z") = true := by decide +kernel
      have x1 : Tx 6 "one.a1" := tx_of 6 (by decide +kernel)
      have x2 : Tx 3 "z.z" := tx_of 3 (by decide +kernel)
      refine ⟨.str z, rfl, (by show 1 ≤ sizeLine; decide), fun q nq => ?_⟩
      have pq : p ≠ q := fun w => by obtain ⟨n, c, e, _⟩ := hj2; rw [w] at e; rw [e3 _ _ e] at nq; cases nq
      refine ⟨.ref q, rfl, .inl ⟨⟨_, .base (.lst upd_same), kit_ty (by decide +kernel)⟩, _, rfl, _, rfl, itt rfl ?_⟩⟩
      refine ⟨_, rfl, .inl ⟨⟨_, .base .non, kit_ty (by decide +kernel)⟩, _, rfl, _, rfl, itt rfl ?_⟩⟩
      refine ⟨_, rfl, .inl ⟨⟨_, .base (.int _), kit_ty (by decide +kernel)⟩, _, rfl, _, rfl, itt rfl ?_⟩⟩
      refine ⟨_, rfl, .inr ⟨_, rfl, x1.fit (by decide), x1.2, fun H4 e4 => ⟨_, rfl, itt l1 ?_⟩⟩⟩
      refine ⟨_, rfl, .inr ⟨_, rfl, x2.fit (by decide), x2.2, fun H5 e5 => ?_⟩⟩
      rw [l2]
      have e : Same H2 H5 := e3.trans ((samu nq).trans (e4.trans e5))
      exact k H5 (fun b u n w => e b u (k2 b u n w)) ((hj2.same e).mono (by omega))
end
end Kw
end

/-! Kw29 -/
section
set_option maxHeartbeats 4000000
set_option exponentiation.threshold 10000
/-! _law_checks_right -/
namespace Kw
open PySem PySem.Spec PyProof.Rows L2 He Er Ow
section
variable {w : World} {K : PySem.W.Frag} {mg : Str → Option Value} {base : Heap} {f : Addr} {fd : FuncData} {H H2 : Hp} {x y : V} {b c : Bool} {t : Value} {a : Addr} {r s : Rat} {Q : VK}
theorem pr_Lb (S : Hd K mg) : Pr w K mg base CX0 4 "_law_labels_right" ["_law_churn_here", "_law_text_here"] spLb := by
  obtain ⟨fd, F⟩ := S.def_ 39 (d := dLlabelsuright)
  have F := fun_of (st := sLlabelsuright) F
  exact ⟨_, fd, ok_Lb S F, S.glo 30, F.kp, F.binds fun _ _ _ _ _ _ us hl => match us, hl with | [_, _], _ => rfl⟩
theorem big_pm {r1 r2 : Int} (a0 : 0 ≤ r1) (a1 : r1 < 2) (h : r2.natAbs < 2 ^ 200) : big ((2 * r1 - 1) * r2) := by
  have h1 : r1 = 0 ∨ r1 = 1 := by omega
  have e : ((2 * r1 - 1) * r2).natAbs = r2.natAbs := by
    rcases h1 with rfl | rfl <;> simp
  unfold big
  rw [e]
  exact Nat.lt_of_lt_of_le h (Nat.pow_le_pow_right (by decide) (by decide))
def spCk : Sp := fun vs H Q _ => ∃ (p : Addr) (B : Int), vs = [.ref p] ∧ Jug H p B ∧ B + 200 ≤ 100000 ∧ ∀ H2, Kp p H H2 → Jug H2 p (B + 200) → Q (.bl true) H2
theorem scCk : FnScope ["_law_churn_here", "_law_number", "_law_text_here", "_law_plain", "_law_value", "_law_least", "_law_most"] ["_law_churn_here"] (defScope sLchecksuright) := ⟨rfl, rfl, rfl, by decide +kernel, rfl, by decide +kernel, by decide +kernel⟩
theorem ok_Ck (S : Hd K mg) (F : L2.Fun K "_law_checks_right" "_law_checks_right" sLchecksuright f fd) : FnOk P w K mg base CX0 6 f fd ["_law_churn_here"] spCk := by
  obtain ⟨fK, fdK, FK, gK, kK, bK⟩ := (pr_skim (w := w) (base := base) S).ex
  obtain ⟨fT, fdT, FT, gT, kT, bT⟩ := (pr_Tx (w := w) (base := base) S).ex
  obtain ⟨fN, fdN, FN, gN, kN, bN⟩ := (pr_name (w := w) (base := base) S).ex
  obtain ⟨fLN, fdLN, FLN, gLN, kLN, bLN⟩ := (pr_LN (w := w) (base := base) S).ex
  obtain ⟨fB, fdB, FB, gB, kB, bB⟩ := (pr_Lb (w := w) (base := base) S).ex
  obtain ⟨fI, fdI, FI, gI, kI, bI⟩ := (pr_int (w := w) (base := base) S).ex
  obtain ⟨fW, fdW, FW, gW, kW, bW⟩ := (pr_within (w := w) (base := base) S).ex
  obtain ⟨fdM, dM, FM, bM, rM, bM2⟩ := (mkR (w := w) (base := base) S).ex
  refine F.ok scCk (fun vs H Q E h => ?_) (fun cdv A outer s H vs Q E hr h => ?_)
  · obtain ⟨p, B, rfl, _⟩ := h
    rfl
  · obtain ⟨p, B, rfl, hj, hB, k⟩ := h
    refine ⟨_, PSs.nox (pss_cons (ps_set (i := 1) scCk.nd rfl (.inl rfl) (pe_op op_mulW (pe_op op_sub (pe_op op_mulW pe_int (pe_call FK (hr.mono (by decide)) rfl gK kK bK .nil pass0 (pa_cons (pv 0) (pa_cons pe_int pa_nil)))) pe_int) (pe_call FK (hr.mono (by decide)) rfl gK kK bK .nil pass0 (pa_cons (pv 0) (pa_cons (pe_op op_pow pe_int pe_int) pa_nil))))) (pss_cons (ps_set (i := 2) scCk.nd rfl (.inl rfl) (pe_call FT (hr.mono (by decide)) rfl gT kT bT .nil pass0 (pa_cons (pv 0) pa_nil))) (pss_cons (ps_if (pt_cut (PW.pt (pw_or (pt_cmpR op_ne (pe_call FN (hr.mono (by decide)) rfl gN kN bN .nil pass0 (pa_cons (pv 2) pa_nil)) (pe_call FLN (hr.mono (by decide)) rfl gLN kLN bLN .nil pass0 (pa_cons (pv 2) pa_nil)) (nomark _)) (pw_or (pt_val (pe_call FN (hr.mono (by decide)) rfl gN kN bN .nil pass0 (pa_cons (pe_lst (pa_cons (pv 2) pa_nil)) pa_nil))) (pw_or (pt_val (pe_call FN (hr.mono (by decide)) rfl gN kN bN .nil pass0 (pa_cons (pv 1) pa_nil))) (pw_or1 (pt_val (pe_call FN (hr.mono (by decide)) rfl gN kN bN .nil pass0 (pa_cons pe_non pa_nil))))))))) (pss_one (ps_ret pe_bl)) pss_nil) (pss_cons (ps_if (pt_not (pt_val (pe_call FB (hr.mono (by decide)) rfl gB kB bB .nil pass0 (pa_cons (pv 0) (pa_cons (pv 2) pa_nil))))) (pss_one (ps_ret pe_bl)) pss_nil) (pss_cons (ps_set (i := 3) scCk.nd rfl (.inl rfl) (pe_lst (pa_cons pe_non (pa_cons pe_bl (pa_cons pe_bl (pa_cons (pv 2) (pa_cons (pe_lst (pa_cons (pv 1) pa_nil)) (pa_cons (pe_tup (pa_cons (pv 1) pa_nil)) (pa_cons (pe_disp (pps_cons pe_str (pv 1) pps_nil) (by rfl) (by rfl) (fun z => by cases z) (by decide)) (pa_cons (pe_make S.mkr (quiet FM) (hr.mono (by decide)) rfl (S.glo 12) bM2 rM pass0 (pa_cons (pv 1) pa_nil)) pa_nil)))))))))) (pss_cons (ps_for PassesOwn.never rfl (pi_list (pv 3)) (pg_name (i := 4) scCk.nd rfl (.inl rfl)) (pss_one (ps_if (pt_cut (PW.pt (pw_or (pt_val (pe_call FI (hr.mono (by decide)) rfl gI kI bI .nil pass0 (pa_cons (pv 4) pa_nil))) (pw_or (pt_val (pe_call FW (hr.mono (by decide)) rfl gW kW bW .nil pass0 (pa_cons (pv 4) (pa_cons pe_non (pa_cons pe_non pa_nil))))) (pw_or1 (pt_val (pe_call FW (hr.mono (by decide)) rfl gW kW bW .nil pass0 (pa_cons (pv 4) (pa_cons (pe_op op_sub pe_int (pe_op op_pow pe_int pe_int)) (pa_cons (pe_op op_pow pe_int pe_int) pa_nil)))))))))) (pss_one (ps_ret pe_bl)) pss_nil))) (pss_cons (ps_par (i := 5) (j := 6) (by rfl) scCk.nd rfl rfl (by decide) rfl rfl (pa_cons (pe_op op_sub (pe_op op_add (pv 1) (pe_call FK (hr.mono (by decide)) rfl gK kK bK .nil pass0 (pa_cons (pv 0) (pa_cons pe_int pa_nil)))) pe_int) (pa_cons (pe_op op_sub (pe_op op_add (pv 1) (pe_call FK (hr.mono (by decide)) rfl gK kK bK .nil pass0 (pa_cons (pv 0) (pa_cons pe_int pa_nil)))) pe_int) pa_nil)) (by rfl)) (pss_cons (ps_if (pt_cut (PW.pt (pw_or (pt_not (pt_val (pe_call FI (hr.mono (by decide)) rfl gI kI bI .nil pass0 (pa_cons (pv 1) pa_nil)))) (pw_or1 (pt_not (pt_val (pe_call FW (hr.mono (by decide)) rfl gW kW bW .nil pass0 (pa_cons (pv 1) (pa_cons pe_non (pa_cons pe_non pa_nil)))))))))) (pss_one (ps_ret pe_bl)) pss_nil) (pss_cons (ps_if (pt_cut (PW.pt (pw_or (pt_cmpR op_ne (pe_call FW (hr.mono (by decide)) rfl gW kW bW .nil pass0 (pa_cons (pv 1) (pa_cons (pv 5) (pa_cons pe_non pa_nil)))) (pe_cmpR op_le (pv 5) (pv 1) (nomark _)) (nomark _)) (pw_or1 (pt_cmpR op_ne (pe_call FW (hr.mono (by decide)) rfl gW kW bW .nil pass0 (pa_cons (pv 1) (pa_cons pe_non (pa_cons (pv 6) pa_nil)))) (pe_cmpR op_le (pv 1) (pv 6) (nomark _)) (nomark _)))))) (pss_one (ps_ret pe_bl)) pss_nil) (pss_one (ps_ret (pe_cmpR op_eq (pe_call FW (hr.mono (by decide)) rfl gW kW bW .nil pass0 (pa_cons (pv 1) (pa_cons (pv 5) (pa_cons (pv 6) pa_nil)))) (pe_chain op_le op_le (pv 5) (pv 1) (pv 6)) (nomark _))))))))))))), ?_⟩
    refine ⟨.ref p, rfl, p, 2, B, rfl, hj, (by omega), (by decide), (by decide), fun H1 r1 hs1 hj1 a0 a1 => ?_⟩
    refine ⟨2, r1, rfl, rfl, wide_mul (a := 2) (b := 2) (by decide) (by omega) (by decide) (by decide) (by decide), _, 1, rfl, rfl, ?_⟩
    refine ⟨.ref p, rfl, _, _, rfl, rfl, ⟨by decide, by decide, by decide⟩, p, 10 ^ (60 : Int).toNat, B + 1, rfl, hj1, (by omega), (by decide), (by decide), fun H2 r2 hs2 hj2 b0 b1 => ?_⟩
    have q2 : r2.natAbs < 2 ^ 200 := by
      have e : (10 : Int) ^ (60 : Int).toNat = ((10 ^ 60 : Nat) : Int) := by decide
      have : (10 : Nat) ^ 60 < 2 ^ 200 := by decide
      omega
    refine ⟨_, r2, rfl, rfl, wide_mul (a := 3) (b := 200) (by show (2 * r1 - 1).natAbs < 8; omega) q2 (by decide) (by decide) (by decide), ?_⟩
    have k2 : Kp p H H2 := fun b o n e => (hs2 b n).trans ((hs1 b n).trans e)
    have bN : big ((2 * r1 - 1) * r2) := big_pm a0 a1 q2
    show gName 1 (.int ((2 * r1 - 1) * r2)) _ _ _
    generalize (2 * r1 - 1) * r2 = N at bN ⊢
    refine ⟨.ref p, rfl, p, B + 1 + 1, rfl, hj2, (by omega), fun H3 z k3 hj3 lz az => ?_⟩
    have k3 : Kp p H H3 := fun b o n e => k3 b o n (k2 b o n e)
    have lz2 : z.length ≤ 1000 := Nat.le_trans lz (by decide)
    refine ⟨fun b H4 => b = false ∧ Same H3 H4, ?_, ?_⟩
    · refine ⟨.str z, rfl, .str z, rfl, .inr ⟨z, rfl, lz2, az, .str z, rfl, z, rfl, lz2, az, fun H4 e4 => ⟨rfl, _, rfl, itf (by rw [Tm.nameL_eq]; simp) ?_⟩⟩⟩
      refine ⟨.str z, rfl, (by show 1 ≤ sizeLine; decide), fun q nq => ?_⟩
      refine ⟨.ref q, rfl, .inl ⟨⟨_, .base (.lst upd_same), kit_ty (by decide +kernel)⟩, _, rfl, itf rfl ?_⟩⟩
      refine ⟨.int N, rfl, .int N, rfl, .inl ⟨⟨_, .base (.int _), kit_ty (by decide +kernel)⟩, _, rfl, itf rfl ?_⟩⟩
      exact ⟨_, rfl, .inl ⟨⟨_, .base .non, kit_ty (by decide +kernel)⟩, _, rfl, rfl, e4.trans (samu nq)⟩⟩
    rintro _ H4 ⟨rfl, e4⟩
    refine itf rfl ?_
    have k4 : Kp p H H4 := fun b o n e => e4 b o (k3 b o n e)
    refine ⟨.ref p, rfl, .str z, rfl, p, B + 1 + 1 + 40, z, rfl, hj3.same e4, (by omega), ⟨lz, az⟩, fun H5 k5 hj5 => ⟨_, rfl, itf rfl ?_⟩⟩
    have k5 : Kp p H H5 := fun b o n e => k5 b o n (k4 b o n e)
    refine ⟨.str z, rfl, .int N, rfl, (by show 1 ≤ sizeLine; decide), fun l1 nl1 => ?_⟩
    have e6 : Same H5 (upd H5 l1 (.lst [.int N])) := samu nl1
    have f1 : upd H5 l1 (.lst [.int N]) l1 = some (.lst [.int N]) := upd_same
    generalize upd H5 l1 (.lst [.int N]) = H6 at e6 f1 ⊢
    refine ⟨.int N, rfl, (by show 1 ≤ sizeLine; decide), fun t1 nt1 => ?_⟩
    have e7 : Same H6 (upd H6 t1 (.tup [.int N])) := samu nt1
    have f2 : upd H6 t1 (.tup [.int N]) t1 = some (.tup [.int N]) := upd_same
    have f1 := e7 _ _ f1
    generalize upd H6 t1 (.tup [.int N]) = H7 at e7 f1 f2 ⊢
    refine fun d1 nd1 => ⟨.int N, rfl, upd_same, [(.inr "a", .int N)], rfl, (by show 1 ≤ 15; decide), ?_⟩
    have e8 : Same H7 (upd (upd H7 d1 (.dK [])) d1 (.dK (mergeK [] [(.inr "a", .int N)]))) := by rw [upd_upd]; exact samu nd1
    have f3 : upd (upd H7 d1 (.dK [])) d1 (.dK (mergeK [] [(.inr "a", .int N)])) d1 = some (.dK (mergeK [] [(.inr "a", .int N)])) := upd_same
    have f1 := e8 _ _ f1
    have f2 := e8 _ _ f2
    generalize upd (upd H7 d1 (.dK [])) d1 (.dK (mergeK [] [(.inr "a", .int N)])) = H8 at e8 f1 f2 f3 ⊢
    refine ⟨.int N, rfl, ?_⟩
    refine fun a1 dx nx ndx ne => ⟨a1, dx, .int N, .int 1, rfl, upd_same, .inl ⟨N, 1, rfl, rfl, (by decide), bN, big1, fun H9 hs h2 => ⟨rfl, ?_⟩⟩⟩
    have e9 : Same H8 H9 := fun b o e => hs b o (ne_of_none e nx) (new_same a1 dx _ _ nx ndx b o e)
    have ha : IsR K H9 a1 (Rm.mk N 1) := ⟨dx, h2⟩
    clear hs h2 nx ndx ne
    have f1 := e9 _ _ f1
    have f2 := e9 _ _ f2
    have f3 := e9 _ _ f3
    refine ⟨(by show 8 ≤ sizeLine; decide), fun l nl => ?_⟩
    have e10 : Same H9 (upd H9 l (.lst [.non, .bl true, .bl false, .str z, .ref l1, .ref t1, .ref d1, .ref a1])) := samu nl
    have f4 : upd H9 l (.lst [.non, .bl true, .bl false, .str z, .ref l1, .ref t1, .ref d1, .ref a1]) l = some (.lst [.non, .bl true, .bl false, .str z, .ref l1, .ref t1, .ref d1, .ref a1]) := upd_same
    have f1 := e10 _ _ f1
    have f2 := e10 _ _ f2
    have f3 := e10 _ _ f3
    have ha := ha.same e10
    have e5 : Same H5 (upd H9 l (.lst [.non, .bl true, .bl false, .str z, .ref l1, .ref t1, .ref d1, .ref a1])) := e6.trans (e7.trans (e8.trans (e9.trans e10)))
    show gName 3 (.ref l) _ (upd H9 l (.lst [.non, .bl true, .bl false, .str z, .ref l1, .ref t1, .ref d1, .ref a1])) _
    generalize upd H9 l (.lst [.non, .bl true, .bl false, .str z, .ref l1, .ref t1, .ref d1, .ref a1]) = HA at e5 f1 f2 f3 f4 ha ⊢
    have all : ∀ v ∈ ([.non, .bl true, .bl false, .str z, .ref l1, .ref t1, .ref d1, .ref a1] : List V), ∃ c, Kd K HA v false c := by
      intro v hv
      simp only [List.mem_cons, List.not_mem_nil, or_false] at hv
      rcases hv with rfl | rfl | rfl | rfl | rfl | rfl | rfl | rfl
      · exact ⟨_, S.kd_non⟩
      · exact ⟨_, S.kd_bl⟩
      · exact ⟨_, S.kd_bl⟩
      · exact ⟨_, S.kd_str⟩
      · exact ⟨_, S.kd_lst f1⟩
      · exact ⟨_, S.kd_tup f2⟩
      · exact ⟨_, S.kd_dK f3⟩
      · exact ⟨_, S.kd_rat ha⟩
    have k6 : Kp p H HA := fun b o n e => e5 b o (k5 b o n e)
    have hj6 := hj5.same e5
    generalize ([.non, .bl true, .bl false, .str z, .ref l1, .ref t1, .ref d1, .ref a1] : List V) = L at all f4
    refine ⟨.ref l, rfl, l, rfl, ⟨_, SqL.of f4⟩, ?_⟩
    refine for_list (a := l) (xs := L) (fun _ σ H3 => Same HA H3 ∧ ∃ c5 : Option V, σ = [some (.ref p), some (.int N), some (.str z), some (.ref l), c5, none, none]) ⟨Same.refl _, _, rfl⟩ (fun i σ H3 _ ⟨e, _⟩ => SqL.of (e _ _ f4)) (fun i v σ H3 hv hp => ?_) (fun σ H3 hp => ?_)
    · obtain ⟨e3, c5, rfl⟩ := hp
      obtain ⟨c, kd⟩ := all v (List.mem_of_getElem? hv)
      have kd := kd.same e3
      refine ⟨fun b H4 => b = false ∧ H4 = H3, ?_, ?_⟩
      · refine ⟨_, rfl, v, _, _, rfl, kd, _, rfl, itf rfl ?_⟩
        refine ⟨_, rfl, v, none, none, rfl, .inl ⟨_, kd, _, rfl, itf rfl ?_⟩⟩
        refine ⟨_, rfl, 10, 62, rfl, rfl, ⟨by decide, by decide, by decide⟩, 0, _, rfl, rfl, 10, 62, rfl, rfl, ⟨by decide, by decide, by decide⟩, v, some _, some _, rfl, .inl ⟨_, kd, _, rfl, rfl, rfl⟩⟩
      · rintro _ H4 ⟨rfl, rfl⟩
        exact itf rfl ⟨e3, _, rfl⟩
    · obtain ⟨e3, c5, rfl⟩ := hp
      have k7 : Kp p H H3 := fun b o n e => e3 b o (k6 b o n e)
      have hj7 := hj6.same e3
      clear e3 k6 hj6 all f4 ha f1 f2 f3 e5
      refine ⟨.int N, rfl, .ref p, rfl, p, 5, B + 1 + 1 + 40 + 50, rfl, hj7, (by omega), (by decide), (by decide), fun H4 r4 hs4 hj4 c0 c1 => ?_⟩
      refine ⟨N, r4, rfl, rfl, _, 2, rfl, rfl, ?_⟩
      refine ⟨.int N, rfl, .ref p, rfl, p, 5, B + 1 + 1 + 40 + 50 + 1, rfl, hj4, (by omega), (by decide), (by decide), fun H6 r6 hs6 hj6 d0 d1 => ?_⟩
      refine ⟨N, r6, rfl, rfl, _, 2, rfl, rfl, _, _, rfl, ?_⟩
      have k8 : Kp p H H6 := fun b o n e => (hs6 b n).trans ((hs4 b n).trans (k7 b o n e))
      have k9 := k H6 k8 (hj6.mono (by omega))
      clear k8 hs6 hj6 hs4 hj4 k7 hj7 c0 c1 d0 d1 k
      dsimp only [List.set]
      generalize N + r4 - 2 = lo
      generalize N + r6 - 2 = hi
      refine ⟨fun b H7 => b = false ∧ H7 = H6, ?_, ?_⟩
      · refine ⟨.int N, rfl, .int N, true, false, rfl, S.kd_int, _, rfl, itf rfl ?_⟩
        exact ⟨.int N, rfl, .int N, none, none, rfl, .inr ⟨N, rfl, _, rfl, rfl, rfl⟩⟩
      intro b1 H7 hb
      obtain ⟨rfl, eH⟩ := hb
      rw [eH]
      clear eH H7
      refine itf rfl ?_
      refine ⟨fun b H7 => b = false ∧ H7 = H6, ?_, ?_⟩
      · refine ⟨.int N, rfl, .int lo, rfl, .int N, some lo, none, rfl, .inr ⟨N, rfl, .int lo, rfl, .int N, rfl, lo, N, rfl, rfl, rfl, _, rfl, itf (by simp [inB, loB, hiB]) ?_⟩⟩
        exact ⟨.int N, rfl, .int hi, rfl, .int N, none, some hi, rfl, .inr ⟨N, rfl, .int N, rfl, .int hi, rfl, N, hi, rfl, rfl, rfl, _, rfl, (by simp [inB, loB, hiB]), rfl⟩⟩
      intro b2 H7 hb
      obtain ⟨rfl, eH⟩ := hb
      rw [eH]
      clear eH H7
      refine itf rfl ?_
      refine ⟨.int N, rfl, .int lo, rfl, .int hi, rfl, .int N, some lo, some hi, rfl, .inr ⟨N, rfl, ?_⟩⟩
      refine ⟨.int lo, rfl, .int N, rfl, lo, N, rfl, rfl, _, rfl, ?_⟩
      by_cases c1 : lo ≤ N
      · refine itt (decide_eq_true c1) ⟨.int hi, rfl, N, hi, rfl, rfl, rfl, ?_⟩
        rw [decide_eq_true (by simp [inB, loB, hiB, c1] : V.bl (inB N (some lo) (some hi)) = V.bl (decide (N ≤ hi)))]
        exact k9
      · refine itf (decide_eq_false c1) ⟨rfl, ?_⟩
        rw [decide_eq_true (by simp [inB, loB, c1] : V.bl (inB N (some lo) (some hi)) = V.bl false)]
        exact k9
end
end Kw
end

/-! Kw30 -/
section
set_option maxHeartbeats 4000000
set_option exponentiation.threshold 10000
/-! law -/
namespace Kw
open PySem PySem.Spec PyProof.Rows L2 He Er Ow LamX
section
variable {w : World} {K : PySem.W.Frag} {mg : Str → Option Value} {base : Heap} {f : Addr} {fd : FuncData} {H H2 : Hp} {x y : V} {b c : Bool} {t : Value} {a : Addr} {r s : Rat} {Q : VK}
theorem pr_Ck (S : Hd K mg) : Pr w K mg base CX0 6 "_law_checks_right" ["_law_churn_here"] spCk := by
  obtain ⟨fd, F⟩ := S.def_ 40 (d := dLchecksuright)
  have F := fun_of (st := sLchecksuright) F
  exact ⟨_, fd, ok_Ck S F, S.glo 31, F.kp, F.binds fun _ _ _ _ _ _ us hl => match us, hl with | [_], _ => rfl⟩
theorem _root_.LamX.Tabs.kp {T : List (Addr × Str)} {p : Addr} {B : Int} (t : Tabs T H) (h : Jug H p B) (e : Kp p H H2) : Tabs T H2 := by
  obtain ⟨n, c, hp, _⟩ := h
  intro q hq
  obtain ⟨ps, g, tr, k⟩ := t q hq
  refine ⟨ps, e _ _ (ne_of g hp nofun) g, tr, fun pos cv hc => ?_⟩
  obtain ⟨c2, ec, hcc⟩ := k pos cv hc
  refine ⟨c2, ec, e _ _ (ne_of hcc hp fun z => ?_) hcc⟩
  have z' : HO.ext _ = HO.lst _ := z
  cases z'
theorem pick6 {r : Int} {l1 t2 d3 : Addr} (f1 : H l1 = some (.lst [.int 1])) (f2 : H t2 = some (.tup [.int 1, .int 2])) (f3 : H d3 = some (.dK [])) (h0 : 0 ≤ r) (h1 : r < 6) : ∃ v, atI ([.non, .bl true, .str "1/2", .ref l1, .ref t2, .ref d3] : List V) r = some v ∧ Odd H v := by
  obtain ⟨n, rfl⟩ := Int.eq_ofNat_of_zero_le h0
  have hn : n < 6 := by omega
  match n, hn with
  | 0, _ => exact ⟨_, atI_nat rfl, .non⟩
  | 1, _ => exact ⟨_, atI_nat rfl, .tru⟩
  | 2, _ => exact ⟨_, atI_nat rfl, .str⟩
  | 3, _ => exact ⟨_, atI_nat rfl, .lst f1⟩
  | 4, _ => exact ⟨_, atI_nat rfl, .tup f2⟩
  | 5, _ => exact ⟨_, atI_nat rfl, .dic f3⟩
theorem Odd.kp {p : Addr} {B : Int} (h : Odd H x) (hj : Jug H p B) (e : Kp p H H2) : Odd H2 x := by
  obtain ⟨n, c, hp, _⟩ := hj
  cases h with
  | non => exact .non
  | tru => exact .tru
  | str => exact .str
  | lst h => exact .lst (e _ _ (ne_of h hp nofun) h)
  | tup h => exact .tup (e _ _ (ne_of h hp nofun) h)
  | dic h => exact .dic (e _ _ (ne_of h hp nofun) h)
def spLaw (K : PySem.W.Frag) (Pt : Addr) : Sp := fun vs H Q _ => ∃ (A : Addr) (ns : List Int), vs = [.ref A] ∧ SqL K H A (ns.map V.int) ∧ ns.length ≤ 63 ∧ H Pt = some (.tbl #[]) ∧ ∀ H2, Q (.bl true) H2
theorem scLaw : FnScope ["_law_script", "_law_churn_here", "_law_turn", "_law_a", "_law_b", "_law_one", "_law_other", "_law_whole", "_law_odd"] ["_law_script"] (defScope slaw) := ⟨rfl, rfl, rfl, by decide +kernel, rfl, by decide +kernel, by decide +kernel⟩
theorem ok_law {Pt : Addr} (S : Hd K mg) (PE_ : Pr w K mg base CX0 13 "_law_errors_right" ["_law_one", "_law_odd"] (spErr K [(Pt, qE)])) (F : L2.Fun K "law" "law" slaw f fd) : FnOk P w K mg base CX0 16 f fd ["_law_script"] (spLaw K Pt) := by
  obtain ⟨fC, fdC, FC, gC, kC, bC⟩ := (pr_churn (w := w) (base := base) S).ex
  obtain ⟨fK, fdK, FK, gK, kK, bK⟩ := (pr_skim (w := w) (base := base) S).ex
  obtain ⟨fP, fdP, FP, gP, kP, bP⟩ := (pr_Pr (w := w) (base := base) S).ex
  obtain ⟨fCk, fdCk, FCk, gCk, kCk, bCk⟩ := (pr_Ck (w := w) (base := base) S).ex
  obtain ⟨fI, fdI, FI, gI, kI, bI⟩ := (pr_is (w := w) (base := base) S).ex
  obtain ⟨fX, fdX, FX, gX, kX, bX⟩ := (pr_texts (w := w) (base := base) S).ex
  obtain ⟨fSu, fdSu, FSu, gSu, kSu, bSu⟩ := (pr_sums (w := w) (base := base) S).ex
  obtain ⟨fEr, fdEr, FEr, gEr, kEr, bEr⟩ := PE_.ex
  obtain ⟨fNe, fdNe, FNe, gNe, kNe, bNe⟩ := (pr_near (w := w) (base := base) S).ex
  obtain ⟨pO, fO, fdO, FO, MO, bO, _⟩ := (of_of (w := w) (base := base) S).ex
  obtain ⟨fdM, dM, FM, bM, rM, bM2⟩ := (mkR (w := w) (base := base) S).ex
  refine F.ok scLaw (fun vs H Q E h => ?_) (fun cdv A outer s H vs Q E hr h => ?_)
  · obtain ⟨A, ns, rfl, _⟩ := h
    rfl
  · obtain ⟨A, ns, rfl, hA, hn, hT, k⟩ := h
    refine ⟨_, PSs.nox (pss_cons (ps_set (i := 1) scLaw.nd rfl (.inl rfl) (pe_call FC (hr.mono (by decide)) rfl gC kC bC .nil pass0 (pa_cons (pv 0) pa_nil))) (pss_cons (ps_for PassesOwn.never rfl (pi_range1 rfl (S.free 54) (pa_cons pe_int pa_nil)) (pg_name (i := 2) scLaw.nd rfl (.inl rfl)) (pss_cons (ps_par (i := 3) (j := 4) (by rfl) scLaw.nd rfl rfl (by decide) rfl rfl (pa_cons (pe_call FP (hr.mono (by decide)) rfl gP kP bP .nil pass0 (pa_cons (pv 1) pa_nil)) (pa_cons (pe_call FP (hr.mono (by decide)) rfl gP kP bP .nil pass0 (pa_cons (pv 1) pa_nil)) pa_nil)) (by rfl)) (pss_cons (ps_if (pt_not (pt_val (pe_call FCk (hr.mono (by decide)) rfl gCk kCk bCk .nil pass0 (pa_cons (pv 1) pa_nil)))) (pss_one (ps_ret pe_bl)) pss_nil) (pss_cons (ps_par3 (i := 5) (j := 6) (l := 7) (by rfl) scLaw.nd rfl rfl rfl (by decide) (by decide) (by decide) rfl rfl rfl (pa_cons (pe_make S.mkr (quiet FM) (hr.mono (by decide)) rfl (S.glo 12) bM .nil pass0 (pa_cons (pe_ix ix_tup (pv 3) pe_int (fun _ _ => rfl)) (pa_cons (pe_ix ix_tup (pv 3) pe_int (fun _ _ => rfl)) pa_nil))) (pa_cons (pe_make S.mkr (quiet FM) (hr.mono (by decide)) rfl (S.glo 12) bM .nil pass0 (pa_cons (pe_ix ix_tup (pv 4) pe_int (fun _ _ => rfl)) (pa_cons (pe_ix ix_tup (pv 4) pe_int (fun _ _ => rfl)) pa_nil))) (pa_cons (pe_make S.mkr (quiet FM) (hr.mono (by decide)) rfl (S.glo 12) bM2 rM pass0 (pa_cons (pe_ix ix_tup (pv 4) pe_int (fun _ _ => rfl)) pa_nil)) pa_nil))) (by rfl)) (pss_cons (ps_if (pt_cut (PW.pt (pw_or (pt_not (pt_val (pe_call FI (hr.mono (by decide)) rfl gI kI bI .nil pass0 (pa_cons (pv 5) (pa_cons (pe_ix ix_tup (pv 3) pe_int (fun _ _ => rfl)) (pa_cons (pe_ix ix_tup (pv 3) pe_int (fun _ _ => rfl)) pa_nil)))))) (pw_or (pt_not (pt_val (pe_call FX (hr.mono (by decide)) rfl gX kX bX .nil pass0 (pa_cons (pv 5) (pa_cons (pe_ix ix_tup (pv 3) pe_int (fun _ _ => rfl)) (pa_cons (pe_ix ix_tup (pv 3) pe_int (fun _ _ => rfl)) pa_nil)))))) (pw_or1 (pt_not (pt_val (pe_call FX (hr.mono (by decide)) rfl gX kX bX .nil pass0 (pa_cons (pv 7) (pa_cons (pe_ix ix_tup (pv 4) pe_int (fun _ _ => rfl)) (pa_cons pe_int pa_nil))))))))))) (pss_one (ps_ret pe_bl)) pss_nil) (pss_cons (ps_if (pt_cut (PW.pt (pw_or (pt_not (pt_val (pe_call FSu (hr.mono (by decide)) rfl gSu kSu bSu .nil pass0 (pa_cons (pv 3) (pa_cons (pv 4) (pa_cons (pv 5) (pa_cons (pv 6) pa_nil))))))) (pw_or1 (pt_not (pt_val (pe_call FSu (hr.mono (by decide)) rfl gSu kSu bSu .nil pass0 (pa_cons (pv 3) (pa_cons (pe_tup (pa_cons (pe_ix ix_tup (pv 4) pe_int (fun _ _ => rfl)) (pa_cons pe_int pa_nil))) (pa_cons (pv 5) (pa_cons (pe_ix ix_tup (pv 4) pe_int (fun _ _ => rfl)) pa_nil))))))))))) (pss_one (ps_ret pe_bl)) pss_nil) (pss_cons (ps_set (i := 8) scLaw.nd rfl (.inl rfl) (pe_ix ix_list (pe_lst (pa_cons pe_non (pa_cons pe_bl (pa_cons pe_str (pa_cons (pe_lst (pa_cons pe_int pa_nil)) (pa_cons (pe_tup (pa_cons pe_int (pa_cons pe_int pa_nil))) (pa_cons pe_dnewK pa_nil))))))) (pe_call FK (hr.mono (by decide)) rfl gK kK bK .nil pass0 (pa_cons (pv 1) (pa_cons pe_int pa_nil))) (fun _ _ => rfl))) (pss_one (ps_if (pt_cut (PW.pt (pw_or (pt_not (pt_val (pe_call FEr (hr.mono (by decide)) rfl gEr kEr bEr .nil pass0 (pa_cons (pv 5) (pa_cons (pv 8) pa_nil))))) (pw_or (pt_not (pt_val (pe_call FNe (hr.mono (by decide)) rfl gNe kNe bNe .nil pass0 (pa_cons (pv 3) (pa_cons (pv 5) pa_nil))))) (pw_or1 (pt_not (pt_val (pe_call FI (hr.mono (by decide)) rfl gI kI bI .nil pass0 (pa_cons (pe_stat (pe_glob (v := .ref (cR K)) rfl (S.glo 12) rfl) MO (quiet FO) (hr.mono (by decide)) bO (pa_cons (pe_ix ix_tup (pv 4) pe_int (fun _ _ => rfl)) pa_nil)) (pa_cons (pe_ix ix_tup (pv 4) pe_int (fun _ _ => rfl)) (pa_cons pe_int pa_nil))))))))))) (pss_one (ps_ret pe_bl)) pss_nil))))))))) (pss_one (ps_ret pe_bl)))), ?_⟩
    refine ⟨.ref A, rfl, A, ns, rfl, hA, hn, fun p H1 n e1 hp n0 n1 => ?_⟩
    have hj : Jug H1 p 0 := ⟨n, 0, hp, n0, n1, by omega, by omega⟩
    have t1 : Tabs [(Pt, qE)] H1 := by
      intro q hq
      have : q = (Pt, qE) := by simpa using hq
      subst this
      exact TabS.nil (e1 _ _ hT)
    refine ⟨4, rfl, (by decide), (by decide), ?_⟩
    refine for_it walk_range (fun i σ H3 => ∃ c2 c3 c4 c5 c6 c7 c8 : Option V, σ = [some (.ref A), some (.ref p), c2, c3, c4, c5, c6, c7, c8] ∧ Jug H3 p (1000 * i) ∧ Tabs [(Pt, qE)] H3) ⟨none, none, none, none, none, none, none, rfl, hj.mono (by simp), t1⟩ (fun _ _ _ _ _ => trivial) (fun i v σ H3 H4 hi hp hy => ?_) (fun σ H3 hp => ?_)
    · obtain ⟨rfl, rfl⟩ := hy
      obtain ⟨c2, c3, c4, c5, c6, c7, c8, rfl, hj3, t3⟩ := hp
      have hi : i < 4 := by simpa using hi
      refine ⟨.ref p, rfl, p, 1000 * i, rfl, hj3, (by omega), fun H5 ta a0 a1 k5 hj5 hta pa => ?_⟩
      have nta : ta ≠ p := by obtain ⟨n, c, e, _⟩ := hj5; exact ne_of hta e nofun
      refine ⟨.ref p, rfl, p, 1000 * i + 10, rfl, hj5, (by omega), fun H6 tb b0 b1 k6 hj6 htb pb => ?_⟩
      have ntb : tb ≠ p := by obtain ⟨n, c, e, _⟩ := hj6; exact ne_of htb e nofun
      have hta := k6 _ _ nta hta
      refine ⟨_, _, rfl, ?_⟩
      refine ⟨.ref p, rfl, p, 1000 * i + 10 + 10, rfl, hj6, (by omega), fun H7 k7 hj7 => ⟨_, rfl, itf rfl ?_⟩⟩
      have hta := k7 _ _ nta hta
      have htb := k7 _ _ ntb htb
      have t7 : Tabs [(Pt, qE)] H7 := ((t3.kp hj3 k5).kp hj5 k6).kp hj6 k7
      clear k5 k6 k7 hj3 hj5 hj6 t3
      refine ⟨.ref ta, rfl, ta, _, 0, .int a0, rfl, rfl, SqT.of hta, rfl, .ref ta, rfl, ta, _, 1, .int a1, rfl, rfl, SqT.of hta, rfl, ?_⟩
      refine fun u1 dx nx ndx ne => ⟨u1, dx, .int a0, .int a1, rfl, upd_same, .inl ⟨a0, a1, rfl, rfl, pa.1, (big_up pa.p (by decide)), (big_up pa.q (by decide)), fun HA hs h2 => ⟨rfl, ?_⟩⟩⟩
      have e8 : Same H7 HA := fun b o e => hs b o (ne_of_none e nx) (new_same u1 dx _ _ nx ndx b o e)
      have iu1 : IsR K HA u1 (Rm.mk a0 a1) := ⟨dx, h2⟩
      have hj7 := hj7.same e8
      have t7 := t7.ext e8
      have hta := e8 _ _ hta
      have htb := e8 _ _ htb
      refine ⟨.ref tb, rfl, tb, _, 0, .int b0, rfl, rfl, SqT.of htb, rfl, .ref tb, rfl, tb, _, 1, .int b1, rfl, rfl, SqT.of htb, rfl, ?_⟩
      refine fun u2 dx nx ndx ne => ⟨u2, dx, .int b0, .int b1, rfl, upd_same, .inl ⟨b0, b1, rfl, rfl, pb.1, (big_up pb.p (by decide)), (big_up pb.q (by decide)), fun HB hs h2 => ⟨rfl, ?_⟩⟩⟩
      have e8 : Same HA HB := fun b o e => hs b o (ne_of_none e nx) (new_same u2 dx _ _ nx ndx b o e)
      have iu2 : IsR K HB u2 (Rm.mk b0 b1) := ⟨dx, h2⟩
      have hj7 := hj7.same e8
      have t7 := t7.ext e8
      have hta := e8 _ _ hta
      have htb := e8 _ _ htb
      have iu1 := iu1.same e8
      refine ⟨.ref tb, rfl, tb, _, 0, .int b0, rfl, rfl, SqT.of htb, rfl, ?_⟩
      refine fun u3 dx nx ndx ne => ⟨u3, dx, .int b0, .int 1, rfl, upd_same, .inl ⟨b0, 1, rfl, rfl, (by decide), (big_up pb.p (by decide)), big1, fun HC hs h2 => ⟨rfl, ?_⟩⟩⟩
      have e8 : Same HB HC := fun b o e => hs b o (ne_of_none e nx) (new_same u3 dx _ _ nx ndx b o e)
      have iu3 : IsR K HC u3 (Rm.mk b0 1) := ⟨dx, h2⟩
      have hj7 := hj7.same e8
      have t7 := t7.ext e8
      have hta := e8 _ _ hta
      have htb := e8 _ _ htb
      have iu1 := iu1.same e8
      have iu2 := iu2.same e8
      refine ⟨_, _, _, rfl, ?_⟩
      have pb1 : Pq b0 1 := ⟨by decide, pb.2.1, by decide⟩
      have A0 : ∀ {G : Hp}, Same HC G → SqT K G ta [.int a0, .int a1] := fun e => SqT.of (e _ _ hta)
      have B0 : ∀ {G : Hp}, Same HC G → SqT K G tb [.int b0, .int b1] := fun e => SqT.of (e _ _ htb)
      have s60 : ∀ {n : Int}, n.natAbs < 10 ^ 26 → n.natAbs < 10 ^ 60 := fun h => Nat.lt_trans h (by decide)
      have sl := Same.refl HC
      refine ⟨fun b G => b = false ∧ Same HC G, ?_, ?_⟩
      · refine ⟨.ref u1, rfl, .ref ta, rfl, ta, _, 0, .int a0, rfl, rfl, A0 sl, rfl, .ref ta, rfl, ta, _, 1, .int a1, rfl, rfl, A0 sl, rfl, u1, _, a0, a1, rfl, iu1, pa.1, big_up pa.q (by decide), fun G1 g1 => ⟨_, rfl, itf (by rw [decide_eq_true rfl]; rfl) ?_⟩⟩
        refine ⟨.ref u1, rfl, .ref ta, rfl, ta, _, 0, .int a0, rfl, rfl, A0 g1, rfl, .ref ta, rfl, ta, _, 1, .int a1, rfl, rfl, A0 g1, rfl, u1, a0, a1, rfl, pa.1, s60 pa.2.1, s60 pa.2.2, iu1.same g1, fun G2 g2 => ⟨_, rfl, itf rfl ?_⟩⟩
        refine ⟨.ref u3, rfl, .ref tb, rfl, tb, _, 0, .int b0, rfl, rfl, B0 (g1.trans g2), rfl, u3, b0, 1, rfl, (by decide), s60 pb.2.1, (by decide), iu3.same (g1.trans g2), fun G3 g3 => ⟨_, rfl, rfl, g1.trans (g2.trans g3)⟩⟩
      rintro _ G ⟨rfl, g⟩
      refine itf rfl ?_
      refine ⟨fun b F => b = false ∧ Same HC F, ?_, ?_⟩
      · refine ⟨.ref ta, rfl, .ref tb, rfl, .ref u1, rfl, .ref u2, rfl, ta, tb, u1, .ref u2, a0, a1, b0, b1, rfl, g _ _ hta, g _ _ htb, pa, pb, iu1.same g, RV.of (iu2.same g), fun G1 g1 => ⟨_, rfl, itf rfl ?_⟩⟩
        have g1 := g.trans g1
        refine ⟨.ref ta, rfl, .ref tb, rfl, tb, _, 0, .int b0, rfl, rfl, B0 g1, rfl, (by show 2 ≤ sizeLine; decide), fun t4 nt4 => ?_⟩
        have g2 := g1.trans (samu (o := .tup [.int b0, .int 1]) nt4)
        exact ⟨.ref u1, rfl, .ref tb, rfl, tb, _, 0, .int b0, rfl, rfl, B0 g2, rfl, ta, t4, u1, .int b0, a0, a1, b0, 1, rfl, g2 _ _ hta, upd_same, pa, pb1, iu1.same g2, .inr ⟨b0, rfl, Rm.int_mk b0⟩, fun G3 g3 => ⟨_, rfl, rfl, g2.trans g3⟩⟩
      rintro _ F ⟨rfl, g3⟩
      refine itf rfl ?_
      have hta := g3 _ _ hta
      have htb := g3 _ _ htb
      have iu1 := iu1.same g3
      have hj7 := hj7.same g3
      have t7 := t7.ext g3
      refine ⟨(by show 1 ≤ sizeLine; decide), fun l1 nl1 => ?_⟩
      have m1 : Same F (upd F l1 (.lst [.int 1])) := samu nl1
      have f1 : upd F l1 (.lst [.int 1]) l1 = some (.lst [.int 1]) := upd_same
      generalize upd F l1 (.lst [.int 1]) = F1 at m1 f1 ⊢
      refine ⟨(by show 2 ≤ sizeLine; decide), fun t2 nt2 => ?_⟩
      have m2 : Same F1 (upd F1 t2 (.tup [.int 1, .int 2])) := samu nt2
      have f2 : upd F1 t2 (.tup [.int 1, .int 2]) t2 = some (.tup [.int 1, .int 2]) := upd_same
      have f1 := m2 _ _ f1
      generalize upd F1 t2 (.tup [.int 1, .int 2]) = F2 at m2 f1 f2 ⊢
      refine fun d3 nd3 => ?_
      have m3 : Same F2 (upd F2 d3 (.dK [])) := samu nd3
      have f3 : upd F2 d3 (.dK []) d3 = some (.dK []) := upd_same
      have f1 := m3 _ _ f1
      have f2 := m3 _ _ f2
      generalize upd F2 d3 (.dK []) = F3 at m3 f1 f2 f3 ⊢
      refine ⟨(by show 6 ≤ sizeLine; decide), fun l nl => ?_⟩
      have m4 : Same F3 (upd F3 l (.lst [.non, .bl true, .str "1/2", .ref l1, .ref t2, .ref d3])) := samu nl
      have f4 : upd F3 l (.lst [.non, .bl true, .str "1/2", .ref l1, .ref t2, .ref d3]) l = some (.lst [.non, .bl true, .str "1/2", .ref l1, .ref t2, .ref d3]) := upd_same
      have f1 := m4 _ _ f1
      have f2 := m4 _ _ f2
      have f3 := m4 _ _ f3
      generalize upd F3 l (.lst [.non, .bl true, .str "1/2", .ref l1, .ref t2, .ref d3]) = F4 at m4 f1 f2 f3 f4 ⊢
      have m := m1.trans (m2.trans (m3.trans m4))
      have hjF := hj7.same m
      have nl2 : l ≠ p := fun q => by
        obtain ⟨n, c, e, _⟩ := hj7
        have e2 := m3 _ _ (m2 _ _ (m1 _ _ e))
        rw [← q, nl] at e2
        cases e2
      refine ⟨.ref p, rfl, p, 6, 1000 * i + 10 + 10 + 200, rfl, hjF, (by omega), (by decide), (by decide), fun G r hs hjG r0 r1 => ?_⟩
      have kG : Kp p F4 G := fun b o n e => (hs b n).trans e
      obtain ⟨v, hv, ho⟩ := pick6 (f1 := f1) (f2 := f2) (f3 := f3) r0 r1
      have noG : ∀ {a : Addr} {o : HO}, F4 a = some o → (∀ xs, o ≠ .lst xs) → G a = some o := fun {a o} h n => kG _ _ (by obtain ⟨n1, c1, e1, _⟩ := hjF; exact ne_of h e1 (n _)) h
      have ho : Odd G v := ho.kp hjF kG
      have hta := noG (m _ _ hta) nofun
      have htb := noG (m _ _ htb) nofun
      have iu1 : IsR K G u1 (Rm.mk a0 a1) := by
        obtain ⟨dx, e⟩ := iu1
        exact ⟨dx, noG (m _ _ e) nofun⟩
      have t7 := (t7.ext m).kp hjF kG
      refine ⟨l, _, r, v, rfl, rfl, SqL.of ((hs l nl2).trans f4), hv, ?_⟩
      refine ⟨fun b HX => b = false ∧ Jug HX p (1000 * ((i + 1 : Nat) : Int)) ∧ Tabs [(Pt, qE)] HX, ?_, ?_⟩
      · refine ⟨.ref u1, rfl, v, rfl, u1, v, _, rfl, iu1, pa.bd, ho, t7, fun G1 g1 x1 => ⟨_, rfl, itf rfl ?_⟩⟩
        have hta := g1 _ _ hta nofun
        have htb := g1 _ _ htb nofun
        have iu1 := iu1.ext g1
        have hj1 : Jug G1 p (1000 * i + 10 + 10 + 200 + 1) := by
          obtain ⟨n, c, e, r⟩ := hjG
          exact ⟨n, c, g1 _ _ e nofun, r⟩
        refine ⟨.ref ta, rfl, .ref u1, rfl, ta, u1, a0, a1, rfl, hta, pa, iu1, fun G2 g2 => ⟨_, rfl, itf rfl ?_⟩⟩
        have htb := g2 _ _ htb
        refine ⟨rfl, .ref tb, rfl, tb, _, 0, .int b0, rfl, rfl, SqT.of htb, rfl, .int b0, rfl, .inl ⟨(b0 : Rat), .inr ⟨b0, rfl, rfl⟩, ?_, fun u4 G3 g3 hu4 => ?_⟩⟩
        · rw [← Rm.int_mk]
          exact pb1.bd.mono (by decide)
        refine ⟨.ref tb, rfl, tb, _, 0, .int b0, rfl, rfl, SqT.of (g3 _ _ htb), rfl, u4, (b0 : Rat), b0, 1, rfl, hu4, (by decide), big1, fun G4 g4 => ⟨_, rfl, ?_, ?_, ?_⟩⟩
        · rw [Rm.int_mk, decide_eq_true rfl]
          rfl
        · exact (((hj1.same g2).same g3).same g4).mono (by omega)
        · exact ((x1.ext g2).ext g3).ext g4
      · rintro _ HX ⟨rfl, hx, tx⟩
        exact itf rfl ⟨_, _, _, _, _, _, _, rfl, hx, tx⟩
    · obtain ⟨c2, c3, c4, c5, c6, c7, c8, rfl, hj3, t3⟩ := hp
      exact k _
end
end Kw
end

/-! Kw31 -/
section
set_option maxHeartbeats 4000000
set_option exponentiation.threshold 10000
namespace Kw
open PySem PySem.Spec PyProof.Rows L2 He Er Ow LamX
/-- the law's own call, with the table of one def more -/
theorem walk_tab {l : PySem.W.OpenLaw} {n k : Nat} {q : Program} {loose : List Str} {XP : (Str → Option Value) → Heap → Prop} {YP : World → Heap → Prop} {d dE : DefRec} {x xe : Str} (hn : l.most = some n) (hn2 : n ≤ sizeLine) (hdf : d.params.defaults = []) (hr : Room k callerA)
    (hrec : (recsOf q).find? (fun e => e.name == xe) = some dE)
    (F : ∀ (w : World) (mg : Str → Option Value) (fA : Addr) (h : Heap), YP w h → h.Ns mainGlobals mg → mg d.name = some (.ref fA) → (∀ (K : PySem.W.Frag) (c P : Addr), K.In h → PySem.W.tabIn K xe = some (c, P) → PySem.W.CodeHd h c P ∧ h.get? P = some (PySem.W.tabObj #[])) →
      ∃ K : PySem.W.Frag, K.In h ∧ LawAtS l w K CX0 k n x mg fA h) :
    PySem.W.WalkO q loose XP YP l.row.toRowW d [] (fun f vs => PySem.call f vs) := by
  refine Att.attach_callB hn hdf fun w s0 s1 mg mb fA o pm cd doc a vs ns G Y ho hd hcd hmg hobj hints hlen hbits hg => ?_
  obtain ⟨K, KX, fd, cs, sp, hT, nT, C, hb, hsp, hF⟩ := F w mg fA _ Y G.T.g hmg fun K c P KX e => PySem.W.tab_of G.T KX hrec e
  exact law_callTs KX G.T.g G.T.b G.T.builtins G.T.nolimit hg hT nT C G.T.bmain hobj hints (Nat.le_trans hlen hn2) hr hF hb (fun H hH hS => hsp H a ns hlen hbits hH hS) fun H e s2 z => z
theorem code_of {K : PySem.W.Frag} {x : Str} {c P : Addr} {st : Stmt} {fd : FuncData} (F : L2.Fun K x x st (ga K x) fd) (h : PySem.W.tabIn K x = some (c, P)) : FunC K x x st (ga K x) fd c := by
  obtain ⟨oc, od, kV, doc, pm, an, cdv, ct, osl, rfl, lk, hcd⟩ := F.ex
  have e : cdv = .ref c := by
    unfold PySem.W.tabIn at h
    split at h
    · rename_i f hf
      have e : ga K x = f := by unfold ga; rw [hf]
      rw [← e, lk] at h
      dsimp only at h
      split at h
      · split at h
        · split at h
          · cases h
            rfl
          · cases h
        · cases h
      · cases h
    · cases h
  subst e
  exact ⟨⟨oc, od, kV, doc, pm, an, ct, osl, rfl, lk, hcd⟩, F.kp⟩
theorem tb_of {K : PySem.W.Frag} (h : tbB K = true) : ∃ c P, PySem.W.tabIn K "_law_errors_right" = some (c, P) ∧ K.lookup P = none := by
  unfold tbB at h
  split at h
  · rename_i c P e
    exact ⟨c, P, e, Option.isNone_iff_eq_none.mp h⟩
  · cases h
theorem facts {w : World} {K : PySem.W.Frag} {h : Heap} {mg : Str → Option Value} {f : Addr} (X : K.In h) (G : h.Ns mainGlobals mg) (hfa : mg ("law" : Str) = some (.ref f)) (s : SaysE fa fn fs exA K) (p : ∀ d ∈ fp, fnP K d = d.val)
    (tb : ∀ (K : PySem.W.Frag) (c P : Addr), K.In h → PySem.W.tabIn K "_law_errors_right" = some (c, P) → PySem.W.CodeHd h c P ∧ h.get? P = some (PySem.W.tabObj #[])) :
    LawAtS PySem.Challenge.rw_alleyes_k01_names_labels_integers_and_ra w K CX0 16 63 "_law_script" mg f h := by
  have S : Hd K mg := ⟨s, p, h, X, G⟩
  obtain ⟨c, Pt, e, nP⟩ := tb_of S.tb
  obtain ⟨hc, hP⟩ := tb K c Pt X e
  obtain ⟨fd, F⟩ := S.def_ 51 (d := dlaw)
  have b := FunD.bindsA (ps := ["_law_script"]) F fun _ _ _ _ _ _ us hl => match us, hl with | [_], _ => rfl
  have F := fun_of (st := slaw) F
  have e1 := hfa.symm.trans (S.glo 42)
  cases e1
  obtain ⟨fdE, FE⟩ := S.def_ 50 (d := dLerrorsuright)
  have FE := fun_of (st := sLerrorsuright) FE
  have FC : FunC K "_law_errors_right" "_law_errors_right" sLerrorsuright (ga K "_law_errors_right") fdE c := code_of FE e
  have bE := FE.binds (ps := ["_law_one", "_law_odd"]) fun _ _ _ _ _ _ us hl => match us, hl with | [_, _], _ => rfl
  have one : ∀ q ∈ [(c, Pt)], q = (c, Pt) := fun q hq => by simpa using hq
  refine ⟨fd, [(c, Pt)], spLaw K Pt, fun q hq => ?_, fun q hq => ?_, fun q hq => ?_, fun s v => ?_, fun H a ns hl _ hT hS => ?_, fun base KB GB TBs => ?_⟩
  · rw [one q hq]
    exact hP
  · rw [one q hq]
    exact nP
  · rw [one q hq]
    exact hc
  · exact b s [v] rfl
  · exact ⟨a, ns, rfl, hS, hl, hT (c, Pt) (by simp), fun _ => rfl⟩
  · exact ok_law S ⟨_, fdE, ok_err S FC (TBs (c, Pt) (by simp)), S.glo 41, FE.kp, bE⟩ F
end Kw
end

/-! Kw32 -/
section
set_option maxHeartbeats 0
set_option exponentiation.threshold 10000
open PySem PySem.W PySem.Calls PyProof.Rows
theorem PySem.Challenge.cw_alleyes_k01_names_labels_integers_and_ra_holds : PySem.Challenge.rw_alleyes_k01_names_labels_integers_and_ra.Holds := by
  w_on; o_law
  refine HandSHeadRun.head_imp (r := OpenLaw.row PySem.Challenge.rw_alleyes_k01_names_labels_integers_and_ra) (q := view (OpenLaw.row PySem.Challenge.rw_alleyes_k01_names_labels_integers_and_ra).prog [0, 50, 51]) (H := Kw.hk) (ob := Kw.ob) (M := 12000) (loose := Kw.loose) (d := HandSHeadRun.topDef (OpenLaw.row PySem.Challenge.rw_alleyes_k01_names_labels_integers_and_ra).prog 51) (kwd := []) Kw.ob_eq
    Kw.run (by kernel_rfl) (by kernel_rfl) (by kernel_rfl) (by rfl) (by first | assumption | decide +kernel) (by decide +kernel) ⟨rfl, rfl, rfl, rfl, rfl, by decide +kernel⟩ ?hw ?hc
  case hw => w_witness2
  case hc =>
    refine Kw.walk_tab (l := PySem.Challenge.rw_alleyes_k01_names_labels_integers_and_ra) (n := 63) (k := 16) (x := "_law_script") (xe := "_law_errors_right") (dE := HandSHeadRun.topDef (OpenLaw.row PySem.Challenge.rw_alleyes_k01_names_labels_integers_and_ra).prog 50) rfl (by decide) (by kernel_rfl) ⟨rfl, by decide, by decide⟩ (by kernel_rfl) ?F
    intro w mg fa h Y G hmg0 tb
    obtain ⟨K, KX, c, p⟩ := Y
    have hmg : mg ("law" : PySem.Str) = some (.ref fa) := by
      have e : (HandSHeadRun.topDef (OpenLaw.row PySem.Challenge.rw_alleyes_k01_names_labels_integers_and_ra).prog 51).name = ("law" : PySem.Str) := by kernel_rfl
      rw [← e]
      exact hmg0
    exact ⟨K, KX, Kw.facts KX G hmg c p tb⟩
end
