import PyProof.Rows.All
import Wide.All
import OpenK.AllK
import Wide.FinOn
import PyProof.EqAt
import PyProof.EqKinds
import PyProof.TupleCall
import KE.KExcIs
import KE.KExcSuper
import HandS.ForMost
import HandS.Exc
import HandS.ExcInit
import HandS.IsInst
import HandS.FStr
import HandS.Wide
import HandS.MakeKwOnly
import HandS.ExcField
import HandS.ExcIs
import PyProof.ReprRoads
import PyProof.FactsAll.bool_1
import PyProof.Rows.RuleN_abs
import PyProof.Rows.FactsU_abs
import Lean
import KE.KStateDown
import HandS.More
import HandS.WordsExc
import HandS.Head0
import HandS.Head1
import HandS.Head2
import HandS.HeadEnd
import HandS.HeadHook1
import HandS.HeadHook2
import HandS.ClsMeth
import HandS.ExcValue
import HandS.Walk
import PySem.Challenge.RW_alleyes_k00_errors_keep_their_fields
set_option Elab.async false
set_option linter.all false
set_option maxRecDepth 100000
/-! Er1 -/
section
set_option maxHeartbeats 4000000
set_option exponentiation.threshold 1000
/-! An own error's __init__ that begins with super().__init__(..): its frame has the cell __class__. -/
namespace Er
open PySem PySem.Spec PyProof.Rows L2

/-- the context of such a body -/
def cxS (CX : CXT) (P : Program) (w : World) (K : PySem.W.Frag) (mg : Str → Option Value) (base : Heap) (N : List Str) (qual : Str) (scope : Scope) (f : Addr) (cd : Value) (cc : Addr)
    (A : Around) (outer : List Env) (s : Shared) (H : Hp) (E : XK) : Cx :=
  let ev : Env := PySem.W.ksEnv qual scope s.heap.objs.size f cd cc
  { prog := P, w := w, K := K, mg := mg, base := base, A := A.deeper ev, N := N, s_0 := s, H_0 := H, env := ev, outer := outer, stack := ev :: outer, ex := [], calm := true,
    fn := fun x => x != "__class__", pn := [],
    xe := fun e s' => wpAny (model P w) (A.deeper ev) (leaving ev e) (fun _ s2 => CX outer H s E e s2) (fun e' s2 => CX outer H s E e' s2) s' }

structure ScS (N ps : List Str) (sc : Scope) : Prop where
  kind : sc.kind = .function
  co : sc.isCoroutine = false
  gen : sc.isGenerator = false
  nd : N.Nodup
  pre : N.take ps.length = ps
  par : ∀ x ∈ ps, sc.names.lookup x = some .local
  free : ∀ y ∈ sc.names, y.2 = .free → y.1 = "__class__"
  nocell : ∀ y ∈ sc.names, y.2 ≠ .cell

theorem one_cell {cc c : Addr} {x : Str} (h : [(("__class__" : Str), cc)].lookup x = some c) : x = "__class__" ∧ c = cc := by
  by_cases e : x = "__class__"
  · subst e
    have q : [(("__class__" : Str), cc)].lookup ("__class__" : Str) = some cc := by simp [List.lookup]
    rw [q] at h
    exact ⟨rfl, (Option.some.inj h).symm⟩
  · have b : (x == ("__class__" : Str)) = false := by simpa using e
    have q : [(("__class__" : Str), cc)].lookup x = none := by simp [List.lookup, b]
    rw [q] at h
    cases h

theorem zip_rev_get : ∀ {ps : List Str} {us : List Value} {i : Nat} {x : Str} {u : Value}, ps.Nodup → ps[i]? = some x → us[i]? = some u → (ps.zip us).reverse.lookup x = some u := by
  intro ps us i x u nd h1 h2
  have key : ∀ {l : List (Str × Value)}, (l.map (·.1)).Nodup → (x, u) ∈ l → l.lookup x = some u := by
    intro l
    induction l with
    | nil => intro _ h; cases h
    | cons p r ih =>
      intro n h
      obtain ⟨y, v⟩ := p
      rcases List.mem_cons.mp h with e | e
      · cases e
        simp [List.lookup]
      · have ny : x ≠ y := by
          intro z
          have m : x ∈ r.map (·.1) := List.mem_map.mpr ⟨(x, u), e, rfl⟩
          rw [List.map_cons] at n
          exact (List.nodup_cons.mp n).1 (by rw [z] at m; exact m)
        have b : (x == y) = false := by simpa using ny
        rw [List.map_cons] at n
        simp only [List.lookup, b]
        exact ih (List.nodup_cons.mp n).2 e
  refine key ?_ ?_
  · rw [List.map_reverse]
    refine (List.reverse_perm _).nodup_iff.mpr ?_
    have s : ((ps.zip us).map (·.1)).Sublist ps := by
      clear key h1 h2 nd
      induction ps generalizing us with
      | nil => simp
      | cons p r ih =>
        cases us with
        | nil => simp
        | cons v t =>
          show (p :: ((r.zip t).map (·.1))).Sublist (p :: r)
          exact (ih (us := t)).cons_cons p
    exact nd.sublist s
  · refine List.mem_reverse.mpr ?_
    refine List.mem_of_getElem? (i := i) ?_
    rw [List.getElem?_zip_eq_some]
    exact ⟨h1, h2⟩

section
variable {CX : CXT} {P : Program} {w : World} {K : PySem.W.Frag} {mg : Str → Option Value} {base : Heap} {N ps : List Str} {qual : Str} {scope : Scope} {f cc D : Addr} {cd : Value} {A : Around} {outer : List Env} {s : Shared} {H : Hp} {E : XK} {us : List Value} {vs : List V}
theorem inv_s (S : ScS N ps scope) {cl : Value} {cld : Option Addr} {csl : Array (Option Value)} (hcell : K.lookup cc = some ⟨cl, cld, .cell (some (.ref D)), csl⟩) (hd : A.handled = none) (e0 : Env0 P w K mg base A outer s H) (hl : vs.length = ps.length) (r : Vals vs us)
    {h1 : Heap} {t1 : Nat} (hn : h1.Ns s.heap.objs.size fun x => (ps.zip us).reverse.lookup x) (hk : ∀ b o, s.heap.get? b = some o → h1.get? b = some o) :
    Inv (cxS CX P w K mg base N qual scope f cd cc A outer s H E) [] (start N vs) H { s with heap := h1, toks := t1 } := by
  have KX : K.In s.heap := e0.mod.kin.keeps fun b o e => (e0.bs b o e).1
  have cB : base.get? cc = some ⟨cl, cld, .cell (some (.ref D)), csl⟩ := e0.mod.kin _ _ hcell
  have hpl : ps.length ≤ N.length := by have := congrArg List.length S.pre; rw [List.length_take] at this; omega
  have noA : ∀ b : Addr, b ∉ (cxS CX P w K mg base N qual scope f cd cc A outer s H E).ex := fun b z => absurd (show b ∈ ([] : List Addr) from z) (by simp)
  refine ⟨⟨e0.mod, S.kind, rfl, rfl, Nat.le_refl _, fun y z c a b => ?_, fun y hy => ?_, fun y c q a => ?_, fun _ => hd, Around.frames_deeper e0.frames, .inr ⟨rfl, rfl⟩, fun b z => absurd z (noA b), e0.bs, e0.bsz, fun b _ _ => noA b, fun b z => absurd z (noA b), e0.funs, e0.frf⟩,
    rfl, e0.bare, Un.kept hk, ⟨_, hn, fun i y v a b c => ?_⟩, fun y c a => ?_, e0.hok.fresh (Nat.le_refl _), fun y c a => ?_, fun p hp => absurd (show p ∈ ([] : List (Addr × Obj)) from hp) (by simp), e0.hok.kept hk, ?_⟩
  · exact (one_cell a).1.trans (one_cell b).1.symm
  · have hy : scope.names.lookup y = some .cell ∨ scope.names.lookup y = some .free := hy
    rcases hy with hy | hy
    · exact absurd rfl (S.nocell _ (PySem.mem_of_lookup hy))
    · have e := S.free _ (PySem.mem_of_lookup hy) rfl
      have e' : y = "__class__" := e
      subst e'
      exact ⟨cc, by show [(("__class__" : Str), cc)].lookup ("__class__" : Str) = some cc; simp [List.lookup]⟩
  · have e := (one_cell a).1
    subst e
    exact absurd (show (("__class__" : Str) != ("__class__" : Str)) = true from q) (by decide)
  · have hi : i < vs.length := by
      unfold L2.start at b
      by_cases hi : i < vs.length
      · exact hi
      · rw [List.getElem?_append_right (by simpa using hi), List.getElem?_replicate] at b
        split at b <;> cases b
    have ha : vs[i]? = some v := by
      unfold L2.start at b
      rw [List.getElem?_append_left (by simpa using hi), List.getElem?_map] at b
      cases e : vs[i]? with
      | none => rw [e] at b; cases b
      | some z => rw [e] at b; cases b; rfl
    obtain ⟨u, hu, rv⟩ := r.get ha
    have hp : ps[i]? = some y := by
      rw [← S.pre, List.getElem?_take_of_lt (by omega)]; exact a
    have ndP : ps.Nodup := by rw [← S.pre]; exact S.nd.sublist (List.take_sublist _ _)
    exact ⟨u, rv, .inl ⟨S.par y (List.mem_of_getElem? hp), zip_rev_get ndP hp hu⟩⟩
  · obtain ⟨_, e⟩ := one_cell a
    subst e
    exact ⟨_, _, hk _ _ ((e0.bs _ _ cB).1), rfl⟩
  · obtain ⟨_, e⟩ := one_cell a
    subst e
    exact (e0.bs _ _ cB).2
  · unfold L2.start
    show _ = N.length
    rw [List.length_append, List.length_map, List.length_replicate]
    omega
end
end Er
end

/-! Er2 -/
section
set_option maxHeartbeats 4000000
set_option exponentiation.threshold 1000
namespace Er
open PySem PySem.Spec PyProof.Rows L2
/-- what the written part tells of an error's class at C, for super() in the class at D -/
structure SupC (K : PySem.W.Frag) (C D : Addr) : Prop where
  oex : OexC K C
  isD : PySem.W.mroIn K C (.ref D) = some true
  isVE : PySem.W.subIn K (.ref C) (.type "ValueError") = some true
  sup : PySem.W.ks_superIn K C D "__init__" = some (some (.builtin "ValueError.__init__"))

section
variable {X : Cx} {pins : List (Addr × Obj)} {σ : L2.St} {H : Hp} {s : Shared} {x C D u : Addr}
theorem call_mw {rest : List Value} {Q : Value → Shared → Prop} {E : Value → Shared → Prop} (T : OexC X.K C) (I : Inv X pins σ H s) (e : H x = some (exo x C none)) (hu : s.heap.get? u = some (PySem.W.kxs_mw "ValueError.__init__" x)) (hz : rest.length ≤ sizeLine)
    (h : ∀ s2, Inv X pins σ H s2 → Q .none s2) : wpAny (model X.prog X.w) X.A (call (.ref u) rest) Q E s := by
  obtain ⟨nm, q, N, bs, bm, sn, sub, ab, col, dd, k0, k1, k2, k3, k5, hC, hbm⟩ := T.cls
  obtain ⟨t1, ho⟩ := exo_at I.hok e
  have hC' := I.kIn _ _ hC
  obtain ⟨hp, g, d, t, os⟩ := s
  refine wpAny_call (codeAny_of_tree ?_)
  show wpAny _ X.A.in1 (callAny (.ref u) ⟨rest, []⟩) _ _ _
  simp only [callAny]
  refine wpAny_bind (wpAny_load hu ?_)
  have b1 : (Value.type "method-wrapper" == Value.type "method" || Value.type "method-wrapper" == Value.type "builtin_function_or_method" || Value.type "method-wrapper" == Value.type "method-wrapper") = true := by decide
  simp only [PySem.W.kxs_mw, b1, if_true]
  refine PySem.W.KFB.if_so (by decide) ?_
  refine wpAny_bind (PySem.W.check_bound_init F.excBase_ValueError.toExcCallFacts hC' ho rfl ?_)
  refine wpAny_bind (wpAny_pure (wpAny_pure ?_))
  refine ⟨plainId_quiet F.excBase_ValueError.init.plain _, codeAny_builtin F.excBase_ValueError.initEntry ?_⟩
  refine PySem.W.exc_init_tree (cls := .ref C) (t0 := t1) (dv := none) (c2 := .none) (c3 := .none) (b4 := .bool false) ho hz fun h2 k hx _ => ?_
  have J := I.write (t' := t) (x := x) (e := x) (o := exo x C none) (by rw [e]; exact True.intro) (.inl rfl) k ⟨_, hx⟩ (exo_ok hx)
  have eu : upd H x (exo x C none) = H := by
    funext b
    by_cases hb : b = x
    · rw [hb, upd_same, e]
    · rw [upd_ne hb]
  rw [eu] at J
  exact h _ J
/-- x, with pins, tracked as a new thing that nobody else knows -/
theorem inv_pin1 {h1 : Heap} {o : Obj} {t1 : Nat} (I : Inv X pins σ H s) (k : ∀ b v, s.heap.get? b = some v → h1.get? b = some v) (hu : s.heap.objs.size ≤ u) (ho : h1.get? u = some o) (nc : ∀ v, o.data ≠ .cell v) :
    Inv X ((u, o) :: pins) σ H { s with heap := h1, toks := t1 } := by
  have J := I.kept (t' := t1) k
  refine J.pins_of fun p hp => ?_
  rcases List.mem_cons.mp hp with rfl | hp
  · exact ⟨ho, I.hok.fresh hu, fun z => absurd (Nat.lt_of_lt_of_le I.lt (by rw [← z]; exact hu)) (Nat.lt_irrefl _), I.nofs hu, nc⟩
  · exact J.pin p (List.mem_append_right _ hp)
theorem inv_unpin {o : Obj} (I : Inv X ((u, o) :: pins) σ H s) : Inv X pins σ H s := I.pins_of fun p hp => I.pin p (List.mem_append_right _ (List.mem_cons_of_mem _ hp))
end
end Er
end

/-! Er3 -/
section
set_option maxHeartbeats 4000000
set_option exponentiation.threshold 1000
namespace Er
open PySem PySem.Spec PyProof.Rows L2
/-- what stands in the text for a def with the cell __class__ -/
structure SFun (P : Program) (K : PySem.W.Frag) (x qual : Str) (st : Stmt) (f D : Addr) (fd : FuncData) : Prop where
  ex : ∃ (oc : Value) (od : Option Addr) (kV doc pm : Value) (an : Option Addr) (cda : Addr) (ct : Value) (cc : Addr) (osl : Array (Option Value)),
    fd = PySem.W.ksFn x qual (defArgs st) (defBody st) (defScope st) .none kV doc pm an (.ref cda) ct cc ∧ K.lookup f = some ⟨oc, od, .func fd, osl⟩ ∧ PySem.W.codeIn K (.ref cda) qual = true ∧
    (∃ cl cld csl, K.lookup cc = some ⟨cl, cld, .cell (some (.ref D)), csl⟩) ∧ ∃ ccl cdd va ccs file tf, K.lookup cda = some ⟨ccl, cdd, .fields va, ccs⟩ ∧ va[2]? = some (.str file tf) ∧ ((P.main.file : Str) == file) = true
  clsD : ∃ cdD, PySem.W.clsIn K D = some cdD
  noSup : PySem.W.nsIn K mainGlobals "super" = some none
  noTop : (P.main.scope.names.lookup ("super" : Str)).isSome = false
  noThird : PySem.W.nsIn K cStatics "thirdparty.any" = some none

section
variable {P : Program} {w : World} {K : PySem.W.Frag} {mg : Str → Option Value} {base : Heap} {x qual : Str} {st : Stmt} {f D : Addr} {fd : FuncData} {N ps : List Str} {k : Nat} {sp : Sp}
theorem fn_sup (F : SFun P K x qual st f D fd) (S : ScS N ps (defScope st)) (h0 : ps.head? = some ("self" : Str)) (hs1 : (defScope st).names.lookup ("super" : Str) = some .globalImplicit) (hs2 : (defScope st).names.lookup ("__class__" : Str) = some .free)
    {p0 p1 p2 p3 p4 : Pos} {e : Expr} {rest : List Stmt} (hbody : defBody st = .Expr (.Call (.Attribute (.Call (.Name "super" p0) [] [] p1) "__init__" p2) [e] [] p3) p4 :: rest)
    (hpar : ((defArgs st).posonlyargs ++ (defArgs st).args).head?.map (·.arg) = some ("self" : Str)) (len : ∀ vs H Q E, sp vs H Q E → vs.length = ps.length)
    (hc : ∀ env : Env, env.scope = defScope st → eval (.Call (.Attribute (.Call (.Name "super" p0) [] [] p1) "__init__" p2) [e] [] p3) env = (do
      let ov ← attributeBase (.Call (.Name "super" p0) [] [] p1) "__init__" env (eval (.Call (.Name "super" p0) [] [] p1) env)
      standAt p2.atName
      let (g, first) ← holding [ov] (getMethod ov "__init__" (do return (← importBound (.Call (.Name "super" p0) [] [] p1) env).getD true))
      callWith p3 g first (backTo p3 (starEach [e] env)) []))
    (hse : ∀ env : Env, starEach [e] env = (false, eval e env) :: starEach [] env)
    (hb : ∀ (cda cc : Addr) (A : Around) (outer : List Env) (s : Shared) (H : Hp) (vs : List V) (Q : VK) (E : XK), Room k (A.deeper (PySem.W.ksEnv qual (defScope st) s.heap.objs.size f (.ref cda) cc)) → sp vs H Q E →
      ∃ (a C : Addr) (te : TE) (t : TS), vs.head? = some (.ref a) ∧ H a = some (exo a C none) ∧ SupC K C D ∧
        PE (cxS CX0 P w K mg base N qual (defScope st) f (.ref cda) cc A outer s H E).nox e te ∧ PSs (cxS CX0 P w K mg base N qual (defScope st) f (.ref cda) cc A outer s H E).nox rest t ∧
        te (L2.start N vs) H (fun _ H1 => H1 a = some (exo a C none) ∧ t { nx := fun _ H2 => Q .non H2, rt := Q } (L2.start N vs) H1)) :
    FnOk P w K mg base CX0 (k + 1) f fd ps sp := by
  obtain ⟨oc, od, kV, doc, pm, an, cda, ct, cc, osl, rfl, lk, hcd, ⟨cl, cld, csl, hcell⟩, ⟨ccl, cdd, va, ccs, file, tf, hcode, hva, hfile⟩⟩ := F.ex
  obtain ⟨cdD, hD⟩ := F.clsD
  refine ⟨len, fun A outer s H args us vs Q E hr e0 hbi r hsp => ?_⟩
  have hl := len _ _ _ _ hsp
  have KX : K.In s.heap := e0.mod.kin.keeps fun b o e => (e0.bs b o e).1
  have lim : s.heap.NoLimit := e0.mod.nolimit.keeps fun b o e => (e0.bs b o e).1
  obtain ⟨a, C, te, t, hv, ha, SC, he, hrest, hte⟩ := hb cda cc A outer s H vs Q E (hr.deeper _) hsp
  have hloc : ∀ y ∈ ps.zip us, (defScope st).names.lookup y.1 = some .local := fun ⟨n, v⟩ hy => S.par n (List.of_mem_zip hy).1
  refine ks_codeAny_call_defAt (fd := PySem.W.ksFn x qual (defArgs st) (defBody st) (defScope st) .none kV doc pm an (.ref cda) ct cc) (body := defBody st) (binds := ps.zip us) hr.depth (KX _ _ lk) rfl lim (PySem.W.codeRec_of KX hcd) rfl hbi S.nocell hloc (fun h1 hns hk => ?_) S.co S.gen S.kind
  have I : Inv (cxS CX0 P w K mg base N qual (defScope st) f (.ref cda) cc A outer s H E) [] (L2.start N vs) H { s with heap := h1, toks := s.toks + (ps.zip us).length } := inv_s S hcell hr.hd e0 hl r hns hk
  generalize hX : cxS CX0 P w K mg base N qual (defScope st) f (.ref cda) cc A outer s H E = X at I he hrest
  have heq : callEnv (PySem.W.ksFn x qual (defArgs st) (defBody st) (defScope st) .none kV doc pm an (.ref cda) ct cc) s.heap.objs.size f = X.env := by rw [← hX]; rfl
  have hA : A.deeper X.env = X.A := by rw [← hX]; rfl
  have hsc : X.env.scope = defScope st := by rw [← hX]; rfl
  have hxf : X.env.func = some f := by rw [← hX]; rfl
  have hxc : X.env.code = .ref cda := by rw [← hX]; rfl
  have hP : X.prog = P := by rw [← hX]; rfl
  have hw : X.w = w := by rw [← hX]; rfl
  have hK : X.K = K := by rw [← hX]; rfl
  have hxe : X.xe = fun e s' => wpAny (model P w) X.A (leaving X.env e) (fun _ s2 => CX0 outer H s E e s2) (fun e' s2 => CX0 outer H s E e' s2) s' := by rw [← hX]; rfl
  have hb2 : ∀ {u : Flow} {s2 : Shared}, SP X [] { nx := fun _ H2 => Q .non H2, rt := Q } u s2 → CR CX0 outer P w H s Q E (.ok (.ret (match u with | .ret v => v | _ => .none))) s2 := by
    intro u s2 hu
    subst hX
    cases u with
    | ret u =>
      obtain ⟨v, σ2, H2, J, rv, q⟩ := hu
      exact ⟨v, H2, J.os, J.bare, J.base, J.hok, rv, q⟩
    | next =>
      obtain ⟨σ2, H2, J, q⟩ := hu
      exact ⟨.non, H2, J.os, J.bare, J.base, J.hok, rfl, q⟩
    | brk =>
      obtain ⟨_, _, _, q⟩ := hu
      exact False.elim q
    | cont =>
      obtain ⟨_, _, _, q⟩ := hu
      exact False.elim q
  rw [heq, hA]
  show PySem.wpAt (model P w) X.A (.func (defBody st) X.env) (execs (defBody st) X.env) _ _ _
  rw [show execs (defBody st) X.env = execs (.Expr (.Call (.Attribute (.Call (.Name "super" p0) [] [] p1) "__init__" p2) [e] [] p3) p4 :: rest) X.env by rw [hbody]]
  have hint : interactive X.env = false := by
    unfold interactive
    rw [hsc, S.kind]
    rfl
  refine ks_wpAt_execs_cons (ks_wpAt_Expr_any (ks_wpAt_MethodCall ?_ (hc X.env hsc)) hint rfl)
  have hk1 : X.env.kindOf "super" = some .globalImplicit := by rw [← hs1, ← hsc]; rfl
  have hk2 : X.env.kindOf "__class__" = some .free := by rw [← hs2, ← hsc]; rfl
  obtain ⟨ar, har, hself⟩ : ∃ ar, ((defArgs st).posonlyargs ++ (defArgs st).args).head? = some ar ∧ ar.arg = ("self" : Str) := by
    cases z : ((defArgs st).posonlyargs ++ (defArgs st).args).head? with
    | none => rw [z] at hpar; cases hpar
    | some ar =>
      rw [z] at hpar
      exact ⟨ar, rfl, Option.some.inj hpar⟩
  refine ks_wpAt_super_base hk1 hk2 (by decide) hxf (hk _ _ (KX _ _ lk)) rfl har hxc (hk _ _ (KX _ _ hcode)) rfl hva hfile F.noTop ?_
  rw [hself]
  have hmg : X.mg "super" = none := by rw [← hX]; exact PySem.W.mg_none_of e0.mod.kin e0.mod.glob F.noSup
  have hcl : X.env.cells.lookup ("__class__" : Str) = some cc := by
    rw [← hX]
    show [(("__class__" : Str), cc)].lookup ("__class__" : Str) = some cc
    simp [List.lookup]
  have hus : us[0]? = some (.ref a) := by
    cases r with
    | nil => cases hv
    | cons q t =>
      cases hv
      cases (show _ = Value.ref a from q)
      rfl
  have hps : ps[0]? = some ("self" : Str) := by
    cases ps with
    | nil => cases h0
    | cons p t => rw [List.head?_cons] at h0; cases h0; rfl
  have ndP : ps.Nodup := by rw [← S.pre]; exact S.nd.sublist (List.take_sublist _ _)
  have hsl : (ps.zip us).reverse.lookup ("self" : Str) = some (.ref a) := zip_rev_get ndP hps hus
  have hkl : X.env.kindOf "self" = some .local := by
    rw [← S.par "self" (List.mem_of_getElem? hps), ← hsc]
    rfl
  have hnsX : h1.Ns X.env.locals fun x => (ps.zip us).reverse.lookup x := by rw [← hX]; exact hns
  subst hP hw hK
  obtain ⟨mb, b1, b2⟩ := I.mod.blt
  refine PySem.W.ks_loadName_global I.ok.kind hk1 (Calls.loadGlobal_builtin (by rw [I.ok.glob]; exact I.mod.glob.keeps I.bk) hmg (by rw [I.ok.blt]; exact b1.keeps I.bk) ((b2 _ (by decide)).trans (show bootBuiltins "super" = some (.type "super") by decide +kernel)) ⟨rfl, ?_⟩)
  refine wpAny_loadName_free I.ok.kind hk2 hcl ⟨_, hk _ _ (KX _ _ hcell), rfl⟩ ?_
  refine wpAny_loadName_local I.ok.kind hkl hnsX hsl ?_
  obtain ⟨oD, hD1, hD2⟩ : ∃ oD, h1.get? D = some oD ∧ oD.data = .cls cdD := by
    unfold PySem.W.clsIn at hD
    split at hD
    · rename_i c d cd2 sl ho
      cases hD
      exact ⟨_, hk _ _ (KX _ _ ho), rfl⟩
    · cases hD
  refine ks_wpAny_isType_cls hD1 hD2 ⟨rfl, ?_⟩
  obtain ⟨t1, hobj⟩ := exo_at I.hok ha
  have K1 : X.K.In h1 := I.kIn
  refine ks_wpAny_call_super hD1 hD2 hobj rfl (fun c e => nomatch e) (PySem.W.looks_mroIn K1 SC.isD) (fun h2 eso k2 => ?_)
  have K2 : X.K.In h2 := K1.keeps k2
  obtain ⟨cdC, hcC⟩ : ∃ cdC, PySem.W.clsIn X.K C = some cdC := by
    cases z : PySem.W.clsIn X.K C with
    | none =>
      have q := SC.sup
      unfold PySem.W.ks_superIn at q
      rw [z] at q
      cases q
    | some cd => exact ⟨cd, rfl⟩
  have hal : PySem.W.alongIn X.K "__init__" ((cdC.mro.dropWhile (· != .ref D)).drop 1) = some (some (.builtin "ValueError.__init__")) := by
    have q := SC.sup
    unfold PySem.W.ks_superIn at q
    rw [hcC] at q
    exact q
  have naC : a ≠ C := by
    rintro rfl
    unfold PySem.W.clsIn at hcC
    split at hcC
    · rename_i c d cd2 sl ho
      have z := K1 _ _ ho
      rw [hobj] at z
      cases z
    · cases hcC
  have It : PySem.W.InstAt h2 a _ C none := ⟨k2 _ _ hobj, rfl, rfl, trivial⟩
  refine PySem.W.kxs_getMethod PySem.W.kxs_ValueError eso (PySem.W.looks_opaque K2 F.noThird) (l₀ := cdC.mro) (fun A Q E s k q => wpAny_bind ((PySem.W.looks_clsIn K2 hcC) A _ E s k (wpAny_pure q))) rfl K2 hal (It.type.andThen (PySem.W.looks_subIn K2 SC.isVE)) naC (by decide) ?_
  have k3 : ∀ b v, h1.get? b = some v → (h2.push (PySem.W.kxs_mw "ValueError.__init__" a)).get? b = some v := fun b v q => Heap.get?_push_of_some _ (k2 b v q)
  have hu3 : (h2.push (PySem.W.kxs_mw "ValueError.__init__" a)).get? h2.objs.size = some (PySem.W.kxs_mw "ValueError.__init__" a) := Heap.get?_push_at rfl rfl
  have hsz : h1.objs.size ≤ h2.objs.size := Nat.le_of_lt (Nat.lt_of_le_of_lt (Nat.le_refl _) (Heap.lt_size eso))
  have J := inv_pin1 (t1 := s.toks + (ps.zip us).length + 1) I k3 hsz hu3 (fun v z => nomatch z)
  refine PySem.W.kxs_callWith (i := "ValueError.__init__") (x := a) (by rw [hse]; rfl) ?_
  rw [hse]
  have hrun := he.nox.run _ _ _ _ _ J hte
  rw [hxe] at hrun
  show wpAny _ _ (evalArgs _ true ((false, eval e X.env) :: backTo p3 (starEach [] X.env)) []) _ _ _
  refine Calls.evalArgs_plain (Calls.spliced_cons (thn hrun fun v s3 hv3 => ?_))
  obtain ⟨v', H1, I3, rv, ha3, ht3⟩ := hv3
  refine Calls.spliced_nil ⟨(I3.pin _ (List.mem_append_right _ (List.mem_cons_self ..))).1, ?_⟩
  refine call_mw SC.oex I3 ha3 (I3.pin _ (List.mem_append_right _ (List.mem_cons_self ..))).1 (by show [v].length ≤ sizeLine; rw [sizeLine_eq]; exact (by decide : 1 ≤ 16777216)) fun s4 I4 => ?_
  have I5 := inv_unpin I4
  have hrun2 := hrest.nox.run [] s4 _ H1 _ I5 ht3
  rw [hxe] at hrun2
  exact wpAt_of_wpAny (wpAny_mono hrun2 (fun u s5 hu5 => hb2 hu5) fun u s5 hu5 => hu5)
end
end Er
end

/-! Er4 -/
section
set_option maxHeartbeats 4000000
set_option exponentiation.threshold 1000
namespace Er
open PySem PySem.Spec PyProof.Rows L2
/-! C(.., k = v): the keywords go by __new__ and come to the own __init__ -/
section
variable {M : Model} {A : Around} {E : Value → Shared → Prop} {R : Result → Shared → Prop} {hh : Heap} {gg : Array GenState} {dr : Drawn} {tk : Nat} {os : OsState} {prog : Program} {w : World}
variable {nm qn : Str} {C Ns : Addr} {bs bm : List Value} {hdct : Bool} {sn : List Str} {sub : List Value} {ab : Bool} {col : Option Bool} {dd : Option Addr} {k0 k1 k2 k3 k5 : Option Value} {us : List Value} {kw : List (Str × Value)}
abbrev clsO (nm qn : Str) (C Ns : Addr) (bs bm : List Value) (hdct : Bool) (sn : List Str) (sub : List Value) (ab : Bool) (col : Option Bool) (dd : Option Addr) (k0 k1 k2 k3 k5 : Option Value) : Obj :=
  excClassObj nm qn C Ns bs bm hdct sn sub ab col dd k0 k1 k2 k3 k5 "ValueError.__new__"
theorem chk_newK (hm : PySem.HandSPX.refsVE bm = true) {Q : Unit → Shared → Prop} (hC : hh.get? C = some (clsO nm qn C Ns bs bm hdct sn sub ab col dd k0 k1 k2 k3 k5)) (hq : Q () ⟨hh, gg, dr, tk, os⟩) :
    wpAny M A (checkBuiltinCall "ValueError.__new__" ⟨.ref C :: us, kw⟩) Q E ⟨hh, gg, dr, tk, os⟩ := by
  have FF := F.excBase_ValueError
  have hB : (Value.ref C :: bm).contains (.type "ValueError") = true := by
    rw [List.contains_cons, PySem.HandSPX.refsVE_contains _ bm hm, FF.hasB]
    exact Bool.or_true _
  have hs := FF.noStar
  simp only [checkBuiltinCall, FF.newKind, FF.newSplit, FF.newRow]
  repeat (first
    | refine wpAny_loadPart_at hC ?_
    | (refine wpAny_isSubtype_exc hC ?_
       rw [hB])
    | refine wpAny_staticBase_exc hC ?_
    | refine wpAny_madeBy_exc hC ?_
    | simp only [bne_self_eq_false, Bool.false_eq_true, if_false]
    | wp_step)
  exact hq
theorem newK (hm : PySem.HandSPX.refsVE bm = true) (hC : hh.get? C = some (clsO nm qn C Ns bs bm hdct sn sub ab col dd k0 k1 k2 k3 k5)) (hz : us.length ≤ sizeLine)
    (hq : R (.ok (.ret (.ref (hh.objs.size + 1)))) ⟨(hh.push (PySem.W.kdv_tup us)).push (PySem.HandSPX.excO C hh.objs.size), gg, dr, tk, os⟩) :
    codeAny (model prog w) A (.builtin "ValueError.__new__" ⟨.ref C :: us, kw⟩) R ⟨hh, gg, dr, tk, os⟩ := by
  have FF := F.excBase_ValueError
  have he := FF.ends
  have hT := fun X => PySem.HandSPX.refsVE_contains X bm hm
  have c1 : (Value.ref C :: bm).contains (.type "ValueError") = true := by
    rw [List.contains_cons, hT, FF.hasB]
    exact Bool.or_true _
  have c2 : (Value.ref C :: bm).contains (.type "AttributeError") = false := by
    rw [List.contains_cons, hT, FF.noAttr]
    rfl
  have c3 : (Value.ref C :: bm).contains (.type "NameError") = false := by
    rw [List.contains_cons, hT, FF.noName]
    rfl
  refine codeAny_builtinAt FF.entry ?_
  unfold Builtin.«BaseException.__new__»
  refine PySem.wpAt_bind ?_
  show PySem.wpAt _ _ _ (stack >>= _) _ _ _
  refine PySem.wpAt_bind (PySem.wpAt_stack fun _ _ => PySem.wpAt_of_wpAny ?_)
  wp_walk
  refine PySem.wpAt_of_wpAny ?_
  rw [FF.owner]
  repeat (first
    | with_reducible refine wpAny_madeHere_exc FF.canon hC ?_
    | with_reducible refine wpAny_loadPart_at hC ?_
    | (with_reducible refine wpAny_isSubtype_exc hC ?_
       first | rw [c1] | rw [c2] | rw [c3])
    | wp_step)
  show R _ _
  rw [Heap.size_push]
  exact hq
theorem tcallK (hm : PySem.HandSPX.refsVE bm = true) {fI : Addr} {Q : Fin → Shared → Prop} (hC : hh.get? C = some (clsO nm qn C Ns bs bm hdct sn sub ab col dd k0 k1 k2 k3 k5))
    (hi : PySem.W.Looks (model prog w) hh (typeLookup (.ref C) "__init__") (some (.ref fI))) (hb : ∀ me, PySem.W.Looks (model prog w) hh (bindSpecial (.ref fI) me) (.ref fI, [me])) (hz : us.length ≤ sizeLine)
    (hq : codeAny (model prog w) A (.call (.ref fI) ⟨.ref (hh.objs.size + 1) :: us, kw⟩)
      (fun r s2 => match r with | .ok (.ret v) => v = .none ∧ Q (.done (.ret (.ref (hh.objs.size + 1)))) s2 | .ok _ => False | .error e => E e s2)
      ⟨(hh.push (PySem.W.kdv_tup us)).push (PySem.HandSPX.excO C hh.objs.size), gg, dr, tk, os⟩) :
    wpAny (model prog w) A (Builtin.«type.__call__» ⟨.ref C :: us, kw⟩) Q E ⟨hh, gg, dr, tk, os⟩ := by
  repeat (first
    | with_reducible refine wpAny_loadPart_at hC ?_
    | with_reducible refine wpAny_madeBy_exc hC ?_
    | wp_step)
  refine codeAny_call_builtin_code (Code.quiet_builtin _ F.excBase_ValueError.quiet) (chk_newK hm hC ?_)
  refine newK hm hC hz ?_
  show wpAny _ _ _ _ _ _
  have kp : ∀ b o, hh.get? b = some o → ((hh.push (PySem.W.kdv_tup us)).push (PySem.HandSPX.excO C hh.objs.size)).get? b = some o := fun b o q => Heap.get?_push_of_some _ (Heap.get?_push_of_some _ q)
  have hC1 := kp _ _ hC
  have hg : ((hh.push (PySem.W.kdv_tup us)).push (PySem.HandSPX.excO C hh.objs.size)).get? (hh.objs.size + 1) = some (PySem.HandSPX.excO C hh.objs.size) := by heap_get
  have hcC : (Value.ref C :: bm).contains (.ref C) = true := by simp
  have i1 := hi.keeps kp
  have b1 := (hb (.ref (hh.objs.size + 1))).keeps kp
  unfold isInstance
  repeat (first
    | with_reducible refine wpAny_loadPart_at hg ?_
    | (with_reducible refine wpAny_isSubtype_exc hC1 ?_
       rw [hcC])
    | wp_step)
  show wpAny _ _ (typeLookup (.ref C) _) _ _ _
  refine i1.at (wpAny_holding (wpAny_bind (b1.at (wpAny_bind (wpAny_call (codeAny_mono hq fun r s2 z => ?_))))))
  rcases r with e | (v | _ | _ | _) <;> first | exact z | exact z.elim | skip
  obtain ⟨rfl, z⟩ := z
  first
    | exact wpAny_pure (wpAny_pure z)
    | (wp_walk; exact z)
theorem chk_tK {Q : Unit → Shared → Prop} (hC : hh.get? C = some (clsO nm qn C Ns bs bm hdct sn sub ab col dd k0 k1 k2 k3 k5)) (hq : Q () ⟨hh, gg, dr, tk, os⟩) :
    wpAny M A (checkBuiltinCall "type.__call__" ⟨.ref C :: us, kw⟩) Q E ⟨hh, gg, dr, tk, os⟩ := by
  have f3 := PySem.tc_sub
  have hT : (⟨hh, gg, dr, tk, os⟩ : Shared).TypeIs (.ref C) "type" := ⟨_, hC, rfl⟩
  simp only [checkBuiltinCall, PySem.tc_kind, PySem.tc_split]
  repeat (any_goals (first
    | assumption
    | with_reducible refine wpAny_loadPart_at hC ?_
    | with_reducible refine wpAny_onRaise ?_
    | with_reducible refine wpAny_map ?_
    | wp_step))
theorem callK (hm : PySem.HandSPX.refsVE bm = true) {fI : Addr} (hC : hh.get? C = some (clsO nm qn C Ns bs bm hdct sn sub ab col dd k0 k1 k2 k3 k5))
    (hi : PySem.W.Looks (model prog w) hh (typeLookup (.ref C) "__init__") (some (.ref fI))) (hb : ∀ me, PySem.W.Looks (model prog w) hh (bindSpecial (.ref fI) me) (.ref fI, [me])) (hz : us.length ≤ sizeLine)
    (hq : codeAny (model prog w) (A.under (.builtin "type.__call__" ⟨.ref C :: us, kw⟩)) (.call (.ref fI) ⟨.ref (hh.objs.size + 1) :: us, kw⟩) (PySem.W.InitBack (hh.objs.size + 1) R)
      ⟨(hh.push (PySem.W.kdv_tup us)).push (PySem.HandSPX.excO C hh.objs.size), gg, dr, tk, os⟩) :
    codeAny (model prog w) A (.call (.ref C) ⟨us, kw⟩) R ⟨hh, gg, dr, tk, os⟩ := by
  have f1 := PySem.tc_lookup
  have f2 := PySem.tc_bind (.ref C)
  have hTy : (⟨hh, gg, dr, tk, os⟩ : Shared).TypeIs (.ref C) "type" := ⟨_, hC, rfl⟩
  refine codeAny_of_tree ?_
  show wpAny _ _ (callAny (.ref C) _) _ _ _
  repeat (any_goals (first
    | assumption
    | with_reducible refine wpAny_loadPart_at hC ?_
    | wp_step))
  refine ⟨rfl, ?_⟩
  refine codeAny_call_builtin_at (Code.quiet_builtin _ (by decide +kernel)) PySem.entry_typeCall (chk_tK hC (tcallK hm hC hi hb hz ?_))
  exact codeAny_mono hq fun r s2 z => by rcases r with e | (v | _ | _ | _) <;> exact z
end
end Er
end

/-! Er5 -/
section
set_option maxHeartbeats 4000000
set_option exponentiation.threshold 1000
namespace Er
open PySem PySem.Spec PyProof.Rows L2
/-- C(.., k = v, ..): a new error, then its own __init__ -/
def tMkE (C : Addr) (n m : Nat) (sp : Sp) (gV : List V → List V → List V) (t tk : TA) : TE := fun σ H Q => t σ H fun vs H1 => tk σ H1 fun zs H2 => vs.length = n ∧ zs.length = m ∧
  ∀ a, H2 a = none → sp (gV (.ref a :: vs) zs) (upd H2 a (exo a C none)) (fun v H3 => v = .non ∧ Q (.ref a) H3) (fun _ _ _ => False)
structure MkE (K : PySem.W.Frag) (C fI : Addr) : Prop where
  oex : OexC K C
  iC : PySem.W.findIn K (.ref C) "__init__" = some (some (.ref fI))
  tI : PySem.W.typeIn K (.ref fI) = some (.type "function")
section
variable {X : Cx} {k n : Nat} {fI C : Addr} {fd : FuncData} {ps ks : List Str} {sp : Sp} {x : Str} {p pos : Pos} {e : Expr} {es : List Expr} {kws : List Keyword} {t tk : TA} {g : List Value → List Value → List Value} {gV : List V → List V → List V}
theorem run_mkE {pins : List (Addr × Obj)} {σ : L2.St} {H : Hp} {s : Shared} {Q : VK} {us ws : List Value} {vs zs : List V} (M : MkE X.K C fI) (F1 : FnOk X.prog X.w X.K X.mg X.base CX0 k fI fd ps sp) (hr : Room (k + 1) X.A) (hb : KBn X.K fd ps (n + 1) ks g gV)
    (I : Inv X pins σ H s) (r : Vals vs us) (rz : Vals zs ws) (l1 : vs.length = n) (l2 : zs.length = ks.length) (hn1 : n ≤ 1000)
    (h : ∀ a, H a = none → sp (gV (.ref a :: vs) zs) (upd H a (exo a C none)) (fun v H3 => v = .non ∧ Q (.ref a) H3) (fun _ _ _ => False)) :
    wpAny (model X.prog X.w) X.A (call (.ref C) us (ks.zip ws)) (EP X pins σ Q) X.xe s := by
  obtain ⟨nm, q, N, bs, bm, sn, sub, ab, col, dd, k0, k1, k2, k3, k5, hC, hbm⟩ := M.oex.cls
  obtain ⟨hp, gs, dr, tk, os⟩ := s
  have hsz : hp.objs.size ≤ hp.objs.size + 1 := Nat.le_succ _
  have hn : H (hp.objs.size + 1) = none := I.hok.fresh hsz
  have hq := h (hp.objs.size + 1) hn
  have kk : ∀ b o, hp.get? b = some o → ((hp.push (PySem.W.kdv_tup us)).push (PySem.HandSPX.excO C hp.objs.size)).get? b = some o := fun b o e => Heap.get?_push_of_some _ (Heap.get?_push_of_some _ e)
  have hg : ((hp.push (PySem.W.kdv_tup us)).push (PySem.HandSPX.excO C hp.objs.size)).get? (hp.objs.size + 1) = some (PySem.HandSPX.excO C hp.objs.size) := by heap_get
  have I2 : Inv X pins σ (upd H (hp.objs.size + 1) (exo (hp.objs.size + 1) C none)) ⟨(hp.push (PySem.W.kdv_tup us)).push (PySem.HandSPX.excO C hp.objs.size), gs, dr, tk, os⟩ :=
    I.laid (t' := tk) (a := hp.objs.size + 1) (o := exo (hp.objs.size + 1) C none) kk hsz (exo_ok hg)
  have r1 : Vals (V.ref (hp.objs.size + 1) :: vs) (Value.ref (hp.objs.size + 1) :: us) := .cons rfl r
  have r2 := hb.rel r1 rz
  have e1 : (Value.ref (hp.objs.size + 1) :: us).length = n + 1 := r1.length.symm.trans (congrArg Nat.succ l1)
  have e2 : ws.length = ks.length := rz.length.symm.trans l2
  have hus : us.length ≤ sizeLine := by
    rw [← r.length, l1, sizeLine_eq]
    omega
  refine wpAny_call (callK hbm (I.kIn _ _ hC) (PySem.W.looks_findIn I.kIn M.iC) (fun me => PySem.W.bind_fn I.kIn me M.tI) hus
    (codeAny_mono (F1.run _ X.stack _ _ ⟨Value.ref (hp.objs.size + 1) :: us, ks.zip ws⟩ (g (Value.ref (hp.objs.size + 1) :: us) ws) _ _ (fun _ _ _ => False) (hr.make C us (ks.zip ws)) (I2.env0.make C us (ks.zip ws)) (hb.to _ (Value.ref (hp.objs.size + 1) :: us) ws I2.kIn e1 e2) r2 hq) fun r s2 hq2 => ?_))
  cases r with
  | error er => exact False.elim hq2
  | ok fl =>
    cases fl with
    | ret u =>
      obtain ⟨v, H3, I3, rv, ev, q3⟩ := I2.after hq2
      subst ev
      exact ⟨rv, ⟨V.ref (hp.objs.size + 1), H3, I3, rfl, q3⟩⟩
    | next => exact False.elim hq2
    | brk => exact False.elim hq2
    | cont => exact False.elim hq2
theorem pe_mkE (M : MkE X.K C fI) (F1 : FnOk X.prog X.w X.K X.mg X.base CX0 k fI fd ps sp) (hr : Room (k + 1) X.A) (hg : Gl X x) (hm : X.mg x = some (.ref C)) (hb : KBn X.K fd ps (n + 1) [] g gV) (hn1 : n ≤ 1000) (ha : PA X (e :: es) t)
    (hdb : (x == ("__debug__" : Str)) = false := by decide) (he : starEach (e :: es) X.env = (false, eval e X.env) :: starEach es X.env := by rfl) (hpl : (backTo pos (starEach es X.env)).any (·.1) = false := by rfl) :
    PE X (.Call (.Name x p) (e :: es) [] pos) (tMkE C n 0 sp gV t tNil) := by
  refine ⟨fun pins s σ H Q I h => ?_⟩
  refine wpAny_Call_Name_kw (ld_glob I hg hm ?_ hdb)
  refine PySem.W.callWith_K (h₀ := X.base) I.ok.mod.kin M.oex.kC (thn (ha.run pos pins s σ H _ I h) fun us s1 ⟨vs, H1, I1, r1, l1, l2, q1⟩ => ⟨I1.kIn, ?_⟩) he hpl
  exact run_mkE (ks := []) (ws := []) M F1 hr hb I1 r1 .nil l1 rfl hn1 q1
theorem pe_mkE0 (M : MkE X.K C fI) (F1 : FnOk X.prog X.w X.K X.mg X.base CX0 k fI fd ps sp) (hr : Room (k + 1) X.A) (hg : Gl X x) (hm : X.mg x = some (.ref C)) (hb : KBn X.K fd ps 1 [] g gV)
    (hdb : (x == ("__debug__" : Str)) = false := by decide) : PE X (.Call (.Name x p) [] [] pos) (tMkE C 0 0 sp gV tNil tNil) := by
  refine ⟨fun pins s σ H Q I h => ?_⟩
  refine wpAny_Call_Name_kw (ld_glob I hg hm ?_ hdb)
  exact PySem.W.callWith_K0 I.kIn M.oex.kC (run_mkE (us := []) (vs := []) (ks := []) (ws := []) M F1 hr hb I .nil .nil rfl rfl (Nat.zero_le _) h.2.2)
theorem pe_mkEk (M : MkE X.K C fI) (F1 : FnOk X.prog X.w X.K X.mg X.base CX0 k fI fd ps sp) (hr : Room (k + 1) X.A) (hg : Gl X x) (hm : X.mg x = some (.ref C)) (hb : KBn X.K fd ps 1 ks g gV) (hkw : PK X kws tk)
    (hall : (backToKw pos (keywordEach kws X.env)).all (·.1.isSome) = true := by rfl) (hks : (backToKw pos (keywordEach kws X.env)).filterMap (·.1) = ks := by rfl) (hdb : (x == ("__debug__" : Str)) = false := by decide)
    (hpl : ((backTo pos (starEach [] X.env)).any (·.1) || (backToKw pos (keywordEach kws X.env)).any (·.1.isNone)) = false := by rfl) :
    PE X (.Call (.Name x p) [] kws pos) (tMkE C 0 ks.length sp gV tNil tk) := by
  refine ⟨fun pins s σ H Q I h => ?_⟩
  refine wpAny_Call_Name_kw (ld_glob I hg hm ?_ hdb)
  refine PySem.W.callWith_KW0 (h₀ := X.base) I.ok.mod.kin M.oex.kC hall ?_ hpl
  refine thn (hkw.run pos pins s σ H _ I h) fun ws s2 ⟨zs, H2, I2, rz, l1, l2, q2⟩ => ⟨I2.kIn, ?_⟩
  rw [hks]
  exact run_mkE (us := []) (vs := []) M F1 hr hb I2 .nil rz rfl l2 (Nat.zero_le _) q2
end
end Er
end

/-! Er6 -/
section
set_option maxHeartbeats 4000000
set_option exponentiation.threshold 1000
namespace Er
open PySem PySem.Spec PyProof.Rows L2
/-- e.f, e an error that stands in H -/
def tGetE (K : PySem.W.Frag) (f : Str) (te : TE) : TE := fun σ H Q => te σ H fun x H1 => ∃ (a C d : Addr) (fs : List (Str × V)) (v : V), x = .ref a ∧ H1 a = some (exo a C (some d)) ∧ H1 d = some (exd d fs) ∧ fs.lookup f = some v ∧ XfC K C ∧ PySem.W.findIn K (.ref C) f = some none ∧ Q v H1
section
variable {X : Cx} {e : Expr} {te : TE} {pos : Pos} {f : Str}
theorem pe_getE (he : PE X e te) (hb : attributeBase e f X.env (eval e X.env) = eval e X.env := by rfl) : PE X (.Attribute e f pos) (tGetE X.K f te) := by
  refine ⟨fun pins s σ H Q I h => ?_⟩
  refine attr_of hb (thn (he.run pins s σ H _ I h) fun u s1 ⟨x, H1, I1, rx, a, C, d, fs, v, ex, ea, ed, l, T, hno, q⟩ => ?_)
  subst ex
  obtain rfl : u = Value.ref a := rx
  obtain ⟨t0, ho⟩ := exo_at I1.hok ea
  obtain ⟨mA, hns, hr⟩ := exd_at I1.hok ed
  obtain ⟨od, hod, hl⟩ := lookIn_ns hns
  obtain ⟨u, hu, ru⟩ := RelO.some_of (v := v) (o := mA f) (by rw [← l]; exact hr f)
  have J : PySem.W.InstAt s1.heap a _ C (some od) := ⟨ho, rfl, rfl, hod⟩
  exact HandSPX.exc_get I1.kIn J T.ga T.gg T.exC (PySem.W.findObj_own T.hdC hno rfl (by rw [hl, hu])) (handed_of ru) ⟨v, H1, I1.tok _, ru, q⟩
end
end Er
end

/-! Er7 -/
section
set_option maxHeartbeats 4000000
set_option exponentiation.threshold 1000
namespace Er
open PySem PySem.Spec PyProof.Rows L2
/-- isinstance(e, c), e an error that stands in H -/
def rIsX (K : PySem.W.Frag) : List V → Hp → VK → Prop := fun xs H Q => ∃ (a C : Addr) (d : Option Addr) (c : V) (cv : Value) (b : Bool), xs = [.ref a, c] ∧ ClsV c cv ∧ H a = some (exo a C d) ∧ (∀ dx, d = some dx → ∃ fs, H dx = some (exd dx fs)) ∧ ExcC K C ∧ PySem.W.kitOne K (.ref C) cv = some b ∧ Q (.bl b) H
theorem call_isX {X : Cx} : CallR X (.builtin "isinstance") (rIsX X.K) := by
  intro pins s σ H xs us Q I r h
  obtain ⟨a, C, d, c, cv, b, rfl, hcv, ea, hd, T, e, q⟩ := h
  obtain ⟨u1, u2, rfl, r1, r2⟩ := vals2 r
  have e2 := hcv.eq r2
  subst e2
  obtain rfl : u1 = Value.ref a := r1
  obtain ⟨t0, ho⟩ := exo_at I.hok ea
  have hcl : (PySem.W.clsIn X.K C).isSome = true := by
    obtain ⟨cd, hc, _⟩ := PySem.W.any_some T.hd
    rw [hc]
    rfl
  have J : ∃ od, PySem.W.InstAt s.heap a ({ cls := .ref C, dict := d, data := .fields #[.ref t0, .none, .none, .none, .bool false, .none] } : Obj) C od := by
    cases d with
    | none => exact ⟨none, ho, rfl, rfl, trivial⟩
    | some dx =>
      obtain ⟨fs, ed⟩ := hd dx rfl
      obtain ⟨mA, hns, hr⟩ := exd_at I.hok ed
      obtain ⟨od, hod, hl⟩ := lookIn_ns hns
      exact ⟨some od, ho, rfl, rfl, hod⟩
  obtain ⟨od, J⟩ := J
  exact PySem.W.kia_one (PySem.W.kitx_exc hcl T.hg T.hk T.hs T.ha T.hn T.ht T.hm) I.kIn J e (fun z => nomatch z) fun tk => ⟨.bl b, H, I.kept (t' := tk) fun _ _ z => z, rfl, q⟩
end Er
end

/-! Er8 -/
section
set_option maxHeartbeats 4000000
set_option exponentiation.threshold 1000
namespace Er
open PySem PySem.Spec PyProof.Rows L2
/-! ### what a value shows as data -/
def kD : Key → PyData
  | .inl i => .int i
  | .inr x => .str x
mutual
inductive Sh (H : Hp) : V → PyData → Prop
  | non : Sh H .non .none
  | bl (b : Bool) : Sh H (.bl b) (.bool b)
  | int (i : Int) : Sh H (.int i) (.int i)
  | str (x : Str) : Sh H (.str x) (.str x)
  | lst {a : Addr} {xs : List V} {ds : List PyData} (e : H a = some (.lst xs)) (r : Shs H xs ds) : Sh H (.ref a) (.list ds)
  | tup {a : Addr} {xs : List V} {ds : List PyData} (e : H a = some (.tup xs)) (r : Shs H xs ds) : Sh H (.ref a) (.tuple ds)
  | dct {a : Addr} {k : Key} {v : V} {d : PyData} (e : H a = some (.dK [(k, v)])) (r : Sh H v d) : Sh H (.ref a) (.dict [(kD k, d)])
inductive Shs (H : Hp) : List V → List PyData → Prop
  | nil : Shs H [] []
  | cons {v : V} {d : PyData} {vs : List V} {ds : List PyData} (r : Sh H v d) (t : Shs H vs ds) : Shs H (v :: vs) (d :: ds)
end
section
variable {P : Program} {w : World} {H : Hp} {h : Heap}
theorem reads_key {k : Key} {v : Value} (e : keyIs k v = true) : Reads h v (kD k) [] := by
  rcases keyIs_shape e with ⟨i, t, rfl, rfl⟩ | ⟨x, t, rfl, rfl⟩
  · exact .int i t
  · exact .str x t
mutual
theorem Sh.reads (ok : HOk P w H h) (hs : H sysModules = none) : ∀ {v : V} {d : PyData} {u : Value}, Sh H v d → RelV v u → ∃ as, Reads h u d as ∧ sysModules ∉ as
  | _, _, _, .non, r => ⟨[], by cases (show _ = Value.none from r); exact .none, by simp⟩
  | _, _, _, .bl b, r => ⟨[], by cases (show _ = Value.bool b from r); exact .bool b, by simp⟩
  | _, _, _, .int i, r => ⟨[], by obtain ⟨t, e⟩ := (show ∃ t, _ = Value.int i t from r); cases e; exact .int i t, by simp⟩
  | _, _, _, .str x, r => ⟨[], by obtain ⟨t, e⟩ := (show ∃ t, _ = Value.str x t from r); cases e; exact .str x t, by simp⟩
  | _, _, _, .lst (a := a) (xs := xs) e t, r => by
    cases (show _ = Value.ref a from r)
    obtain ⟨_, its, n, rv, ho⟩ := (show ObjOk P w H h a (.lst xs) from ok a _ e)
    obtain ⟨as, ra, na⟩ := Shs.reads ok hs t rv
    refine ⟨a :: as, .list ho rfl rfl ra, fun hm => ?_⟩
    rcases List.mem_cons.mp hm with z | z
    · rw [← z, hs] at e; cases e
    · exact na z
  | _, _, _, .tup (a := a) (xs := xs) e t, r => by
    cases (show _ = Value.ref a from r)
    obtain ⟨_, its, rv, o, ho, hc, n, hd⟩ := (show ObjOk P w H h a (.tup xs) from ok a _ e)
    obtain ⟨as, ra, na⟩ := Shs.reads ok hs t rv
    exact ⟨as, .tuple ho hc hd ra, na⟩
  | _, _, _, .dct (a := a) (k := k) (v := v) (d := d) e t, r => by
    cases (show _ = Value.ref a from r)
    obtain ⟨_, _, vs, kv, o, es, ep, ho, hx, hd, hkeys, hpairs, _⟩ := (show ObjOk P w H h a (.dK [(k, v)]) from ok a _ e)
    cases kv with
    | cons kr kt =>
      cases kt
      rename_i q
      obtain ⟨q1, q2⟩ := q
      obtain ⟨ek, ev⟩ := kr
      have hp : ∃ en, es.toList = [en] ∧ keyIs k en.key = true ∧ RelV v en.val := by
        have gen : ∀ {l : List DictEntry} {m : List (Key × Value)}, Pairs (mixKind P w) l m → ∀ q, m = [q] → k = q.1 → RelV v q.2 → ∃ en, l = [en] ∧ keyIs k en.key = true ∧ RelV v en.val := by
          intro l m hm q e1 e2 e3
          cases hm with
          | nil => cases e1
          | cons p1 p2 p3 =>
            cases e1
            cases p3
            exact ⟨_, rfl, by rw [e2]; exact p1, by rw [p2]; exact e3⟩
        exact gen hpairs _ rfl ek ev
      obtain ⟨en, le, hk, hv⟩ := hp
      obtain ⟨as, ra, na⟩ := Sh.reads ok hs t (u := en.val) hv
      refine ⟨a :: ([] ++ []) ++ (as ++ []), .dict (kvs := [(kD k, d)]) ho hx.1 hd (by rw [le]; exact .cons (reads_key hk) .nil) (by rw [le]; exact .cons ra .nil), fun hm => ?_⟩
      rcases List.mem_cons.mp hm with z | z
      · rw [← z, hs] at e; cases e
      · exact na (by simpa using z)
theorem Shs.reads (ok : HOk P w H h) (hs : H sysModules = none) : ∀ {xs : List V} {ds : List PyData} {us : List Value}, Shs H xs ds → Vals xs us → ∃ as, ReadsAll h us ds as ∧ sysModules ∉ as
  | _, _, _, .nil, .nil => ⟨[], .nil, by simp⟩
  | _, _, _, .cons t ts, .cons r rs => by
    obtain ⟨as, ra, na⟩ := Sh.reads ok hs t r
    obtain ⟨bs, rb, nb⟩ := Shs.reads ok hs ts rs
    exact ⟨as ++ bs, .cons ra rb, fun hm => (List.mem_append.mp hm).elim na nb⟩
end
end
end Er
end

/-! Er9 -/
section
set_option maxHeartbeats 4000000
set_option exponentiation.threshold 1000
namespace Er
open PySem PySem.Spec PyProof.Rows L2
/-- repr(x), x a list or the like that stands in H -/
def rRepr : List V → Hp → VK → Prop := fun xs H Q => ∃ (a : Addr) (d : PyData), xs = [.ref a] ∧ Sh H (.ref a) d ∧ d.showable = true ∧ d.shown.length ≤ sizeLine ∧ d.depth ≤ 20 ∧ Q (.str d.shown) H
section
variable {X : Cx}
theorem call_reprE {k : Nat} (hr : Room k X.A) (hg : X.A.guards = some []) (hm : ∃ o, X.K.lookup sysModules = some o) : CallR X (.builtin "repr") rRepr := by
  intro pins s σ H xs us Q I r h
  obtain ⟨a, d, rfl, sh, hs, hz, hd, q⟩ := h
  obtain ⟨u, rfl, ru⟩ := vals1 r
  obtain rfl : u = Value.ref a := ru
  obtain ⟨o, ho⟩ := hm
  obtain ⟨as, rd, na⟩ := Sh.reads I.hok (I.bs _ _ (I.mod.kin _ _ ho)).2 sh (show RelV (.ref a) (Value.ref a) from rfl)
  refine repr_of_reads' rd hs (fun _ => na) hg (by have := hr.un; omega) (fun _ _ e => e) (fun h2 u2 tk k2 => ?_) hz
  exact ⟨.str d.shown, H, I.kept (t' := tk) k2, ⟨_, rfl⟩, q⟩
end
/-! ### promises that want to know that no repr runs -/
structure FnG (P : Program) (w : World) (K : PySem.W.Frag) (mg : Str → Option Value) (base : Heap) (k : Nat) (f : Addr) (fd : FuncData) (ps : List Str) (sp : Sp) : Prop where
  len : ∀ vs H Q E, sp vs H Q E → vs.length = ps.length
  run : ∀ (A : Around) (outer : List Env) (s : Shared) (H : Hp) (args : Args) (us : List Value) (vs : List V) (Q : VK) (E : XK), Room k A → A.guards = some [] → Env0 P w K mg base A outer s H → BindsTo s fd args (ps.zip us) → Vals vs us → sp vs H Q E →
    codeAny (model P w) A (.call (.ref f) args) (CR CX0 outer P w H s Q E) s
section
variable {P : Program} {w : World} {K : PySem.W.Frag} {mg : Str → Option Value} {base : Heap} {x qual : Str} {st : Stmt} {f : Addr} {fd : FuncData} {N ps : List Str} {k : Nat} {sp : Sp}
theorem Fun_okG (F : Fun K x qual st f fd) (S : FnScope N ps (defScope st)) (len : ∀ vs H Q E, sp vs H Q E → vs.length = ps.length)
    (hbody : ∀ (cdv : Value) (A : Around) (outer : List Env) (s : Shared) (H : Hp) (vs : List V) (Q : VK) (E : XK), Room k (A.deeper (envOfC qual (defScope st) s.heap.objs.size f cdv)) → A.guards = some [] → sp vs H Q E →
      ∃ t, PSs (cxOf CX0 P w K mg base N qual (defScope st) f cdv A outer s H E).nox (defBody st) t ∧ t { nx := fun _ H2 => Q .non H2, rt := Q } (L2.start N vs) H) : FnG P w K mg base (k + 1) f fd ps sp := by
  refine ⟨len, fun A outer s H args us vs Q E hr hg e0 hb r hsp => ?_⟩
  obtain ⟨oc, od, kV, doc, pm, an, cdv, ct, osl, rfl, lk, hcd⟩ := F.ex
  have kp := fun b o e => (e0.bs b o e).1
  have KX : K.In s.heap := e0.mod.kin.keeps kp
  have lim : s.heap.NoLimit := e0.mod.nolimit.keeps kp
  have hl := len _ _ _ _ hsp
  refine codeAny_call_function hr.depth (KX _ _ lk) rfl S.co S.gen rfl (PySem.W.codeRec_of KX hcd) (hb _ _ _ _ ?_)
  refine wpAny_newFunctionEnv_cells S.kind (fun ⟨n, v⟩ hy => (S.par n (List.of_mem_zip hy).1).imp id fun q => ⟨q, PySem.W.cellsFrom_some _ _ _ (.inl q)⟩) fun env he s1 y => ?_
  subst he
  refine ⟨lim.keeps y.toInCall.keep, codeAny_func ?_⟩
  obtain ⟨t, ht, hq⟩ := hbody cdv A outer s H vs Q E (hr.deeper _) hg hsp
  have I := inv_start (CX := CX0) (E := E) (qual := qual) (f := f) (cd := cdv) S hr.hd e0 hl r y
  refine wpAny_mono (ht.nox.run [] s1 (L2.start N vs) H _ I hq) (fun fl s2 hs => ?_) fun e s2 hs => hs
  cases fl with
  | ret u =>
    obtain ⟨v, _, H2, J, rv, q⟩ := hs
    exact ⟨v, H2, J.os, J.bare, J.base, J.hok, rv, q⟩
  | next =>
    obtain ⟨_, H2, J, q⟩ := hs
    exact ⟨.non, H2, J.os, J.bare, J.base, J.hok, rfl, q⟩
  | brk => exact hs.elim fun _ z => z.elim fun _ z => False.elim z.2
  | cont => exact hs.elim fun _ z => z.elim fun _ z => False.elim z.2
end
section
variable {X : Cx} {k : Nat} {f : Addr} {fd : FuncData} {ps : List Str} {sp : Sp} {x : Str} {p pos : Pos} {e : Expr} {es : List Expr} {t : TA}
theorem pe_callG (F : FnG X.prog X.w X.K X.mg X.base k f fd ps sp) (hr : Room k X.A) (hgd : X.A.guards = some []) (hg : Gl X x) (hm : X.mg x = some (.ref f)) (hk : PySem.W.keepIn X.K (.ref f) = true) (hb : Binds X.K fd ps [])
    (ha : PA X (e :: es) t) (hdb : (x == ("__debug__" : Str)) = false := by decide) (he : starEach (e :: es) X.env = (false, eval e X.env) :: starEach es X.env := by rfl) (hpl : (backTo pos (starEach es X.env)).any (·.1) = false := by rfl) :
    PE X (.Call (.Name x p) (e :: es) [] pos) (fun σ H Q => t σ H fun vs H1 => sp vs H1 Q fun _ _ _ => False) := by
  refine ⟨fun pins s σ H Q I h => wpAny_Call_Name_kw (ld_glob I hg hm ?_ hdb)⟩
  refine PySem.W.callWith_K (h₀ := X.base) I.ok.mod.kin hk (thn (ha.run pos pins s σ H _ I h) fun us s1 ⟨vs, H1, I1, r, q⟩ => ⟨I1.kIn, ?_⟩) he hpl
  have hl : us.length = ps.length := by
    rw [← r.length]
    exact F.len _ _ _ _ q
  have hb2 := hb s1 us I1.kIn (by rw [List.append_nil]; exact hl)
  rw [List.append_nil] at hb2
  refine wpAny_call (codeAny_mono (F.run X.A X.stack s1 H1 ⟨us, []⟩ us vs Q _ hr hgd I1.env0 hb2 r q) fun r s2 hq => ?_)
  cases r with
  | error e => exact False.elim hq
  | ok fl =>
    cases fl with
    | ret u => exact I1.after hq
    | next => exact False.elim hq
    | brk => exact False.elim hq
    | cont => exact False.elim hq
end
end Er
end

/-! Er10 -/
section
set_option maxHeartbeats 4000000
set_option exponentiation.threshold 1000
namespace Er
open PySem PySem.Spec PyProof.Rows L2
section
variable {X : Cx}
theorem abs_of_bool {prog : Program} {w : World} {A : Around} {E : Value → Shared → Prop} {s : Shared} {b : Bool} {Q : Value → Shared → Prop} (h : ∀ u tk, Q (.int (if b then 1 else 0) u) { s with toks := tk }) :
    wpAny (model prog w) A (call (.builtin "abs") [.bool b]) Q E s := by
  refine Calls.call_function_entry kind_abs plain_abs entry_abs (args_abs _) ?_
  unfold Builtin.«abs»
  refine wpAny_bind (m := oneArg "abs" _) (wpAny_pure ?_)
  refine wpAny_bind (m := callSpecial? (.bool b) (Str.ofString "__abs__")) (wpAny_callSpecial?_slot (name := Str.ofString "__abs__") (PySem.typeIs_bool s b) F.slot_bool_abs ?_)
  refine wpAny_call_entry F.slot_bool_abs (PySem.typeIs_bool s b) entry_int_abs ?_ (args_int_abs _)
  cases b
  · wp_walk
    exact ⟨_, rfl, wpAny_pure ⟨_, rfl, h _ _⟩⟩
  · wp_walk
    exact ⟨_, rfl, wpAny_pure ⟨_, rfl, h _ _⟩⟩
theorem call_absB : CallR X (.builtin "abs") (fun xs H Q => ∃ b : Bool, xs = [.bl b] ∧ Q (.int (if b then 1 else 0)) H) := by
  intro pins s σ H xs us Q I r h
  obtain ⟨b, rfl, q⟩ := h
  obtain ⟨u, rfl, ru⟩ := vals1 r
  cases (show u = Value.bool b from ru)
  exact abs_of_bool fun u tk => ⟨.int (if b then 1 else 0), H, I.tok _, ⟨_, rfl⟩, q⟩
theorem call_strB : CallR X (.type "str") (fun xs H Q => ∃ b : Bool, xs = [.bl b] ∧ Q (.str (if b then "True" else "False")) H) := by
  intro pins s σ H xs us Q I r h
  obtain ⟨b, rfl, q⟩ := h
  obtain ⟨u, rfl, ru⟩ := vals1 r
  cases (show u = Value.bool b from ru)
  exact PySem.P.str_of_bool ⟨.str (if b then "True" else "False"), H, I.tok _, ⟨_, rfl⟩, q⟩
end
end Er
end

/-! Er11 -/
section
set_option maxHeartbeats 4000000
set_option exponentiation.threshold 1000
namespace Er
open PySem PySem.Spec PyProof.Rows L2
section
variable {X : Cx}
theorem call_absV : CallR X (.builtin "abs") (fun xs H Q => (∃ i : Int, xs = [.int i] ∧ Q (.int (if i < 0 then -i else i)) H) ∨ ∃ b : Bool, xs = [.bl b] ∧ Q (.int (if b then 1 else 0)) H) := by
  intro pins s σ H xs us Q I r h
  rcases h with h | h
  · exact call_abs pins s σ H xs us Q I r h
  · exact call_absB pins s σ H xs us Q I r h
theorem call_strV : CallR X (.type "str") (fun xs H Q => (∃ i : Int, xs = [.int i] ∧ i.natAbs.log2 < 1920 ∧ Q (.str (toString i)) H) ∨ ∃ b : Bool, xs = [.bl b] ∧ Q (.str (if b then "True" else "False")) H) := by
  intro pins s σ H xs us Q I r h
  rcases h with h | h
  · exact call_str_int pins s σ H xs us Q I r h
  · exact call_strB pins s σ H xs us Q I r h
end
/-! ### the values that the law passes -/
inductive Va (H : Hp) : V → PyData → Prop
  | non : Va H .non .none
  | bl (b : Bool) : Va H (.bl b) (.bool b)
  | int (n : Int) (h : n.natAbs < 10 ^ 50) : Va H (.int n) (.int n)
  | str (x : Str) (h : x.length ≤ 10) (h2 : (reprText x).length ≤ 100) : Va H (.str x) (.str x)
  | lst {a : Addr} {n : Int} (e : H a = some (.lst [.int n])) (h : n.natAbs < 10 ^ 50) : Va H (.ref a) (.list [.int n])
  | tup {a : Addr} (e : H a = some (.tup [.int 1, .str "one.a"])) : Va H (.ref a) (.tuple [.int 1, .str "one.a"])
  | dct {a b : Addr} (e : H a = some (.dK [(.inr "one.b", .ref b)])) (e2 : H b = some (.lst [.int 1])) : Va H (.ref a) (.dict [(.str "one.b", .list [.int 1])])
theorem Va.mono {H H2 : Hp} {v : V} {d : PyData} (s : Same H H2) (x : Va H v d) : Va H2 v d := by
  cases x with
  | non => exact .non
  | bl b => exact .bl b
  | int n h => exact .int n h
  | str x h h2 => exact .str x h h2
  | lst e h => exact .lst (s _ _ e) h
  | tup e => exact .tup (s _ _ e)
  | dct e e2 => exact .dct (s _ _ e) (s _ _ e2)
theorem Va.sh {H : Hp} {v : V} {d : PyData} (x : Va H v d) : Sh H v d := by
  cases x with
  | non => exact .non
  | bl b => exact .bl b
  | int n h => exact .int n
  | str x h h2 => exact .str x
  | lst e h => exact .lst e (.cons (.int _) .nil)
  | tup e => exact .tup e (.cons (.int 1) (.cons (.str _) .nil))
  | dct e e2 => exact .dct (k := .inr "one.b") e (.lst e2 (.cons (.int 1) .nil))
def spShown : Sp := fun vs H Q _ => ∃ (v : V) (d : PyData), vs = [v] ∧ Va H v d ∧ ∀ z : Str, z.length ≤ 1000 → Q (.str z) H
structure TxtB (mg : Str → Option Value) : Prop where
  isi : mg "isinstance" = none
  str : mg "str" = none
  int : mg "int" = none
  abs : mg "abs" = none
end Er
end

/-! Er12 -/
section
set_option maxHeartbeats 4000000
set_option exponentiation.threshold 1000
/-! What the head tells of the text's errors and defs. -/
namespace Er
open PySem PySem.Spec PyProof.Rows L2 He
/-- the own __init__ of the error class x, with the cell __class__ -/
structure DefS where
  cls : Str
  params : Arguments
  body : List Stmt
  scope : Scope
def DefS.qual (d : DefS) : Str := d.cls ++ ".__init__"
abbrev FnS : Type := Option (Str × Str × Arguments × FuncBody × Scope × Addr × List Str × Addr)
def iAd (K : PySem.W.Frag) (x : Str) : Addr := ma K (ga K x) "__init__"
def fnS (K : PySem.W.Frag) (x : Str) : FnS := match K.lookup (iAd K x) with
  | some ⟨_, _, .func fd, _⟩ => some (fd.name, fd.qualname, fd.params, fd.body, fd.scope, fd.globals, fd.closure.map (·.1), fd.builtins)
  | _ => none
def DefS.val (d : DefS) : FnS := some ("__init__", d.qual, d.params, .stmts d.body, d.scope, mainGlobals, ["__class__"], builtinsNs)
def celB (K : PySem.W.Frag) (cc D : Addr) : Bool := match K.lookup cc with
  | some ⟨_, _, .cell (some (.ref E)), _⟩ => E == D
  | _ => false
def filB (K : PySem.W.Frag) (c : Addr) (file : Str) : Bool := match K.lookup c with
  | some ⟨_, _, .fields va, _⟩ => (match (va[2]? : Option Value) with
    | some (.str f _) => file == f
    | _ => false)
  | _ => false
def supB (K : PySem.W.Frag) (file : Str) (d : DefS) : Bool := match K.lookup (iAd K d.cls) with
  | some ⟨_, _, .func fd, _⟩ => (match fd.defaults, fd.code, fd.closure with
    | .none, .ref cda, [(_, cc)] => PySem.W.codeIn K (.ref cda) d.qual && (celB K cc (ga K d.cls) && filB K cda file)
    | _, _, _ => false)
  | _ => false
theorem celB_ok {K : PySem.W.Frag} {cc D : Addr} (h : celB K cc D = true) : ∃ cl cld csl, K.lookup cc = some ⟨cl, cld, .cell (some (.ref D)), csl⟩ := by
  unfold celB at h
  split at h
  · rename_i e
    have z := beq_iff_eq.mp h
    subst z
    exact ⟨_, _, _, e⟩
  · cases h
theorem filB_ok {K : PySem.W.Frag} {c : Addr} {file : Str} (h : filB K c file = true) : ∃ ccl cdd va ccs f tf, K.lookup c = some ⟨ccl, cdd, .fields va, ccs⟩ ∧ va[2]? = some (.str f tf) ∧ (file == f) = true := by
  unfold filB at h
  split at h
  · rename_i va _ e
    split at h
    · rename_i e2
      exact ⟨_, _, va, _, _, _, e, e2, h⟩
    · cases h
  · cases h
/-- facts of the text that every such def shares -/
structure Shared0 (P : Program) (K : PySem.W.Frag) : Prop where
  noSup : PySem.W.nsIn K mainGlobals "super" = some none
  noTop : (P.main.scope.names.lookup ("super" : Str)).isSome = false
  noThird : PySem.W.nsIn K cStatics "thirdparty.any" = some none
theorem sfun_of {P : Program} {K : PySem.W.Frag} {d : DefS} {st : Stmt} (e : fnS K d.cls = d.val) (h : supB K P.main.file d = true) (hc : ∃ cd, PySem.W.clsIn K (ga K d.cls) = some cd) (S : Shared0 P K)
    (e1 : defArgs st = d.params) (e2 : defBody st = d.body) (e3 : defScope st = d.scope) : ∃ fd, SFun P K "__init__" d.qual st (iAd K d.cls) (ga K d.cls) fd := by
  unfold fnS at e
  unfold supB at h
  cases q : K.lookup (iAd K d.cls) with
  | none =>
    rw [q] at e
    cases e
  | some o =>
    obtain ⟨oc, od, dt, osl⟩ := o
    rw [q] at e h
    cases dt with
    | func fd =>
      obtain ⟨n1, n2, n3, n4, n5, n6, n7, n8, n9, n10, n11, n12, n13, n14, n15⟩ := fd
      have e4 : (some (n1, n2, n3, n4, n5, n6, n7.map (·.1), n15) : FnS) = some (("__init__" : Str), d.qual, d.params, FuncBody.stmts d.body, d.scope, mainGlobals, [("__class__" : Str)], builtinsNs) := e
      simp only [Option.some.injEq, Prod.mk.injEq] at e4
      obtain ⟨h1, h2, h3, h4, h5, h6, h7, h8⟩ := e4
      subst h1 h2 h3 h4 h5 h6 h8
      dsimp only at h
      split at h
      · rename_i cda y cc
        obtain ⟨k1, k2⟩ := ba h
        obtain ⟨k3, k4⟩ := ba k2
        have h9 : [y] = [("__class__" : Str)] := h7
        injection h9 with h10
        subst h10
        refine ⟨_, ⟨⟨oc, od, n9, n10, n11, n12, cda, n14, cc, osl, rfl, ?_, k1, celB_ok k3, filB_ok k4⟩, hc, S.noSup, S.noTop, S.noThird⟩⟩
        rw [e1, e2, e3]
        exact q
      · cases h
    | _ => cases e
end Er
end

/-! Er13 -/
section
set_option maxHeartbeats 4000000
set_option exponentiation.threshold 1000
namespace Er
open PySem PySem.Spec PyProof.Rows L2 He
def oexB (K : PySem.W.Frag) (C : Addr) : Bool := match K.lookup C with
  | some ⟨.type t, _, .cls cd, sl⟩ => (match cd.mro, sl.toList with
    | .ref E :: bm, [_, _, _, _, some (.builtin n), _] => t == "type" && (E == C && (n == "ValueError.__new__" && (!cd.hasDel && (cd.hasDict && PySem.HandSPX.refsVE bm))))
    | _, _ => false)
  | _ => false
theorem oexB_ok {K : PySem.W.Frag} {C : Addr} (h : oexB K C = true) :
    ∃ nm q N bs bm sn sub ab col dd k0 k1 k2 k3 k5, K.lookup C = some (excClassObj nm q C N bs bm true sn sub ab col dd k0 k1 k2 k3 k5 "ValueError.__new__") ∧ PySem.HandSPX.refsVE bm = true := by
  unfold oexB at h
  cases e : K.lookup C with
  | none => rw [e] at h; cases h
  | some o =>
    obtain ⟨oc, od, dt, sl⟩ := o
    rw [e] at h
    cases oc with
    | type t =>
      cases dt with
      | cls cd =>
        obtain ⟨c1, c2, c3, c4, c5, c6, c7, c8, c9, c10, c11⟩ := cd
        dsimp only at h
        split at h
        · rename_i E bm k0 k1 k2 k3 n k5 z
          obtain ⟨h0, h⟩ := ba h
          obtain ⟨h1, h⟩ := ba h
          obtain ⟨h2, h⟩ := ba h
          obtain ⟨h3, h⟩ := ba h
          obtain ⟨h4, h5⟩ := ba h
          have z0 := beq_iff_eq.mp h0
          have z1 := beq_iff_eq.mp h1
          have z2 := beq_iff_eq.mp h2
          have z3 : c11 = false := by simpa using h3
          subst z0 z1 z2 z3 h4
          have z4 : sl = #[k0, k1, k2, k3, some (Value.builtin "ValueError.__new__"), k5] := by
            rw [← Array.toArray_toList (xs := sl), z]
          subst z4
          exact ⟨_, _, _, _, _, _, _, _, _, _, _, _, _, _, _, rfl, h5⟩
        · cases h
      | _ => cases h
    | _ => cases dt <;> cases h
/-- all that is asked of an error's class -/
def errB (K : PySem.W.Frag) (C : Addr) : Bool := oexB K C && (eqO (PySem.W.findIn K (.ref C) "__setattr__") (some (some (.builtin "object.__setattr__"))) && (decide (PySem.W.subIn K (.ref C) (.type "BaseException") = some true) &&
  (decide (PySem.W.typeIn K (.ref C) = some (.type "type")) && (PySem.W.keepIn K (.ref C) && (eqO (PySem.W.findIn K (.ref C) "__getattribute__") (some (some (.builtin "BaseException.__getattribute__"))) &&
  (eqO (PySem.W.findIn K (.ref C) "__getattr__") (some none) && (PySem.W.hasDictIn K C && (eqO (PySem.W.findIn K (.ref C) "__class__") (some (some (.builtin "object.__class__"))) &&
  (decide (PySem.W.mroIn K C (.type "object") = some true) && decide (PySem.W.subIn K (.ref C) (.type "ValueError") = some true))))))))))
def gloB (K : PySem.W.Frag) : Bool := decide (PySem.W.specialIn K (.builtin "object.__class__") "__get__" = some (some (.builtin "getset_descriptor.__get__"))) && (decide (PySem.W.takesIn K (.builtin "object.__class__") = some true) &&
  (eqO (PySem.W.nsIn K mainGlobals "super") (some none) && (eqO (PySem.W.nsIn K cStatics "thirdparty.any") (some none) && (K.lookup sysModules).isSome)))
structure ErrC (K : PySem.W.Frag) (C : Addr) : Prop where
  oex : OexC K C
  xf : XfC K C
  ec : ExcC K C
  ve : PySem.W.subIn K (.ref C) (.type "ValueError") = some true
theorem errB_ok {K : PySem.W.Frag} {C : Addr} (g : gloB K = true) (h : errB K C = true) : ErrC K C := by
  obtain ⟨g1, g⟩ := ba g
  obtain ⟨g2, _⟩ := ba g
  obtain ⟨h1, h⟩ := ba h
  obtain ⟨h2, h⟩ := ba h
  obtain ⟨h3, h⟩ := ba h
  obtain ⟨h4, h⟩ := ba h
  obtain ⟨h5, h⟩ := ba h
  obtain ⟨h6, h⟩ := ba h
  obtain ⟨h7, h⟩ := ba h
  obtain ⟨h8, h⟩ := ba h
  obtain ⟨h9, h⟩ := ba h
  obtain ⟨h10, h11⟩ := ba h
  have a3 := of_decide_eq_true h3
  exact ⟨⟨oexB_ok h1, eqO_ok h2, a3, of_decide_eq_true h4, h5⟩, ⟨eqO_ok h6, eqO_ok h7, a3, h8⟩, ⟨eqO_ok h6, eqO_ok h7, a3, h8, eqO_ok h9, of_decide_eq_true g1, of_decide_eq_true g2, of_decide_eq_true h10⟩, of_decide_eq_true h11⟩
theorem ErrC.cls {K : PySem.W.Frag} {C : Addr} (T : ErrC K C) : ∃ cd, PySem.W.clsIn K C = some cd := by
  obtain ⟨cd, hc, _⟩ := PySem.W.any_some T.ec.hd
  exact ⟨cd, hc⟩
/-- the own __init__ of x, and what super() of the class at D finds -/
def iniB (K : PySem.W.Frag) (x : Str) : Bool := eqO (PySem.W.findIn K (.ref (ga K x)) "__init__") (some (some (.ref (iAd K x)))) && decide (PySem.W.typeIn K (.ref (iAd K x)) = some (.type "function"))
theorem iniB_ok {K : PySem.W.Frag} {x : Str} (T : ErrC K (ga K x)) (h : iniB K x = true) : MkE K (ga K x) (iAd K x) := by
  obtain ⟨h1, h2⟩ := ba h
  exact ⟨T.oex, eqO_ok h1, of_decide_eq_true h2⟩
def supIB (K : PySem.W.Frag) (C D : Addr) : Bool := decide (PySem.W.mroIn K C (.ref D) = some true) && decide (PySem.W.ks_superIn K C D "__init__" = some (some (.builtin "ValueError.__init__")))
theorem supIB_ok {K : PySem.W.Frag} {C D : Addr} (T : ErrC K C) (h : supIB K C D = true) : SupC K C D := by
  obtain ⟨h1, h2⟩ := ba h
  exact ⟨T.oex, of_decide_eq_true h1, T.ve, of_decide_eq_true h2⟩
end Er
end

/-! Er14 -/
section
set_option maxHeartbeats 4000000
set_option exponentiation.threshold 1000
namespace Er
open PySem PySem.Spec PyProof.Rows L2 He
/-! ### the Hook -/
/-! the addresses that are looked at: what the module's names hold, the classes' names, what these hold, code and cells of the defs -/
def valsF (g : Addr → Option Obj) (a : Addr) : List Addr := match g a with
  | some ⟨_, _, .dict es _, _⟩ => es.toList.flatMap fun e => refV e.val
  | _ => []
def nsF (g : Addr → Option Obj) (a : Addr) : List Addr := match g a with
  | some ⟨_, _, .cls cd, _⟩ => [cd.ns]
  | _ => []
def fnF (g : Addr → Option Obj) (a : Addr) : List Addr := match g a with
  | some ⟨_, _, .func fd, _⟩ => refV fd.code ++ fd.closure.map (·.2)
  | _ => []
def asF3 (g : Addr → Option Obj) (m ns fs : List Addr) : List Addr := m ++ (ns ++ (mainGlobals :: sysModules :: cStatics :: (fs ++ ((m ++ fs).flatMap (fnF g)))))
def asF2 (g : Addr → Option Obj) (m ns : List Addr) : List Addr := asF3 g m ns (ns.flatMap (valsF g))
def asF1 (g : Addr → Option Obj) (m : List Addr) : List Addr := asF2 g m (m.flatMap (nsF g))
def frE (g : Addr → Option Obj) (n : Nat) : PySem.W.Frag := frG g (asF1 g (valsF g mainGlobals))
abbrev AlE : Type := AlD × List FnS × Bool
def obsK (fa : List Fa) (fn : List DefD) (fs : List DefS) (ex : PySem.W.Frag → Bool) (K : PySem.W.Frag) : AlE := (obsD fa fn K, fs.map (fun d => fnS K d.cls), ex K)
def valE (fn : List DefD) (fs : List DefS) : AlE := (valD fn, fs.map DefS.val, true)
def obsE (n : Nat) (fa : List Fa) (fn : List DefD) (fs : List DefS) (ex : PySem.W.Frag → Bool) (g : Addr → Option Obj) : AlE := obsK fa fn fs ex (frE g n)
structure SaysE (fa : List Fa) (fn : List DefD) (fs : List DefS) (ex : PySem.W.Frag → Bool) (K : PySem.W.Frag) : Prop where
  d : SaysD fa fn K
  s : ∀ d ∈ fs, fnS K d.cls = d.val
  x : ex K = true
theorem map_eq_of {α β : Type} {f g : α → β} : ∀ {l : List α}, l.map f = l.map g → ∀ a ∈ l, f a = g a
  | [], _, _, h => by cases h
  | b :: r, e, a, h => by
    rw [List.map_cons, List.map_cons] at e
    injection e with e1 e2
    rcases List.mem_cons.mp h with z | z
    · rw [z]; exact e1
    · exact map_eq_of e2 a z
theorem saysE_of {fa : List Fa} {fn : List DefD} {fs : List DefS} {ex : PySem.W.Frag → Bool} {K : PySem.W.Frag} (e : obsK fa fn fs ex K = valE fn fs) : SaysE fa fn fs ex K :=
  ⟨congrArg (fun z : AlE => z.1) e, map_eq_of (congrArg (fun z : AlE => z.2.1) e), congrArg (fun z : AlE => z.2.2) e⟩
def hookE (n : Nat) (fa : List Fa) (fn : List DefD) (fs : List DefS) (ex : PySem.W.Frag → Bool) : PySem.W.Hook where
  α := AlE
  obs := fun s => obsE n fa fn fs ex s.heap.get?
  val := fun _ => valE fn fs
  says := fun _ h => ∃ K : PySem.W.Frag, K.In h ∧ SaysE fa fn fs ex K
  of := fun _ _ e => ⟨_, frG_in, saysE_of e⟩
  keeps := fun _ _ _ ⟨K, hK, c⟩ k => ⟨K, PySem.W.Frag.In.keeps hK k, c⟩
theorem obsE_eq {n : Nat} {fa : List Fa} {fn : List DefD} {fs : List DefS} {ex : PySem.W.Frag → Bool} {g : Addr → Option Obj} {s : Shared} (h : ∀ a, g a = s.heap.get? a) : obsE n fa fn fs ex g = (hookE n fa fn fs ex).obs s := by
  have e : g = s.heap.get? := funext h
  rw [e] <;> rfl
end Er
end

/-! Lw0 -/
section
set_option maxHeartbeats 0
set_option exponentiation.threshold 1000
namespace Lw
open PySem PySem.Spec PyProof.Rows L2 He Er
def top (i : Nat) : Stmt := PySem.Challenge.pw_alleyes_k00_errors_keep_their_fields.main.body.getD i (.Pass ⟨0, 0, 0, 0⟩)
abbrev sshown : Stmt := top 1
abbrev sLjug : Stmt := top 41
abbrev sLpour : Stmt := top 42
abbrev sLparts : Stmt := top 43
abbrev sLpartsturned : Stmt := top 44
abbrev sLothers : Stmt := top 45
abbrev sLothersnamed : Stmt := top 46
abbrev sLfields : Stmt := top 47
abbrev sLkin : Stmt := top 48
abbrev sLstandsright : Stmt := top 49
abbrev sLallright : Stmt := top 50
abbrev slaw : Stmt := top 51
abbrev iBadRatio : Stmt := inClass (top 3) 0
abbrev iBadRow : Stmt := inClass (top 4) 0
abbrev iBadPicture : Stmt := inClass (top 5) 0
abbrev iBadStep : Stmt := inClass (top 6) 0
abbrev iBadMark : Stmt := inClass (top 7) 0
abbrev iBadScene : Stmt := inClass (top 8) 0
abbrev iBadCone : Stmt := inClass (top 9) 0
abbrev iBadEye : Stmt := inClass (top 10) 0
abbrev iBadEyeRow : Stmt := inClass (top 11) 0
abbrev iBadFlat : Stmt := inClass (top 12) 0
abbrev iBadFact : Stmt := inClass (top 13) 0
abbrev iBadBook : Stmt := inClass (top 14) 0
abbrev iBadStanding : Stmt := inClass (top 15) 0
abbrev iBadSaying : Stmt := inClass (top 16) 0
abbrev iBadSolid : Stmt := inClass (top 17) 0
abbrev iBadView : Stmt := inClass (top 18) 0
abbrev iBadLight : Stmt := inClass (top 19) 0
abbrev iBadNumber : Stmt := inClass (top 20) 0
abbrev iBadPaper : Stmt := inClass (top 21) 0
abbrev iBadDesk : Stmt := inClass (top 22) 0
abbrev iNotPlain : Stmt := inClass (top 23) 0
abbrev iUnsettled : Stmt := inClass (top 24) 0
abbrev iMissing : Stmt := inClass (top 25) 0
abbrev iNoLabel : Stmt := inClass (top 26) 0
abbrev iNoPicture : Stmt := inClass (top 27) 0
abbrev iNoName : Stmt := inClass (top 28) 0
abbrev iNoFact : Stmt := inClass (top 29) 0
abbrev iTwice : Stmt := inClass (top 30) 0
abbrev iSamePlace : Stmt := inClass (top 31) 0
abbrev iTwoPictures : Stmt := inClass (top 32) 0
abbrev iNotJoined : Stmt := inClass (top 33) 0
abbrev iBehind : Stmt := inClass (top 34) 0
abbrev iImpossible : Stmt := inClass (top 35) 0
abbrev iNothing : Stmt := inClass (top 36) 0
abbrev iTooMany : Stmt := inClass (top 37) 0
abbrev iBadText : Stmt := inClass (top 38) 0
abbrev iBadLine : Stmt := inClass (top 39) 0
def dshown : DefD := ⟨("_shown", none), "_shown", "_shown", defArgs sshown, defBody sshown, defScope sshown, [], []⟩
def dLjug : DefD := ⟨("_law_jug", none), "_law_jug", "_law_jug", defArgs sLjug, defBody sLjug, defScope sLjug, [], []⟩
def dLpour : DefD := ⟨("_law_pour", none), "_law_pour", "_law_pour", defArgs sLpour, defBody sLpour, defScope sLpour, [], []⟩
def dLparts : DefD := ⟨("_law_parts", none), "_law_parts", "_law_parts", defArgs sLparts, defBody sLparts, defScope sLparts, [], []⟩
def dLpartsturned : DefD := ⟨("_law_parts_turned", none), "_law_parts_turned", "_law_parts_turned", defArgs sLpartsturned, defBody sLpartsturned, defScope sLpartsturned, [], []⟩
def dLothers : DefD := ⟨("_law_others", none), "_law_others", "_law_others", defArgs sLothers, defBody sLothers, defScope sLothers, [], []⟩
def dLothersnamed : DefD := ⟨("_law_others_named", none), "_law_others_named", "_law_others_named", defArgs sLothersnamed, defBody sLothersnamed, defScope sLothersnamed, [], []⟩
def dLfields : DefD := ⟨("_law_fields", none), "_law_fields", "_law_fields", defArgs sLfields, defBody sLfields, defScope sLfields, [], []⟩
def dLkin : DefD := ⟨("_law_kin", none), "_law_kin", "_law_kin", defArgs sLkin, defBody sLkin, defScope sLkin, [], []⟩
def dLstandsright : DefD := ⟨("_law_stands_right", none), "_law_stands_right", "_law_stands_right", defArgs sLstandsright, defBody sLstandsright, defScope sLstandsright, [], []⟩
def dLallright : DefD := ⟨("_law_all_right", none), "_law_all_right", "_law_all_right", defArgs sLallright, defBody sLallright, defScope sLallright, [], []⟩
def dlaw : DefD := ⟨("law", none), "law", "law", defArgs slaw, defBody slaw, defScope slaw, [], []⟩
def fn : List DefD := ([dshown, dLjug, dLpour, dLparts, dLpartsturned, dLothers, dLothersnamed, dLfields, dLkin, dLstandsright] : List DefD) ++ ([dLallright, dlaw] : List DefD)
def eBadRatio : DefS := ⟨"BadRatio", defArgs iBadRatio, defBody iBadRatio, defScope iBadRatio⟩
def eBadRow : DefS := ⟨"BadRow", defArgs iBadRow, defBody iBadRow, defScope iBadRow⟩
def eBadPicture : DefS := ⟨"BadPicture", defArgs iBadPicture, defBody iBadPicture, defScope iBadPicture⟩
def eBadStep : DefS := ⟨"BadStep", defArgs iBadStep, defBody iBadStep, defScope iBadStep⟩
def eBadMark : DefS := ⟨"BadMark", defArgs iBadMark, defBody iBadMark, defScope iBadMark⟩
def eBadScene : DefS := ⟨"BadScene", defArgs iBadScene, defBody iBadScene, defScope iBadScene⟩
def eBadCone : DefS := ⟨"BadCone", defArgs iBadCone, defBody iBadCone, defScope iBadCone⟩
def eBadEye : DefS := ⟨"BadEye", defArgs iBadEye, defBody iBadEye, defScope iBadEye⟩
def eBadEyeRow : DefS := ⟨"BadEyeRow", defArgs iBadEyeRow, defBody iBadEyeRow, defScope iBadEyeRow⟩
def eBadFlat : DefS := ⟨"BadFlat", defArgs iBadFlat, defBody iBadFlat, defScope iBadFlat⟩
def eBadFact : DefS := ⟨"BadFact", defArgs iBadFact, defBody iBadFact, defScope iBadFact⟩
def eBadBook : DefS := ⟨"BadBook", defArgs iBadBook, defBody iBadBook, defScope iBadBook⟩
def eBadStanding : DefS := ⟨"BadStanding", defArgs iBadStanding, defBody iBadStanding, defScope iBadStanding⟩
def eBadSaying : DefS := ⟨"BadSaying", defArgs iBadSaying, defBody iBadSaying, defScope iBadSaying⟩
def eBadSolid : DefS := ⟨"BadSolid", defArgs iBadSolid, defBody iBadSolid, defScope iBadSolid⟩
def eBadView : DefS := ⟨"BadView", defArgs iBadView, defBody iBadView, defScope iBadView⟩
def eBadLight : DefS := ⟨"BadLight", defArgs iBadLight, defBody iBadLight, defScope iBadLight⟩
def eBadNumber : DefS := ⟨"BadNumber", defArgs iBadNumber, defBody iBadNumber, defScope iBadNumber⟩
def eBadPaper : DefS := ⟨"BadPaper", defArgs iBadPaper, defBody iBadPaper, defScope iBadPaper⟩
def eBadDesk : DefS := ⟨"BadDesk", defArgs iBadDesk, defBody iBadDesk, defScope iBadDesk⟩
def eNotPlain : DefS := ⟨"NotPlain", defArgs iNotPlain, defBody iNotPlain, defScope iNotPlain⟩
def eUnsettled : DefS := ⟨"Unsettled", defArgs iUnsettled, defBody iUnsettled, defScope iUnsettled⟩
def eMissing : DefS := ⟨"Missing", defArgs iMissing, defBody iMissing, defScope iMissing⟩
def eNoLabel : DefS := ⟨"NoLabel", defArgs iNoLabel, defBody iNoLabel, defScope iNoLabel⟩
def eNoPicture : DefS := ⟨"NoPicture", defArgs iNoPicture, defBody iNoPicture, defScope iNoPicture⟩
def eNoName : DefS := ⟨"NoName", defArgs iNoName, defBody iNoName, defScope iNoName⟩
def eNoFact : DefS := ⟨"NoFact", defArgs iNoFact, defBody iNoFact, defScope iNoFact⟩
def eTwice : DefS := ⟨"Twice", defArgs iTwice, defBody iTwice, defScope iTwice⟩
def eSamePlace : DefS := ⟨"SamePlace", defArgs iSamePlace, defBody iSamePlace, defScope iSamePlace⟩
def eTwoPictures : DefS := ⟨"TwoPictures", defArgs iTwoPictures, defBody iTwoPictures, defScope iTwoPictures⟩
def eNotJoined : DefS := ⟨"NotJoined", defArgs iNotJoined, defBody iNotJoined, defScope iNotJoined⟩
def eBehind : DefS := ⟨"Behind", defArgs iBehind, defBody iBehind, defScope iBehind⟩
def eImpossible : DefS := ⟨"Impossible", defArgs iImpossible, defBody iImpossible, defScope iImpossible⟩
def eNothing : DefS := ⟨"Nothing", defArgs iNothing, defBody iNothing, defScope iNothing⟩
def eTooMany : DefS := ⟨"TooMany", defArgs iTooMany, defBody iTooMany, defScope iTooMany⟩
def eBadText : DefS := ⟨"BadText", defArgs iBadText, defBody iBadText, defScope iBadText⟩
def eBadLine : DefS := ⟨"BadLine", defArgs iBadLine, defBody iBadLine, defScope iBadLine⟩
def fs : List DefS := ([eBadRatio, eBadRow, eBadPicture, eBadStep, eBadMark, eBadScene, eBadCone, eBadEye, eBadEyeRow, eBadFlat] : List DefS) ++ ([eBadFact, eBadBook, eBadStanding, eBadSaying, eBadSolid, eBadView, eBadLight, eBadNumber, eBadPaper, eBadDesk] : List DefS) ++ ([eNotPlain, eUnsettled, eMissing, eNoLabel, eNoPicture, eNoName, eNoFact, eTwice, eSamePlace, eTwoPictures] : List DefS) ++ ([eNotJoined, eBehind, eImpossible, eNothing, eTooMany, eBadText, eBadLine] : List DefS)
def kinN : List Str := (["BadRatio", "BadRow", "BadPicture", "BadStep", "BadMark", "BadScene", "BadCone", "BadEye", "BadEyeRow", "BadFlat"] : List Str) ++ (["BadFact", "BadBook", "BadStanding", "BadSaying", "BadSolid", "BadView", "BadLight", "BadNumber", "BadPaper", "BadDesk"] : List Str) ++ (["NotPlain", "Unsettled", "NoLabel", "NoPicture", "NoName", "Twice", "Behind", "NoFact", "Impossible", "SamePlace"] : List Str) ++ (["TwoPictures", "NotJoined", "TooMany", "BadText", "BadLine", "Nothing"] : List Str)
def allN : List Str := kinN ++ (["Missing", "EyesError"] : List Str)
def fa : List Fa := ([.glo "_shown", .glo "_law_jug", .glo "_law_pour", .glo "_law_parts", .glo "_law_parts_turned", .glo "_law_others", .glo "_law_others_named", .glo "_law_fields", .glo "_law_kin", .glo "_law_stands_right"] : List Fa) ++ ([.glo "_law_all_right", .glo "law", .glo "EyesError", .glo "BadRatio", .glo "BadRow", .glo "BadPicture", .glo "BadStep", .glo "BadMark", .glo "BadScene", .glo "BadCone"] : List Fa) ++ ([.glo "BadEye", .glo "BadEyeRow", .glo "BadFlat", .glo "BadFact", .glo "BadBook", .glo "BadStanding", .glo "BadSaying", .glo "BadSolid", .glo "BadView", .glo "BadLight"] : List Fa) ++ ([.glo "BadNumber", .glo "BadPaper", .glo "BadDesk", .glo "NotPlain", .glo "Unsettled", .glo "Missing", .glo "NoLabel", .glo "NoPicture", .glo "NoName", .glo "NoFact"] : List Fa) ++ ([.glo "Twice", .glo "SamePlace", .glo "TwoPictures", .glo "NotJoined", .glo "Behind", .glo "Impossible", .glo "Nothing", .glo "TooMany", .glo "BadText", .glo "BadLine"] : List Fa) ++ ([.free "isinstance", .free "str", .free "int", .free "abs", .free "repr", .free "range", .free "enumerate", .free "len", .free "LookupError", .free "TypeError"] : List Fa) ++ ([.free "ArithmeticError", .free "RuntimeError", .free "AttributeError", .free "ValueError"] : List Fa)
abbrev P : Program := PySem.Challenge.pw_alleyes_k00_errors_keep_their_fields
def fld : List (Str × List Str) := ([("BadRatio", ["part"]), ("BadRow", ["part"]), ("BadPicture", ["part"]), ("BadStep", ["part"]), ("BadMark", ["part"]), ("BadScene", ["part"]), ("BadCone", ["part"]), ("BadEye", ["part"]), ("BadEyeRow", ["part"]), ("BadFlat", ["part"])] : List (Str × List Str)) ++ ([("BadFact", ["part"]), ("BadBook", ["part"]), ("BadStanding", ["part"]), ("BadSaying", ["part"]), ("BadSolid", ["part"]), ("BadView", ["part"]), ("BadLight", ["part"]), ("BadNumber", ["part"]), ("BadPaper", ["part"]), ("BadDesk", ["part"])] : List (Str × List Str)) ++ ([("NotPlain", ["part"]), ("Unsettled", ["part"]), ("Missing", ["name"]), ("NoLabel", ["name"]), ("NoPicture", ["name"]), ("NoName", ["name"]), ("NoFact", ["number"]), ("Twice", ["name"]), ("SamePlace", ["one", "other"]), ("TwoPictures", ["one", "other"])] : List (Str × List Str)) ++ ([("NotJoined", ["one", "other"]), ("Behind", ["name"]), ("Impossible", ["word"]), ("Nothing", []), ("TooMany", ["what", "most"]), ("BadText", ["line", "word"]), ("BadLine", ["line", "error"])] : List (Str × List Str))
/-- the Bool that the head reckons -/
def three : List Str := ["NoLabel", "NoPicture", "NoName"]
def sub3B (K : PySem.W.Frag) (x : Str) : Bool := supIB K (ga K x) (ga K "Missing") && (decide (PySem.W.mroIn K (ga K x) (.ref (ga K x)) = some true) && decide (PySem.W.ks_superIn K (ga K x) (ga K x) "__init__" = some (some (.ref (iAd K "Missing")))))
def fldB (K : PySem.W.Frag) : Bool := fld.all fun p => p.2.all fun f => eqO (PySem.W.findIn K (.ref (ga K p.1)) f) (some none)
def kinB (K : PySem.W.Frag) : Bool := allN.all fun x => kinN.all fun y => decide (PySem.W.kitOne K (.ref (ga K x)) (.ref (ga K y)) = some (decide (x = y)))
def oddN : List String := ["LookupError", "TypeError", "ArithmeticError", "RuntimeError", "AttributeError"]
def oddB (K : PySem.W.Frag) : Bool := allN.all fun x => oddN.all (fun t => decide (PySem.W.kitOne K (.ref (ga K x)) (.type t) = some false)) &&
  (decide (PySem.W.kitOne K (.ref (ga K x)) (.type "ValueError") = some true) && (decide (PySem.W.kitOne K (.ref (ga K x)) (.ref (ga K "EyesError")) = some true) &&
  decide (PySem.W.kitOne K (.ref (ga K x)) (.ref (ga K "Missing")) = some (decide (x ∈ three) || decide (x = "Missing")))))
def eyB (K : PySem.W.Frag) : Bool := PySem.W.excIn K (ga K "EyesError") [.type "ValueError", .type "Exception", .type "BaseException", .type "object"] "ValueError.__new__"
def exA (K : PySem.W.Frag) : Bool := gloB K && (allN.all (fun x => errB K (ga K x)) && (fs.all (fun d => iniB K d.cls && (supB K P.main.file d && (supIB K (ga K d.cls) (ga K d.cls) || decide (d.cls ∈ three)))) && (three.all (sub3B K) && (fldB K && (kinB K && (oddB K && eyB K))))))

def ls0 : List PySem.Str := ["_shown", "_law_jug", "_law_pour", "_law_parts", "_law_parts_turned", "_law_others", "_law_others_named", "_law_fields", "_law_kin", "_law_stands_right"]
def ls1 : List PySem.Str := ["_law_all_right", "EyesError", "BadRatio", "BadRow", "BadPicture", "BadStep", "BadMark", "BadScene", "BadCone", "BadEye"]
def ls2 : List PySem.Str := ["BadEyeRow", "BadFlat", "BadFact", "BadBook", "BadStanding", "BadSaying", "BadSolid", "BadView", "BadLight", "BadNumber"]
def ls3 : List PySem.Str := ["BadPaper", "BadDesk", "NotPlain", "Unsettled", "Missing", "NoLabel", "NoPicture", "NoName", "NoFact", "Twice"]
def ls4 : List PySem.Str := ["SamePlace", "TwoPictures", "NotJoined", "Behind", "Impossible", "Nothing", "TooMany", "BadText", "BadLine"]
def loose : List PySem.Str := ls0 ++ ls1 ++ ls2 ++ ls3 ++ ls4
abbrev R : PySem.W.OpenRow := PySem.W.OpenLaw.row PySem.Challenge.rw_alleyes_k00_errors_keep_their_fields
end Lw
end

/-! Lw1 -/
section
set_option maxHeartbeats 0
set_option exponentiation.threshold 1000
namespace Lw
open PySem PySem.Spec PyProof.Rows L2 He Er
abbrev hk : PySem.W.Hook := hookE 6 fa fn fs exA
def ob (s : PySem.W.SharedT) : AlE := obsE 6 fa fn fs exA (HandSHeadRun.getT s)
theorem ob_eq (s : PySem.W.SharedT) : ob s = hk.obs s.abs := obsE_eq (HandSHeadRun.getT_eq s)
theorem run (w : World) : HandSHeadRun.RunEq R (PySem.W.view R.prog [51]) hk ob 12000 loose w := by
  intro os
  kernel_rfl
end Lw
end

/-! Er15 -/
section
set_option maxHeartbeats 4000000
set_option exponentiation.threshold 1000
namespace Er
open PySem PySem.Spec PyProof.Rows L2 He
/-! ### the law's own call, where no repr runs -/
def Ended (s0 : Shared) (r : Result) (s2 : Shared) : Prop := r = .ok (.ret (.bool true)) ∧ OldK s0.heap s2.heap ∧ s2.os = s0.os ∧ AllBare s2.gens
section
variable {P : Program} {w : World} {K : PySem.W.Frag} {mg mb : Str → Option Value} {k : Nat} {fA a : Addr} {fd : FuncData} {x : Str} {sp : Sp} {s0 : Shared} {vs : List Value} {ns : List Int}
theorem law_from (KX : K.In s0.heap) (hns : s0.heap.Ns mainGlobals mg) (hbn : s0.heap.Ns builtinsNs mb) (hbb : ∀ y : Str, y ≠ "__name__" → mb y = bootBuiltins y) (hlim : s0.heap.NoLimit) (hgen : s0.gens = #[])
    (ha : s0.heap.get? a = some { cls := .type "list", data := .seq vs.toArray }) (hr : Room k callerA)
    (F : ∀ base : Heap, K.In base → base.Ns mainGlobals mg → FnG P w K mg base k fA fd [x] sp) (hbind : ∀ (s : Shared) (u : Value), BindsTo s fd ⟨[u], []⟩ [(x, u)])
    {H : Hp} (hO : Only H) (hok : HOk P w H s0.heap) (hA : ∀ b, H b ≠ none → b = a) (hK : H a ≠ none → K.lookup a = none) (hsp : sp [.ref a] H (fun v _ => v = .bl true) fun _ _ _ => False) :
    codeAny (model P w) callerA (.call (.ref fA) ⟨[.ref a], []⟩) (Ended s0) s0 := by
  have only : ∀ {b : Addr} {u : HO}, H b = some u → b = a := fun {b u} q => hA b (by rw [q]; exact fun z => nomatch z)
  have dk : ∀ {b : Addr} {o : Obj} {es : Array DictEntry} {ep : Nat}, s0.heap.get? b = some o → o.data = .dict es ep → H b = none := by
    intro b o es ep e hd
    cases q : H b with
    | none => rfl
    | some u =>
      rw [only q, ha] at e
      cases e
      cases hd
  have nsH : ∀ {b : Addr} {m : Str → Option Value}, s0.heap.Ns b m → (hidT s0.heap H).Ns b m := by
    intro b m ⟨o, es, ep, e, hd, rr⟩
    exact ⟨o, es, ep, hidT_get e (dk e hd), hd, rr⟩
  have KH : K.In (hidT s0.heap H) := by
    intro b o e
    refine hidT_get (KX b o e) ?_
    cases q : H b with
    | none => rfl
    | some u =>
      have eb := only q
      rw [eb] at q e
      rw [hK (by rw [q]; exact fun z => nomatch z)] at e
      cases e
  have limH : (hidT s0.heap H).NoLimit := by
    obtain ⟨mc, l1, l2⟩ := hlim
    exact ⟨mc, nsH l1, l2⟩
  have M : Mod K mg (hidT s0.heap H) := ⟨KH, nsH hns, ⟨mb, nsH hbn, hbb⟩, limH⟩
  have e0 : Env0 P w K mg (hidT s0.heap H) callerA [] s0 H := ⟨rfl, M, fun b o e => of_hidT e, Nat.le_of_eq (hidT_size _ _), trivial, fun b hb => (nomatch hb), hok, .of_eq hgen⟩
  refine codeAny_mono ((F _ KH (nsH hns)).run callerA [] s0 H ⟨[.ref a], []⟩ [.ref a] [.ref a] _ _ hr rfl e0 (hbind s0 (.ref a)) (.cons rfl .nil) hsp) fun r s2 h => ?_
  cases r with
  | error e => exact False.elim h
  | ok fl =>
    cases fl with
    | ret u =>
      obtain ⟨v, H2, hos, bare, un, hok2, rv, q⟩ := h
      have q2 : v = .bl true := q
      subst q2
      cases (show u = Value.bool true from rv)
      refine ⟨rfl, OldK.of_keep fun b o e => ?_, hos, bare⟩
      cases q3 : H b with
      | none => exact un.keep b o e q3 (fun z => nomatch z) (fun z => nomatch z)
      | some u =>
        rcases hO b with z | ⟨ob, ys, z⟩
        · rw [q3] at z
          cases z
        · obtain ⟨g1, _⟩ := hok b _ z
          obtain ⟨g2, _⟩ := hok2 b _ (un.frzs b ob _ z)
          rw [e] at g1
          cases g1
          exact g2
    | next => exact False.elim h
    | brk => exact False.elim h
    | cont => exact False.elim h
theorem law_callG (KX : K.In s0.heap) (hns : s0.heap.Ns mainGlobals mg) (hbn : s0.heap.Ns builtinsNs mb) (hbb : ∀ y : Str, y ≠ "__name__" → mb y = bootBuiltins y) (hlim : s0.heap.NoLimit) (hgen : s0.gens = #[])
    (ha : s0.heap.get? a = some { cls := .type "list", data := .seq vs.toArray }) (hi : IntsAre vs ns) (hl : ns.length ≤ sizeLine) (hr : Room k callerA)
    (F : ∀ base : Heap, K.In base → base.Ns mainGlobals mg → FnG P w K mg base k fA fd [x] sp) (hbind : ∀ (s : Shared) (u : Value), BindsTo s fd ⟨[u], []⟩ [(x, u)])
    (hsp : ∀ H : Hp, Only H → SqL K H a (ns.map V.int) → sp [.ref a] H (fun v _ => v = .bl true) fun _ _ _ => False) : codeAny (model P w) callerA (.call (.ref fA) ⟨[.ref a], []⟩) (Ended s0) s0 := by
  have rv := vals_ints hi
  have go := fun {H : Hp} hO hok hA hK hS => law_from (P := P) (w := w) (K := K) (H := H) (sp := sp) KX hns hbn hbb hlim hgen ha hr F hbind hO hok hA hK (hsp H hO hS)
  cases hk : K.lookup a with
  | some o =>
    have e := KX a o hk
    rw [ha] at e
    cases e
    refine go (H := fun _ => none) (fun _ => .inl rfl) (fun b u z => nomatch (show (none : Option HO) = some u from z)) (fun b z => absurd rfl z) (fun z => absurd rfl z) ?_
    exact .inr ⟨_, vs.toArray, _, hk, rfl, rfl, rfl, by rw [List.size_toArray, hi.length]; exact hl, by simpa using rv⟩
  | none =>
    refine go (H := fun b => if b = a then some (.frz { cls := .type "list", data := .seq vs.toArray } (.lst (ns.map V.int))) else none) (fun b => ?_) (fun b u z => ?_) (fun b z => ?_) (fun _ => hk) (.inl (.inr ⟨{ cls := .type "list", data := .seq vs.toArray }, if_pos rfl⟩))
    · by_cases hb : b = a
      · exact .inr ⟨_, _, if_pos hb⟩
      · exact .inl (if_neg hb)
    · by_cases hb : b = a
      · have z2 := (if_pos hb).symm.trans z
        cases z2
        rw [hb]
        exact ⟨ha, by rw [List.length_map]; exact hl, vs, _, rv, ha⟩
      · exact nomatch (if_neg hb).symm.trans z
    · by_cases hb : b = a
      · exact hb
      · exact absurd (if_neg hb) z
end
theorem walk_ofG {l : PySem.W.OpenLaw} {n k : Nat} {q : Program} {loose : List Str} {XP : (Str → Option Value) → Heap → Prop} {YP : World → Heap → Prop} {d : DefRec} {x : Str} (hn : l.most = some n) (hn2 : n ≤ sizeLine) (hdf : d.params.defaults = []) (hr : Room k callerA)
    (F : ∀ (w : World) (mg : Str → Option Value) (fA : Addr) (h : Heap), YP w h → h.Ns mainGlobals mg → mg d.name = some (.ref fA) → ∃ (K : PySem.W.Frag) (fd : FuncData) (sp : Sp), K.In h ∧ (∀ (s : Shared) (u : Value), BindsTo s fd ⟨[u], []⟩ [(x, u)]) ∧
      (∀ (H : Hp) (a : Addr) (ns : List Int), ns.length ≤ n → Only H → SqL K H a (ns.map V.int) → sp [.ref a] H (fun v _ => v = .bl true) fun _ _ _ => False) ∧ ∀ base : Heap, K.In base → base.Ns mainGlobals mg → FnG l.prog w K mg base k fA fd [x] sp) :
    PySem.W.WalkO q loose XP YP l.row.toRowW d [] (fun f vs => PySem.call f vs) := by
  refine Att.attach_call hn hdf fun w s0 s1 mg mb fA o pm cd doc a vs ns G Y ho hd hcd hmg hobj hints hlen hg => ?_
  obtain ⟨K, fd, sp, KX, hb, hsp, hF⟩ := F w mg fA _ Y G.T.g hmg
  exact law_callG KX G.T.g G.T.b G.T.builtins G.T.nolimit hg hobj hints (Nat.le_trans hlen hn2) hr hF hb fun H hO hS => hsp H a ns hlen hO hS
end Er
end

/-! Er16 -/
section
set_option maxHeartbeats 4000000
set_option exponentiation.threshold 1000
namespace Er
open PySem PySem.Spec PyProof.Rows L2 He
/-- an own __init__ that keeps one field -/
def spInit1 (K : PySem.W.Frag) (D : Addr) (fn : Str) : Sp := fun vs H Q _ => ∃ (a C : Addr) (v : V) (d : PyData), vs = [.ref a, v] ∧ H a = some (exo a C none) ∧ SupC K C D ∧ PySem.W.findIn K (.ref C) fn = some none ∧ Va H v d ∧
  ∀ dx, H dx = none → dx ≠ a → Q .non (upd (upd H dx (exd dx [(fn, v)])) a (exo a C (some dx)))
/-- .. two fields -/
def spInit2 (K : PySem.W.Frag) (D : Addr) (fn gn : Str) : Sp := fun vs H Q _ => ∃ (a C : Addr) (v : V) (d : PyData) (u : V) (e : PyData), vs = [.ref a, v, u] ∧ H a = some (exo a C none) ∧ SupC K C D ∧ PySem.W.findIn K (.ref C) fn = some none ∧ PySem.W.findIn K (.ref C) gn = some none ∧
  Va H v d ∧ Va H u e ∧ ∀ dx, H dx = none → dx ≠ a → Q .non (upd (upd (upd H dx (exd dx [(fn, v)])) a (exo a C (some dx))) dx (exd dx [(gn, u), (fn, v)]))
/-- .. none -/
def spInit0 (K : PySem.W.Frag) (D : Addr) : Sp := fun vs H Q _ => ∃ (a C : Addr), vs = [.ref a] ∧ H a = some (exo a C none) ∧ SupC K C D ∧ Q .non H
/-- the def that shows a value -/
structure Shn (P : Program) (w : World) (K : PySem.W.Frag) (mg : Str → Option Value) (base : Heap) (f : Addr) (fd : FuncData) : Prop where
  ok : FnOk P w K mg base CX0 1 f fd ["value"] spShown
  g : mg "_shown" = some (.ref f)
  kp : PySem.W.keepIn K (.ref f) = true
  b : Binds K fd ["value"] []
theorem fits {n : Nat} (h : n ≤ 100000) : n ≤ sizeLine := by
  rw [sizeLine_eq]
  omega
theorem len0 : Str.empty.length = 0 := rfl
section
variable {P : Program} {w : World} {K : PySem.W.Frag} {mg : Str → Option Value} {base : Heap} {qual fn gn msg sep : Str} {st : Stmt} {f D fS : Addr} {fd fdS : FuncData} {p0 p1 p2 p3 p4 q1 q2 q3 q4 q5 q6 q7 r1 r2 r3 r4 t1 t2 t3 t4 u2 u3 u4 u5 : Pos}
theorem ok_init1 (F : SFun P K "__init__" qual st f D fd) (S : ScS ["self", fn] ["self", fn] (defScope st)) (hs1 : (defScope st).names.lookup ("super" : Str) = some .globalImplicit) (hs2 : (defScope st).names.lookup ("__class__" : Str) = some .free)
    (hs3 : (defScope st).names.lookup ("_shown" : Str) = some .globalImplicit) (hpar : ((defArgs st).posonlyargs ++ (defArgs st).args).head?.map (·.arg) = some ("self" : Str)) (d1 : (fn == ("__debug__" : Str)) = false) (d2 : (fn == ("__classdict__" : Str)) = false) (hm : msg.length ≤ 100)
    (hbody : defBody st = .Expr (.Call (.Attribute (.Call (.Name "super" p0) [] [] p1) "__init__" p2)
        [.JoinedStr [.Constant (.str msg) 0 q1, .FormattedValue (.Call (.Name "_shown" q2) [.Name fn q3] [] q4) (-1) none q5] q6] [] p3) p4 :: [.Assign [.Attribute (.Name "self" r1) fn r2] (.Name fn r3) r4])
    (hc : ∀ env : Env, env.scope = defScope st → eval (.Call (.Attribute (.Call (.Name "super" p0) [] [] p1) "__init__" p2) [.JoinedStr [.Constant (.str msg) 0 q1, .FormattedValue (.Call (.Name "_shown" q2) [.Name fn q3] [] q4) (-1) none q5] q6] [] p3) env = (do
      let ov ← attributeBase (.Call (.Name "super" p0) [] [] p1) "__init__" env (eval (.Call (.Name "super" p0) [] [] p1) env)
      standAt p2.atName
      let (g, first) ← holding [ov] (getMethod ov "__init__" (do return (← importBound (.Call (.Name "super" p0) [] [] p1) env).getD true))
      callWith p3 g first (backTo p3 (starEach [.JoinedStr [.Constant (.str msg) 0 q1, .FormattedValue (.Call (.Name "_shown" q2) [.Name fn q3] [] q4) (-1) none q5] q6] env)) []))
    (G : Shn P w K mg base fS fdS) : FnOk P w K mg base CX0 2 f fd ["self", fn] (spInit1 K D fn) := by
  refine fn_sup (k := 1) (N := ["self", fn]) F S rfl hs1 hs2 hbody hpar (fun vs H Q E h => ?_) hc (fun _ => rfl) fun cda cc A outer s H vs Q E hr h => ?_
  · obtain ⟨a, C, v, d, rfl, _⟩ := h
    rfl
  · obtain ⟨a, C, v, d, rfl, ha, SC, hno, hv, k⟩ := h
    have v0 : (defScope st).names.lookup ("self" : Str) = some .local := S.par _ (by simp)
    have v1 : (defScope st).names.lookup fn = some .local := S.par _ (by simp)
    refine ⟨a, C, _, _, rfl, ha, SC, pe_joined (.cons pe_str (.cons (pe_fmt (pe_call G.ok hr hs3 G.g G.kp G.b .nil pass0 (pa_cons (pv 1 rfl (.inl v1) d1 d2) pa_nil))) .nil)), pss_one (ps_ost (pv 0 rfl (.inl v0)) (pv 1 rfl (.inl v1) d1 d2)), ?_⟩
    refine ⟨_, rfl, fits ?_, _, rfl, v, d, rfl, hv, fun z hz => .inl ⟨z, rfl, fits (Nat.le_trans hz (by decide)), _, rfl, fits ?_, ?_⟩⟩
    · simp only [PySem.Str.length_append, len0]
      omega
    · simp only [PySem.Str.length_append, len0]
      omega
    refine ⟨ha, _, rfl, _, rfl, a, C, rfl, SC.oex, hno, .inl ⟨ha, fun dx n ne => ?_⟩⟩
    exact k dx n ne
theorem ok_init2 (F : SFun P K "__init__" qual st f D fd) (S : ScS ["self", fn, gn] ["self", fn, gn] (defScope st)) (hs1 : (defScope st).names.lookup ("super" : Str) = some .globalImplicit) (hs2 : (defScope st).names.lookup ("__class__" : Str) = some .free)
    (hs3 : (defScope st).names.lookup ("_shown" : Str) = some .globalImplicit) (hpar : ((defArgs st).posonlyargs ++ (defArgs st).args).head?.map (·.arg) = some ("self" : Str)) (d1 : (fn == ("__debug__" : Str)) = false) (d2 : (fn == ("__classdict__" : Str)) = false)
    (d3 : (gn == ("__debug__" : Str)) = false) (d4 : (gn == ("__classdict__" : Str)) = false) (hm : msg.length ≤ 100) (hsp : sep.length ≤ 100)
    (hbody : defBody st = .Expr (.Call (.Attribute (.Call (.Name "super" p0) [] [] p1) "__init__" p2) [.JoinedStr [.Constant (.str msg) 0 q1, .FormattedValue (.Call (.Name "_shown" q2) [.Name fn q3] [] q4) (-1) none q5, .Constant (.str sep) 0 q7, .FormattedValue (.Call (.Name "_shown" u2) [.Name gn u3] [] u4) (-1) none u5] q6] [] p3) p4 :: [.Assign [.Attribute (.Name "self" r1) fn r2] (.Name fn r3) r4, .Assign [.Attribute (.Name "self" t1) gn t2] (.Name gn t3) t4])
    (hc : ∀ env : Env, env.scope = defScope st → eval (.Call (.Attribute (.Call (.Name "super" p0) [] [] p1) "__init__" p2) [.JoinedStr [.Constant (.str msg) 0 q1, .FormattedValue (.Call (.Name "_shown" q2) [.Name fn q3] [] q4) (-1) none q5, .Constant (.str sep) 0 q7, .FormattedValue (.Call (.Name "_shown" u2) [.Name gn u3] [] u4) (-1) none u5] q6] [] p3) env = (do
      let ov ← attributeBase (.Call (.Name "super" p0) [] [] p1) "__init__" env (eval (.Call (.Name "super" p0) [] [] p1) env)
      standAt p2.atName
      let (g, first) ← holding [ov] (getMethod ov "__init__" (do return (← importBound (.Call (.Name "super" p0) [] [] p1) env).getD true))
      callWith p3 g first (backTo p3 (starEach [.JoinedStr [.Constant (.str msg) 0 q1, .FormattedValue (.Call (.Name "_shown" q2) [.Name fn q3] [] q4) (-1) none q5, .Constant (.str sep) 0 q7, .FormattedValue (.Call (.Name "_shown" u2) [.Name gn u3] [] u4) (-1) none u5] q6] env)) []))
    (G : Shn P w K mg base fS fdS) : FnOk P w K mg base CX0 2 f fd ["self", fn, gn] (spInit2 K D fn gn) := by
  refine fn_sup (k := 1) (N := ["self", fn, gn]) F S rfl hs1 hs2 hbody hpar (fun vs H Q E h => ?_) hc (fun _ => rfl) fun cda cc A outer s H vs Q E hr h => ?_
  · obtain ⟨a, C, v, d, u, e, rfl, _⟩ := h
    rfl
  · obtain ⟨a, C, v, d, u, e, rfl, ha, SC, hno, hno2, hv, hu, k⟩ := h
    have v0 : (defScope st).names.lookup ("self" : Str) = some .local := S.par _ (by simp)
    have v1 : (defScope st).names.lookup fn = some .local := S.par _ (by simp)
    have v2 : (defScope st).names.lookup gn = some .local := S.par _ (by simp)
    refine ⟨a, C, _, _, rfl, ha, SC, pe_joined (.cons pe_str (.cons (pe_fmt (pe_call G.ok hr hs3 G.g G.kp G.b .nil pass0 (pa_cons (pv 1 rfl (.inl v1) d1 d2) pa_nil))) (.cons pe_str (.cons (pe_fmt (pe_call G.ok hr hs3 G.g G.kp G.b .nil pass0 (pa_cons (pv 2 rfl (.inl v2) d3 d4) pa_nil))) .nil)))), pss_cons (ps_ost (pv 0 rfl (.inl v0)) (pv 1 rfl (.inl v1) d1 d2)) (pss_one (ps_ost (pv 0 rfl (.inl v0)) (pv 2 rfl (.inl v2) d3 d4))), ?_⟩
    refine ⟨_, rfl, fits ?_, _, rfl, v, d, rfl, hv, fun z hz => .inl ⟨z, rfl, fits (Nat.le_trans hz (by decide)), _, rfl, fits ?_, _, rfl, fits ?_, _, rfl, u, e, rfl, hu, fun y hy => .inl ⟨y, rfl, fits (Nat.le_trans hy (by decide)), _, rfl, fits ?_, ?_⟩⟩⟩
    · simp only [PySem.Str.length_append, len0]
      omega
    · simp only [PySem.Str.length_append, len0]
      omega
    · simp only [PySem.Str.length_append, len0]
      omega
    · simp only [PySem.Str.length_append, len0]
      omega
    refine ⟨ha, _, rfl, _, rfl, a, C, rfl, SC.oex, hno, .inl ⟨ha, fun dx n ne => ?_⟩⟩
    exact ⟨_, rfl, _, rfl, a, C, rfl, SC.oex, hno2, .inr ⟨dx, _, upd_same, by rw [upd_ne ne]; exact upd_same, (by show 1 ≤ 900; decide), k dx n ne⟩⟩
theorem ok_init2a (F : SFun P K "__init__" qual st f D fd) (S : ScS ["self", fn, gn] ["self", fn, gn] (defScope st)) (hs1 : (defScope st).names.lookup ("super" : Str) = some .globalImplicit) (hs2 : (defScope st).names.lookup ("__class__" : Str) = some .free)
    (hs3 : (defScope st).names.lookup ("_shown" : Str) = some .globalImplicit) (hpar : ((defArgs st).posonlyargs ++ (defArgs st).args).head?.map (·.arg) = some ("self" : Str)) (d1 : (fn == ("__debug__" : Str)) = false) (d2 : (fn == ("__classdict__" : Str)) = false)
    (d3 : (gn == ("__debug__" : Str)) = false) (d4 : (gn == ("__classdict__" : Str)) = false) (hm : msg.length ≤ 100)
    (hbody : defBody st = .Expr (.Call (.Attribute (.Call (.Name "super" p0) [] [] p1) "__init__" p2) [.JoinedStr [.Constant (.str msg) 0 q1, .FormattedValue (.Call (.Name "_shown" q2) [.Name fn q3] [] q4) (-1) none q5] q6] [] p3) p4 :: [.Assign [.Attribute (.Name "self" r1) fn r2] (.Name fn r3) r4, .Assign [.Attribute (.Name "self" t1) gn t2] (.Name gn t3) t4])
    (hc : ∀ env : Env, env.scope = defScope st → eval (.Call (.Attribute (.Call (.Name "super" p0) [] [] p1) "__init__" p2) [.JoinedStr [.Constant (.str msg) 0 q1, .FormattedValue (.Call (.Name "_shown" q2) [.Name fn q3] [] q4) (-1) none q5] q6] [] p3) env = (do
      let ov ← attributeBase (.Call (.Name "super" p0) [] [] p1) "__init__" env (eval (.Call (.Name "super" p0) [] [] p1) env)
      standAt p2.atName
      let (g, first) ← holding [ov] (getMethod ov "__init__" (do return (← importBound (.Call (.Name "super" p0) [] [] p1) env).getD true))
      callWith p3 g first (backTo p3 (starEach [.JoinedStr [.Constant (.str msg) 0 q1, .FormattedValue (.Call (.Name "_shown" q2) [.Name fn q3] [] q4) (-1) none q5] q6] env)) []))
    (G : Shn P w K mg base fS fdS) : FnOk P w K mg base CX0 2 f fd ["self", fn, gn] (spInit2 K D fn gn) := by
  refine fn_sup (k := 1) (N := ["self", fn, gn]) F S rfl hs1 hs2 hbody hpar (fun vs H Q E h => ?_) hc (fun _ => rfl) fun cda cc A outer s H vs Q E hr h => ?_
  · obtain ⟨a, C, v, d, u, e, rfl, _⟩ := h
    rfl
  · obtain ⟨a, C, v, d, u, e, rfl, ha, SC, hno, hno2, hv, hu, k⟩ := h
    have v0 : (defScope st).names.lookup ("self" : Str) = some .local := S.par _ (by simp)
    have v1 : (defScope st).names.lookup fn = some .local := S.par _ (by simp)
    have v2 : (defScope st).names.lookup gn = some .local := S.par _ (by simp)
    refine ⟨a, C, _, _, rfl, ha, SC, pe_joined (.cons pe_str (.cons (pe_fmt (pe_call G.ok hr hs3 G.g G.kp G.b .nil pass0 (pa_cons (pv 1 rfl (.inl v1) d1 d2) pa_nil))) .nil)), pss_cons (ps_ost (pv 0 rfl (.inl v0)) (pv 1 rfl (.inl v1) d1 d2)) (pss_one (ps_ost (pv 0 rfl (.inl v0)) (pv 2 rfl (.inl v2) d3 d4))), ?_⟩
    refine ⟨_, rfl, fits ?_, _, rfl, v, d, rfl, hv, fun z hz => .inl ⟨z, rfl, fits (Nat.le_trans hz (by decide)), _, rfl, fits ?_, ?_⟩⟩
    · simp only [PySem.Str.length_append, len0]
      omega
    · simp only [PySem.Str.length_append, len0]
      omega
    refine ⟨ha, _, rfl, _, rfl, a, C, rfl, SC.oex, hno, .inl ⟨ha, fun dx n ne => ?_⟩⟩
    exact ⟨_, rfl, _, rfl, a, C, rfl, SC.oex, hno2, .inr ⟨dx, _, upd_same, by rw [upd_ne ne]; exact upd_same, (by show 1 ≤ 900; decide), k dx n ne⟩⟩
/-- one that keeps nothing -/
theorem ok_init0 (F : SFun P K "__init__" qual st f D fd) (S : ScS ["self"] ["self"] (defScope st)) (hs1 : (defScope st).names.lookup ("super" : Str) = some .globalImplicit) (hs2 : (defScope st).names.lookup ("__class__" : Str) = some .free)
    (hpar : ((defArgs st).posonlyargs ++ (defArgs st).args).head?.map (·.arg) = some ("self" : Str)) (hbody : defBody st = .Expr (.Call (.Attribute (.Call (.Name "super" p0) [] [] p1) "__init__" p2) [.Constant (.str msg) 0 q1] [] p3) p4 :: [])
    (hc : ∀ env : Env, env.scope = defScope st → eval (.Call (.Attribute (.Call (.Name "super" p0) [] [] p1) "__init__" p2) [.Constant (.str msg) 0 q1] [] p3) env = (do
      let ov ← attributeBase (.Call (.Name "super" p0) [] [] p1) "__init__" env (eval (.Call (.Name "super" p0) [] [] p1) env)
      standAt p2.atName
      let (g, first) ← holding [ov] (getMethod ov "__init__" (do return (← importBound (.Call (.Name "super" p0) [] [] p1) env).getD true))
      callWith p3 g first (backTo p3 (starEach [.Constant (.str msg) 0 q1] env)) [])) : FnOk P w K mg base CX0 2 f fd ["self"] (spInit0 K D) := by
  refine fn_sup (k := 1) (N := ["self"]) F S rfl hs1 hs2 hbody hpar (fun vs H Q E h => ?_) hc (fun _ => rfl) fun cda cc A outer s H vs Q E hr h => ?_
  · obtain ⟨a, C, rfl, _⟩ := h
    rfl
  · obtain ⟨a, C, rfl, ha, SC, k⟩ := h
    exact ⟨a, C, _, _, rfl, ha, SC, pe_str, pss_nil, ha, k⟩
end
end Er
end

/-! Er17 -/
section
set_option maxHeartbeats 4000000
set_option exponentiation.threshold 1000
namespace Er
open PySem PySem.Spec PyProof.Rows L2 He
/-- super() of the class at D finds the def at f2 for an error of the class at C -/
structure SupM (K : PySem.W.Frag) (C D f2 : Addr) : Prop where
  oex : OexC K C
  isD : PySem.W.mroIn K C (.ref D) = some true
  sup : PySem.W.ks_superIn K C D "__init__" = some (some (.ref f2))
  fn : PySem.W.typeIn K (.ref f2) = some (.type "function")
  isFn : PySem.W.fnIn K f2 = true
section
variable {P : Program} {w : World} {K : PySem.W.Frag} {mg : Str → Option Value} {base : Heap} {x qual : Str} {st : Stmt} {f D : Addr} {fd : FuncData} {N ps : List Str} {k : Nat} {sp : Sp}
theorem fn_sup2 (F : SFun P K x qual st f D fd) (S : ScS N ps (defScope st)) (h0 : ps.head? = some ("self" : Str)) (hs1 : (defScope st).names.lookup ("super" : Str) = some .globalImplicit) (hs2 : (defScope st).names.lookup ("__class__" : Str) = some .free)
    {p0 p1 p2 p3 p4 : Pos} {e : Expr} {rest : List Stmt} (hbody : defBody st = .Expr (.Call (.Attribute (.Call (.Name "super" p0) [] [] p1) "__init__" p2) [e] [] p3) p4 :: rest)
    (hpar : ((defArgs st).posonlyargs ++ (defArgs st).args).head?.map (·.arg) = some ("self" : Str)) (len : ∀ vs H Q E, sp vs H Q E → vs.length = ps.length)
    (hc : ∀ env : Env, env.scope = defScope st → eval (.Call (.Attribute (.Call (.Name "super" p0) [] [] p1) "__init__" p2) [e] [] p3) env = (do
      let ov ← attributeBase (.Call (.Name "super" p0) [] [] p1) "__init__" env (eval (.Call (.Name "super" p0) [] [] p1) env)
      standAt p2.atName
      let (g, first) ← holding [ov] (getMethod ov "__init__" (do return (← importBound (.Call (.Name "super" p0) [] [] p1) env).getD true))
      callWith p3 g first (backTo p3 (starEach [e] env)) []))
    (hse : ∀ env : Env, starEach [e] env = (false, eval e env) :: starEach [] env)
    {f2 : Addr} {fd2 : FuncData} {ps2 : List Str} {sp2 : Sp} {k2 : Nat} (F2 : FnOk P w K mg base CX0 k2 f2 fd2 ps2 sp2) (hkk : k2 ≤ k) (B2 : Binds K fd2 ps2 [])
    (hb : ∀ (cda cc : Addr) (A : Around) (outer : List Env) (s : Shared) (H : Hp) (vs : List V) (Q : VK) (E : XK), Room k (A.deeper (PySem.W.ksEnv qual (defScope st) s.heap.objs.size f (.ref cda) cc)) → sp vs H Q E →
      ∃ (a C : Addr) (te : TE) (t : TS), vs.head? = some (.ref a) ∧ H a = some (exo a C none) ∧ SupM K C D f2 ∧
        PE (cxS CX0 P w K mg base N qual (defScope st) f (.ref cda) cc A outer s H E).nox e te ∧ PSs (cxS CX0 P w K mg base N qual (defScope st) f (.ref cda) cc A outer s H E).nox rest t ∧
        te (L2.start N vs) H (fun v H1 => sp2 [.ref a, v] H1 (fun _ H2 => t { nx := fun _ H3 => Q .non H3, rt := Q } (L2.start N vs) H2) fun _ _ _ => False)) :
    FnOk P w K mg base CX0 (k + 1) f fd ps sp := by
  obtain ⟨oc, od, kV, doc, pm, an, cda, ct, cc, osl, rfl, lk, hcd, ⟨cl, cld, csl, hcell⟩, ⟨ccl, cdd, va, ccs, file, tf, hcode, hva, hfile⟩⟩ := F.ex
  obtain ⟨cdD, hD⟩ := F.clsD
  refine ⟨len, fun A outer s H args us vs Q E hr e0 hbi r hsp => ?_⟩
  have hr1 := hr.deeper (PySem.W.ksEnv qual (defScope st) s.heap.objs.size f (.ref cda) cc)
  have hl := len _ _ _ _ hsp
  have KX : K.In s.heap := e0.mod.kin.keeps fun b o e => (e0.bs b o e).1
  have lim : s.heap.NoLimit := e0.mod.nolimit.keeps fun b o e => (e0.bs b o e).1
  obtain ⟨a, C, te, t, hv, ha, SC, he, hrest, hte⟩ := hb cda cc A outer s H vs Q E (hr.deeper _) hsp
  have hloc : ∀ y ∈ ps.zip us, (defScope st).names.lookup y.1 = some .local := fun ⟨n, v⟩ hy => S.par n (List.of_mem_zip hy).1
  refine ks_codeAny_call_defAt (fd := PySem.W.ksFn x qual (defArgs st) (defBody st) (defScope st) .none kV doc pm an (.ref cda) ct cc) (body := defBody st) (binds := ps.zip us) hr.depth (KX _ _ lk) rfl lim (PySem.W.codeRec_of KX hcd) rfl hbi S.nocell hloc (fun h1 hns hk => ?_) S.co S.gen S.kind
  have I : Inv (cxS CX0 P w K mg base N qual (defScope st) f (.ref cda) cc A outer s H E) [] (L2.start N vs) H { s with heap := h1, toks := s.toks + (ps.zip us).length } := inv_s S hcell hr.hd e0 hl r hns hk
  generalize hX : cxS CX0 P w K mg base N qual (defScope st) f (.ref cda) cc A outer s H E = X at I he hrest
  have heq : callEnv (PySem.W.ksFn x qual (defArgs st) (defBody st) (defScope st) .none kV doc pm an (.ref cda) ct cc) s.heap.objs.size f = X.env := by rw [← hX]; rfl
  have hA : A.deeper X.env = X.A := by rw [← hX]; rfl
  have hEv : X.env = PySem.W.ksEnv qual (defScope st) s.heap.objs.size f (.ref cda) cc := by rw [← hX]; rfl
  have hsc : X.env.scope = defScope st := by rw [← hX]; rfl
  have hxf : X.env.func = some f := by rw [← hX]; rfl
  have hxc : X.env.code = .ref cda := by rw [← hX]; rfl
  have hP : X.prog = P := by rw [← hX]; rfl
  have hw : X.w = w := by rw [← hX]; rfl
  have hK : X.K = K := by rw [← hX]; rfl
  have hMg : X.mg = mg := by rw [← hX]; rfl
  have hBs : X.base = base := by rw [← hX]; rfl
  have hxe : X.xe = fun e s' => wpAny (model P w) X.A (leaving X.env e) (fun _ s2 => CX0 outer H s E e s2) (fun e' s2 => CX0 outer H s E e' s2) s' := by rw [← hX]; rfl
  have hb2 : ∀ {u : Flow} {s2 : Shared}, SP X [] { nx := fun _ H2 => Q .non H2, rt := Q } u s2 → CR CX0 outer P w H s Q E (.ok (.ret (match u with | .ret v => v | _ => .none))) s2 := by
    intro u s2 hu
    subst hX
    cases u with
    | ret u =>
      obtain ⟨v, σ2, H2, J, rv, q⟩ := hu
      exact ⟨v, H2, J.os, J.bare, J.base, J.hok, rv, q⟩
    | next =>
      obtain ⟨σ2, H2, J, q⟩ := hu
      exact ⟨.non, H2, J.os, J.bare, J.base, J.hok, rfl, q⟩
    | brk =>
      obtain ⟨_, _, _, q⟩ := hu
      exact False.elim q
    | cont =>
      obtain ⟨_, _, _, q⟩ := hu
      exact False.elim q
  rw [heq, hA]
  show PySem.wpAt (model P w) X.A (.func (defBody st) X.env) (execs (defBody st) X.env) _ _ _
  rw [show execs (defBody st) X.env = execs (.Expr (.Call (.Attribute (.Call (.Name "super" p0) [] [] p1) "__init__" p2) [e] [] p3) p4 :: rest) X.env by rw [hbody]]
  have hint : interactive X.env = false := by
    unfold interactive
    rw [hsc, S.kind]
    rfl
  refine ks_wpAt_execs_cons (ks_wpAt_Expr_any (ks_wpAt_MethodCall ?_ (hc X.env hsc)) hint rfl)
  have hk1 : X.env.kindOf "super" = some .globalImplicit := by rw [← hs1, ← hsc]; rfl
  have hk2 : X.env.kindOf "__class__" = some .free := by rw [← hs2, ← hsc]; rfl
  obtain ⟨ar, har, hself⟩ : ∃ ar, ((defArgs st).posonlyargs ++ (defArgs st).args).head? = some ar ∧ ar.arg = ("self" : Str) := by
    cases z : ((defArgs st).posonlyargs ++ (defArgs st).args).head? with
    | none => rw [z] at hpar; cases hpar
    | some ar =>
      rw [z] at hpar
      exact ⟨ar, rfl, Option.some.inj hpar⟩
  refine ks_wpAt_super_base hk1 hk2 (by decide) hxf (hk _ _ (KX _ _ lk)) rfl har hxc (hk _ _ (KX _ _ hcode)) rfl hva hfile F.noTop ?_
  rw [hself]
  have hmg : X.mg "super" = none := by rw [← hX]; exact PySem.W.mg_none_of e0.mod.kin e0.mod.glob F.noSup
  have hcl : X.env.cells.lookup ("__class__" : Str) = some cc := by
    rw [← hX]
    show [(("__class__" : Str), cc)].lookup ("__class__" : Str) = some cc
    simp [List.lookup]
  have hus : us[0]? = some (.ref a) := by
    cases r with
    | nil => cases hv
    | cons q t =>
      cases hv
      cases (show _ = Value.ref a from q)
      rfl
  have hps : ps[0]? = some ("self" : Str) := by
    cases ps with
    | nil => cases h0
    | cons p t => rw [List.head?_cons] at h0; cases h0; rfl
  have ndP : ps.Nodup := by rw [← S.pre]; exact S.nd.sublist (List.take_sublist _ _)
  have hsl : (ps.zip us).reverse.lookup ("self" : Str) = some (.ref a) := zip_rev_get ndP hps hus
  have hkl : X.env.kindOf "self" = some .local := by
    rw [← S.par "self" (List.mem_of_getElem? hps), ← hsc]
    rfl
  have hnsX : h1.Ns X.env.locals fun x => (ps.zip us).reverse.lookup x := by rw [← hX]; exact hns
  subst hP hw hK hMg hBs
  obtain ⟨mb, b1, b2⟩ := I.mod.blt
  refine PySem.W.ks_loadName_global I.ok.kind hk1 (Calls.loadGlobal_builtin (by rw [I.ok.glob]; exact I.mod.glob.keeps I.bk) hmg (by rw [I.ok.blt]; exact b1.keeps I.bk) ((b2 _ (by decide)).trans (show bootBuiltins "super" = some (.type "super") by decide +kernel)) ⟨rfl, ?_⟩)
  refine wpAny_loadName_free I.ok.kind hk2 hcl ⟨_, hk _ _ (KX _ _ hcell), rfl⟩ ?_
  refine wpAny_loadName_local I.ok.kind hkl hnsX hsl ?_
  obtain ⟨oD, hD1, hD2⟩ : ∃ oD, h1.get? D = some oD ∧ oD.data = .cls cdD := by
    unfold PySem.W.clsIn at hD
    split at hD
    · rename_i c d cd2 sl ho
      cases hD
      exact ⟨_, hk _ _ (KX _ _ ho), rfl⟩
    · cases hD
  refine ks_wpAny_isType_cls hD1 hD2 ⟨rfl, ?_⟩
  obtain ⟨t1, hobj⟩ := exo_at I.hok ha
  have K1 : X.K.In h1 := I.kIn
  refine ks_wpAny_call_super hD1 hD2 hobj rfl (fun c e => nomatch e) (PySem.W.looks_mroIn K1 SC.isD) (fun h2 eso k2' => ?_)
  have K2 : X.K.In h2 := K1.keeps k2'
  obtain ⟨cdC, hcC⟩ : ∃ cdC, PySem.W.clsIn X.K C = some cdC := by
    cases z : PySem.W.clsIn X.K C with
    | none =>
      have q := SC.sup
      unfold PySem.W.ks_superIn at q
      rw [z] at q
      cases q
    | some cd => exact ⟨cd, rfl⟩
  have hal : PySem.W.alongIn X.K "__init__" ((cdC.mro.dropWhile (· != .ref D)).drop 1) = some (some (.ref f2)) := by
    have q := SC.sup
    unfold PySem.W.ks_superIn at q
    rw [hcC] at q
    exact q
  have naC : a ≠ C := by
    rintro rfl
    unfold PySem.W.clsIn at hcC
    split at hcC
    · rename_i c d cd2 sl ho
      have z := K1 _ _ ho
      rw [hobj] at z
      cases z
    · cases hcC
  have It : PySem.W.InstAt h2 a _ C none := ⟨k2' _ _ hobj, rfl, rfl, trivial⟩
  obtain ⟨of2, hof, hoc⟩ : ∃ of2, h2.get? f2 = some of2 ∧ of2.cls = .type "function" := by
    have z := SC.fn
    have z2 : (X.K.lookup f2).map (·.cls) = some (.type "function") := z
    cases q : X.K.lookup f2 with
    | none => rw [q] at z2; cases z2
    | some o => rw [q] at z2; exact ⟨o, K2 _ _ q, Option.some.inj z2⟩
  refine ks_wpAny_getMethod_super eso (PySem.W.looks_opaque K2 F.noThird) (l₀ := cdC.mro) (fun A Q E s k q => wpAny_bind ((PySem.W.looks_clsIn K2 hcC) A _ E s k (wpAny_pure q))) rfl K2 hal hof hoc naC (by decide) ?_
  have k3 : ∀ b v, h1.get? b = some v → (h2.push (PySem.W.methodObj (.ref f2) (.ref a))).get? b = some v := fun b v q => Heap.get?_push_of_some _ (k2' b v q)
  have hu3 : (h2.push (PySem.W.methodObj (.ref f2) (.ref a))).get? h2.objs.size = some (PySem.W.methodObj (.ref f2) (.ref a)) := Heap.get?_push_at rfl rfl
  have hsz : h1.objs.size ≤ h2.objs.size := Nat.le_of_lt (Nat.lt_of_le_of_lt (Nat.le_refl _) (Heap.lt_size eso))
  have J := inv_pin1 (t1 := s.toks + (ps.zip us).length + 1) I k3 hsz hu3 (fun v z => nomatch z)
  have hrun := he.nox.run _ _ _ _ _ J hte
  rw [hxe] at hrun
  have hbase : X.base.get? h2.objs.size = none := by
    cases q : X.base.get? h2.objs.size with
    | none => rfl
    | some o => exact absurd (Heap.lt_size (I.bk _ _ q)) (Nat.not_lt.mpr hsz)
  refine ClX.callwith_cm (g := f2) (C := a) J hbase SC.isFn ?_ (hse _) rfl
  rw [hse]
  show wpAny _ _ (spliced ((false, eval e X.env) :: backTo p3 (starEach [] X.env))) _ _ _
  refine Calls.spliced_cons (thn hrun fun v s3 hv3 => ?_)
  obtain ⟨v', H1, I3, rv, q3⟩ := hv3
  refine Calls.spliced_nil ⟨⟨(I3.pin _ (List.mem_append_right _ (List.mem_cons_self ..))).1, I3.kIn⟩, ?_⟩
  have hvv : Vals [V.ref a, v'] [Value.ref a, v] := .cons rfl (.cons rv .nil)
  have hlen : ([Value.ref a, v] ++ []).length = ps2.length := by
    have z := F2.len _ _ _ _ q3
    rw [← z]
    rfl
  have hbt := B2 s3 [Value.ref a, v] I3.kIn hlen
  have hr2 : Room k2 X.A := by rw [← hA, hEv]; exact hr1.mono hkk
  refine wpAny_call (PySem.W.method_call ((I3.pin _ (List.mem_append_right _ (List.mem_cons_self ..))).1) (codeAny_mono (F2.run X.A X.stack s3 H1 ⟨[.ref a, v], []⟩ ([.ref a, v] ++ []) [.ref a, v'] _ _ hr2 I3.env0 hbt hvv q3) fun r s4 hq => ?_))
  cases r with
  | error e => exact False.elim hq
  | ok fl =>
    cases fl with
    | ret u =>
      obtain ⟨_, H2, I4, _, ht3⟩ := I3.after hq
      have I5 := inv_unpin I4
      have hrun2 := hrest.nox.run [] s4 _ H2 _ I5 ht3
      rw [hxe] at hrun2
      exact wpAt_of_wpAny (wpAny_mono hrun2 (fun u s5 hu5 => hb2 hu5) fun u s5 hu5 => hu5)
    | next => exact False.elim hq
    | brk => exact False.elim hq
    | cont => exact False.elim hq
/-- an own __init__ that hands its one field on to the class above, which keeps it, and keeps it once more -/
def spInitM (K : PySem.W.Frag) (D D2 f2 : Addr) (fn : Str) : Sp := fun vs H Q _ => ∃ (a C : Addr) (v : V) (d : PyData), vs = [.ref a, v] ∧ H a = some (exo a C none) ∧ SupM K C D f2 ∧ SupC K C D2 ∧ PySem.W.findIn K (.ref C) fn = some none ∧ Va H v d ∧
  ∀ dx, H dx = none → dx ≠ a → Q .non (upd (upd (upd H dx (exd dx [(fn, v)])) a (exo a C (some dx))) dx (exd dx [(fn, v), (fn, v)]))
theorem ok_initM {fn : Str} {D2 f2 : Addr} {fd2 : FuncData} {p0 p1 p2 p3 p4 q1 r1 r2 r3 r4 : Pos} (F : SFun P K "__init__" qual st f D fd) (S : ScS ["self", fn] ["self", fn] (defScope st)) (hs1 : (defScope st).names.lookup ("super" : Str) = some .globalImplicit) (hs2 : (defScope st).names.lookup ("__class__" : Str) = some .free)
    (hpar : ((defArgs st).posonlyargs ++ (defArgs st).args).head?.map (·.arg) = some ("self" : Str)) (d1 : (fn == ("__debug__" : Str)) = false) (d2 : (fn == ("__classdict__" : Str)) = false)
    (hbody : defBody st = .Expr (.Call (.Attribute (.Call (.Name "super" p0) [] [] p1) "__init__" p2) [.Name fn q1] [] p3) p4 :: [.Assign [.Attribute (.Name "self" r1) fn r2] (.Name fn r3) r4])
    (hc : ∀ env : Env, env.scope = defScope st → eval (.Call (.Attribute (.Call (.Name "super" p0) [] [] p1) "__init__" p2) [.Name fn q1] [] p3) env = (do
      let ov ← attributeBase (.Call (.Name "super" p0) [] [] p1) "__init__" env (eval (.Call (.Name "super" p0) [] [] p1) env)
      standAt p2.atName
      let (g, first) ← holding [ov] (getMethod ov "__init__" (do return (← importBound (.Call (.Name "super" p0) [] [] p1) env).getD true))
      callWith p3 g first (backTo p3 (starEach [.Name fn q1] env)) []))
    (F2 : FnOk P w K mg base CX0 2 f2 fd2 ["self", fn] (spInit1 K D2 fn)) (B2 : Binds K fd2 ["self", fn] []) : FnOk P w K mg base CX0 3 f fd ["self", fn] (spInitM K D D2 f2 fn) := by
  refine fn_sup2 (k := 2) (N := ["self", fn]) F S rfl hs1 hs2 hbody hpar (fun vs H Q E h => ?_) hc (fun _ => rfl) F2 (Nat.le_refl _) B2 fun cda cc A outer s H vs Q E hr h => ?_
  · obtain ⟨a, C, v, d, rfl, _⟩ := h
    rfl
  · obtain ⟨a, C, v, d, rfl, ha, SM, SC, hno, hv, k⟩ := h
    have v0 : (defScope st).names.lookup ("self" : Str) = some .local := S.par _ (by simp)
    have v1 : (defScope st).names.lookup fn = some .local := S.par _ (by simp)
    refine ⟨a, C, _, _, rfl, ha, SM, pv 1 rfl (.inl v1) d1 d2, pss_one (ps_ost (pv 0 rfl (.inl v0)) (pv 1 rfl (.inl v1) d1 d2)), ?_⟩
    refine ⟨_, rfl, a, C, v, d, rfl, ha, SC, hno, hv, fun dx n ne => ?_⟩
    exact ⟨_, rfl, _, rfl, a, C, rfl, SC.oex, hno, .inr ⟨dx, _, upd_same, by rw [upd_ne ne]; exact upd_same, (by show 1 ≤ 900; decide), k dx n ne⟩⟩
end
end Er
end

/-! Er18 -/
section
set_option maxHeartbeats 4000000
set_option exponentiation.threshold 1000
namespace Er
open PySem PySem.Spec PyProof.Rows L2 He
section
variable {P : Program} {K : PySem.W.Frag} {x qual : Str} {st : Stmt} {f D : Addr} {fd : FuncData}
theorem sfun_kbn (F : SFun P K x qual st f D fd) {ps : List Str} (n : Nat) (ks : List Str) (g : {α : Type} → List α → List α → List α) (hrel : ∀ {vs zs : List V} {us ws : List Value}, Vals vs us → Vals zs ws → Vals (g vs zs) (g us ws))
    (h : ∀ (kV doc pm : Value) (an : Option Addr) (cda : Addr) (ct : Value) (cc : Addr) (us ws : List Value), us.length = n → ws.length = ks.length →
      bindArgs (PySem.W.ksFn x qual (defArgs st) (defBody st) (defScope st) .none kV doc pm an (.ref cda) ct cc) ⟨us, ks.zip ws⟩ = pure (ps.zip (g us ws))) : KBn K fd ps n ks (fun us ws => g us ws) (fun vs zs => g vs zs) := by
  obtain ⟨oc, od, kV, doc, pm, an, cda, ct, cc, osl, rfl, _⟩ := F.ex
  exact ⟨fun s us ws X l1 l2 => .of_eq (h kV doc pm an cda ct cc us ws l1 l2), fun r1 r2 => hrel r1 r2⟩
theorem vals_rev : ∀ {vs : List V} {us : List Value}, Vals vs us → Vals vs.reverse us.reverse
  | _, _, .nil => .nil
  | _, _, .cons r t => by
    rw [List.reverse_cons, List.reverse_cons]
    exact (vals_rev t).append (.cons r .nil)
theorem sfun_binds (F : SFun P K x qual st f D fd) {ps : List Str} (h : ∀ (kV doc pm : Value) (an : Option Addr) (cda : Addr) (ct : Value) (cc : Addr) (us : List Value), us.length = ps.length →
      bindArgs (PySem.W.ksFn x qual (defArgs st) (defBody st) (defScope st) .none kV doc pm an (.ref cda) ct cc) ⟨us, []⟩ = pure (ps.zip us)) : Binds K fd ps [] := by
  obtain ⟨oc, od, kV, doc, pm, an, cda, ct, cc, osl, rfl, _⟩ := F.ex
  exact .all (h kV doc pm an cda ct cc)
end
/-- an error of the class at C stands at a, with these fields -/
def ErX (H : Hp) (a C : Addr) (fs : List (Str × V)) : Prop := (fs = [] ∧ H a = some (exo a C none)) ∨ ∃ d, H a = some (exo a C (some d)) ∧ H d = some (exd d fs)
theorem ErX.mono {H H2 : Hp} {a C : Addr} {fs : List (Str × V)} (s : Same H H2) (h : ErX H a C fs) : ErX H2 a C fs := by
  rcases h with ⟨e, h⟩ | ⟨d, h1, h2⟩
  · exact .inl ⟨e, s _ _ h⟩
  · exact .inr ⟨d, s _ _ h1, s _ _ h2⟩
/-- a new error of n fields -/
def tNew (C : Addr) (n : Nat) (mk : List V → List (Str × V)) (t : TA) : TE := fun σ H Q => t σ H fun vs H1 => vs.length = n ∧ (∀ v ∈ vs, ∃ d, Va H1 v d) ∧ ∀ a H2, Same H1 H2 → H1 a = none → ErX H2 a C (mk vs) → Q (.ref a) H2
/-- what the promise of C's __init__ must give for that -/
def NewOk (C : Addr) (sp : Sp) (g : List V → List V) (n : Nat) (mk : List V → List (Str × V)) : Prop := ∀ (vs : List V) (H : Hp) (R : Hp → Prop) (a : Addr), vs.length = n → (∀ v ∈ vs, ∃ d, Va H v d) → H a = none →
  (∀ H2, Same H H2 → ErX H2 a C (mk vs) → R H2) → sp (.ref a :: g vs) (upd H a (exo a C none)) (fun v H3 => v = .non ∧ R H3) fun _ _ _ => False
section
variable {X : Cx} {k n : Nat} {fI C : Addr} {fd : FuncData} {ps ks : List Str} {sp : Sp} {x : Str} {p pos : Pos} {e : Expr} {es : List Expr} {kws : List Keyword} {t tk : TA} {mk : List V → List (Str × V)} {g : List Value → List Value → List Value} {gV : List V → List V → List V} {q : List V → List V}
theorem pe_newE (M : MkE X.K C fI) (F1 : FnOk X.prog X.w X.K X.mg X.base CX0 k fI fd ps sp) (hr : Room (k + 1) X.A) (hg : Gl X x) (hm : X.mg x = some (.ref C)) (hb : KBn X.K fd ps (n + 1) [] g gV) (hgv : ∀ a vs, gV (.ref a :: vs) [] = .ref a :: q vs) (N : NewOk C sp q n mk) (hn1 : n ≤ 1000) (ha : PA X (e :: es) t)
    (hdb : (x == ("__debug__" : Str)) = false := by decide) (he : starEach (e :: es) X.env = (false, eval e X.env) :: starEach es X.env := by rfl) (hpl : (backTo pos (starEach es X.env)).any (·.1) = false := by rfl) :
    PE X (.Call (.Name x p) (e :: es) [] pos) (tNew C n mk t) := by
  refine ⟨fun pins s σ H Q I h => wpAny_Call_Name_kw (ld_glob I hg hm ?_ hdb)⟩
  refine PySem.W.callWith_K (h₀ := X.base) I.ok.mod.kin M.oex.kC (thn (ha.run pos pins s σ H _ I h) fun us s1 ⟨vs, H1, I1, r1, l1, hv, q1⟩ => ⟨I1.kIn, ?_⟩) he hpl
  refine run_mkE (ks := []) (ws := []) (zs := []) M F1 hr hb I1 r1 .nil l1 rfl hn1 fun a ha => ?_
  rw [hgv]
  exact N vs H1 _ a l1 hv ha fun H2 s2 x2 => q1 a H2 s2 ha x2
theorem pe_newE0 (M : MkE X.K C fI) (F1 : FnOk X.prog X.w X.K X.mg X.base CX0 k fI fd ps sp) (hr : Room (k + 1) X.A) (hg : Gl X x) (hm : X.mg x = some (.ref C)) (hb : KBn X.K fd ps 1 [] g gV) (hgv : ∀ a, gV [.ref a] [] = .ref a :: q []) (N : NewOk C sp q 0 mk)
    (hdb : (x == ("__debug__" : Str)) = false := by decide) : PE X (.Call (.Name x p) [] [] pos) (tNew C 0 mk tNil) := by
  refine ⟨fun pins s σ H Q I h => wpAny_Call_Name_kw (ld_glob I hg hm ?_ hdb)⟩
  obtain ⟨_, _, q1⟩ := h
  refine PySem.W.callWith_K0 I.kIn M.oex.kC (run_mkE (us := []) (vs := []) (ks := []) (ws := []) (zs := []) M F1 hr hb I .nil .nil rfl rfl (Nat.zero_le _) fun a ha => ?_)
  rw [hgv]
  exact N [] H _ a rfl (fun v hv => nomatch hv) ha fun H2 s2 x2 => q1 a H2 s2 ha x2
theorem pe_newEk (M : MkE X.K C fI) (F1 : FnOk X.prog X.w X.K X.mg X.base CX0 k fI fd ps sp) (hr : Room (k + 1) X.A) (hg : Gl X x) (hm : X.mg x = some (.ref C)) (hb : KBn X.K fd ps 1 ks g gV) (hgv : ∀ a zs, gV [.ref a] zs = .ref a :: q zs) (N : NewOk C sp q ks.length mk) (hkw : PK X kws tk)
    (hall : (backToKw pos (keywordEach kws X.env)).all (·.1.isSome) = true := by rfl) (hks : (backToKw pos (keywordEach kws X.env)).filterMap (·.1) = ks := by rfl) (hdb : (x == ("__debug__" : Str)) = false := by decide)
    (hpl : ((backTo pos (starEach [] X.env)).any (·.1) || (backToKw pos (keywordEach kws X.env)).any (·.1.isNone)) = false := by rfl) : PE X (.Call (.Name x p) [] kws pos) (tNew C ks.length mk tk) := by
  refine ⟨fun pins s σ H Q I h => wpAny_Call_Name_kw (ld_glob I hg hm ?_ hdb)⟩
  refine PySem.W.callWith_KW0 (h₀ := X.base) I.ok.mod.kin M.oex.kC hall ?_ hpl
  refine thn (hkw.run pos pins s σ H _ I h) fun ws s2 ⟨zs, H2, I2, rz, l2, hv, q1⟩ => ⟨I2.kIn, ?_⟩
  rw [hks]
  refine run_mkE (us := []) (vs := []) M F1 hr hb I2 .nil rz rfl l2 (Nat.zero_le _) fun a ha => ?_
  rw [hgv]
  exact N zs H2 _ a l2 hv ha fun H3 s3 x3 => q1 a H3 s3 ha x3
end
/-! ### the four kinds -/
section
variable {K : PySem.W.Frag} {C D D2 f2 : Addr} {fn gn : Str}
theorem same_new {H : Hp} {a : Addr} {o : HO} (h : H a = none) : Same H (upd H a o) := fun b u e => by
  rw [upd_ne (ne_of_none e h)]
  exact e
theorem new1 (SC : SupC K C D) (hno : PySem.W.findIn K (.ref C) fn = some none) : NewOk C (spInit1 K D fn) id 1 fun vs => vs.map fun v => (fn, v) := by
  intro vs H R a hl hv ha k
  match vs, hl with
  | [v], _ =>
    obtain ⟨d, hv⟩ := hv v (List.mem_cons_self ..)
    have s1 := same_new (o := exo a C none) ha
    refine ⟨a, C, v, d, rfl, upd_same, SC, hno, hv.mono s1, fun dx n ne => ⟨rfl, ?_⟩⟩
    refine k _ (fun b u e => ?_) (.inr ⟨dx, upd_same, by rw [upd_ne ne]; exact upd_same⟩)
    rw [upd_ne (ne_of_none e ha), upd_ne (ne_of_none (s1 _ _ e) n)]
    exact s1 _ _ e
theorem newM (SM : SupM K C D f2) (SC : SupC K C D2) (hno : PySem.W.findIn K (.ref C) fn = some none) : NewOk C (spInitM K D D2 f2 fn) id 1 fun vs => vs.flatMap fun v => [(fn, v), (fn, v)] := by
  intro vs H R a hl hv ha k
  match vs, hl with
  | [v], _ =>
    obtain ⟨d, hv⟩ := hv v (List.mem_cons_self ..)
    have s1 := same_new (o := exo a C none) ha
    refine ⟨a, C, v, d, rfl, upd_same, SM, SC, hno, hv.mono s1, fun dx n ne => ⟨rfl, ?_⟩⟩
    refine k _ (fun b u e => ?_) (.inr ⟨dx, by rw [upd_ne ne.symm]; exact upd_same, upd_same⟩)
    rw [upd_ne (ne_of_none (s1 _ _ e) n), upd_ne (ne_of_none e ha), upd_ne (ne_of_none (s1 _ _ e) n)]
    exact s1 _ _ e
theorem new2 (SC : SupC K C D) (hno : PySem.W.findIn K (.ref C) fn = some none) (hno2 : PySem.W.findIn K (.ref C) gn = some none) : NewOk C (spInit2 K D fn gn) id 2 fun vs => match vs with | [v, u] => [(gn, u), (fn, v)] | _ => [] := by
  intro vs H R a hl hv ha k
  match vs, hl with
  | [v, u], _ =>
    obtain ⟨d, h1⟩ := hv v (by simp)
    obtain ⟨e, h2⟩ := hv u (by simp)
    have s1 := same_new (o := exo a C none) ha
    refine ⟨a, C, v, d, u, e, rfl, upd_same, SC, hno, hno2, h1.mono s1, h2.mono s1, fun dx n ne => ⟨rfl, ?_⟩⟩
    refine k _ (fun b w q => ?_) (.inr ⟨dx, by rw [upd_ne ne.symm]; exact upd_same, upd_same⟩)
    rw [upd_ne (ne_of_none (s1 _ _ q) n), upd_ne (ne_of_none q ha), upd_ne (ne_of_none (s1 _ _ q) n)]
    exact s1 _ _ q
theorem new2r (SC : SupC K C D) (hno : PySem.W.findIn K (.ref C) fn = some none) (hno2 : PySem.W.findIn K (.ref C) gn = some none) : NewOk C (spInit2 K D fn gn) List.reverse 2 fun vs => match vs with | [u, v] => [(gn, u), (fn, v)] | _ => [] := by
  intro vs H R a hl hv ha k
  match vs, hl with
  | [u, v], hl =>
    exact new2 SC hno hno2 [v, u] H R a rfl (fun z hz => hv z (by simp at hz ⊢; exact hz.symm)) ha k
theorem new0 (SC : SupC K C D) : NewOk C (spInit0 K D) id 0 fun _ => [] := by
  intro vs H R a hl hv ha k
  match vs, hl with
  | [], _ => exact ⟨a, C, rfl, upd_same, SC, rfl, k _ (same_new ha) (.inl ⟨rfl, upd_same⟩)⟩
end
end Er
end

/-! Er19 -/
section
set_option maxHeartbeats 4000000
set_option exponentiation.threshold 1000
namespace Er
open PySem PySem.Spec PyProof.Rows L2 He
/-! ### lists of new errors -/
theorem same_trans {A B C : Hp} (h : Same A B) (k : Same B C) : Same A C := fun b o e => k b o (h b o e)
theorem same_refl {A : Hp} : Same A A := fun _ _ e => e
inductive Ers (H : Hp) : List V → List (Addr × List (Str × V)) → Prop
  | nil : Ers H [] []
  | cons {a C : Addr} {fs : List (Str × V)} {xs : List V} {l : List (Addr × List (Str × V))} (h : ErX H a C fs) (t : Ers H xs l) : Ers H (.ref a :: xs) ((C, fs) :: l)
theorem Ers.mono {H H2 : Hp} (s : Same H H2) : ∀ {xs : List V} {l : List (Addr × List (Str × V))}, Ers H xs l → Ers H2 xs l
  | _, _, .nil => .nil
  | _, _, .cons h t => .cons (h.mono s) (t.mono s)
theorem Ers.append {H : Hp} : ∀ {xs ys : List V} {l m : List (Addr × List (Str × V))}, Ers H xs l → Ers H ys m → Ers H (xs ++ ys) (l ++ m)
  | _, _, _, _, .nil, k => k
  | _, _, _, _, .cons h t, k => .cons h (t.append k)
theorem Ers.length {H : Hp} : ∀ {xs : List V} {l : List (Addr × List (Str × V))}, Ers H xs l → xs.length = l.length
  | _, _, .nil => rfl
  | _, _, .cons _ t => congrArg Nat.succ t.length
theorem Ers.get {H : Hp} : ∀ {xs : List V} {l : List (Addr × List (Str × V))} {i : Nat} {x : V}, Ers H xs l → xs[i]? = some x → ∃ a C fs, x = .ref a ∧ l[i]? = some (C, fs) ∧ ErX H a C fs
  | _, _, _, _, .nil, e => by simp at e
  | _, _, 0, _, .cons h t, e => by
    simp only [List.getElem?_cons_zero, Option.some.injEq] at e
    exact ⟨_, _, _, e.symm, rfl, h⟩
  | _, _, i + 1, _, .cons h t, e => by
    simp only [List.getElem?_cons_succ] at e ⊢
    exact t.get e
/-- what is needed of the two values -/
def Vs (H : Hp) (v u : V) : Prop := (∃ d, Va H v d) ∧ ∃ d, Va H u d
theorem Vs.mono {H H2 : Hp} {v u : V} (s : Same H H2) (h : Vs H v u) : Vs H2 v u := by
  obtain ⟨⟨d, h1⟩, e, h2⟩ := h
  exact ⟨⟨d, h1.mono s⟩, e, h2.mono s⟩
def Giv1 (σ : L2.St) (v u : V) (te : TE) (p : Addr × List (Str × V)) : Prop := ∀ (H : Hp) (Q : VK), Vs H v u → (∀ a H2, Same H H2 → ErX H2 a p.1 p.2 → Q (.ref a) H2) → te σ H Q
def Givs (σ : L2.St) (v u : V) (t : TA) (l : List (Addr × List (Str × V))) : Prop := ∀ (H : Hp) (Q : List V → Hp → Prop), Vs H v u → (∀ xs H2, Same H H2 → Ers H2 xs l → Q xs H2) → t σ H Q
section
variable {σ : L2.St} {v u : V} {C : Addr} {mk : List V → List (Str × V)} {i j : Nat}
theorem givs_nil : Givs σ v u tNil [] := fun H Q _ k => k [] H same_refl .nil
theorem givs_cons {te : TE} {t : TA} {p : Addr × List (Str × V)} {l : List (Addr × List (Str × V))} (h : Giv1 σ v u te p) (ht : Givs σ v u t l) : Givs σ v u (tCons te t) (p :: l) := fun H Q hv k =>
  h H _ hv fun a H2 s2 e2 => ht H2 _ (hv.mono s2) fun xs H3 s3 e3 => k (.ref a :: xs) H3 (same_trans s2 s3) (.cons (e2.mono s3) e3)
theorem giv_v (h : σ[i]? = some (some v)) : Giv1 σ v u (tNew C 1 mk (tCons (tVar i) tNil)) (C, mk [v]) := fun H Q hv k =>
  ⟨v, h, rfl, fun z hz => by
    obtain rfl : z = v := by simpa using hz
    exact hv.1, fun a H2 s2 _ e2 => k a H2 s2 e2⟩
theorem giv_vu (h : σ[i]? = some (some v)) (h2 : σ[j]? = some (some u)) : Giv1 σ v u (tNew C 2 mk (tCons (tVar i) (tCons (tVar j) tNil))) (C, mk [v, u]) := fun H Q hv k =>
  ⟨v, h, u, h2, rfl, fun z hz => by
    rcases (show z = v ∨ z = u by simpa using hz) with e | e
    · rw [e]; exact hv.1
    · rw [e]; exact hv.2, fun a H2 s2 _ e2 => k a H2 s2 e2⟩
theorem giv_uv (h : σ[i]? = some (some v)) (h2 : σ[j]? = some (some u)) : Giv1 σ v u (tNew C 2 mk (tCons (tVar j) (tCons (tVar i) tNil))) (C, mk [u, v]) := fun H Q hv k =>
  ⟨u, h2, v, h, rfl, fun z hz => by
    rcases (show z = u ∨ z = v by simpa using hz) with e | e
    · rw [e]; exact hv.2
    · rw [e]; exact hv.1, fun a H2 s2 _ e2 => k a H2 s2 e2⟩
theorem giv_0 : Giv1 σ v u (tNew C 0 mk tNil) (C, mk []) := fun H Q hv k => ⟨rfl, (by simp), fun a H2 s2 _ e2 => k a H2 s2 e2⟩
/-- .. as a list: the first one; one more behind a list that stands -/
def GivL (σ : L2.St) (v u : V) (H : Hp) (te : TE) (l : List (Addr × List (Str × V))) : Prop := ∀ (Q : VK), (∀ p xs H2, Same H H2 → H2 p = some (.lst xs) → Ers H2 xs l → Q (.ref p) H2) → te σ H Q
theorem givl_lst {t : TA} {l : List (Addr × List (Str × V))} {H : Hp} (hv : Vs H v u) (h : Givs σ v u t l) (hl : l.length ≤ 100) : GivL σ v u H (tLst t) l := fun Q k =>
  h H _ hv fun xs H2 s2 e2 => ⟨by rw [e2.length, sizeLine_eq]; omega, fun p hp => k p xs _ (same_trans s2 (same_new hp)) upd_same (e2.mono (same_new hp))⟩
theorem givl_cat {t : TA} {l m : List (Addr × List (Str × V))} {H : Hp} {p : Addr} {xs : List V} (hv : Vs H v u) (hp : σ[i]? = some (some (.ref p))) (hx : H p = some (.lst xs)) (he : Ers H xs l) (h : Givs σ v u t m) (hl : l.length + m.length ≤ 100) :
    GivL σ v u H (tOp rCat (tVar i) (tLst t)) (l ++ m) := fun Q k =>
  ⟨_, hp, h H _ hv fun ys H2 s2 e2 => ⟨by rw [e2.length, sizeLine_eq]; omega, fun q hq => ⟨p, q, xs, ys, rfl, rfl, same_new hq _ _ (s2 _ _ hx), upd_same, by rw [he.length, e2.length, sizeLine_eq]; omega, fun r hr =>
    k r (xs ++ ys) _ (same_trans s2 (same_trans (same_new hq) (same_new hr))) upd_same ((he.mono (same_trans s2 (same_trans (same_new hq) (same_new hr)))).append (e2.mono (same_trans (same_new hq) (same_new hr))))⟩⟩⟩
theorem use_lst {t : TA} {l : List (Addr × List (Str × V))} {H : Hp} {ts : TS} {D : Ends} (hv : Vs H v u) (h : Givs σ v u t l) (hl : l.length.ble 100 = true) (k : ∀ p xs H2, Same H H2 → H2 p = some (.lst xs) → Ers H2 xs l → ts D (σ.set j (some (.ref p))) H2) :
    tSeq (tAsg (tLst t) (gName j)) ts D σ H := by
  show tLst t σ H fun x H1 => ts D (σ.set j (some x)) H1
  exact givl_lst hv h (Nat.le_of_ble_eq_true hl) _ k
theorem use_cat {t : TA} {l m : List (Addr × List (Str × V))} {H : Hp} {p : Addr} {xs : List V} {ts : TS} {D : Ends} (hv : Vs H v u) (hp : σ[i]? = some (some (.ref p))) (hx : H p = some (.lst xs)) (he : Ers H xs l) (h : Givs σ v u t m) (hl : (l.length + m.length).ble 100 = true)
    (k : ∀ p xs H2, Same H H2 → H2 p = some (.lst xs) → Ers H2 xs (l ++ m) → ts D (σ.set j (some (.ref p))) H2) : tSeq (tAsg (tOp rCat (tVar i) (tLst t)) (gName j)) ts D σ H := by
  show tOp rCat (tVar i) (tLst t) σ H fun x H1 => ts D (σ.set j (some x)) H1
  exact givl_cat hv hp hx he h (Nat.le_of_ble_eq_true hl) _ k
theorem use_catr {t : TA} {l m : List (Addr × List (Str × V))} {H : Hp} {p : Addr} {xs : List V} {D : Ends} (hv : Vs H v u) (hp : σ[i]? = some (some (.ref p))) (hx : H p = some (.lst xs)) (he : Ers H xs l) (h : Givs σ v u t m) (hl : (l.length + m.length).ble 100 = true)
    (k : ∀ p xs H2, Same H H2 → H2 p = some (.lst xs) → Ers H2 xs (l ++ m) → D.rt (.ref p) H2) : tRet (tOp rCat (tVar i) (tLst t)) D σ H := by
  show tOp rCat (tVar i) (tLst t) σ H D.rt
  exact givl_cat hv hp hx he h (Nat.le_of_ble_eq_true hl) _ k
end
/-- a def that makes such a list -/
def spMade (n : Nat) (sel : V → V → List V) (l : V → V → List (Addr × List (Str × V))) : Sp := fun vs H Q _ => ∃ v u : V, vs = sel v u ∧ Vs H v u ∧ ∀ p xs H2, Same H H2 → H2 p = some (.lst xs) → Ers H2 xs (l v u) → Q (.ref p) H2
end Er
end

/-! Er20 -/
section
set_option maxHeartbeats 4000000
set_option exponentiation.threshold 1000
namespace Er
open PySem PySem.Spec PyProof.Rows L2 He
/-! ### lists of truths about one error -/
def Gvs (σ : L2.St) (H0 : Hp) (t : TA) (l : List V) : Prop := ∀ (H : Hp) (Q : List V → Hp → Prop), Same H0 H → Q l H → t σ H Q
def Gv1 (σ : L2.St) (H0 : Hp) (te : TE) (v : V) : Prop := ∀ (H : Hp) (Q : VK), Same H0 H → Q v H → te σ H Q
section
variable {σ : L2.St} {H0 : Hp} {i j : Nat}
theorem gvs_nil : Gvs σ H0 tNil [] := fun H Q _ q => q
theorem gvs_cons {te : TE} {t : TA} {v : V} {l : List V} (h : Gv1 σ H0 te v) (ht : Gvs σ H0 t l) : Gvs σ H0 (tCons te t) (v :: l) := fun H Q s q => h H _ s (ht H _ s q)
theorem isx_of {K : PySem.W.Frag} {H : Hp} {a C : Addr} {fs : List (Str × V)} {c : V} {cv : Value} {b : Bool} {Q : VK} (h : ErX H a C fs) (T : ExcC K C) (hc : ClsV c cv) (hk : PySem.W.kitOne K (.ref C) cv = some b) (q : Q (.bl b) H) : rIsX K [.ref a, c] H Q := by
  rcases h with ⟨_, h⟩ | ⟨d, h1, h2⟩
  · exact ⟨a, C, none, c, cv, b, rfl, hc, h, fun dx z => (nomatch z), T, hk, q⟩
  · refine ⟨a, C, some d, c, cv, b, rfl, hc, h1, fun dx z => ?_, T, hk, q⟩
    cases z
    exact ⟨_, h2⟩
theorem gv_isx {K : PySem.W.Frag} {a C : Addr} {fs : List (Str × V)} {c : V} {cv : Value} {b : Bool} (hv : σ[i]? = some (some (.ref a))) (h : ErX H0 a C fs) (T : ExcC K C) (hc : ClsV c cv) (hk : PySem.W.kitOne K (.ref C) cv = some b) :
    Gv1 σ H0 (tCB (rIsX K) (tCons (tVar i) (tCons (tC c) tNil))) (.bl b) := fun H Q s q => ⟨.ref a, hv, isx_of (h.mono s) T hc hk q⟩
theorem use_vlst {t : TA} {l : List V} {H : Hp} {ts : TS} {D : Ends} (s : Same H0 H) (h : Gvs σ H0 t l) (hl : l.length.ble 100 = true) (k : ∀ p H2, Same H0 H2 → H2 p = some (.lst l) → ts D (σ.set j (some (.ref p))) H2) : tSeq (tAsg (tLst t) (gName j)) ts D σ H := by
  show tLst t σ H fun x H1 => ts D (σ.set j (some x)) H1
  have hl := Nat.le_of_ble_eq_true hl
  exact h H _ s ⟨by rw [sizeLine_eq]; omega, fun p hp => k p _ (same_trans s (same_new hp)) upd_same⟩
theorem use_vcat {t : TA} {l m : List V} {H : Hp} {p : Addr} {ts : TS} {D : Ends} (s : Same H0 H) (hp : σ[i]? = some (some (.ref p))) (hx : H p = some (.lst l)) (h : Gvs σ H0 t m) (hl : (l.length + m.length).ble 100 = true)
    (k : ∀ p H2, Same H0 H2 → H2 p = some (.lst (l ++ m)) → ts D (σ.set j (some (.ref p))) H2) : tSeq (tAsg (tOp rCat (tVar i) (tLst t)) (gName j)) ts D σ H := by
  show tOp rCat (tVar i) (tLst t) σ H fun x H1 => ts D (σ.set j (some x)) H1
  have hl := Nat.le_of_ble_eq_true hl
  exact ⟨_, hp, h H _ s ⟨by rw [sizeLine_eq]; omega, fun q hq => ⟨p, q, l, m, rfl, rfl, same_new hq _ _ hx, upd_same, by rw [sizeLine_eq]; omega, fun r hr => k r _ (same_trans s (same_trans (same_new hq) (same_new hr))) upd_same⟩⟩⟩
end
end Er
end

/-! Er21 -/
section
set_option maxHeartbeats 4000000
set_option exponentiation.threshold 1000
namespace Er
open PySem PySem.Spec PyProof.Rows L2 He
/-! ### what the two values show -/
theorem len_list0 : (PySem.listText []).length = 2 := by decide +kernel
theorem len_list1 (s : Str) : (PySem.listText [s]).length = s.length + 2 := by
  show (PySem.textFrom 0 (Str.ofString "[") [s] ++ Str.ofString "]").length = _
  simp only [PySem.textFrom, PySem.Str.length_append]
  have e0 : (Str.ofString "").length = 0 := rfl
  have e1 : (Str.ofString "[").length = 1 := rfl
  have e2 : (Str.ofString "]").length = 1 := rfl
  have e3 : (Str.ofString ", ").length = 2 := rfl
  simp [e1, e2, e3, PySem.Str.length_append]
  omega
theorem len_list2 (s t : Str) : (PySem.listText [s, t]).length = s.length + t.length + 4 := by
  show (PySem.textFrom 0 (Str.ofString "[") [s, t] ++ Str.ofString "]").length = _
  simp only [PySem.textFrom, PySem.Str.length_append]
  have e0 : (Str.ofString "").length = 0 := rfl
  have e1 : (Str.ofString "[").length = 1 := rfl
  have e2 : (Str.ofString "]").length = 1 := rfl
  have e3 : (Str.ofString ", ").length = 2 := rfl
  simp [e1, e2, e3, PySem.Str.length_append]
  omega
theorem ten50 {n : Int} (h : n.natAbs < 10 ^ 50) : n.natAbs.log2 < 1920 := by
  by_cases z : n.natAbs = 0
  · rw [z]; decide
  · exact (Nat.log2_lt z).mpr (Nat.lt_trans h (by decide +kernel))
theorem int_len {n : Int} (h : n.natAbs < 10 ^ 50) : (Str.ofString (toString n)).length ≤ 51 := by
  rw [PySem.ofString_length]
  exact PySem.int_text_length_le10 (a := n) (k := 50) (by decide) h
structure Fine (d : PyData) : Prop where
  sh : d.showable = true
  len : d.shown.length ≤ 200
  dep : d.depth ≤ 2
theorem Va.fine {H : Hp} {v : V} {d : PyData} (x : Va H v d) : Fine d := by
  cases x with
  | non => exact ⟨by decide +kernel, by decide +kernel, by decide +kernel⟩
  | bl b => cases b <;> exact ⟨by decide +kernel, by decide +kernel, by decide +kernel⟩
  | int n h =>
    refine ⟨?_, ?_, ?_⟩
    · rw [PyData.showable.eq_4]; exact decide_eq_true (ten50 h)
    · rw [PyData.shown.eq_3]; exact Nat.le_trans (int_len h) (by decide)
    · rw [PyData.depth.eq_6]; decide
  | str x h h2 =>
    refine ⟨rfl, ?_, ?_⟩
    · rw [PyData.shown.eq_4]; omega
    · rw [PyData.depth.eq_7]; decide
  | lst e h =>
    refine ⟨?_, ?_, ?_⟩
    · rw [PyData.showable.eq_5, PyData.showableAll.eq_2, PyData.showable.eq_4, decide_eq_true (ten50 h)]; rfl
    · rw [PyData.shown.eq_5, PyData.shownAll.eq_2, PyData.shown.eq_3, PyData.shownAll.eq_1, len_list1]
      have := int_len h
      omega
    · rw [PyData.depth.eq_1, PyData.depthAll.eq_2, PyData.depth.eq_6, PyData.depthAll.eq_1]; decide
  | tup e => exact ⟨by decide +kernel, by decide +kernel, by decide +kernel⟩
  | dct e e2 => exact ⟨by decide +kernel, by decide +kernel, by decide +kernel⟩
theorem fine0 : (PyData.list []).showable = true ∧ (PyData.list []).shown.length ≤ sizeLine ∧ (PyData.list []).depth ≤ 20 := by
  refine ⟨by decide +kernel, ?_, by decide +kernel⟩
  rw [PyData.shown.eq_5, PyData.shownAll.eq_1, len_list0, sizeLine_eq]
  omega
theorem fine1 {d : PyData} (h : Fine d) : (PyData.list [d]).showable = true ∧ (PyData.list [d]).shown.length ≤ sizeLine ∧ (PyData.list [d]).depth ≤ 20 := by
  refine ⟨?_, ?_, ?_⟩
  · rw [PyData.showable.eq_5, PyData.showableAll.eq_2, h.sh]; rfl
  · rw [PyData.shown.eq_5, PyData.shownAll.eq_2, PyData.shownAll.eq_1, len_list1, sizeLine_eq]
    have := h.len
    omega
  · rw [PyData.depth.eq_1, PyData.depthAll.eq_2, PyData.depthAll.eq_1]
    have := h.dep
    omega
theorem fine2 {d e : PyData} (h : Fine d) (k : Fine e) : (PyData.list [d, e]).showable = true ∧ (PyData.list [d, e]).shown.length ≤ sizeLine ∧ (PyData.list [d, e]).depth ≤ 20 := by
  refine ⟨?_, ?_, ?_⟩
  · rw [PyData.showable.eq_5, PyData.showableAll.eq_2, PyData.showableAll.eq_2, h.sh, k.sh]; rfl
  · rw [PyData.shown.eq_5, PyData.shownAll.eq_2, PyData.shownAll.eq_2, PyData.shownAll.eq_1, len_list2, sizeLine_eq]
    have := h.len
    have := k.len
    omega
  · rw [PyData.depth.eq_1, PyData.depthAll.eq_2, PyData.depthAll.eq_2, PyData.depthAll.eq_1]
    have := h.dep
    have := k.dep
    omega
/-- what repr shows of a list of them -/
structure ShL (H : Hp) (xs : List V) (d : PyData) : Prop where
  sh : ∀ H2, Same H H2 → ∀ a, H2 a = some (.lst xs) → Sh H2 (.ref a) d
  ok : d.showable = true
  len : d.shown.length ≤ sizeLine
  dep : d.depth ≤ 20
theorem shl0 {H : Hp} : ∃ d, ShL H [] d := ⟨.list [], fun H2 s a ha => .lst ha .nil, fine0.1, fine0.2.1, fine0.2.2⟩
theorem shl1 {H : Hp} {v : V} (h : ∃ d, Va H v d) : ∃ d, ShL H [v] d := by
  obtain ⟨d, h⟩ := h
  have g := fine1 h.fine
  exact ⟨.list [d], fun H2 s a ha => .lst ha (.cons (h.mono s).sh .nil), g.1, g.2.1, g.2.2⟩
theorem shl2 {H : Hp} {v u : V} (h : Vs H v u) : ∃ d, ShL H [v, u] d := by
  obtain ⟨⟨d, h⟩, e, k⟩ := h
  have g := fine2 h.fine k.fine
  exact ⟨.list [d, e], fun H2 s a ha => .lst ha (.cons (h.mono s).sh (.cons (k.mono s).sh .nil)), g.1, g.2.1, g.2.2⟩
end Er
end

/-! Er22 -/
section
set_option maxHeartbeats 4000000
set_option exponentiation.threshold 1000
namespace Er
open PySem PySem.Spec PyProof.Rows L2 He
/-- C(): an own error without an __init__ of its own, made of nothing -/
theorem pe_excz {X : Cx} {C : Addr} {bmB : List Value} {B newId initId : String} {x : Str} {p pos : Pos} (F : ExcBaseFacts B newId initId bmB) (q : PySem.W.excIn X.K C bmB newId = true) (gC : X.mg x = some (.ref C)) (kC : PySem.W.keepIn X.K (.ref C) = true) (hg : Gl X x)
    (hdb : (x == ("__debug__" : Str)) = false := by decide) : PE X (.Call (.Name x p) [] [] pos) (fun _ H Q => ∀ a, H a = none → Q (.ref a) (upd H a (exo a C none))) := by
  refine ⟨fun pins s σ H Q I h => wpAny_Call_Name_kw (ld_glob I hg gC ?_ hdb)⟩
  refine PySem.W.callWith_K0 I.kIn kC ?_
  obtain ⟨bm, N, nm, qn, bs, hdct, sn, sub, ab, col, dd, k0, k1, k2, k3, k5, mN, hC, hN, hni, T⟩ := exc_obj I.kIn q
  refine wpAny_call_exc_subT F T hC hN hni (fun h' a hm => ?_) (by rw [sizeLine_eq]; show 0 ≤ _; omega)
  have hn := HOk.gone I.hok hm.new
  obtain ⟨t, ht, h2, h3⟩ := hm.there
  exact ⟨.ref a, _, Inv.laidN I hm.keeps hm.new hn (exo_ok ht), rfl, h a hn⟩
end Er
end

/-! Er23 -/
section
set_option maxHeartbeats 4000000
set_option exponentiation.threshold 1000
namespace Er
open PySem PySem.Spec PyProof.Rows L2 He
/-- repr of one of the two values -/
def rReprV : List V → Hp → VK → Prop := fun xs H Q => ∃ (v : V) (d : PyData), xs = [v] ∧ Va H v d ∧ Q (.str d.shown) H
theorem call_reprV {X : Cx} {k : Nat} (hr : Room k X.A) (hg : X.A.guards = some []) (hm : ∃ o, X.K.lookup sysModules = some o) : CallR X (.builtin "repr") rReprV := by
  intro pins s σ H xs us Q I r h
  obtain ⟨v, d, rfl, hv, q⟩ := h
  have hf := hv.fine
  have byref : ∀ {a : Addr}, v = .ref a → wpAny (model X.prog X.w) X.A (call (.builtin "repr") us) (EP X pins σ Q) X.xe s := by
    intro a e
    subst e
    exact call_reprE hr hg hm pins s σ H _ us Q I r ⟨a, d, rfl, hv.sh, hf.sh, by rw [sizeLine_eq]; have := hf.len; omega, by have := hf.dep; omega, q⟩
  cases hv with
  | non =>
    obtain ⟨u, rfl, ru⟩ := vals1 r
    cases (show u = Value.none from ru)
    exact PySem.P.repr_of_none ⟨.str (PyData.shown .none), H, I.tok _, ⟨_, rfl⟩, q⟩
  | bl b =>
    obtain ⟨u, rfl, ru⟩ := vals1 r
    cases (show u = Value.bool b from ru)
    exact PySem.P.repr_of_bool ⟨.str (PyData.shown (.bool b)), H, I.tok _, ⟨_, rfl⟩, q⟩
  | int n h =>
    obtain ⟨u, rfl, ru⟩ := vals1 r
    obtain ⟨t, e⟩ := (show ∃ t, u = Value.int n t from ru)
    subst e
    exact PySem.P.repr_of_int (ten50 h) ⟨.str (PyData.shown (.int n)), H, I.tok _, ⟨_, rfl⟩, q⟩
  | str x h h2 =>
    obtain ⟨u, rfl, ru⟩ := vals1 r
    obtain ⟨t, e⟩ := (show ∃ t, u = Value.str x t from ru)
    subst e
    exact PySem.P.repr_of_str (x := x) ⟨.str (PyData.shown (.str x)), H, I.tok _, ⟨_, rfl⟩, q⟩ (by rw [sizeLine_eq]; omega)
  | lst e h => exact byref rfl
  | tup e => exact byref rfl
  | dct e e2 => exact byref rfl
end Er
end

/-! Lw2 -/
section
set_option maxHeartbeats 4000000
set_option exponentiation.threshold 1000
namespace Lw
open PySem PySem.Spec PyProof.Rows L2 He Er
section
variable {w : World} {K : PySem.W.Frag} {mg : Str → Option Value} {base : Heap}
theorem scShown : FnScope ["value"] ["value"] (defScope sshown) := ⟨rfl, rfl, rfl, by decide +kernel, rfl, by decide +kernel, by decide +kernel⟩
theorem pow9 : (10 : Int) ^ (9 : Int).toNat = 1000000000 := by decide
theorem ok_shown {f : Addr} {fd : FuncData} (F : Fun K "_shown" "_shown" sshown f fd) (T : TxtB mg) : FnOk P w K mg base CX0 1 f fd ["value"] spShown := by
  refine F.ok scShown (fun vs H Q E h => ?_) (fun cdv A outer s H vs Q E hr h => ?_)
  · obtain ⟨v, d, rfl, _⟩ := h
    rfl
  · obtain ⟨v, d, rfl, hv, k⟩ := h
    refine ⟨_, pss_cons (ps_if (pt_val (pe_callB call_isi (by rfl) T.isi (by decide +kernel) (pa_cons (pv 0) (pa_cons (pe_bltn (v := .ty "str") (by rfl) T.str (by decide +kernel) rfl) pa_nil)))) (pss_one (ps_ret (pv 0))) pss_nil)
      (pss_cons (ps_if (PW.pt (pw_and (pt_val (pe_callB call_isi (by rfl) T.isi (by decide +kernel) (pa_cons (pv 0) (pa_cons (pe_bltn (v := .ty "int") (by rfl) T.int (by decide +kernel) rfl) pa_nil))))
          (pw_and1 (pt_cmpR op_lt (pe_callB call_absV (by rfl) T.abs (by decide +kernel) (pa_cons (pv 0) pa_nil)) (pe_op op_pow pe_int pe_int) (nomark _)))))
        (pss_one (ps_ret (pe_callTy call_strV (by rfl) T.str (by decide +kernel) (pa_cons (pv 0) pa_nil)))) pss_nil)
      (pss_one (ps_ret pe_str))), ?_⟩
    cases hv with
    | str x h h2 =>
      refine ⟨_, rfl, .str x, .ty "str", .type "str", .type "str", true, rfl, .ty "str", .base (.str x), kit_ty (by decide +kernel), true, rfl, iteT ?_⟩
      exact ⟨_, rfl, k x (Nat.le_trans h (by decide))⟩
    | non =>
      refine ⟨_, rfl, .non, .ty "str", .type "NoneType", .type "str", false, rfl, .ty "str", .base .non, kit_ty (by decide +kernel), false, rfl, iteF ?_⟩
      refine ⟨_, rfl, .non, .ty "int", .type "NoneType", .type "int", false, rfl, .ty "int", .base .non, kit_ty (by decide +kernel), false, rfl, iteF (iteF ?_)⟩
      exact k "?" (by decide)
    | bl b =>
      refine ⟨_, rfl, .bl b, .ty "str", .type "bool", .type "str", false, rfl, .ty "str", .base (.bl b), kit_ty (by decide +kernel), false, rfl, iteF ?_⟩
      refine ⟨_, rfl, .bl b, .ty "int", .type "bool", .type "int", true, rfl, .ty "int", .base (.bl b), kit_ty (by decide +kernel), true, rfl, iteT ?_⟩
      refine ⟨_, rfl, .inr ⟨b, rfl, _, _, rfl, rfl, ⟨by decide, by decide, by decide⟩, _, _, rfl, rfl, _, rfl, ?_⟩⟩
      have e1 : decide ((if b = true then (1 : Int) else 0) < (10 : Int) ^ (9 : Int).toNat) = true := by cases b <;> decide
      rw [e1]
      refine iteT ⟨_, rfl, .inr ⟨b, rfl, ?_⟩⟩
      cases b
      · exact k "False" (by decide)
      · exact k "True" (by decide)
    | int n h =>
      refine ⟨_, rfl, .int n, .ty "str", .type "int", .type "str", false, rfl, .ty "str", .base (.int n), kit_ty (by decide +kernel), false, rfl, iteF ?_⟩
      refine ⟨_, rfl, .int n, .ty "int", .type "int", .type "int", true, rfl, .ty "int", .base (.int n), kit_ty (by decide +kernel), true, rfl, iteT ?_⟩
      refine ⟨_, rfl, .inl ⟨n, rfl, _, _, rfl, rfl, ⟨by decide, by decide, by decide⟩, _, _, rfl, rfl, _, rfl, ite2 (fun h1 => ?_) (fun h1 => ?_)⟩⟩
      · have h2 : (if n < 0 then -n else n) < (10 : Int) ^ (9 : Int).toNat := of_decide_eq_true h1
        rw [pow9] at h2
        have h3 : n.natAbs < 2 ^ 30 := by split at h2 <;> omega
        have h4 : n.natAbs.log2 < 1920 := by
          by_cases z : n.natAbs = 0
          · rw [z]; decide
          · exact Nat.lt_trans ((Nat.log2_lt z).mpr h3) (by decide)
        refine ⟨_, rfl, .inl ⟨n, rfl, h4, k _ ?_⟩⟩
        have h5 := PySem.int_text_length_le10 (a := n) (k := 10) (by decide) (Nat.lt_trans h3 (by decide))
        rw [PySem.ofString_length]
        exact Nat.le_trans h5 (by decide)
      · exact k "?" (by decide)
    | lst e h =>
      refine ⟨_, rfl, _, .ty "str", .type "list", .type "str", false, rfl, .ty "str", .base (.lst e), kit_ty (by decide +kernel), false, rfl, iteF ?_⟩
      refine ⟨_, rfl, _, .ty "int", .type "list", .type "int", false, rfl, .ty "int", .base (.lst e), kit_ty (by decide +kernel), false, rfl, iteF (iteF ?_)⟩
      exact k "?" (by decide)
    | tup e =>
      refine ⟨_, rfl, _, .ty "str", .type "tuple", .type "str", false, rfl, .ty "str", .base (.tup e), kit_ty (by decide +kernel), false, rfl, iteF ?_⟩
      refine ⟨_, rfl, _, .ty "int", .type "tuple", .type "int", false, rfl, .ty "int", .base (.tup e), kit_ty (by decide +kernel), false, rfl, iteF (iteF ?_)⟩
      exact k "?" (by decide)
    | dct e e2 =>
      refine ⟨_, rfl, _, .ty "str", .type "dict", .type "str", false, rfl, .ty "str", .base (.dK e), kit_ty (by decide +kernel), false, rfl, iteF ?_⟩
      refine ⟨_, rfl, _, .ty "int", .type "dict", .type "int", false, rfl, .ty "int", .base (.dK e), kit_ty (by decide +kernel), false, rfl, iteF (iteF ?_)⟩
      exact k "?" (by decide)
end
end Lw
end

/-! Lw3 -/
section
set_option maxHeartbeats 4000000
set_option exponentiation.threshold 1000
namespace Lw
open PySem PySem.Spec PyProof.Rows L2 He Er
section
variable {w : World} {K : PySem.W.Frag} {mg : Str → Option Value} {base : Heap} {f D D2 f2 fS : Addr} {fd fd2 fdS : FuncData}
theorem in_BadRatio (F : SFun P K "__init__" eBadRatio.qual iBadRatio f D fd) (G : Shn P w K mg base fS fdS) : FnOk P w K mg base CX0 2 f fd ["self", "part"] (spInit1 K D "part") :=
  ok_init1 F ⟨rfl, rfl, rfl, by decide +kernel, rfl, by decide +kernel, by decide +kernel, by decide +kernel⟩ rfl rfl rfl rfl rfl rfl (by decide) rfl (fun env _ => rfl) G
theorem in_BadRow (F : SFun P K "__init__" eBadRow.qual iBadRow f D fd) (G : Shn P w K mg base fS fdS) : FnOk P w K mg base CX0 2 f fd ["self", "part"] (spInit1 K D "part") :=
  ok_init1 F ⟨rfl, rfl, rfl, by decide +kernel, rfl, by decide +kernel, by decide +kernel, by decide +kernel⟩ rfl rfl rfl rfl rfl rfl (by decide) rfl (fun env _ => rfl) G
theorem in_BadPicture (F : SFun P K "__init__" eBadPicture.qual iBadPicture f D fd) (G : Shn P w K mg base fS fdS) : FnOk P w K mg base CX0 2 f fd ["self", "part"] (spInit1 K D "part") :=
  ok_init1 F ⟨rfl, rfl, rfl, by decide +kernel, rfl, by decide +kernel, by decide +kernel, by decide +kernel⟩ rfl rfl rfl rfl rfl rfl (by decide) rfl (fun env _ => rfl) G
theorem in_BadStep (F : SFun P K "__init__" eBadStep.qual iBadStep f D fd) (G : Shn P w K mg base fS fdS) : FnOk P w K mg base CX0 2 f fd ["self", "part"] (spInit1 K D "part") :=
  ok_init1 F ⟨rfl, rfl, rfl, by decide +kernel, rfl, by decide +kernel, by decide +kernel, by decide +kernel⟩ rfl rfl rfl rfl rfl rfl (by decide) rfl (fun env _ => rfl) G
theorem in_BadMark (F : SFun P K "__init__" eBadMark.qual iBadMark f D fd) (G : Shn P w K mg base fS fdS) : FnOk P w K mg base CX0 2 f fd ["self", "part"] (spInit1 K D "part") :=
  ok_init1 F ⟨rfl, rfl, rfl, by decide +kernel, rfl, by decide +kernel, by decide +kernel, by decide +kernel⟩ rfl rfl rfl rfl rfl rfl (by decide) rfl (fun env _ => rfl) G
theorem in_BadScene (F : SFun P K "__init__" eBadScene.qual iBadScene f D fd) (G : Shn P w K mg base fS fdS) : FnOk P w K mg base CX0 2 f fd ["self", "part"] (spInit1 K D "part") :=
  ok_init1 F ⟨rfl, rfl, rfl, by decide +kernel, rfl, by decide +kernel, by decide +kernel, by decide +kernel⟩ rfl rfl rfl rfl rfl rfl (by decide) rfl (fun env _ => rfl) G
theorem in_BadCone (F : SFun P K "__init__" eBadCone.qual iBadCone f D fd) (G : Shn P w K mg base fS fdS) : FnOk P w K mg base CX0 2 f fd ["self", "part"] (spInit1 K D "part") :=
  ok_init1 F ⟨rfl, rfl, rfl, by decide +kernel, rfl, by decide +kernel, by decide +kernel, by decide +kernel⟩ rfl rfl rfl rfl rfl rfl (by decide) rfl (fun env _ => rfl) G
theorem in_BadEye (F : SFun P K "__init__" eBadEye.qual iBadEye f D fd) (G : Shn P w K mg base fS fdS) : FnOk P w K mg base CX0 2 f fd ["self", "part"] (spInit1 K D "part") :=
  ok_init1 F ⟨rfl, rfl, rfl, by decide +kernel, rfl, by decide +kernel, by decide +kernel, by decide +kernel⟩ rfl rfl rfl rfl rfl rfl (by decide) rfl (fun env _ => rfl) G
theorem in_BadEyeRow (F : SFun P K "__init__" eBadEyeRow.qual iBadEyeRow f D fd) (G : Shn P w K mg base fS fdS) : FnOk P w K mg base CX0 2 f fd ["self", "part"] (spInit1 K D "part") :=
  ok_init1 F ⟨rfl, rfl, rfl, by decide +kernel, rfl, by decide +kernel, by decide +kernel, by decide +kernel⟩ rfl rfl rfl rfl rfl rfl (by decide) rfl (fun env _ => rfl) G
theorem in_BadFlat (F : SFun P K "__init__" eBadFlat.qual iBadFlat f D fd) (G : Shn P w K mg base fS fdS) : FnOk P w K mg base CX0 2 f fd ["self", "part"] (spInit1 K D "part") :=
  ok_init1 F ⟨rfl, rfl, rfl, by decide +kernel, rfl, by decide +kernel, by decide +kernel, by decide +kernel⟩ rfl rfl rfl rfl rfl rfl (by decide) rfl (fun env _ => rfl) G
theorem in_BadFact (F : SFun P K "__init__" eBadFact.qual iBadFact f D fd) (G : Shn P w K mg base fS fdS) : FnOk P w K mg base CX0 2 f fd ["self", "part"] (spInit1 K D "part") :=
  ok_init1 F ⟨rfl, rfl, rfl, by decide +kernel, rfl, by decide +kernel, by decide +kernel, by decide +kernel⟩ rfl rfl rfl rfl rfl rfl (by decide) rfl (fun env _ => rfl) G
theorem in_BadBook (F : SFun P K "__init__" eBadBook.qual iBadBook f D fd) (G : Shn P w K mg base fS fdS) : FnOk P w K mg base CX0 2 f fd ["self", "part"] (spInit1 K D "part") :=
  ok_init1 F ⟨rfl, rfl, rfl, by decide +kernel, rfl, by decide +kernel, by decide +kernel, by decide +kernel⟩ rfl rfl rfl rfl rfl rfl (by decide) rfl (fun env _ => rfl) G
theorem in_BadStanding (F : SFun P K "__init__" eBadStanding.qual iBadStanding f D fd) (G : Shn P w K mg base fS fdS) : FnOk P w K mg base CX0 2 f fd ["self", "part"] (spInit1 K D "part") :=
  ok_init1 F ⟨rfl, rfl, rfl, by decide +kernel, rfl, by decide +kernel, by decide +kernel, by decide +kernel⟩ rfl rfl rfl rfl rfl rfl (by decide) rfl (fun env _ => rfl) G
theorem in_BadSaying (F : SFun P K "__init__" eBadSaying.qual iBadSaying f D fd) (G : Shn P w K mg base fS fdS) : FnOk P w K mg base CX0 2 f fd ["self", "part"] (spInit1 K D "part") :=
  ok_init1 F ⟨rfl, rfl, rfl, by decide +kernel, rfl, by decide +kernel, by decide +kernel, by decide +kernel⟩ rfl rfl rfl rfl rfl rfl (by decide) rfl (fun env _ => rfl) G
theorem in_BadSolid (F : SFun P K "__init__" eBadSolid.qual iBadSolid f D fd) (G : Shn P w K mg base fS fdS) : FnOk P w K mg base CX0 2 f fd ["self", "part"] (spInit1 K D "part") :=
  ok_init1 F ⟨rfl, rfl, rfl, by decide +kernel, rfl, by decide +kernel, by decide +kernel, by decide +kernel⟩ rfl rfl rfl rfl rfl rfl (by decide) rfl (fun env _ => rfl) G
theorem in_BadView (F : SFun P K "__init__" eBadView.qual iBadView f D fd) (G : Shn P w K mg base fS fdS) : FnOk P w K mg base CX0 2 f fd ["self", "part"] (spInit1 K D "part") :=
  ok_init1 F ⟨rfl, rfl, rfl, by decide +kernel, rfl, by decide +kernel, by decide +kernel, by decide +kernel⟩ rfl rfl rfl rfl rfl rfl (by decide) rfl (fun env _ => rfl) G
theorem in_BadLight (F : SFun P K "__init__" eBadLight.qual iBadLight f D fd) (G : Shn P w K mg base fS fdS) : FnOk P w K mg base CX0 2 f fd ["self", "part"] (spInit1 K D "part") :=
  ok_init1 F ⟨rfl, rfl, rfl, by decide +kernel, rfl, by decide +kernel, by decide +kernel, by decide +kernel⟩ rfl rfl rfl rfl rfl rfl (by decide) rfl (fun env _ => rfl) G
theorem in_BadNumber (F : SFun P K "__init__" eBadNumber.qual iBadNumber f D fd) (G : Shn P w K mg base fS fdS) : FnOk P w K mg base CX0 2 f fd ["self", "part"] (spInit1 K D "part") :=
  ok_init1 F ⟨rfl, rfl, rfl, by decide +kernel, rfl, by decide +kernel, by decide +kernel, by decide +kernel⟩ rfl rfl rfl rfl rfl rfl (by decide) rfl (fun env _ => rfl) G
theorem in_BadPaper (F : SFun P K "__init__" eBadPaper.qual iBadPaper f D fd) (G : Shn P w K mg base fS fdS) : FnOk P w K mg base CX0 2 f fd ["self", "part"] (spInit1 K D "part") :=
  ok_init1 F ⟨rfl, rfl, rfl, by decide +kernel, rfl, by decide +kernel, by decide +kernel, by decide +kernel⟩ rfl rfl rfl rfl rfl rfl (by decide) rfl (fun env _ => rfl) G
theorem in_BadDesk (F : SFun P K "__init__" eBadDesk.qual iBadDesk f D fd) (G : Shn P w K mg base fS fdS) : FnOk P w K mg base CX0 2 f fd ["self", "part"] (spInit1 K D "part") :=
  ok_init1 F ⟨rfl, rfl, rfl, by decide +kernel, rfl, by decide +kernel, by decide +kernel, by decide +kernel⟩ rfl rfl rfl rfl rfl rfl (by decide) rfl (fun env _ => rfl) G
theorem in_NotPlain (F : SFun P K "__init__" eNotPlain.qual iNotPlain f D fd) (G : Shn P w K mg base fS fdS) : FnOk P w K mg base CX0 2 f fd ["self", "part"] (spInit1 K D "part") :=
  ok_init1 F ⟨rfl, rfl, rfl, by decide +kernel, rfl, by decide +kernel, by decide +kernel, by decide +kernel⟩ rfl rfl rfl rfl rfl rfl (by decide) rfl (fun env _ => rfl) G
theorem in_Unsettled (F : SFun P K "__init__" eUnsettled.qual iUnsettled f D fd) (G : Shn P w K mg base fS fdS) : FnOk P w K mg base CX0 2 f fd ["self", "part"] (spInit1 K D "part") :=
  ok_init1 F ⟨rfl, rfl, rfl, by decide +kernel, rfl, by decide +kernel, by decide +kernel, by decide +kernel⟩ rfl rfl rfl rfl rfl rfl (by decide) rfl (fun env _ => rfl) G
theorem in_Missing (F : SFun P K "__init__" eMissing.qual iMissing f D fd) (G : Shn P w K mg base fS fdS) : FnOk P w K mg base CX0 2 f fd ["self", "name"] (spInit1 K D "name") :=
  ok_init1 F ⟨rfl, rfl, rfl, by decide +kernel, rfl, by decide +kernel, by decide +kernel, by decide +kernel⟩ rfl rfl rfl rfl rfl rfl (by decide) rfl (fun env _ => rfl) G
theorem in_NoLabel (F : SFun P K "__init__" eNoLabel.qual iNoLabel f D fd) (F2 : FnOk P w K mg base CX0 2 f2 fd2 ["self", "name"] (spInit1 K D2 "name")) (B2 : Binds K fd2 ["self", "name"] []) : FnOk P w K mg base CX0 3 f fd ["self", "name"] (spInitM K D D2 f2 "name") :=
  ok_initM F ⟨rfl, rfl, rfl, by decide +kernel, rfl, by decide +kernel, by decide +kernel, by decide +kernel⟩ rfl rfl rfl rfl rfl rfl (fun env _ => rfl) F2 B2
theorem in_NoPicture (F : SFun P K "__init__" eNoPicture.qual iNoPicture f D fd) (F2 : FnOk P w K mg base CX0 2 f2 fd2 ["self", "name"] (spInit1 K D2 "name")) (B2 : Binds K fd2 ["self", "name"] []) : FnOk P w K mg base CX0 3 f fd ["self", "name"] (spInitM K D D2 f2 "name") :=
  ok_initM F ⟨rfl, rfl, rfl, by decide +kernel, rfl, by decide +kernel, by decide +kernel, by decide +kernel⟩ rfl rfl rfl rfl rfl rfl (fun env _ => rfl) F2 B2
theorem in_NoName (F : SFun P K "__init__" eNoName.qual iNoName f D fd) (F2 : FnOk P w K mg base CX0 2 f2 fd2 ["self", "name"] (spInit1 K D2 "name")) (B2 : Binds K fd2 ["self", "name"] []) : FnOk P w K mg base CX0 3 f fd ["self", "name"] (spInitM K D D2 f2 "name") :=
  ok_initM F ⟨rfl, rfl, rfl, by decide +kernel, rfl, by decide +kernel, by decide +kernel, by decide +kernel⟩ rfl rfl rfl rfl rfl rfl (fun env _ => rfl) F2 B2
theorem in_NoFact (F : SFun P K "__init__" eNoFact.qual iNoFact f D fd) (G : Shn P w K mg base fS fdS) : FnOk P w K mg base CX0 2 f fd ["self", "number"] (spInit1 K D "number") :=
  ok_init1 F ⟨rfl, rfl, rfl, by decide +kernel, rfl, by decide +kernel, by decide +kernel, by decide +kernel⟩ rfl rfl rfl rfl rfl rfl (by decide) rfl (fun env _ => rfl) G
theorem in_Twice (F : SFun P K "__init__" eTwice.qual iTwice f D fd) (G : Shn P w K mg base fS fdS) : FnOk P w K mg base CX0 2 f fd ["self", "name"] (spInit1 K D "name") :=
  ok_init1 F ⟨rfl, rfl, rfl, by decide +kernel, rfl, by decide +kernel, by decide +kernel, by decide +kernel⟩ rfl rfl rfl rfl rfl rfl (by decide) rfl (fun env _ => rfl) G
theorem in_SamePlace (F : SFun P K "__init__" eSamePlace.qual iSamePlace f D fd) (G : Shn P w K mg base fS fdS) : FnOk P w K mg base CX0 2 f fd ["self", "one", "other"] (spInit2 K D "one" "other") :=
  ok_init2 F ⟨rfl, rfl, rfl, by decide +kernel, rfl, by decide +kernel, by decide +kernel, by decide +kernel⟩ rfl rfl rfl rfl rfl rfl rfl rfl (by decide) (by decide) rfl (fun env _ => rfl) G
theorem in_TwoPictures (F : SFun P K "__init__" eTwoPictures.qual iTwoPictures f D fd) (G : Shn P w K mg base fS fdS) : FnOk P w K mg base CX0 2 f fd ["self", "one", "other"] (spInit2 K D "one" "other") :=
  ok_init2 F ⟨rfl, rfl, rfl, by decide +kernel, rfl, by decide +kernel, by decide +kernel, by decide +kernel⟩ rfl rfl rfl rfl rfl rfl rfl rfl (by decide) (by decide) rfl (fun env _ => rfl) G
theorem in_NotJoined (F : SFun P K "__init__" eNotJoined.qual iNotJoined f D fd) (G : Shn P w K mg base fS fdS) : FnOk P w K mg base CX0 2 f fd ["self", "one", "other"] (spInit2 K D "one" "other") :=
  ok_init2 F ⟨rfl, rfl, rfl, by decide +kernel, rfl, by decide +kernel, by decide +kernel, by decide +kernel⟩ rfl rfl rfl rfl rfl rfl rfl rfl (by decide) (by decide) rfl (fun env _ => rfl) G
theorem in_Behind (F : SFun P K "__init__" eBehind.qual iBehind f D fd) (G : Shn P w K mg base fS fdS) : FnOk P w K mg base CX0 2 f fd ["self", "name"] (spInit1 K D "name") :=
  ok_init1 F ⟨rfl, rfl, rfl, by decide +kernel, rfl, by decide +kernel, by decide +kernel, by decide +kernel⟩ rfl rfl rfl rfl rfl rfl (by decide) rfl (fun env _ => rfl) G
theorem in_Impossible (F : SFun P K "__init__" eImpossible.qual iImpossible f D fd) (G : Shn P w K mg base fS fdS) : FnOk P w K mg base CX0 2 f fd ["self", "word"] (spInit1 K D "word") :=
  ok_init1 F ⟨rfl, rfl, rfl, by decide +kernel, rfl, by decide +kernel, by decide +kernel, by decide +kernel⟩ rfl rfl rfl rfl rfl rfl (by decide) rfl (fun env _ => rfl) G
theorem in_Nothing (F : SFun P K "__init__" eNothing.qual iNothing f D fd) : FnOk P w K mg base CX0 2 f fd ["self"] (spInit0 K D) :=
  ok_init0 F ⟨rfl, rfl, rfl, by decide +kernel, rfl, by decide +kernel, by decide +kernel, by decide +kernel⟩ rfl rfl rfl rfl (fun env _ => rfl)
theorem in_TooMany (F : SFun P K "__init__" eTooMany.qual iTooMany f D fd) (G : Shn P w K mg base fS fdS) : FnOk P w K mg base CX0 2 f fd ["self", "what", "most"] (spInit2 K D "what" "most") :=
  ok_init2 F ⟨rfl, rfl, rfl, by decide +kernel, rfl, by decide +kernel, by decide +kernel, by decide +kernel⟩ rfl rfl rfl rfl rfl rfl rfl rfl (by decide) (by decide) rfl (fun env _ => rfl) G
theorem in_BadText (F : SFun P K "__init__" eBadText.qual iBadText f D fd) (G : Shn P w K mg base fS fdS) : FnOk P w K mg base CX0 2 f fd ["self", "line", "word"] (spInit2 K D "line" "word") :=
  ok_init2 F ⟨rfl, rfl, rfl, by decide +kernel, rfl, by decide +kernel, by decide +kernel, by decide +kernel⟩ rfl rfl rfl rfl rfl rfl rfl rfl (by decide) (by decide) rfl (fun env _ => rfl) G
theorem in_BadLine (F : SFun P K "__init__" eBadLine.qual iBadLine f D fd) (G : Shn P w K mg base fS fdS) : FnOk P w K mg base CX0 2 f fd ["self", "line", "error"] (spInit2 K D "line" "error") :=
  ok_init2a F ⟨rfl, rfl, rfl, by decide +kernel, rfl, by decide +kernel, by decide +kernel, by decide +kernel⟩ rfl rfl rfl rfl rfl rfl rfl rfl (by decide) rfl (fun env _ => rfl) G
end
end Lw
end

/-! Lw4 -/
section
set_option maxHeartbeats 4000000
set_option exponentiation.threshold 1000
namespace Lw
open PySem PySem.Spec PyProof.Rows L2 He Er
theorem fun_of {K : PySem.W.Frag} {x qual : Str} {st : Stmt} {f : Addr} {fd : FuncData} (F : FunD K x qual (defArgs st) (defBody st) (defScope st) [] [] f fd) : L2.Fun K x qual st f fd := by
  obtain ⟨oc, od, dV, kV, doc, pm, an, cdv, ct, osl, e, lk, hc, hd, _⟩ := F.ex
  have z : dV = .none := by
    rcases hd with ⟨_, z⟩ | ⟨z, _⟩
    · exact z
    · exact absurd rfl z
  subst z
  exact ⟨⟨oc, od, kV, doc, pm, an, cdv, ct, osl, e, lk, hc⟩, F.kp⟩
/-- what the head tells, and where it stands -/
structure Hd (K : PySem.W.Frag) (mg : Str → Option Value) : Prop where
  s : SaysE fa fn fs exA K
  h : ∃ h : Heap, K.In h ∧ h.Ns mainGlobals mg
section
variable {w : World} {K : PySem.W.Frag} {mg : Str → Option Value} {base : Heap}
theorem SFunX {P : Program} {K : PySem.W.Frag} {x qual : Str} {st : Stmt} {f D : Addr} {fd : FuncData} (F : SFun P K x qual st f D fd) : PySem.W.fnIn K f = true := by
  obtain ⟨oc, od, kV, doc, pm, an, cda, ct, cc, osl, e, lk, _⟩ := F.ex
  unfold PySem.W.fnIn
  rw [lk]
theorem Hd.glo (S : Hd K mg) {x : Str} (i : Nat) (e : fa[i]? = some (.glo x) := by rfl) : mg x = some (.ref (ga K x)) := by
  obtain ⟨h, X, G⟩ := S.h
  exact glo_ok X G (S.s.d.fact i e)
theorem Hd.free (S : Hd K mg) {x : Str} (i : Nat) (e : fa[i]? = some (.free x) := by rfl) : mg x = none := by
  obtain ⟨h, X, G⟩ := S.h
  exact free_ok X G (S.s.d.fact i e)
theorem Hd.b0 (S : Hd K mg) : gloB K = true := (ba S.s.x).1
theorem Hd.b1 (S : Hd K mg) : (allN.all fun x => errB K (ga K x)) = true := (ba (ba S.s.x).2).1
theorem Hd.b2 (S : Hd K mg) : (fs.all fun d => iniB K d.cls && (supB K P.main.file d && (supIB K (ga K d.cls) (ga K d.cls) || decide (d.cls ∈ three)))) = true := (ba (ba (ba S.s.x).2).2).1
theorem Hd.b3 (S : Hd K mg) : three.all (sub3B K) = true := (ba (ba (ba (ba S.s.x).2).2).2).1
theorem Hd.b4 (S : Hd K mg) : fldB K = true := (ba (ba (ba (ba (ba S.s.x).2).2).2).2).1
theorem Hd.b5 (S : Hd K mg) : kinB K = true := (ba (ba (ba (ba (ba (ba S.s.x).2).2).2).2).2).1
theorem Hd.b6 (S : Hd K mg) : oddB K = true := (ba (ba (ba (ba (ba (ba (ba S.s.x).2).2).2).2).2).2).1
theorem Hd.b7 (S : Hd K mg) : eyB K = true := (ba (ba (ba (ba (ba (ba (ba S.s.x).2).2).2).2).2).2).2
theorem Hd.err (S : Hd K mg) {x : Str} (h : x ∈ allN) : ErrC K (ga K x) := errB_ok S.b0 (List.all_eq_true.mp S.b1 x h)
theorem Hd.kin (S : Hd K mg) {x y : Str} (h : x ∈ allN) (h2 : y ∈ kinN) : PySem.W.kitOne K (.ref (ga K x)) (.ref (ga K y)) = some (decide (x = y)) :=
  of_decide_eq_true (List.all_eq_true.mp (List.all_eq_true.mp S.b5 x h) y h2)
theorem Hd.odd (S : Hd K mg) {x : Str} {t : String} (h : x ∈ allN) (h2 : t ∈ oddN) : PySem.W.kitOne K (.ref (ga K x)) (.type t) = some false :=
  of_decide_eq_true (List.all_eq_true.mp (ba (List.all_eq_true.mp S.b6 x h)).1 t h2)
theorem Hd.isVE (S : Hd K mg) {x : Str} (h : x ∈ allN) : PySem.W.kitOne K (.ref (ga K x)) (.type "ValueError") = some true :=
  of_decide_eq_true (ba (ba (List.all_eq_true.mp S.b6 x h)).2).1
theorem Hd.isEE (S : Hd K mg) {x : Str} (h : x ∈ allN) : PySem.W.kitOne K (.ref (ga K x)) (.ref (ga K "EyesError")) = some true :=
  of_decide_eq_true (ba (ba (ba (List.all_eq_true.mp S.b6 x h)).2).2).1
theorem Hd.isMi (S : Hd K mg) {x : Str} (h : x ∈ allN) : PySem.W.kitOne K (.ref (ga K x)) (.ref (ga K "Missing")) = some (decide (x ∈ three) || decide (x = "Missing")) :=
  of_decide_eq_true (ba (ba (ba (List.all_eq_true.mp S.b6 x h)).2).2).2
theorem Hd.no (S : Hd K mg) {x f : Str} {l : List Str} (h : (x, l) ∈ fld) (h2 : f ∈ l) : PySem.W.findIn K (.ref (ga K x)) f = some none :=
  eqO_ok (List.all_eq_true.mp (List.all_eq_true.mp S.b4 _ h) f h2)
theorem Hd.sh0 (S : Hd K mg) : Shared0 P K := by
  obtain ⟨_, g⟩ := ba S.b0
  obtain ⟨_, g⟩ := ba g
  obtain ⟨g1, g⟩ := ba g
  obtain ⟨g2, _⟩ := ba g
  exact ⟨eqO_ok g1, by decide +kernel, eqO_ok g2⟩
theorem Hd.sysm (S : Hd K mg) : ∃ o, K.lookup sysModules = some o := by
  obtain ⟨_, g⟩ := ba S.b0
  obtain ⟨_, g⟩ := ba g
  obtain ⟨_, g⟩ := ba g
  obtain ⟨_, g⟩ := ba g
  exact Option.isSome_iff_exists.mp g
theorem fs_all : (fs.all fun d => allN.contains d.cls) = true := by decide +kernel
theorem Hd.mkE (S : Hd K mg) {d : DefS} (h : d ∈ fs) : MkE K (ga K d.cls) (iAd K d.cls) :=
  iniB_ok (S.err (List.contains_iff_mem.mp (List.all_eq_true.mp fs_all d h))) (ba (List.all_eq_true.mp S.b2 d h)).1
theorem Hd.sup (S : Hd K mg) {d : DefS} (h : d ∈ fs) (h3 : decide (d.cls ∈ three) = false) : SupC K (ga K d.cls) (ga K d.cls) := by
  have e := (ba (ba (List.all_eq_true.mp S.b2 d h)).2).2
  rw [h3, Bool.or_false] at e
  exact supIB_ok (S.err (List.contains_iff_mem.mp (List.all_eq_true.mp fs_all d h))) e
theorem Hd.sfun (S : Hd K mg) {d : DefS} {st : Stmt} (h : d ∈ fs) (e1 : defArgs st = d.params) (e2 : defBody st = d.body) (e3 : defScope st = d.scope) : ∃ fd, SFun P K "__init__" d.qual st (iAd K d.cls) (ga K d.cls) fd :=
  sfun_of (S.s.s d h) (ba (ba (List.all_eq_true.mp S.b2 d h)).2).1 (S.err (List.contains_iff_mem.mp (List.all_eq_true.mp fs_all d h))).cls S.sh0 e1 e2 e3
theorem Hd.sup3 (S : Hd K mg) {x : Str} (h : x ∈ three) (ha : x ∈ allN) : SupC K (ga K x) (ga K "Missing") ∧ PySem.W.mroIn K (ga K x) (.ref (ga K x)) = some true ∧ PySem.W.ks_superIn K (ga K x) (ga K x) "__init__" = some (some (.ref (iAd K "Missing"))) := by
  obtain ⟨h1, h2⟩ := ba (List.all_eq_true.mp S.b3 x h)
  obtain ⟨h3, h4⟩ := ba h2
  exact ⟨supIB_ok (S.err ha) h1, of_decide_eq_true h3, of_decide_eq_true h4⟩
theorem Hd.def_ (S : Hd K mg) (i : Nat) {d : DefD} (e : fn[i]? = some d := by rfl) (h1 : DefD.dvs K d = [] := by rfl) (h2 : DefD.kws K d = [] := by rfl) : ∃ fd, FunD K d.name d.qual d.params d.body d.scope [] [] (fAd K d.at_) fd := by
  obtain ⟨fd, F⟩ := S.s.d.def_ i e
  rw [h1, h2] at F
  exact ⟨fd, F⟩
/-- a class that is made: by place and by name -/
structure MkC (w : World) (K : PySem.W.Frag) (mg : Str → Option Value) (base : Heap) (x : Str) (ks : List Str) (mk mkk : List V → List (Str × V)) : Prop where
  ex : ∃ (fI : Addr) (fd : FuncData) (k : Nat) (ps : List Str) (sp : Sp), k ≤ 3 ∧ MkE K (ga K x) fI ∧ FnOk P w K mg base CX0 k fI fd ps sp ∧
    (∃ (g : List Value → List Value → List Value) (gV : List V → List V → List V) (q : List V → List V), KBn K fd ps (ks.length + 1) [] g gV ∧ (∀ a vs, gV (.ref a :: vs) [] = .ref a :: q vs) ∧ NewOk (ga K x) sp q ks.length mk) ∧
    (∃ (g : List Value → List Value → List Value) (gV : List V → List V → List V) (q : List V → List V), KBn K fd ps 1 ks g gV ∧ (∀ a zs, gV [.ref a] zs = .ref a :: q zs) ∧ NewOk (ga K x) sp q ks.length mkk)
  g : mg x = some (.ref (ga K x))
  few : ks.length ≤ 1000
section
variable {X : Cx} {x : Str} {ks : List Str} {mk mkk : List V → List (Str × V)} {e : Expr} {es : List Expr} {kws : List Keyword} {t : TA} {p pos : Pos}
theorem pe_pos (M : MkC X.w X.K X.mg X.base x ks mk mkk) (hP : X.prog = P) (hr : Room 4 X.A) (hg : Gl X x) (ha : PA X (e :: es) t)
    (hdb : (x == ("__debug__" : Str)) = false := by decide) (he : starEach (e :: es) X.env = (false, eval e X.env) :: starEach es X.env := by rfl) (hpl : (backTo pos (starEach es X.env)).any (·.1) = false := by rfl) :
    PE X (.Call (.Name x p) (e :: es) [] pos) (tNew (ga X.K x) ks.length mk t) := by
  obtain ⟨fI, fd, k, ps, sp, hk, hM, hF, ⟨g, gV, q, hb, hgv, N⟩, _⟩ := M.ex
  rw [← hP] at hF
  exact pe_newE hM hF (hr.mono (by omega)) hg M.g hb hgv N M.few ha hdb he hpl
theorem pe_kwd (M : MkC X.w X.K X.mg X.base x ks mk mkk) (hP : X.prog = P) (hr : Room 4 X.A) (hg : Gl X x) (hkw : PK X kws t)
    (hall : (backToKw pos (keywordEach kws X.env)).all (·.1.isSome) = true := by rfl) (hks : (backToKw pos (keywordEach kws X.env)).filterMap (·.1) = ks := by rfl) (hdb : (x == ("__debug__" : Str)) = false := by decide)
    (hpl : ((backTo pos (starEach [] X.env)).any (·.1) || (backToKw pos (keywordEach kws X.env)).any (·.1.isNone)) = false := by rfl) : PE X (.Call (.Name x p) [] kws pos) (tNew (ga X.K x) ks.length mkk t) := by
  obtain ⟨fI, fd, k, ps, sp, hk, hM, hF, _, ⟨g, gV, q, hb, hgv, N⟩⟩ := M.ex
  rw [← hP] at hF
  exact pe_newEk hM hF (hr.mono (by omega)) hg M.g hb hgv N hkw hall hks hdb hpl
theorem pe_zero (M : MkC X.w X.K X.mg X.base x [] mk mkk) (hP : X.prog = P) (hr : Room 4 X.A) (hg : Gl X x) (hdb : (x == ("__debug__" : Str)) = false := by decide) : PE X (.Call (.Name x p) [] [] pos) (tNew (ga X.K x) 0 mk tNil) := by
  obtain ⟨fI, fd, k, ps, sp, hk, hM, hF, ⟨g, gV, q, hb, hgv, N⟩, _⟩ := M.ex
  rw [← hP] at hF
  exact pe_newE0 hM hF (hr.mono (by omega)) hg M.g hb (fun a => hgv a []) N hdb
end
/-- one field, by place; by name -/
theorem two_ways1 {x fn qual : Str} {st : Stmt} {f D : Addr} {fd : FuncData} {sp : Sp} {k : Nat} {mk : List V → List (Str × V)} (F : SFun P K "__init__" qual st f D fd) (hk : k ≤ 3) (M : MkE K (ga K x) f) (O : FnOk P w K mg base CX0 k f fd ["self", fn] sp) (N : NewOk (ga K x) sp id 1 mk) (g : mg x = some (.ref (ga K x)))
    (h1 : ∀ (kV doc pm : Value) (an : Option Addr) (cda : Addr) (ct : Value) (cc : Addr) (a b : Value), bindArgs (PySem.W.ksFn "__init__" qual (defArgs st) (defBody st) (defScope st) .none kV doc pm an (.ref cda) ct cc) ⟨[a, b], []⟩ = pure [(("self" : Str), a), (fn, b)])
    (h2 : ∀ (kV doc pm : Value) (an : Option Addr) (cda : Addr) (ct : Value) (cc : Addr) (a b : Value), bindArgs (PySem.W.ksFn "__init__" qual (defArgs st) (defBody st) (defScope st) .none kV doc pm an (.ref cda) ct cc) ⟨[a], [(fn, b)]⟩ = pure [(("self" : Str), a), (fn, b)]) :
    MkC w K mg base x [fn] mk mk := by
  refine ⟨⟨f, fd, k, ["self", fn], sp, hk, M, O, ⟨fun us _ => us, fun vs _ => vs, id, sfun_kbn F 2 [] (fun us _ => us) (fun r _ => r) fun kV doc pm an cda ct cc us ws l1 l2 => ?_, fun _ _ => rfl, N⟩,
    ⟨fun us ws => us ++ ws, fun vs zs => vs ++ zs, id, sfun_kbn F 1 [fn] (fun us ws => us ++ ws) (fun r z => r.append z) fun kV doc pm an cda ct cc us ws l1 l2 => ?_, fun _ _ => rfl, N⟩⟩, g, by simp⟩
  · match us, ws, l1, l2 with
    | [a, b], [], _, _ => exact h1 kV doc pm an cda ct cc a b
  · match us, ws, l1, l2 with
    | [a], [b], _, _ => exact h2 kV doc pm an cda ct cc a b
theorem two_ways2 {x fn gn qual : Str} {st : Stmt} {f D : Addr} {fd : FuncData} {sp : Sp} {k : Nat} {mk mkk : List V → List (Str × V)} (F : SFun P K "__init__" qual st f D fd) (hk : k ≤ 3) (M : MkE K (ga K x) f) (O : FnOk P w K mg base CX0 k f fd ["self", fn, gn] sp)
    (N : NewOk (ga K x) sp id 2 mk) (N2 : NewOk (ga K x) sp List.reverse 2 mkk) (g : mg x = some (.ref (ga K x)))
    (h1 : ∀ (kV doc pm : Value) (an : Option Addr) (cda : Addr) (ct : Value) (cc : Addr) (a b c : Value), bindArgs (PySem.W.ksFn "__init__" qual (defArgs st) (defBody st) (defScope st) .none kV doc pm an (.ref cda) ct cc) ⟨[a, b, c], []⟩ = pure [(("self" : Str), a), (fn, b), (gn, c)])
    (h2 : ∀ (kV doc pm : Value) (an : Option Addr) (cda : Addr) (ct : Value) (cc : Addr) (a b c : Value), bindArgs (PySem.W.ksFn "__init__" qual (defArgs st) (defBody st) (defScope st) .none kV doc pm an (.ref cda) ct cc) ⟨[a], [(gn, b), (fn, c)]⟩ = pure [(("self" : Str), a), (fn, c), (gn, b)]) :
    MkC w K mg base x [gn, fn] mk mkk := by
  refine ⟨⟨f, fd, k, ["self", fn, gn], sp, hk, M, O, ⟨fun us _ => us, fun vs _ => vs, id, sfun_kbn F 3 [] (fun us _ => us) (fun r _ => r) fun kV doc pm an cda ct cc us ws l1 l2 => ?_, fun _ _ => rfl, N⟩,
    ⟨fun us ws => us ++ ws.reverse, fun vs zs => vs ++ zs.reverse, List.reverse, sfun_kbn F 1 [gn, fn] (fun us ws => us ++ ws.reverse) (fun r z => r.append (vals_rev z)) fun kV doc pm an cda ct cc us ws l1 l2 => ?_, fun _ _ => rfl, N2⟩⟩, g, by simp⟩
  · match us, ws, l1, l2 with
    | [a, b, c], [], _, _ => exact h1 kV doc pm an cda ct cc a b c
  · match us, ws, l1, l2 with
    | [a], [b, c], _, _ => exact h2 kV doc pm an cda ct cc a b c
theorem two_ways0 {x qual : Str} {st : Stmt} {f D : Addr} {fd : FuncData} {sp : Sp} {k : Nat} {mk : List V → List (Str × V)} (F : SFun P K "__init__" qual st f D fd) (hk : k ≤ 3) (M : MkE K (ga K x) f) (O : FnOk P w K mg base CX0 k f fd ["self"] sp) (N : NewOk (ga K x) sp id 0 mk) (g : mg x = some (.ref (ga K x)))
    (h1 : ∀ (kV doc pm : Value) (an : Option Addr) (cda : Addr) (ct : Value) (cc : Addr) (a : Value), bindArgs (PySem.W.ksFn "__init__" qual (defArgs st) (defBody st) (defScope st) .none kV doc pm an (.ref cda) ct cc) ⟨[a], []⟩ = pure [(("self" : Str), a)]) :
    MkC w K mg base x [] mk mk := by
  have b := sfun_kbn F (ps := ["self"]) 1 [] (fun us _ => us) (fun r _ => r) fun kV doc pm an cda ct cc us ws l1 l2 => by
    match us, ws, l1, l2 with
    | [a], [], _, _ => exact h1 kV doc pm an cda ct cc a
  exact ⟨⟨f, fd, k, ["self"], sp, hk, M, O, ⟨_, _, id, b, fun _ _ => rfl, N⟩, ⟨_, fun vs _ => vs, fun _ => [], b, fun _ _ => rfl, fun vs H R a hl hv ha k => by
    match vs, hl with
    | [], _ => exact N [] H R a rfl hv ha k⟩⟩, g, by decide⟩
theorem Hd.shn (S : Hd K mg) : ∃ fd, Shn P w K mg base (fAd K ("_shown", none)) fd := by
  obtain ⟨fd, F⟩ := S.def_ 0 (d := dshown)
  have F := fun_of (st := sshown) F
  have g : mg "_shown" = some (.ref (fAd K ("_shown", none))) := S.glo 0
  exact ⟨fd, ⟨ok_shown F ⟨S.free 50, S.free 51, S.free 52, S.free 53⟩, g, F.kp, F.binds fun _ _ _ _ _ _ us hl => match us, hl with | [_], _ => rfl⟩⟩

theorem mk_BadRatio (S : Hd K mg) : MkC w K mg base "BadRatio" ["part"] (fun vs => vs.map fun v => ("part", v)) (fun vs => vs.map fun v => ("part", v)) := by
  obtain ⟨fd, F⟩ := S.sfun (d := eBadRatio) (st := iBadRatio) (List.mem_of_getElem? (i := 0) rfl) rfl rfl rfl
  obtain ⟨fdS, G⟩ := S.shn (w := w) (base := base)
  exact two_ways1 F (by decide) (S.mkE (d := eBadRatio) (List.mem_of_getElem? (i := 0) rfl)) (in_BadRatio F G) (new1 (S.sup (d := eBadRatio) (List.mem_of_getElem? (i := 0) rfl) (by decide)) (S.no (x := "BadRatio") (f := "part") (List.mem_of_getElem? (i := 0) rfl) (by decide))) (S.glo 13) (fun _ _ _ _ _ _ _ _ _ => rfl) (fun _ _ _ _ _ _ _ _ _ => rfl)
theorem mk_BadRow (S : Hd K mg) : MkC w K mg base "BadRow" ["part"] (fun vs => vs.map fun v => ("part", v)) (fun vs => vs.map fun v => ("part", v)) := by
  obtain ⟨fd, F⟩ := S.sfun (d := eBadRow) (st := iBadRow) (List.mem_of_getElem? (i := 1) rfl) rfl rfl rfl
  obtain ⟨fdS, G⟩ := S.shn (w := w) (base := base)
  exact two_ways1 F (by decide) (S.mkE (d := eBadRow) (List.mem_of_getElem? (i := 1) rfl)) (in_BadRow F G) (new1 (S.sup (d := eBadRow) (List.mem_of_getElem? (i := 1) rfl) (by decide)) (S.no (x := "BadRow") (f := "part") (List.mem_of_getElem? (i := 1) rfl) (by decide))) (S.glo 14) (fun _ _ _ _ _ _ _ _ _ => rfl) (fun _ _ _ _ _ _ _ _ _ => rfl)
theorem mk_BadPicture (S : Hd K mg) : MkC w K mg base "BadPicture" ["part"] (fun vs => vs.map fun v => ("part", v)) (fun vs => vs.map fun v => ("part", v)) := by
  obtain ⟨fd, F⟩ := S.sfun (d := eBadPicture) (st := iBadPicture) (List.mem_of_getElem? (i := 2) rfl) rfl rfl rfl
  obtain ⟨fdS, G⟩ := S.shn (w := w) (base := base)
  exact two_ways1 F (by decide) (S.mkE (d := eBadPicture) (List.mem_of_getElem? (i := 2) rfl)) (in_BadPicture F G) (new1 (S.sup (d := eBadPicture) (List.mem_of_getElem? (i := 2) rfl) (by decide)) (S.no (x := "BadPicture") (f := "part") (List.mem_of_getElem? (i := 2) rfl) (by decide))) (S.glo 15) (fun _ _ _ _ _ _ _ _ _ => rfl) (fun _ _ _ _ _ _ _ _ _ => rfl)
theorem mk_BadStep (S : Hd K mg) : MkC w K mg base "BadStep" ["part"] (fun vs => vs.map fun v => ("part", v)) (fun vs => vs.map fun v => ("part", v)) := by
  obtain ⟨fd, F⟩ := S.sfun (d := eBadStep) (st := iBadStep) (List.mem_of_getElem? (i := 3) rfl) rfl rfl rfl
  obtain ⟨fdS, G⟩ := S.shn (w := w) (base := base)
  exact two_ways1 F (by decide) (S.mkE (d := eBadStep) (List.mem_of_getElem? (i := 3) rfl)) (in_BadStep F G) (new1 (S.sup (d := eBadStep) (List.mem_of_getElem? (i := 3) rfl) (by decide)) (S.no (x := "BadStep") (f := "part") (List.mem_of_getElem? (i := 3) rfl) (by decide))) (S.glo 16) (fun _ _ _ _ _ _ _ _ _ => rfl) (fun _ _ _ _ _ _ _ _ _ => rfl)
theorem mk_BadMark (S : Hd K mg) : MkC w K mg base "BadMark" ["part"] (fun vs => vs.map fun v => ("part", v)) (fun vs => vs.map fun v => ("part", v)) := by
  obtain ⟨fd, F⟩ := S.sfun (d := eBadMark) (st := iBadMark) (List.mem_of_getElem? (i := 4) rfl) rfl rfl rfl
  obtain ⟨fdS, G⟩ := S.shn (w := w) (base := base)
  exact two_ways1 F (by decide) (S.mkE (d := eBadMark) (List.mem_of_getElem? (i := 4) rfl)) (in_BadMark F G) (new1 (S.sup (d := eBadMark) (List.mem_of_getElem? (i := 4) rfl) (by decide)) (S.no (x := "BadMark") (f := "part") (List.mem_of_getElem? (i := 4) rfl) (by decide))) (S.glo 17) (fun _ _ _ _ _ _ _ _ _ => rfl) (fun _ _ _ _ _ _ _ _ _ => rfl)
theorem mk_BadScene (S : Hd K mg) : MkC w K mg base "BadScene" ["part"] (fun vs => vs.map fun v => ("part", v)) (fun vs => vs.map fun v => ("part", v)) := by
  obtain ⟨fd, F⟩ := S.sfun (d := eBadScene) (st := iBadScene) (List.mem_of_getElem? (i := 5) rfl) rfl rfl rfl
  obtain ⟨fdS, G⟩ := S.shn (w := w) (base := base)
  exact two_ways1 F (by decide) (S.mkE (d := eBadScene) (List.mem_of_getElem? (i := 5) rfl)) (in_BadScene F G) (new1 (S.sup (d := eBadScene) (List.mem_of_getElem? (i := 5) rfl) (by decide)) (S.no (x := "BadScene") (f := "part") (List.mem_of_getElem? (i := 5) rfl) (by decide))) (S.glo 18) (fun _ _ _ _ _ _ _ _ _ => rfl) (fun _ _ _ _ _ _ _ _ _ => rfl)
theorem mk_BadCone (S : Hd K mg) : MkC w K mg base "BadCone" ["part"] (fun vs => vs.map fun v => ("part", v)) (fun vs => vs.map fun v => ("part", v)) := by
  obtain ⟨fd, F⟩ := S.sfun (d := eBadCone) (st := iBadCone) (List.mem_of_getElem? (i := 6) rfl) rfl rfl rfl
  obtain ⟨fdS, G⟩ := S.shn (w := w) (base := base)
  exact two_ways1 F (by decide) (S.mkE (d := eBadCone) (List.mem_of_getElem? (i := 6) rfl)) (in_BadCone F G) (new1 (S.sup (d := eBadCone) (List.mem_of_getElem? (i := 6) rfl) (by decide)) (S.no (x := "BadCone") (f := "part") (List.mem_of_getElem? (i := 6) rfl) (by decide))) (S.glo 19) (fun _ _ _ _ _ _ _ _ _ => rfl) (fun _ _ _ _ _ _ _ _ _ => rfl)
theorem mk_BadEye (S : Hd K mg) : MkC w K mg base "BadEye" ["part"] (fun vs => vs.map fun v => ("part", v)) (fun vs => vs.map fun v => ("part", v)) := by
  obtain ⟨fd, F⟩ := S.sfun (d := eBadEye) (st := iBadEye) (List.mem_of_getElem? (i := 7) rfl) rfl rfl rfl
  obtain ⟨fdS, G⟩ := S.shn (w := w) (base := base)
  exact two_ways1 F (by decide) (S.mkE (d := eBadEye) (List.mem_of_getElem? (i := 7) rfl)) (in_BadEye F G) (new1 (S.sup (d := eBadEye) (List.mem_of_getElem? (i := 7) rfl) (by decide)) (S.no (x := "BadEye") (f := "part") (List.mem_of_getElem? (i := 7) rfl) (by decide))) (S.glo 20) (fun _ _ _ _ _ _ _ _ _ => rfl) (fun _ _ _ _ _ _ _ _ _ => rfl)
theorem mk_BadEyeRow (S : Hd K mg) : MkC w K mg base "BadEyeRow" ["part"] (fun vs => vs.map fun v => ("part", v)) (fun vs => vs.map fun v => ("part", v)) := by
  obtain ⟨fd, F⟩ := S.sfun (d := eBadEyeRow) (st := iBadEyeRow) (List.mem_of_getElem? (i := 8) rfl) rfl rfl rfl
  obtain ⟨fdS, G⟩ := S.shn (w := w) (base := base)
  exact two_ways1 F (by decide) (S.mkE (d := eBadEyeRow) (List.mem_of_getElem? (i := 8) rfl)) (in_BadEyeRow F G) (new1 (S.sup (d := eBadEyeRow) (List.mem_of_getElem? (i := 8) rfl) (by decide)) (S.no (x := "BadEyeRow") (f := "part") (List.mem_of_getElem? (i := 8) rfl) (by decide))) (S.glo 21) (fun _ _ _ _ _ _ _ _ _ => rfl) (fun _ _ _ _ _ _ _ _ _ => rfl)
theorem mk_BadFlat (S : Hd K mg) : MkC w K mg base "BadFlat" ["part"] (fun vs => vs.map fun v => ("part", v)) (fun vs => vs.map fun v => ("part", v)) := by
  obtain ⟨fd, F⟩ := S.sfun (d := eBadFlat) (st := iBadFlat) (List.mem_of_getElem? (i := 9) rfl) rfl rfl rfl
  obtain ⟨fdS, G⟩ := S.shn (w := w) (base := base)
  exact two_ways1 F (by decide) (S.mkE (d := eBadFlat) (List.mem_of_getElem? (i := 9) rfl)) (in_BadFlat F G) (new1 (S.sup (d := eBadFlat) (List.mem_of_getElem? (i := 9) rfl) (by decide)) (S.no (x := "BadFlat") (f := "part") (List.mem_of_getElem? (i := 9) rfl) (by decide))) (S.glo 22) (fun _ _ _ _ _ _ _ _ _ => rfl) (fun _ _ _ _ _ _ _ _ _ => rfl)
theorem mk_BadFact (S : Hd K mg) : MkC w K mg base "BadFact" ["part"] (fun vs => vs.map fun v => ("part", v)) (fun vs => vs.map fun v => ("part", v)) := by
  obtain ⟨fd, F⟩ := S.sfun (d := eBadFact) (st := iBadFact) (List.mem_of_getElem? (i := 10) rfl) rfl rfl rfl
  obtain ⟨fdS, G⟩ := S.shn (w := w) (base := base)
  exact two_ways1 F (by decide) (S.mkE (d := eBadFact) (List.mem_of_getElem? (i := 10) rfl)) (in_BadFact F G) (new1 (S.sup (d := eBadFact) (List.mem_of_getElem? (i := 10) rfl) (by decide)) (S.no (x := "BadFact") (f := "part") (List.mem_of_getElem? (i := 10) rfl) (by decide))) (S.glo 23) (fun _ _ _ _ _ _ _ _ _ => rfl) (fun _ _ _ _ _ _ _ _ _ => rfl)
theorem mk_BadBook (S : Hd K mg) : MkC w K mg base "BadBook" ["part"] (fun vs => vs.map fun v => ("part", v)) (fun vs => vs.map fun v => ("part", v)) := by
  obtain ⟨fd, F⟩ := S.sfun (d := eBadBook) (st := iBadBook) (List.mem_of_getElem? (i := 11) rfl) rfl rfl rfl
  obtain ⟨fdS, G⟩ := S.shn (w := w) (base := base)
  exact two_ways1 F (by decide) (S.mkE (d := eBadBook) (List.mem_of_getElem? (i := 11) rfl)) (in_BadBook F G) (new1 (S.sup (d := eBadBook) (List.mem_of_getElem? (i := 11) rfl) (by decide)) (S.no (x := "BadBook") (f := "part") (List.mem_of_getElem? (i := 11) rfl) (by decide))) (S.glo 24) (fun _ _ _ _ _ _ _ _ _ => rfl) (fun _ _ _ _ _ _ _ _ _ => rfl)
theorem mk_BadStanding (S : Hd K mg) : MkC w K mg base "BadStanding" ["part"] (fun vs => vs.map fun v => ("part", v)) (fun vs => vs.map fun v => ("part", v)) := by
  obtain ⟨fd, F⟩ := S.sfun (d := eBadStanding) (st := iBadStanding) (List.mem_of_getElem? (i := 12) rfl) rfl rfl rfl
  obtain ⟨fdS, G⟩ := S.shn (w := w) (base := base)
  exact two_ways1 F (by decide) (S.mkE (d := eBadStanding) (List.mem_of_getElem? (i := 12) rfl)) (in_BadStanding F G) (new1 (S.sup (d := eBadStanding) (List.mem_of_getElem? (i := 12) rfl) (by decide)) (S.no (x := "BadStanding") (f := "part") (List.mem_of_getElem? (i := 12) rfl) (by decide))) (S.glo 25) (fun _ _ _ _ _ _ _ _ _ => rfl) (fun _ _ _ _ _ _ _ _ _ => rfl)
theorem mk_BadSaying (S : Hd K mg) : MkC w K mg base "BadSaying" ["part"] (fun vs => vs.map fun v => ("part", v)) (fun vs => vs.map fun v => ("part", v)) := by
  obtain ⟨fd, F⟩ := S.sfun (d := eBadSaying) (st := iBadSaying) (List.mem_of_getElem? (i := 13) rfl) rfl rfl rfl
  obtain ⟨fdS, G⟩ := S.shn (w := w) (base := base)
  exact two_ways1 F (by decide) (S.mkE (d := eBadSaying) (List.mem_of_getElem? (i := 13) rfl)) (in_BadSaying F G) (new1 (S.sup (d := eBadSaying) (List.mem_of_getElem? (i := 13) rfl) (by decide)) (S.no (x := "BadSaying") (f := "part") (List.mem_of_getElem? (i := 13) rfl) (by decide))) (S.glo 26) (fun _ _ _ _ _ _ _ _ _ => rfl) (fun _ _ _ _ _ _ _ _ _ => rfl)
theorem mk_BadSolid (S : Hd K mg) : MkC w K mg base "BadSolid" ["part"] (fun vs => vs.map fun v => ("part", v)) (fun vs => vs.map fun v => ("part", v)) := by
  obtain ⟨fd, F⟩ := S.sfun (d := eBadSolid) (st := iBadSolid) (List.mem_of_getElem? (i := 14) rfl) rfl rfl rfl
  obtain ⟨fdS, G⟩ := S.shn (w := w) (base := base)
  exact two_ways1 F (by decide) (S.mkE (d := eBadSolid) (List.mem_of_getElem? (i := 14) rfl)) (in_BadSolid F G) (new1 (S.sup (d := eBadSolid) (List.mem_of_getElem? (i := 14) rfl) (by decide)) (S.no (x := "BadSolid") (f := "part") (List.mem_of_getElem? (i := 14) rfl) (by decide))) (S.glo 27) (fun _ _ _ _ _ _ _ _ _ => rfl) (fun _ _ _ _ _ _ _ _ _ => rfl)
theorem mk_BadView (S : Hd K mg) : MkC w K mg base "BadView" ["part"] (fun vs => vs.map fun v => ("part", v)) (fun vs => vs.map fun v => ("part", v)) := by
  obtain ⟨fd, F⟩ := S.sfun (d := eBadView) (st := iBadView) (List.mem_of_getElem? (i := 15) rfl) rfl rfl rfl
  obtain ⟨fdS, G⟩ := S.shn (w := w) (base := base)
  exact two_ways1 F (by decide) (S.mkE (d := eBadView) (List.mem_of_getElem? (i := 15) rfl)) (in_BadView F G) (new1 (S.sup (d := eBadView) (List.mem_of_getElem? (i := 15) rfl) (by decide)) (S.no (x := "BadView") (f := "part") (List.mem_of_getElem? (i := 15) rfl) (by decide))) (S.glo 28) (fun _ _ _ _ _ _ _ _ _ => rfl) (fun _ _ _ _ _ _ _ _ _ => rfl)
theorem mk_BadLight (S : Hd K mg) : MkC w K mg base "BadLight" ["part"] (fun vs => vs.map fun v => ("part", v)) (fun vs => vs.map fun v => ("part", v)) := by
  obtain ⟨fd, F⟩ := S.sfun (d := eBadLight) (st := iBadLight) (List.mem_of_getElem? (i := 16) rfl) rfl rfl rfl
  obtain ⟨fdS, G⟩ := S.shn (w := w) (base := base)
  exact two_ways1 F (by decide) (S.mkE (d := eBadLight) (List.mem_of_getElem? (i := 16) rfl)) (in_BadLight F G) (new1 (S.sup (d := eBadLight) (List.mem_of_getElem? (i := 16) rfl) (by decide)) (S.no (x := "BadLight") (f := "part") (List.mem_of_getElem? (i := 16) rfl) (by decide))) (S.glo 29) (fun _ _ _ _ _ _ _ _ _ => rfl) (fun _ _ _ _ _ _ _ _ _ => rfl)
theorem mk_BadNumber (S : Hd K mg) : MkC w K mg base "BadNumber" ["part"] (fun vs => vs.map fun v => ("part", v)) (fun vs => vs.map fun v => ("part", v)) := by
  obtain ⟨fd, F⟩ := S.sfun (d := eBadNumber) (st := iBadNumber) (List.mem_of_getElem? (i := 17) rfl) rfl rfl rfl
  obtain ⟨fdS, G⟩ := S.shn (w := w) (base := base)
  exact two_ways1 F (by decide) (S.mkE (d := eBadNumber) (List.mem_of_getElem? (i := 17) rfl)) (in_BadNumber F G) (new1 (S.sup (d := eBadNumber) (List.mem_of_getElem? (i := 17) rfl) (by decide)) (S.no (x := "BadNumber") (f := "part") (List.mem_of_getElem? (i := 17) rfl) (by decide))) (S.glo 30) (fun _ _ _ _ _ _ _ _ _ => rfl) (fun _ _ _ _ _ _ _ _ _ => rfl)
theorem mk_BadPaper (S : Hd K mg) : MkC w K mg base "BadPaper" ["part"] (fun vs => vs.map fun v => ("part", v)) (fun vs => vs.map fun v => ("part", v)) := by
  obtain ⟨fd, F⟩ := S.sfun (d := eBadPaper) (st := iBadPaper) (List.mem_of_getElem? (i := 18) rfl) rfl rfl rfl
  obtain ⟨fdS, G⟩ := S.shn (w := w) (base := base)
  exact two_ways1 F (by decide) (S.mkE (d := eBadPaper) (List.mem_of_getElem? (i := 18) rfl)) (in_BadPaper F G) (new1 (S.sup (d := eBadPaper) (List.mem_of_getElem? (i := 18) rfl) (by decide)) (S.no (x := "BadPaper") (f := "part") (List.mem_of_getElem? (i := 18) rfl) (by decide))) (S.glo 31) (fun _ _ _ _ _ _ _ _ _ => rfl) (fun _ _ _ _ _ _ _ _ _ => rfl)
theorem mk_BadDesk (S : Hd K mg) : MkC w K mg base "BadDesk" ["part"] (fun vs => vs.map fun v => ("part", v)) (fun vs => vs.map fun v => ("part", v)) := by
  obtain ⟨fd, F⟩ := S.sfun (d := eBadDesk) (st := iBadDesk) (List.mem_of_getElem? (i := 19) rfl) rfl rfl rfl
  obtain ⟨fdS, G⟩ := S.shn (w := w) (base := base)
  exact two_ways1 F (by decide) (S.mkE (d := eBadDesk) (List.mem_of_getElem? (i := 19) rfl)) (in_BadDesk F G) (new1 (S.sup (d := eBadDesk) (List.mem_of_getElem? (i := 19) rfl) (by decide)) (S.no (x := "BadDesk") (f := "part") (List.mem_of_getElem? (i := 19) rfl) (by decide))) (S.glo 32) (fun _ _ _ _ _ _ _ _ _ => rfl) (fun _ _ _ _ _ _ _ _ _ => rfl)
theorem mk_NotPlain (S : Hd K mg) : MkC w K mg base "NotPlain" ["part"] (fun vs => vs.map fun v => ("part", v)) (fun vs => vs.map fun v => ("part", v)) := by
  obtain ⟨fd, F⟩ := S.sfun (d := eNotPlain) (st := iNotPlain) (List.mem_of_getElem? (i := 20) rfl) rfl rfl rfl
  obtain ⟨fdS, G⟩ := S.shn (w := w) (base := base)
  exact two_ways1 F (by decide) (S.mkE (d := eNotPlain) (List.mem_of_getElem? (i := 20) rfl)) (in_NotPlain F G) (new1 (S.sup (d := eNotPlain) (List.mem_of_getElem? (i := 20) rfl) (by decide)) (S.no (x := "NotPlain") (f := "part") (List.mem_of_getElem? (i := 20) rfl) (by decide))) (S.glo 33) (fun _ _ _ _ _ _ _ _ _ => rfl) (fun _ _ _ _ _ _ _ _ _ => rfl)
theorem mk_Unsettled (S : Hd K mg) : MkC w K mg base "Unsettled" ["part"] (fun vs => vs.map fun v => ("part", v)) (fun vs => vs.map fun v => ("part", v)) := by
  obtain ⟨fd, F⟩ := S.sfun (d := eUnsettled) (st := iUnsettled) (List.mem_of_getElem? (i := 21) rfl) rfl rfl rfl
  obtain ⟨fdS, G⟩ := S.shn (w := w) (base := base)
  exact two_ways1 F (by decide) (S.mkE (d := eUnsettled) (List.mem_of_getElem? (i := 21) rfl)) (in_Unsettled F G) (new1 (S.sup (d := eUnsettled) (List.mem_of_getElem? (i := 21) rfl) (by decide)) (S.no (x := "Unsettled") (f := "part") (List.mem_of_getElem? (i := 21) rfl) (by decide))) (S.glo 34) (fun _ _ _ _ _ _ _ _ _ => rfl) (fun _ _ _ _ _ _ _ _ _ => rfl)
theorem mk_Missing (S : Hd K mg) : MkC w K mg base "Missing" ["name"] (fun vs => vs.map fun v => ("name", v)) (fun vs => vs.map fun v => ("name", v)) := by
  obtain ⟨fd, F⟩ := S.sfun (d := eMissing) (st := iMissing) (List.mem_of_getElem? (i := 22) rfl) rfl rfl rfl
  obtain ⟨fdS, G⟩ := S.shn (w := w) (base := base)
  exact two_ways1 F (by decide) (S.mkE (d := eMissing) (List.mem_of_getElem? (i := 22) rfl)) (in_Missing F G) (new1 (S.sup (d := eMissing) (List.mem_of_getElem? (i := 22) rfl) (by decide)) (S.no (x := "Missing") (f := "name") (List.mem_of_getElem? (i := 22) rfl) (by decide))) (S.glo 35) (fun _ _ _ _ _ _ _ _ _ => rfl) (fun _ _ _ _ _ _ _ _ _ => rfl)
theorem mk_NoLabel (S : Hd K mg) : MkC w K mg base "NoLabel" ["name"] (fun vs => vs.flatMap fun v => [("name", v), ("name", v)]) (fun vs => vs.flatMap fun v => [("name", v), ("name", v)]) := by
  obtain ⟨fd, F⟩ := S.sfun (d := eNoLabel) (st := iNoLabel) (List.mem_of_getElem? (i := 23) rfl) rfl rfl rfl
  obtain ⟨fd2, F2⟩ := S.sfun (d := eMissing) (st := iMissing) (List.mem_of_getElem? (i := 22) rfl) rfl rfl rfl
  obtain ⟨fdS, G⟩ := S.shn (w := w) (base := base)
  obtain ⟨h1, h2, h3⟩ := S.sup3 (x := "NoLabel") (by decide) (by decide)
  have MM := S.mkE (d := eMissing) (List.mem_of_getElem? (i := 22) rfl)
  have B2 : L2.Binds K fd2 ["self", "name"] [] := sfun_binds F2 fun _ _ _ _ _ _ _ us hl => match us, hl with | [_, _], _ => rfl
  have SM : SupM K (ga K "NoLabel") (ga K "NoLabel") (iAd K "Missing") := ⟨h1.oex, h2, h3, MM.tI, SFunX F2⟩
  exact two_ways1 F (by decide) (S.mkE (d := eNoLabel) (List.mem_of_getElem? (i := 23) rfl)) (in_NoLabel F (in_Missing F2 G) B2) (newM SM h1 (S.no (x := "NoLabel") (f := "name") (List.mem_of_getElem? (i := 23) rfl) (by decide))) (S.glo 36) (fun _ _ _ _ _ _ _ _ _ => rfl) (fun _ _ _ _ _ _ _ _ _ => rfl)
theorem mk_NoPicture (S : Hd K mg) : MkC w K mg base "NoPicture" ["name"] (fun vs => vs.flatMap fun v => [("name", v), ("name", v)]) (fun vs => vs.flatMap fun v => [("name", v), ("name", v)]) := by
  obtain ⟨fd, F⟩ := S.sfun (d := eNoPicture) (st := iNoPicture) (List.mem_of_getElem? (i := 24) rfl) rfl rfl rfl
  obtain ⟨fd2, F2⟩ := S.sfun (d := eMissing) (st := iMissing) (List.mem_of_getElem? (i := 22) rfl) rfl rfl rfl
  obtain ⟨fdS, G⟩ := S.shn (w := w) (base := base)
  obtain ⟨h1, h2, h3⟩ := S.sup3 (x := "NoPicture") (by decide) (by decide)
  have MM := S.mkE (d := eMissing) (List.mem_of_getElem? (i := 22) rfl)
  have B2 : L2.Binds K fd2 ["self", "name"] [] := sfun_binds F2 fun _ _ _ _ _ _ _ us hl => match us, hl with | [_, _], _ => rfl
  have SM : SupM K (ga K "NoPicture") (ga K "NoPicture") (iAd K "Missing") := ⟨h1.oex, h2, h3, MM.tI, SFunX F2⟩
  exact two_ways1 F (by decide) (S.mkE (d := eNoPicture) (List.mem_of_getElem? (i := 24) rfl)) (in_NoPicture F (in_Missing F2 G) B2) (newM SM h1 (S.no (x := "NoPicture") (f := "name") (List.mem_of_getElem? (i := 24) rfl) (by decide))) (S.glo 37) (fun _ _ _ _ _ _ _ _ _ => rfl) (fun _ _ _ _ _ _ _ _ _ => rfl)
theorem mk_NoName (S : Hd K mg) : MkC w K mg base "NoName" ["name"] (fun vs => vs.flatMap fun v => [("name", v), ("name", v)]) (fun vs => vs.flatMap fun v => [("name", v), ("name", v)]) := by
  obtain ⟨fd, F⟩ := S.sfun (d := eNoName) (st := iNoName) (List.mem_of_getElem? (i := 25) rfl) rfl rfl rfl
  obtain ⟨fd2, F2⟩ := S.sfun (d := eMissing) (st := iMissing) (List.mem_of_getElem? (i := 22) rfl) rfl rfl rfl
  obtain ⟨fdS, G⟩ := S.shn (w := w) (base := base)
  obtain ⟨h1, h2, h3⟩ := S.sup3 (x := "NoName") (by decide) (by decide)
  have MM := S.mkE (d := eMissing) (List.mem_of_getElem? (i := 22) rfl)
  have B2 : L2.Binds K fd2 ["self", "name"] [] := sfun_binds F2 fun _ _ _ _ _ _ _ us hl => match us, hl with | [_, _], _ => rfl
  have SM : SupM K (ga K "NoName") (ga K "NoName") (iAd K "Missing") := ⟨h1.oex, h2, h3, MM.tI, SFunX F2⟩
  exact two_ways1 F (by decide) (S.mkE (d := eNoName) (List.mem_of_getElem? (i := 25) rfl)) (in_NoName F (in_Missing F2 G) B2) (newM SM h1 (S.no (x := "NoName") (f := "name") (List.mem_of_getElem? (i := 25) rfl) (by decide))) (S.glo 38) (fun _ _ _ _ _ _ _ _ _ => rfl) (fun _ _ _ _ _ _ _ _ _ => rfl)
theorem mk_NoFact (S : Hd K mg) : MkC w K mg base "NoFact" ["number"] (fun vs => vs.map fun v => ("number", v)) (fun vs => vs.map fun v => ("number", v)) := by
  obtain ⟨fd, F⟩ := S.sfun (d := eNoFact) (st := iNoFact) (List.mem_of_getElem? (i := 26) rfl) rfl rfl rfl
  obtain ⟨fdS, G⟩ := S.shn (w := w) (base := base)
  exact two_ways1 F (by decide) (S.mkE (d := eNoFact) (List.mem_of_getElem? (i := 26) rfl)) (in_NoFact F G) (new1 (S.sup (d := eNoFact) (List.mem_of_getElem? (i := 26) rfl) (by decide)) (S.no (x := "NoFact") (f := "number") (List.mem_of_getElem? (i := 26) rfl) (by decide))) (S.glo 39) (fun _ _ _ _ _ _ _ _ _ => rfl) (fun _ _ _ _ _ _ _ _ _ => rfl)
theorem mk_Twice (S : Hd K mg) : MkC w K mg base "Twice" ["name"] (fun vs => vs.map fun v => ("name", v)) (fun vs => vs.map fun v => ("name", v)) := by
  obtain ⟨fd, F⟩ := S.sfun (d := eTwice) (st := iTwice) (List.mem_of_getElem? (i := 27) rfl) rfl rfl rfl
  obtain ⟨fdS, G⟩ := S.shn (w := w) (base := base)
  exact two_ways1 F (by decide) (S.mkE (d := eTwice) (List.mem_of_getElem? (i := 27) rfl)) (in_Twice F G) (new1 (S.sup (d := eTwice) (List.mem_of_getElem? (i := 27) rfl) (by decide)) (S.no (x := "Twice") (f := "name") (List.mem_of_getElem? (i := 27) rfl) (by decide))) (S.glo 40) (fun _ _ _ _ _ _ _ _ _ => rfl) (fun _ _ _ _ _ _ _ _ _ => rfl)
theorem mk_SamePlace (S : Hd K mg) : MkC w K mg base "SamePlace" ["other", "one"] (fun vs => match vs with | [v, u] => [("other", u), ("one", v)] | _ => []) (fun vs => match vs with | [u, v] => [("other", u), ("one", v)] | _ => []) := by
  obtain ⟨fd, F⟩ := S.sfun (d := eSamePlace) (st := iSamePlace) (List.mem_of_getElem? (i := 28) rfl) rfl rfl rfl
  obtain ⟨fdS, G⟩ := S.shn (w := w) (base := base)
  exact two_ways2 F (by decide) (S.mkE (d := eSamePlace) (List.mem_of_getElem? (i := 28) rfl)) (in_SamePlace F G) (new2 (S.sup (d := eSamePlace) (List.mem_of_getElem? (i := 28) rfl) (by decide)) (S.no (x := "SamePlace") (f := "one") (List.mem_of_getElem? (i := 28) rfl) (by decide)) (S.no (x := "SamePlace") (f := "other") (List.mem_of_getElem? (i := 28) rfl) (by decide))) (new2r (S.sup (d := eSamePlace) (List.mem_of_getElem? (i := 28) rfl) (by decide)) (S.no (x := "SamePlace") (f := "one") (List.mem_of_getElem? (i := 28) rfl) (by decide)) (S.no (x := "SamePlace") (f := "other") (List.mem_of_getElem? (i := 28) rfl) (by decide))) (S.glo 41) (fun _ _ _ _ _ _ _ _ _ _ => rfl) (fun _ _ _ _ _ _ _ _ _ _ => rfl)
theorem mk_TwoPictures (S : Hd K mg) : MkC w K mg base "TwoPictures" ["other", "one"] (fun vs => match vs with | [v, u] => [("other", u), ("one", v)] | _ => []) (fun vs => match vs with | [u, v] => [("other", u), ("one", v)] | _ => []) := by
  obtain ⟨fd, F⟩ := S.sfun (d := eTwoPictures) (st := iTwoPictures) (List.mem_of_getElem? (i := 29) rfl) rfl rfl rfl
  obtain ⟨fdS, G⟩ := S.shn (w := w) (base := base)
  exact two_ways2 F (by decide) (S.mkE (d := eTwoPictures) (List.mem_of_getElem? (i := 29) rfl)) (in_TwoPictures F G) (new2 (S.sup (d := eTwoPictures) (List.mem_of_getElem? (i := 29) rfl) (by decide)) (S.no (x := "TwoPictures") (f := "one") (List.mem_of_getElem? (i := 29) rfl) (by decide)) (S.no (x := "TwoPictures") (f := "other") (List.mem_of_getElem? (i := 29) rfl) (by decide))) (new2r (S.sup (d := eTwoPictures) (List.mem_of_getElem? (i := 29) rfl) (by decide)) (S.no (x := "TwoPictures") (f := "one") (List.mem_of_getElem? (i := 29) rfl) (by decide)) (S.no (x := "TwoPictures") (f := "other") (List.mem_of_getElem? (i := 29) rfl) (by decide))) (S.glo 42) (fun _ _ _ _ _ _ _ _ _ _ => rfl) (fun _ _ _ _ _ _ _ _ _ _ => rfl)
theorem mk_NotJoined (S : Hd K mg) : MkC w K mg base "NotJoined" ["other", "one"] (fun vs => match vs with | [v, u] => [("other", u), ("one", v)] | _ => []) (fun vs => match vs with | [u, v] => [("other", u), ("one", v)] | _ => []) := by
  obtain ⟨fd, F⟩ := S.sfun (d := eNotJoined) (st := iNotJoined) (List.mem_of_getElem? (i := 30) rfl) rfl rfl rfl
  obtain ⟨fdS, G⟩ := S.shn (w := w) (base := base)
  exact two_ways2 F (by decide) (S.mkE (d := eNotJoined) (List.mem_of_getElem? (i := 30) rfl)) (in_NotJoined F G) (new2 (S.sup (d := eNotJoined) (List.mem_of_getElem? (i := 30) rfl) (by decide)) (S.no (x := "NotJoined") (f := "one") (List.mem_of_getElem? (i := 30) rfl) (by decide)) (S.no (x := "NotJoined") (f := "other") (List.mem_of_getElem? (i := 30) rfl) (by decide))) (new2r (S.sup (d := eNotJoined) (List.mem_of_getElem? (i := 30) rfl) (by decide)) (S.no (x := "NotJoined") (f := "one") (List.mem_of_getElem? (i := 30) rfl) (by decide)) (S.no (x := "NotJoined") (f := "other") (List.mem_of_getElem? (i := 30) rfl) (by decide))) (S.glo 43) (fun _ _ _ _ _ _ _ _ _ _ => rfl) (fun _ _ _ _ _ _ _ _ _ _ => rfl)
theorem mk_Behind (S : Hd K mg) : MkC w K mg base "Behind" ["name"] (fun vs => vs.map fun v => ("name", v)) (fun vs => vs.map fun v => ("name", v)) := by
  obtain ⟨fd, F⟩ := S.sfun (d := eBehind) (st := iBehind) (List.mem_of_getElem? (i := 31) rfl) rfl rfl rfl
  obtain ⟨fdS, G⟩ := S.shn (w := w) (base := base)
  exact two_ways1 F (by decide) (S.mkE (d := eBehind) (List.mem_of_getElem? (i := 31) rfl)) (in_Behind F G) (new1 (S.sup (d := eBehind) (List.mem_of_getElem? (i := 31) rfl) (by decide)) (S.no (x := "Behind") (f := "name") (List.mem_of_getElem? (i := 31) rfl) (by decide))) (S.glo 44) (fun _ _ _ _ _ _ _ _ _ => rfl) (fun _ _ _ _ _ _ _ _ _ => rfl)
theorem mk_Impossible (S : Hd K mg) : MkC w K mg base "Impossible" ["word"] (fun vs => vs.map fun v => ("word", v)) (fun vs => vs.map fun v => ("word", v)) := by
  obtain ⟨fd, F⟩ := S.sfun (d := eImpossible) (st := iImpossible) (List.mem_of_getElem? (i := 32) rfl) rfl rfl rfl
  obtain ⟨fdS, G⟩ := S.shn (w := w) (base := base)
  exact two_ways1 F (by decide) (S.mkE (d := eImpossible) (List.mem_of_getElem? (i := 32) rfl)) (in_Impossible F G) (new1 (S.sup (d := eImpossible) (List.mem_of_getElem? (i := 32) rfl) (by decide)) (S.no (x := "Impossible") (f := "word") (List.mem_of_getElem? (i := 32) rfl) (by decide))) (S.glo 45) (fun _ _ _ _ _ _ _ _ _ => rfl) (fun _ _ _ _ _ _ _ _ _ => rfl)
theorem mk_Nothing (S : Hd K mg) : MkC w K mg base "Nothing" [] (fun _ => []) (fun _ => []) := by
  obtain ⟨fd, F⟩ := S.sfun (d := eNothing) (st := iNothing) (List.mem_of_getElem? (i := 33) rfl) rfl rfl rfl
  exact two_ways0 F (by decide) (S.mkE (d := eNothing) (List.mem_of_getElem? (i := 33) rfl)) (in_Nothing F) (new0 (S.sup (d := eNothing) (List.mem_of_getElem? (i := 33) rfl) (by decide))) (S.glo 46) (fun _ _ _ _ _ _ _ _ => rfl)
theorem mk_TooMany (S : Hd K mg) : MkC w K mg base "TooMany" ["most", "what"] (fun vs => match vs with | [v, u] => [("most", u), ("what", v)] | _ => []) (fun vs => match vs with | [u, v] => [("most", u), ("what", v)] | _ => []) := by
  obtain ⟨fd, F⟩ := S.sfun (d := eTooMany) (st := iTooMany) (List.mem_of_getElem? (i := 34) rfl) rfl rfl rfl
  obtain ⟨fdS, G⟩ := S.shn (w := w) (base := base)
  exact two_ways2 F (by decide) (S.mkE (d := eTooMany) (List.mem_of_getElem? (i := 34) rfl)) (in_TooMany F G) (new2 (S.sup (d := eTooMany) (List.mem_of_getElem? (i := 34) rfl) (by decide)) (S.no (x := "TooMany") (f := "what") (List.mem_of_getElem? (i := 34) rfl) (by decide)) (S.no (x := "TooMany") (f := "most") (List.mem_of_getElem? (i := 34) rfl) (by decide))) (new2r (S.sup (d := eTooMany) (List.mem_of_getElem? (i := 34) rfl) (by decide)) (S.no (x := "TooMany") (f := "what") (List.mem_of_getElem? (i := 34) rfl) (by decide)) (S.no (x := "TooMany") (f := "most") (List.mem_of_getElem? (i := 34) rfl) (by decide))) (S.glo 47) (fun _ _ _ _ _ _ _ _ _ _ => rfl) (fun _ _ _ _ _ _ _ _ _ _ => rfl)
theorem mk_BadText (S : Hd K mg) : MkC w K mg base "BadText" ["word", "line"] (fun vs => match vs with | [v, u] => [("word", u), ("line", v)] | _ => []) (fun vs => match vs with | [u, v] => [("word", u), ("line", v)] | _ => []) := by
  obtain ⟨fd, F⟩ := S.sfun (d := eBadText) (st := iBadText) (List.mem_of_getElem? (i := 35) rfl) rfl rfl rfl
  obtain ⟨fdS, G⟩ := S.shn (w := w) (base := base)
  exact two_ways2 F (by decide) (S.mkE (d := eBadText) (List.mem_of_getElem? (i := 35) rfl)) (in_BadText F G) (new2 (S.sup (d := eBadText) (List.mem_of_getElem? (i := 35) rfl) (by decide)) (S.no (x := "BadText") (f := "line") (List.mem_of_getElem? (i := 35) rfl) (by decide)) (S.no (x := "BadText") (f := "word") (List.mem_of_getElem? (i := 35) rfl) (by decide))) (new2r (S.sup (d := eBadText) (List.mem_of_getElem? (i := 35) rfl) (by decide)) (S.no (x := "BadText") (f := "line") (List.mem_of_getElem? (i := 35) rfl) (by decide)) (S.no (x := "BadText") (f := "word") (List.mem_of_getElem? (i := 35) rfl) (by decide))) (S.glo 48) (fun _ _ _ _ _ _ _ _ _ _ => rfl) (fun _ _ _ _ _ _ _ _ _ _ => rfl)
theorem mk_BadLine (S : Hd K mg) : MkC w K mg base "BadLine" ["error", "line"] (fun vs => match vs with | [v, u] => [("error", u), ("line", v)] | _ => []) (fun vs => match vs with | [u, v] => [("error", u), ("line", v)] | _ => []) := by
  obtain ⟨fd, F⟩ := S.sfun (d := eBadLine) (st := iBadLine) (List.mem_of_getElem? (i := 36) rfl) rfl rfl rfl
  obtain ⟨fdS, G⟩ := S.shn (w := w) (base := base)
  exact two_ways2 F (by decide) (S.mkE (d := eBadLine) (List.mem_of_getElem? (i := 36) rfl)) (in_BadLine F G) (new2 (S.sup (d := eBadLine) (List.mem_of_getElem? (i := 36) rfl) (by decide)) (S.no (x := "BadLine") (f := "line") (List.mem_of_getElem? (i := 36) rfl) (by decide)) (S.no (x := "BadLine") (f := "error") (List.mem_of_getElem? (i := 36) rfl) (by decide))) (new2r (S.sup (d := eBadLine) (List.mem_of_getElem? (i := 36) rfl) (by decide)) (S.no (x := "BadLine") (f := "line") (List.mem_of_getElem? (i := 36) rfl) (by decide)) (S.no (x := "BadLine") (f := "error") (List.mem_of_getElem? (i := 36) rfl) (by decide))) (S.glo 49) (fun _ _ _ _ _ _ _ _ _ _ => rfl) (fun _ _ _ _ _ _ _ _ _ _ => rfl)
end
end Lw
end

/-! Lw5 -/
section
set_option maxHeartbeats 4000000
set_option exponentiation.threshold 1000
namespace Lw
open PySem PySem.Spec PyProof.Rows L2 He Er
section
variable {w : World} {K : PySem.W.Frag} {mg : Str → Option Value} {base : Heap} {f : Addr} {fd : FuncData} {v u : V}
/-- what _law_parts makes -/
def l_parts0 (K : PySem.W.Frag) (v u : V) : List (Addr × List (Str × V)) := [(ga K "BadRatio", [("part", v)]), (ga K "BadRow", [("part", v)]), (ga K "BadPicture", [("part", v)]), (ga K "BadStep", [("part", v)]), (ga K "BadMark", [("part", v)])]
def l_parts1 (K : PySem.W.Frag) (v u : V) : List (Addr × List (Str × V)) := [(ga K "BadScene", [("part", v)]), (ga K "BadCone", [("part", v)]), (ga K "BadEye", [("part", v)]), (ga K "BadEyeRow", [("part", v)]), (ga K "BadFlat", [("part", v)])]
def l_parts2 (K : PySem.W.Frag) (v u : V) : List (Addr × List (Str × V)) := [(ga K "BadFact", [("part", v)]), (ga K "BadBook", [("part", v)]), (ga K "BadStanding", [("part", v)]), (ga K "BadSaying", [("part", v)]), (ga K "BadSolid", [("part", v)])]
def l_parts3 (K : PySem.W.Frag) (v u : V) : List (Addr × List (Str × V)) := [(ga K "BadView", [("part", v)]), (ga K "BadLight", [("part", v)]), (ga K "BadNumber", [("part", v)]), (ga K "BadPaper", [("part", v)]), (ga K "BadDesk", [("part", v)])]
def l_parts4 (K : PySem.W.Frag) (v u : V) : List (Addr × List (Str × V)) := [(ga K "NotPlain", [("part", v)]), (ga K "Unsettled", [("part", v)])]
/-- what _law_others makes -/
def l_others0 (K : PySem.W.Frag) (v u : V) : List (Addr × List (Str × V)) := [(ga K "NoLabel", [("name", v), ("name", v)]), (ga K "NoPicture", [("name", v), ("name", v)]), (ga K "NoName", [("name", v), ("name", v)]), (ga K "Twice", [("name", v)]), (ga K "Behind", [("name", v)]), (ga K "NoFact", [("number", v)]), (ga K "Impossible", [("word", v)])]
def l_others1 (K : PySem.W.Frag) (v u : V) : List (Addr × List (Str × V)) := [(ga K "SamePlace", [("other", u), ("one", v)]), (ga K "TwoPictures", [("other", u), ("one", v)]), (ga K "NotJoined", [("other", u), ("one", v)]), (ga K "TooMany", [("most", u), ("what", v)])]
def l_others2 (K : PySem.W.Frag) (v u : V) : List (Addr × List (Str × V)) := [(ga K "BadText", [("word", u), ("line", v)]), (ga K "BadLine", [("error", u), ("line", v)]), (ga K "Nothing", [])]
/-- what _law_others_named makes -/
def l_othersn0 (K : PySem.W.Frag) (v u : V) : List (Addr × List (Str × V)) := [(ga K "NoLabel", [("name", v), ("name", v)]), (ga K "NoPicture", [("name", v), ("name", v)]), (ga K "NoName", [("name", v), ("name", v)]), (ga K "Twice", [("name", v)]), (ga K "Behind", [("name", v)])]
def l_othersn1 (K : PySem.W.Frag) (v u : V) : List (Addr × List (Str × V)) := [(ga K "NoFact", [("number", v)]), (ga K "Impossible", [("word", v)]), (ga K "SamePlace", [("other", u), ("one", v)])]
def l_othersn2 (K : PySem.W.Frag) (v u : V) : List (Addr × List (Str × V)) := [(ga K "TwoPictures", [("other", u), ("one", v)]), (ga K "NotJoined", [("other", u), ("one", v)]), (ga K "TooMany", [("most", u), ("what", v)])]
def l_othersn3 (K : PySem.W.Frag) (v u : V) : List (Addr × List (Str × V)) := [(ga K "BadText", [("word", u), ("line", v)]), (ga K "BadLine", [("error", u), ("line", v)]), (ga K "Nothing", [])]
theorem sc_law_parts : FnScope ["_law_one", "_law_made"] ["_law_one"] (defScope sLparts) := ⟨rfl, rfl, rfl, by decide +kernel, rfl, by decide +kernel, by decide +kernel⟩
theorem ok_Lparts (S : Hd K mg) (F : L2.Fun K "_law_parts" "_law_parts" sLparts f fd) : FnOk P w K mg base CX0 5 f fd ["_law_one"] (spMade 0 (fun v _ => [v]) fun v u => l_parts0 K v u ++ l_parts1 K v u ++ l_parts2 K v u ++ l_parts3 K v u ++ l_parts4 K v u) := by
  refine F.ok sc_law_parts (fun vs H Q E h => ?_) (fun cdv A outer s H vs Q E hr h => ?_)
  · obtain ⟨v, u, rfl, _⟩ := h
    rfl
  · obtain ⟨v, u, rfl, hv, k⟩ := h
    refine ⟨_, PSs.nox (pss_cons (ps_set (i := 1) sc_law_parts.nd rfl (.inl rfl) (pe_lst (pa_cons (pe_pos (mk_BadRatio S) rfl hr rfl (pa_cons (pv 0) pa_nil)) (pa_cons (pe_kwd (mk_BadRow S) rfl hr rfl (pk_cons (pv 0) pk_nil)) (pa_cons (pe_pos (mk_BadPicture S) rfl hr rfl (pa_cons (pv 0) pa_nil)) (pa_cons (pe_kwd (mk_BadStep S) rfl hr rfl (pk_cons (pv 0) pk_nil)) (pa_cons (pe_pos (mk_BadMark S) rfl hr rfl (pa_cons (pv 0) pa_nil)) pa_nil)))))))
      (pss_cons (ps_set (i := 1) sc_law_parts.nd rfl (.inl rfl) (pe_op op_cat (pv 1) (pe_lst (pa_cons (pe_kwd (mk_BadScene S) rfl hr rfl (pk_cons (pv 0) pk_nil)) (pa_cons (pe_pos (mk_BadCone S) rfl hr rfl (pa_cons (pv 0) pa_nil)) (pa_cons (pe_kwd (mk_BadEye S) rfl hr rfl (pk_cons (pv 0) pk_nil)) (pa_cons (pe_pos (mk_BadEyeRow S) rfl hr rfl (pa_cons (pv 0) pa_nil)) (pa_cons (pe_kwd (mk_BadFlat S) rfl hr rfl (pk_cons (pv 0) pk_nil)) pa_nil))))))))
      (pss_cons (ps_set (i := 1) sc_law_parts.nd rfl (.inl rfl) (pe_op op_cat (pv 1) (pe_lst (pa_cons (pe_pos (mk_BadFact S) rfl hr rfl (pa_cons (pv 0) pa_nil)) (pa_cons (pe_kwd (mk_BadBook S) rfl hr rfl (pk_cons (pv 0) pk_nil)) (pa_cons (pe_pos (mk_BadStanding S) rfl hr rfl (pa_cons (pv 0) pa_nil)) (pa_cons (pe_kwd (mk_BadSaying S) rfl hr rfl (pk_cons (pv 0) pk_nil)) (pa_cons (pe_pos (mk_BadSolid S) rfl hr rfl (pa_cons (pv 0) pa_nil)) pa_nil))))))))
      (pss_cons (ps_set (i := 1) sc_law_parts.nd rfl (.inl rfl) (pe_op op_cat (pv 1) (pe_lst (pa_cons (pe_kwd (mk_BadView S) rfl hr rfl (pk_cons (pv 0) pk_nil)) (pa_cons (pe_pos (mk_BadLight S) rfl hr rfl (pa_cons (pv 0) pa_nil)) (pa_cons (pe_kwd (mk_BadNumber S) rfl hr rfl (pk_cons (pv 0) pk_nil)) (pa_cons (pe_pos (mk_BadPaper S) rfl hr rfl (pa_cons (pv 0) pa_nil)) (pa_cons (pe_kwd (mk_BadDesk S) rfl hr rfl (pk_cons (pv 0) pk_nil)) pa_nil))))))))
      (pss_cons (ps_set (i := 1) sc_law_parts.nd rfl (.inl rfl) (pe_op op_cat (pv 1) (pe_lst (pa_cons (pe_pos (mk_NotPlain S) rfl hr rfl (pa_cons (pv 0) pa_nil)) (pa_cons (pe_kwd (mk_Unsettled S) rfl hr rfl (pk_cons (pv 0) pk_nil)) pa_nil)))))
      (pss_one (ps_ret (pv 1)))))))), ?_⟩
    refine use_lst (l := l_parts0 K v u) hv ?_ rfl fun p xs H2 s2 hx he => ?_
    · exact (givs_cons (giv_v rfl) (givs_cons (giv_v rfl) (givs_cons (giv_v rfl) (givs_cons (giv_v rfl) (givs_cons (giv_v rfl) givs_nil)))))
    refine use_cat (l := l_parts0 K v u) (m := l_parts1 K v u) (hv.mono s2) rfl hx he ?_ rfl fun p xs H3 s3 hx he => ?_
    · exact (givs_cons (giv_v rfl) (givs_cons (giv_v rfl) (givs_cons (giv_v rfl) (givs_cons (giv_v rfl) (givs_cons (giv_v rfl) givs_nil)))))
    have s2 := same_trans s2 s3
    refine use_cat (l := l_parts0 K v u ++ l_parts1 K v u) (m := l_parts2 K v u) (hv.mono s2) rfl hx he ?_ rfl fun p xs H3 s3 hx he => ?_
    · exact (givs_cons (giv_v rfl) (givs_cons (giv_v rfl) (givs_cons (giv_v rfl) (givs_cons (giv_v rfl) (givs_cons (giv_v rfl) givs_nil)))))
    have s2 := same_trans s2 s3
    refine use_cat (l := l_parts0 K v u ++ l_parts1 K v u ++ l_parts2 K v u) (m := l_parts3 K v u) (hv.mono s2) rfl hx he ?_ rfl fun p xs H3 s3 hx he => ?_
    · exact (givs_cons (giv_v rfl) (givs_cons (giv_v rfl) (givs_cons (giv_v rfl) (givs_cons (giv_v rfl) (givs_cons (giv_v rfl) givs_nil)))))
    have s2 := same_trans s2 s3
    refine use_cat (l := l_parts0 K v u ++ l_parts1 K v u ++ l_parts2 K v u ++ l_parts3 K v u) (m := l_parts4 K v u) (hv.mono s2) rfl hx he ?_ rfl fun p xs H3 s3 hx he => ?_
    · exact (givs_cons (giv_v rfl) (givs_cons (giv_v rfl) givs_nil))
    have s2 := same_trans s2 s3
    exact ⟨.ref p, rfl, k p xs _ s2 hx he⟩
theorem sc_law_parts_turned : FnScope ["_law_one", "_law_made"] ["_law_one"] (defScope sLpartsturned) := ⟨rfl, rfl, rfl, by decide +kernel, rfl, by decide +kernel, by decide +kernel⟩
theorem ok_Lpartsturned (S : Hd K mg) (F : L2.Fun K "_law_parts_turned" "_law_parts_turned" sLpartsturned f fd) : FnOk P w K mg base CX0 5 f fd ["_law_one"] (spMade 0 (fun v _ => [v]) fun v u => l_parts0 K v u ++ l_parts1 K v u ++ l_parts2 K v u ++ l_parts3 K v u ++ l_parts4 K v u) := by
  refine F.ok sc_law_parts_turned (fun vs H Q E h => ?_) (fun cdv A outer s H vs Q E hr h => ?_)
  · obtain ⟨v, u, rfl, _⟩ := h
    rfl
  · obtain ⟨v, u, rfl, hv, k⟩ := h
    refine ⟨_, PSs.nox (pss_cons (ps_set (i := 1) sc_law_parts_turned.nd rfl (.inl rfl) (pe_lst (pa_cons (pe_kwd (mk_BadRatio S) rfl hr rfl (pk_cons (pv 0) pk_nil)) (pa_cons (pe_pos (mk_BadRow S) rfl hr rfl (pa_cons (pv 0) pa_nil)) (pa_cons (pe_kwd (mk_BadPicture S) rfl hr rfl (pk_cons (pv 0) pk_nil)) (pa_cons (pe_pos (mk_BadStep S) rfl hr rfl (pa_cons (pv 0) pa_nil)) (pa_cons (pe_kwd (mk_BadMark S) rfl hr rfl (pk_cons (pv 0) pk_nil)) pa_nil)))))))
      (pss_cons (ps_set (i := 1) sc_law_parts_turned.nd rfl (.inl rfl) (pe_op op_cat (pv 1) (pe_lst (pa_cons (pe_pos (mk_BadScene S) rfl hr rfl (pa_cons (pv 0) pa_nil)) (pa_cons (pe_kwd (mk_BadCone S) rfl hr rfl (pk_cons (pv 0) pk_nil)) (pa_cons (pe_pos (mk_BadEye S) rfl hr rfl (pa_cons (pv 0) pa_nil)) (pa_cons (pe_kwd (mk_BadEyeRow S) rfl hr rfl (pk_cons (pv 0) pk_nil)) (pa_cons (pe_pos (mk_BadFlat S) rfl hr rfl (pa_cons (pv 0) pa_nil)) pa_nil))))))))
      (pss_cons (ps_set (i := 1) sc_law_parts_turned.nd rfl (.inl rfl) (pe_op op_cat (pv 1) (pe_lst (pa_cons (pe_kwd (mk_BadFact S) rfl hr rfl (pk_cons (pv 0) pk_nil)) (pa_cons (pe_pos (mk_BadBook S) rfl hr rfl (pa_cons (pv 0) pa_nil)) (pa_cons (pe_kwd (mk_BadStanding S) rfl hr rfl (pk_cons (pv 0) pk_nil)) (pa_cons (pe_pos (mk_BadSaying S) rfl hr rfl (pa_cons (pv 0) pa_nil)) (pa_cons (pe_kwd (mk_BadSolid S) rfl hr rfl (pk_cons (pv 0) pk_nil)) pa_nil))))))))
      (pss_cons (ps_set (i := 1) sc_law_parts_turned.nd rfl (.inl rfl) (pe_op op_cat (pv 1) (pe_lst (pa_cons (pe_pos (mk_BadView S) rfl hr rfl (pa_cons (pv 0) pa_nil)) (pa_cons (pe_kwd (mk_BadLight S) rfl hr rfl (pk_cons (pv 0) pk_nil)) (pa_cons (pe_pos (mk_BadNumber S) rfl hr rfl (pa_cons (pv 0) pa_nil)) (pa_cons (pe_kwd (mk_BadPaper S) rfl hr rfl (pk_cons (pv 0) pk_nil)) (pa_cons (pe_pos (mk_BadDesk S) rfl hr rfl (pa_cons (pv 0) pa_nil)) pa_nil))))))))
      (pss_cons (ps_set (i := 1) sc_law_parts_turned.nd rfl (.inl rfl) (pe_op op_cat (pv 1) (pe_lst (pa_cons (pe_kwd (mk_NotPlain S) rfl hr rfl (pk_cons (pv 0) pk_nil)) (pa_cons (pe_pos (mk_Unsettled S) rfl hr rfl (pa_cons (pv 0) pa_nil)) pa_nil)))))
      (pss_one (ps_ret (pv 1)))))))), ?_⟩
    refine use_lst (l := l_parts0 K v u) hv ?_ rfl fun p xs H2 s2 hx he => ?_
    · exact (givs_cons (giv_v rfl) (givs_cons (giv_v rfl) (givs_cons (giv_v rfl) (givs_cons (giv_v rfl) (givs_cons (giv_v rfl) givs_nil)))))
    refine use_cat (l := l_parts0 K v u) (m := l_parts1 K v u) (hv.mono s2) rfl hx he ?_ rfl fun p xs H3 s3 hx he => ?_
    · exact (givs_cons (giv_v rfl) (givs_cons (giv_v rfl) (givs_cons (giv_v rfl) (givs_cons (giv_v rfl) (givs_cons (giv_v rfl) givs_nil)))))
    have s2 := same_trans s2 s3
    refine use_cat (l := l_parts0 K v u ++ l_parts1 K v u) (m := l_parts2 K v u) (hv.mono s2) rfl hx he ?_ rfl fun p xs H3 s3 hx he => ?_
    · exact (givs_cons (giv_v rfl) (givs_cons (giv_v rfl) (givs_cons (giv_v rfl) (givs_cons (giv_v rfl) (givs_cons (giv_v rfl) givs_nil)))))
    have s2 := same_trans s2 s3
    refine use_cat (l := l_parts0 K v u ++ l_parts1 K v u ++ l_parts2 K v u) (m := l_parts3 K v u) (hv.mono s2) rfl hx he ?_ rfl fun p xs H3 s3 hx he => ?_
    · exact (givs_cons (giv_v rfl) (givs_cons (giv_v rfl) (givs_cons (giv_v rfl) (givs_cons (giv_v rfl) (givs_cons (giv_v rfl) givs_nil)))))
    have s2 := same_trans s2 s3
    refine use_cat (l := l_parts0 K v u ++ l_parts1 K v u ++ l_parts2 K v u ++ l_parts3 K v u) (m := l_parts4 K v u) (hv.mono s2) rfl hx he ?_ rfl fun p xs H3 s3 hx he => ?_
    · exact (givs_cons (giv_v rfl) (givs_cons (giv_v rfl) givs_nil))
    have s2 := same_trans s2 s3
    exact ⟨.ref p, rfl, k p xs _ s2 hx he⟩
theorem sc_law_others : FnScope ["_law_one", "_law_two", "_law_made"] ["_law_one", "_law_two"] (defScope sLothers) := ⟨rfl, rfl, rfl, by decide +kernel, rfl, by decide +kernel, by decide +kernel⟩
theorem ok_Lothers (S : Hd K mg) (F : L2.Fun K "_law_others" "_law_others" sLothers f fd) : FnOk P w K mg base CX0 5 f fd ["_law_one", "_law_two"] (spMade 0 (fun v u => [v, u]) fun v u => l_others0 K v u ++ l_others1 K v u ++ l_others2 K v u) := by
  refine F.ok sc_law_others (fun vs H Q E h => ?_) (fun cdv A outer s H vs Q E hr h => ?_)
  · obtain ⟨v, u, rfl, _⟩ := h
    rfl
  · obtain ⟨v, u, rfl, hv, k⟩ := h
    refine ⟨_, PSs.nox (pss_cons (ps_set (i := 2) sc_law_others.nd rfl (.inl rfl) (pe_lst (pa_cons (pe_pos (mk_NoLabel S) rfl hr rfl (pa_cons (pv 0) pa_nil)) (pa_cons (pe_pos (mk_NoPicture S) rfl hr rfl (pa_cons (pv 0) pa_nil)) (pa_cons (pe_pos (mk_NoName S) rfl hr rfl (pa_cons (pv 0) pa_nil)) (pa_cons (pe_pos (mk_Twice S) rfl hr rfl (pa_cons (pv 0) pa_nil)) (pa_cons (pe_pos (mk_Behind S) rfl hr rfl (pa_cons (pv 0) pa_nil)) (pa_cons (pe_pos (mk_NoFact S) rfl hr rfl (pa_cons (pv 0) pa_nil)) (pa_cons (pe_pos (mk_Impossible S) rfl hr rfl (pa_cons (pv 0) pa_nil)) pa_nil)))))))))
      (pss_cons (ps_set (i := 2) sc_law_others.nd rfl (.inl rfl) (pe_op op_cat (pv 2) (pe_lst (pa_cons (pe_pos (mk_SamePlace S) rfl hr rfl (pa_cons (pv 0) (pa_cons (pv 1) pa_nil))) (pa_cons (pe_pos (mk_TwoPictures S) rfl hr rfl (pa_cons (pv 0) (pa_cons (pv 1) pa_nil))) (pa_cons (pe_pos (mk_NotJoined S) rfl hr rfl (pa_cons (pv 0) (pa_cons (pv 1) pa_nil))) (pa_cons (pe_pos (mk_TooMany S) rfl hr rfl (pa_cons (pv 0) (pa_cons (pv 1) pa_nil))) pa_nil)))))))
      (pss_one (ps_ret (pe_op op_cat (pv 2) (pe_lst (pa_cons (pe_pos (mk_BadText S) rfl hr rfl (pa_cons (pv 0) (pa_cons (pv 1) pa_nil))) (pa_cons (pe_pos (mk_BadLine S) rfl hr rfl (pa_cons (pv 0) (pa_cons (pv 1) pa_nil))) (pa_cons (pe_zero (mk_Nothing S) rfl hr rfl) pa_nil))))))))), ?_⟩
    refine use_lst (l := l_others0 K v u) hv ?_ rfl fun p xs H2 s2 hx he => ?_
    · exact (givs_cons (giv_v rfl) (givs_cons (giv_v rfl) (givs_cons (giv_v rfl) (givs_cons (giv_v rfl) (givs_cons (giv_v rfl) (givs_cons (giv_v rfl) (givs_cons (giv_v rfl) givs_nil)))))))
    refine use_cat (l := l_others0 K v u) (m := l_others1 K v u) (hv.mono s2) rfl hx he ?_ rfl fun p xs H3 s3 hx he => ?_
    · exact (givs_cons (giv_vu rfl rfl) (givs_cons (giv_vu rfl rfl) (givs_cons (giv_vu rfl rfl) (givs_cons (giv_vu rfl rfl) givs_nil))))
    have s2 := same_trans s2 s3
    refine use_catr (l := l_others0 K v u ++ l_others1 K v u) (m := l_others2 K v u) (hv.mono s2) rfl hx he ?_ rfl fun p xs H3 s3 hx he => ?_
    · exact (givs_cons (giv_vu rfl rfl) (givs_cons (giv_vu rfl rfl) (givs_cons giv_0 givs_nil)))
    have s2 := same_trans s2 s3
    exact k p xs _ s2 hx he
theorem sc_law_others_named : FnScope ["_law_one", "_law_two", "_law_made"] ["_law_one", "_law_two"] (defScope sLothersnamed) := ⟨rfl, rfl, rfl, by decide +kernel, rfl, by decide +kernel, by decide +kernel⟩
theorem ok_Lothersnamed (S : Hd K mg) (F : L2.Fun K "_law_others_named" "_law_others_named" sLothersnamed f fd) : FnOk P w K mg base CX0 5 f fd ["_law_one", "_law_two"] (spMade 0 (fun v u => [v, u]) fun v u => l_othersn0 K v u ++ l_othersn1 K v u ++ l_othersn2 K v u ++ l_othersn3 K v u) := by
  refine F.ok sc_law_others_named (fun vs H Q E h => ?_) (fun cdv A outer s H vs Q E hr h => ?_)
  · obtain ⟨v, u, rfl, _⟩ := h
    rfl
  · obtain ⟨v, u, rfl, hv, k⟩ := h
    refine ⟨_, PSs.nox (pss_cons (ps_set (i := 2) sc_law_others_named.nd rfl (.inl rfl) (pe_lst (pa_cons (pe_kwd (mk_NoLabel S) rfl hr rfl (pk_cons (pv 0) pk_nil)) (pa_cons (pe_kwd (mk_NoPicture S) rfl hr rfl (pk_cons (pv 0) pk_nil)) (pa_cons (pe_kwd (mk_NoName S) rfl hr rfl (pk_cons (pv 0) pk_nil)) (pa_cons (pe_kwd (mk_Twice S) rfl hr rfl (pk_cons (pv 0) pk_nil)) (pa_cons (pe_kwd (mk_Behind S) rfl hr rfl (pk_cons (pv 0) pk_nil)) pa_nil)))))))
      (pss_cons (ps_set (i := 2) sc_law_others_named.nd rfl (.inl rfl) (pe_op op_cat (pv 2) (pe_lst (pa_cons (pe_kwd (mk_NoFact S) rfl hr rfl (pk_cons (pv 0) pk_nil)) (pa_cons (pe_kwd (mk_Impossible S) rfl hr rfl (pk_cons (pv 0) pk_nil)) (pa_cons (pe_kwd (mk_SamePlace S) rfl hr rfl (pk_cons (pv 1) (pk_cons (pv 0) pk_nil))) pa_nil))))))
      (pss_cons (ps_set (i := 2) sc_law_others_named.nd rfl (.inl rfl) (pe_op op_cat (pv 2) (pe_lst (pa_cons (pe_kwd (mk_TwoPictures S) rfl hr rfl (pk_cons (pv 1) (pk_cons (pv 0) pk_nil))) (pa_cons (pe_kwd (mk_NotJoined S) rfl hr rfl (pk_cons (pv 1) (pk_cons (pv 0) pk_nil))) (pa_cons (pe_kwd (mk_TooMany S) rfl hr rfl (pk_cons (pv 1) (pk_cons (pv 0) pk_nil))) pa_nil))))))
      (pss_one (ps_ret (pe_op op_cat (pv 2) (pe_lst (pa_cons (pe_kwd (mk_BadText S) rfl hr rfl (pk_cons (pv 1) (pk_cons (pv 0) pk_nil))) (pa_cons (pe_kwd (mk_BadLine S) rfl hr rfl (pk_cons (pv 1) (pk_cons (pv 0) pk_nil))) (pa_cons (pe_zero (mk_Nothing S) rfl hr rfl) pa_nil)))))))))), ?_⟩
    refine use_lst (l := l_othersn0 K v u) hv ?_ rfl fun p xs H2 s2 hx he => ?_
    · exact (givs_cons (giv_v rfl) (givs_cons (giv_v rfl) (givs_cons (giv_v rfl) (givs_cons (giv_v rfl) (givs_cons (giv_v rfl) givs_nil)))))
    refine use_cat (l := l_othersn0 K v u) (m := l_othersn1 K v u) (hv.mono s2) rfl hx he ?_ rfl fun p xs H3 s3 hx he => ?_
    · exact (givs_cons (giv_v rfl) (givs_cons (giv_v rfl) (givs_cons (giv_uv rfl rfl) givs_nil)))
    have s2 := same_trans s2 s3
    refine use_cat (l := l_othersn0 K v u ++ l_othersn1 K v u) (m := l_othersn2 K v u) (hv.mono s2) rfl hx he ?_ rfl fun p xs H3 s3 hx he => ?_
    · exact (givs_cons (giv_uv rfl rfl) (givs_cons (giv_uv rfl rfl) (givs_cons (giv_uv rfl rfl) givs_nil)))
    have s2 := same_trans s2 s3
    refine use_catr (l := l_othersn0 K v u ++ l_othersn1 K v u ++ l_othersn2 K v u) (m := l_othersn3 K v u) (hv.mono s2) rfl hx he ?_ rfl fun p xs H3 s3 hx he => ?_
    · exact (givs_cons (giv_uv rfl rfl) (givs_cons (giv_uv rfl rfl) (givs_cons giv_0 givs_nil)))
    have s2 := same_trans s2 s3
    exact k p xs _ s2 hx he
end
end Lw
end

/-! Lw6 -/
section
set_option maxHeartbeats 4000000
set_option exponentiation.threshold 1000
namespace Lw
open PySem PySem.Spec PyProof.Rows L2 He Er
/-- what stands in the place i of the lists -/
def fldsOf (i : Nat) (v u : V) : List (Str × V) :=
  if i < 22 then [("part", v)] else if i < 25 then [("name", v), ("name", v)] else if i < 27 then [("name", v)] else if i = 27 then [("number", v)] else if i < 29 then [("word", v)]
  else if i < 32 then [("other", u), ("one", v)] else if i = 32 then [("most", u), ("what", v)] else if i < 34 then [("word", u), ("line", v)] else if i = 34 then [("error", u), ("line", v)] else []
def keysOf (i : Nat) : List Str :=
  if i < 22 then ["part"] else if i < 27 then ["name"] else if i = 27 then ["number"] else if i < 29 then ["word"]
  else if i < 32 then ["one", "other"] else if i = 32 then ["what", "most"] else if i < 34 then ["line", "word"] else if i = 34 then ["line", "error"] else []
def valsOf (i : Nat) (v u : V) : List V := if i < 29 then [v] else if i < 35 then [v, u] else []
def nam (i : Nat) : Str := kinN.getD i "x"
def tab (K : PySem.W.Frag) (v u : V) : List (Addr × List (Str × V)) := (l_parts0 K v u ++ l_parts1 K v u ++ l_parts2 K v u ++ l_parts3 K v u ++ l_parts4 K v u) ++ (l_others0 K v u ++ l_others1 K v u ++ l_others2 K v u)
theorem tab_named (K : PySem.W.Frag) (v u : V) : (l_parts0 K v u ++ l_parts1 K v u ++ l_parts2 K v u ++ l_parts3 K v u ++ l_parts4 K v u) ++ (l_othersn0 K v u ++ l_othersn1 K v u ++ l_othersn2 K v u ++ l_othersn3 K v u) = tab K v u := rfl
theorem tab_len (K : PySem.W.Frag) (v u : V) : (tab K v u).length = 36 := rfl
theorem tab_get (K : PySem.W.Frag) (v u : V) : ∀ i : Nat, i < 36 → (tab K v u)[i]? = some (ga K (nam i), fldsOf i v u)
  | 0, _ => rfl
  | 1, _ => rfl
  | 2, _ => rfl
  | 3, _ => rfl
  | 4, _ => rfl
  | 5, _ => rfl
  | 6, _ => rfl
  | 7, _ => rfl
  | 8, _ => rfl
  | 9, _ => rfl
  | 10, _ => rfl
  | 11, _ => rfl
  | 12, _ => rfl
  | 13, _ => rfl
  | 14, _ => rfl
  | 15, _ => rfl
  | 16, _ => rfl
  | 17, _ => rfl
  | 18, _ => rfl
  | 19, _ => rfl
  | 20, _ => rfl
  | 21, _ => rfl
  | 22, _ => rfl
  | 23, _ => rfl
  | 24, _ => rfl
  | 25, _ => rfl
  | 26, _ => rfl
  | 27, _ => rfl
  | 28, _ => rfl
  | 29, _ => rfl
  | 30, _ => rfl
  | 31, _ => rfl
  | 32, _ => rfl
  | 33, _ => rfl
  | 34, _ => rfl
  | 35, _ => rfl
  | n + 36, h => absurd h (by omega)
theorem nam_all : ((List.range 36).all fun i => allN.contains (nam i)) = true := by decide +kernel
theorem keys_all : ((List.range 36).all fun i => fld.contains (nam i, keysOf i)) = true := by decide +kernel
theorem nam_kin : ((List.range 36).all fun i => (kinN.map fun y => decide (nam i = y)) == (List.range 36).map fun j => decide (i = j)) = true := by decide +kernel
theorem nam_in {i : Nat} (h : i < 36) : nam i ∈ allN := List.contains_iff_mem.mp (List.all_eq_true.mp nam_all i (List.mem_range.mpr h))
theorem nam_row {i : Nat} (h : i < 36) : (kinN.map fun y => decide (nam i = y)) = (List.range 36).map fun j => decide (i = j) := eq_of_beq (List.all_eq_true.mp nam_kin i (List.mem_range.mpr h))
section
variable {w : World} {K : PySem.W.Frag} {mg : Str → Option Value} {base : Heap} {f : Addr} {fd : FuncData} {v u : V}
theorem Hd.noi (S : Hd K mg) {i : Nat} {x : Str} (h : i < 36) (hx : x ∈ keysOf i) : PySem.W.findIn K (.ref (ga K (nam i))) x = some none :=
  S.no (List.contains_iff_mem.mp (List.all_eq_true.mp keys_all i (List.mem_range.mpr h))) hx
/-! ### the fields -/
def spFields (K : PySem.W.Frag) : Sp := fun vs H Q _ => ∃ (a : Addr) (i : Nat) (v u : V), vs = [.ref a, .int i] ∧ i < 36 ∧ ErX H a (ga K (nam i)) (fldsOf i v u) ∧ ∀ p H2, Same H H2 → H2 p = some (.lst (valsOf i v u)) → Q (.ref p) H2
theorem erx_has {H : Hp} {a C : Addr} {fs : List (Str × V)} (h : ErX H a C fs) (hn : fs ≠ []) : ∃ d, H a = some (exo a C (some d)) ∧ H d = some (exd d fs) := by
  rcases h with ⟨e, _⟩ | h
  · exact absurd e hn
  · exact h
theorem get_f {K : PySem.W.Frag} {x : Str} {te : TE} {σ : L2.St} {H : Hp} {Q : VK} {a C : Addr} {fs : List (Str × V)} {v : V} (hte : ∀ R : VK, R (.ref a) H → te σ H R) (he : ErX H a C fs) (hv : fs.lookup x = some v) (T : XfC K C) (hno : PySem.W.findIn K (.ref C) x = some none) (q : Q v H) : tGetE K x te σ H Q := by
  obtain ⟨d, h1, h2⟩ := erx_has he (fun z => by rw [z] at hv; cases hv)
  exact hte _ ⟨a, C, d, fs, v, rfl, h1, h2, hv, T, hno, q⟩
theorem sc_fields : FnScope ["_law_error", "_law_place"] ["_law_error", "_law_place"] (defScope sLfields) := ⟨rfl, rfl, rfl, by decide +kernel, rfl, by decide +kernel, by decide +kernel⟩
theorem lt_int {i n : Nat} : decide ((i : Int) < (n : Int)) = decide (i < n) := by
  by_cases h : i < n
  · rw [decide_eq_true h, decide_eq_true (by omega)]
  · rw [decide_eq_false h, decide_eq_false (by omega)]
theorem ok_Lfields (S : Hd K mg) (F : L2.Fun K "_law_fields" "_law_fields" sLfields f fd) : FnOk P w K mg base CX0 1 f fd ["_law_error", "_law_place"] (spFields K) := by
  refine F.ok sc_fields (fun vs H Q E h => ?_) (fun cdv A outer s H vs Q E hr h => ?_)
  · obtain ⟨a, i, v, u, rfl, _⟩ := h
    rfl
  · obtain ⟨a, i, v, u, rfl, hi, he, k⟩ := h
    have T := (S.err (nam_in hi)).xf
    have no := fun {x : Str} (hx : x ∈ keysOf i) => S.noi hi hx
    refine ⟨_, PSs.nox (pss_cons (ps_if (pt_cmpR op_lt (pv 1) pe_int (nomark _)) (pss_one (ps_ret (pe_lst (pa_cons (pe_getE (pv 0)) pa_nil)))) pss_nil)
      (pss_cons (ps_if (pt_cmpR op_lt (pv 1) pe_int (nomark _)) (pss_one (ps_ret (pe_lst (pa_cons (pe_getE (pv 0)) pa_nil)))) pss_nil)
      (pss_cons (ps_if (pt_cmpR op_lt (pv 1) pe_int (nomark _)) (pss_one (ps_ret (pe_ifExp (pt_cmpR op_eq (pv 1) pe_int (nomark _)) (pe_lst (pa_cons (pe_getE (pv 0)) pa_nil)) (pe_lst (pa_cons (pe_getE (pv 0)) pa_nil))))) pss_nil)
      (pss_cons (ps_if (pt_cmpR op_lt (pv 1) pe_int (nomark _)) (pss_one (ps_ret (pe_lst (pa_cons (pe_getE (pv 0)) (pa_cons (pe_getE (pv 0)) pa_nil))))) pss_nil)
      (pss_cons (ps_if (pt_cmpR op_lt (pv 1) pe_int (nomark _)) (pss_one (ps_ret (pe_ifExp (pt_cmpR op_eq (pv 1) pe_int (nomark _)) (pe_lst (pa_cons (pe_getE (pv 0)) (pa_cons (pe_getE (pv 0)) pa_nil))) (pe_lst (pa_cons (pe_getE (pv 0)) (pa_cons (pe_getE (pv 0)) pa_nil)))))) pss_nil)
      (pss_one (ps_ret (pe_ifExp (pt_cmpR op_eq (pv 1) pe_int (nomark _)) (pe_lst (pa_cons (pe_getE (pv 0)) (pa_cons (pe_getE (pv 0)) pa_nil))) (pe_lst pa_nil))))))))), ?_⟩
    have var0 : ∀ (R : VK), R (.ref a) H → tVar 0 (L2.start ["_law_error", "_law_place"] [.ref a, .int i]) H R := fun R r => ⟨.ref a, rfl, r⟩
    have one : ∀ {x : Str} {v : V}, (fldsOf i v u).lookup x = some v → True := fun _ => trivial
    refine ⟨_, rfl, _, _, rfl, rfl, _, rfl, ite2 (fun h1 => ?_) (fun h1 => ?_)⟩
    · have h1 : i < 22 := by have := of_decide_eq_true h1; omega
      have e1 : fldsOf i v u = ([("part", v)] : List (Str × V)) := if_pos h1
      have e2 : valsOf i v u = [v] := if_pos (by omega)
      rw [e1] at he
      refine get_f var0 he rfl T (no (by unfold keysOf; rw [if_pos h1]; simp)) ⟨fits (Nat.le_of_ble_eq_true rfl), fun p hp => ?_⟩
      rw [e2] at k
      exact k p _ (same_new hp) upd_same
    have h1 : ¬ i < 22 := fun z => h1 (decide_eq_true (by omega))
    refine ⟨_, rfl, _, _, rfl, rfl, _, rfl, ite2 (fun h2 => ?_) (fun h2 => ?_)⟩
    · have h2 : i < 27 := by have := of_decide_eq_true h2; omega
      have e1 : (fldsOf i v u).lookup ("name" : Str) = some v := by
        unfold fldsOf
        rw [if_neg h1]
        split
        · rfl
        · rfl
      have e2 : valsOf i v u = [v] := if_pos (by omega)
      refine get_f var0 he e1 T (no (by unfold keysOf; rw [if_neg h1, if_pos h2]; simp)) ⟨fits (Nat.le_of_ble_eq_true rfl), fun p hp => ?_⟩
      rw [e2] at k
      exact k p _ (same_new hp) upd_same
    have h2 : ¬ i < 27 := fun z => h2 (decide_eq_true (by omega))
    refine ⟨_, rfl, _, _, rfl, rfl, _, rfl, ite2 (fun h3 => ?_) (fun h3 => ?_)⟩
    · have h3 : i < 29 := by have := of_decide_eq_true h3; omega
      have e2 : valsOf i v u = [v] := if_pos (by omega)
      refine ⟨_, rfl, rfl, _, rfl, ite2 (fun h4 => ?_) (fun h4 => ?_)⟩
      · have h4 : i = 27 := by have := of_decide_eq_true h4; injection this with z; omega
        have e1 : (fldsOf i v u).lookup ("number" : Str) = some v := by subst h4; rfl
        refine get_f var0 he e1 T (no (by subst h4; decide)) ⟨fits (Nat.le_of_ble_eq_true rfl), fun p hp => ?_⟩
        rw [e2] at k
        exact k p _ (same_new hp) upd_same
      · have h4 : i = 28 := by
          have : ¬ i = 27 := fun z => h4 (decide_eq_true (by subst z; rfl))
          omega
        have e1 : (fldsOf i v u).lookup ("word" : Str) = some v := by subst h4; rfl
        refine get_f var0 he e1 T (no (by subst h4; decide)) ⟨fits (Nat.le_of_ble_eq_true rfl), fun p hp => ?_⟩
        rw [e2] at k
        exact k p _ (same_new hp) upd_same
    have h3 : ¬ i < 29 := fun z => h3 (decide_eq_true (by omega))
    refine ⟨_, rfl, _, _, rfl, rfl, _, rfl, ite2 (fun h4 => ?_) (fun h4 => ?_)⟩
    · have h4 : i < 32 := by have := of_decide_eq_true h4; omega
      have e2 : valsOf i v u = [v, u] := by unfold valsOf; rw [if_neg h3, if_pos (by omega)]
      have e1 : fldsOf i v u = ([("other", u), ("one", v)] : List (Str × V)) := by unfold fldsOf; rw [if_neg h1, if_neg (by omega), if_neg h2, if_neg (by omega), if_neg h3, if_pos h4]
      have e3 : keysOf i = (["one", "other"] : List Str) := by unfold keysOf; rw [if_neg h1, if_neg h2, if_neg (by omega), if_neg h3, if_pos h4]
      rw [e1] at he
      refine get_f var0 he rfl T (no (by rw [e3]; decide)) ?_
      refine get_f var0 he rfl T (no (by rw [e3]; decide)) ⟨fits (Nat.le_of_ble_eq_true rfl), fun p hp => ?_⟩
      rw [e2] at k
      exact k p _ (same_new hp) upd_same
    have h4 : ¬ i < 32 := fun z => h4 (decide_eq_true (by omega))
    refine ⟨_, rfl, _, _, rfl, rfl, _, rfl, ite2 (fun h5 => ?_) (fun h5 => ?_)⟩
    · have h5 : i < 34 := by have := of_decide_eq_true h5; omega
      refine ⟨_, rfl, rfl, _, rfl, ite2 (fun h6 => ?_) (fun h6 => ?_)⟩
      · have h6 : i = 32 := by have := of_decide_eq_true h6; injection this with z; omega
        subst h6
        refine get_f var0 he rfl T (no (by decide)) ?_
        refine get_f var0 he rfl T (no (by decide)) ⟨fits (Nat.le_of_ble_eq_true rfl), fun p hp => ?_⟩
        exact k p _ (same_new hp) upd_same
      · have h6 : i = 33 := by
          have : ¬ i = 32 := fun z => h6 (decide_eq_true (by subst z; rfl))
          omega
        subst h6
        refine get_f var0 he rfl T (no (by decide)) ?_
        refine get_f var0 he rfl T (no (by decide)) ⟨fits (Nat.le_of_ble_eq_true rfl), fun p hp => ?_⟩
        exact k p _ (same_new hp) upd_same
    have h5 : ¬ i < 34 := fun z => h5 (decide_eq_true (by omega))
    refine ⟨_, rfl, rfl, _, rfl, ite2 (fun h6 => ?_) (fun h6 => ?_)⟩
    · have h6 : i = 34 := by have := of_decide_eq_true h6; injection this with z; omega
      subst h6
      refine get_f var0 he rfl T (no (by decide)) ?_
      refine get_f var0 he rfl T (no (by decide)) ⟨fits (Nat.le_of_ble_eq_true rfl), fun p hp => ?_⟩
      exact k p _ (same_new hp) upd_same
    · have h6 : i = 35 := by
        have : ¬ i = 34 := fun z => h6 (decide_eq_true (by subst z; rfl))
        omega
      subst h6
      exact ⟨fits (Nat.le_of_ble_eq_true rfl), fun p hp => k p _ (same_new hp) upd_same⟩
end
end Lw
end

/-! Lw7 -/
section
set_option maxHeartbeats 4000000
set_option exponentiation.threshold 1000
namespace Lw
open PySem PySem.Spec PyProof.Rows L2 He Er
section
variable {w : World} {K : PySem.W.Frag} {mg : Str → Option Value} {base : Heap} {f : Addr} {fd : FuncData} {v u : V}
def bit (x y : Str) : V := .bl (decide (x = y))
def spKin (K : PySem.W.Frag) : Sp := fun vs H Q _ => ∃ (a : Addr) (x : Str) (fs : List (Str × V)), vs = [.ref a] ∧ x ∈ allN ∧ ErX H a (ga K x) fs ∧ ∀ p H2, Same H H2 → H2 p = some (.lst (kinN.map fun y => V.bl (decide (x = y)))) → Q (.ref p) H2
def b_0 (x : Str) : List V := [bit x "BadRatio", bit x "BadRow", bit x "BadPicture"]
def b_1 (x : Str) : List V := [bit x "BadStep", bit x "BadMark", bit x "BadScene"]
def b_2 (x : Str) : List V := [bit x "BadCone", bit x "BadEye", bit x "BadEyeRow"]
def b_3 (x : Str) : List V := [bit x "BadFlat", bit x "BadFact", bit x "BadBook"]
def b_4 (x : Str) : List V := [bit x "BadStanding", bit x "BadSaying", bit x "BadSolid"]
def b_5 (x : Str) : List V := [bit x "BadView", bit x "BadLight", bit x "BadNumber"]
def b_6 (x : Str) : List V := [bit x "BadPaper", bit x "BadDesk", bit x "NotPlain"]
def b_7 (x : Str) : List V := [bit x "Unsettled", bit x "NoLabel", bit x "NoPicture"]
def b_8 (x : Str) : List V := [bit x "NoName", bit x "Twice", bit x "Behind"]
def b_9 (x : Str) : List V := [bit x "NoFact", bit x "Impossible", bit x "SamePlace"]
def b_10 (x : Str) : List V := [bit x "TwoPictures", bit x "NotJoined", bit x "TooMany"]
def b_11 (x : Str) : List V := [bit x "BadText", bit x "BadLine", bit x "Nothing"]
theorem b_all (x : Str) : b_0 x ++ b_1 x ++ b_2 x ++ b_3 x ++ b_4 x ++ b_5 x ++ b_6 x ++ b_7 x ++ b_8 x ++ b_9 x ++ b_10 x ++ b_11 x = kinN.map fun y => V.bl (decide (x = y)) := rfl
theorem sc_kin : FnScope ["_law_error", "_law_kin_here"] ["_law_error"] (defScope sLkin) := ⟨rfl, rfl, rfl, by decide +kernel, rfl, by decide +kernel, by decide +kernel⟩
theorem ok_Lkin (S : Hd K mg) (F : L2.Fun K "_law_kin" "_law_kin" sLkin f fd) : FnOk P w K mg base CX0 1 f fd ["_law_error"] (spKin K) := by
  refine F.ok sc_kin (fun vs H Q E h => ?_) (fun cdv A outer s H vs Q E hr h => ?_)
  · obtain ⟨a, x, fs, rfl, _⟩ := h
    rfl
  · obtain ⟨a, x, fs, rfl, hx, he, k⟩ := h
    have T := (S.err hx).ec
    refine ⟨_, PSs.nox (pss_cons (ps_set (i := 1) sc_kin.nd rfl (.inl rfl) (pe_lst (pa_cons (pe_callB call_isX rfl (S.free 50) (by decide +kernel) (pa_cons (pv 0) (pa_cons (pe_glob (v := .ref (ga K "BadRatio")) rfl (S.glo 13) rfl) pa_nil))) (pa_cons (pe_callB call_isX rfl (S.free 50) (by decide +kernel) (pa_cons (pv 0) (pa_cons (pe_glob (v := .ref (ga K "BadRow")) rfl (S.glo 14) rfl) pa_nil))) (pa_cons (pe_callB call_isX rfl (S.free 50) (by decide +kernel) (pa_cons (pv 0) (pa_cons (pe_glob (v := .ref (ga K "BadPicture")) rfl (S.glo 15) rfl) pa_nil))) pa_nil)))))
      (pss_cons (ps_set (i := 1) sc_kin.nd rfl (.inl rfl) (pe_op op_cat (pv 1) (pe_lst (pa_cons (pe_callB call_isX rfl (S.free 50) (by decide +kernel) (pa_cons (pv 0) (pa_cons (pe_glob (v := .ref (ga K "BadStep")) rfl (S.glo 16) rfl) pa_nil))) (pa_cons (pe_callB call_isX rfl (S.free 50) (by decide +kernel) (pa_cons (pv 0) (pa_cons (pe_glob (v := .ref (ga K "BadMark")) rfl (S.glo 17) rfl) pa_nil))) (pa_cons (pe_callB call_isX rfl (S.free 50) (by decide +kernel) (pa_cons (pv 0) (pa_cons (pe_glob (v := .ref (ga K "BadScene")) rfl (S.glo 18) rfl) pa_nil))) pa_nil))))))
      (pss_cons (ps_set (i := 1) sc_kin.nd rfl (.inl rfl) (pe_op op_cat (pv 1) (pe_lst (pa_cons (pe_callB call_isX rfl (S.free 50) (by decide +kernel) (pa_cons (pv 0) (pa_cons (pe_glob (v := .ref (ga K "BadCone")) rfl (S.glo 19) rfl) pa_nil))) (pa_cons (pe_callB call_isX rfl (S.free 50) (by decide +kernel) (pa_cons (pv 0) (pa_cons (pe_glob (v := .ref (ga K "BadEye")) rfl (S.glo 20) rfl) pa_nil))) (pa_cons (pe_callB call_isX rfl (S.free 50) (by decide +kernel) (pa_cons (pv 0) (pa_cons (pe_glob (v := .ref (ga K "BadEyeRow")) rfl (S.glo 21) rfl) pa_nil))) pa_nil))))))
      (pss_cons (ps_set (i := 1) sc_kin.nd rfl (.inl rfl) (pe_op op_cat (pv 1) (pe_lst (pa_cons (pe_callB call_isX rfl (S.free 50) (by decide +kernel) (pa_cons (pv 0) (pa_cons (pe_glob (v := .ref (ga K "BadFlat")) rfl (S.glo 22) rfl) pa_nil))) (pa_cons (pe_callB call_isX rfl (S.free 50) (by decide +kernel) (pa_cons (pv 0) (pa_cons (pe_glob (v := .ref (ga K "BadFact")) rfl (S.glo 23) rfl) pa_nil))) (pa_cons (pe_callB call_isX rfl (S.free 50) (by decide +kernel) (pa_cons (pv 0) (pa_cons (pe_glob (v := .ref (ga K "BadBook")) rfl (S.glo 24) rfl) pa_nil))) pa_nil))))))
      (pss_cons (ps_set (i := 1) sc_kin.nd rfl (.inl rfl) (pe_op op_cat (pv 1) (pe_lst (pa_cons (pe_callB call_isX rfl (S.free 50) (by decide +kernel) (pa_cons (pv 0) (pa_cons (pe_glob (v := .ref (ga K "BadStanding")) rfl (S.glo 25) rfl) pa_nil))) (pa_cons (pe_callB call_isX rfl (S.free 50) (by decide +kernel) (pa_cons (pv 0) (pa_cons (pe_glob (v := .ref (ga K "BadSaying")) rfl (S.glo 26) rfl) pa_nil))) (pa_cons (pe_callB call_isX rfl (S.free 50) (by decide +kernel) (pa_cons (pv 0) (pa_cons (pe_glob (v := .ref (ga K "BadSolid")) rfl (S.glo 27) rfl) pa_nil))) pa_nil))))))
      (pss_cons (ps_set (i := 1) sc_kin.nd rfl (.inl rfl) (pe_op op_cat (pv 1) (pe_lst (pa_cons (pe_callB call_isX rfl (S.free 50) (by decide +kernel) (pa_cons (pv 0) (pa_cons (pe_glob (v := .ref (ga K "BadView")) rfl (S.glo 28) rfl) pa_nil))) (pa_cons (pe_callB call_isX rfl (S.free 50) (by decide +kernel) (pa_cons (pv 0) (pa_cons (pe_glob (v := .ref (ga K "BadLight")) rfl (S.glo 29) rfl) pa_nil))) (pa_cons (pe_callB call_isX rfl (S.free 50) (by decide +kernel) (pa_cons (pv 0) (pa_cons (pe_glob (v := .ref (ga K "BadNumber")) rfl (S.glo 30) rfl) pa_nil))) pa_nil))))))
      (pss_cons (ps_set (i := 1) sc_kin.nd rfl (.inl rfl) (pe_op op_cat (pv 1) (pe_lst (pa_cons (pe_callB call_isX rfl (S.free 50) (by decide +kernel) (pa_cons (pv 0) (pa_cons (pe_glob (v := .ref (ga K "BadPaper")) rfl (S.glo 31) rfl) pa_nil))) (pa_cons (pe_callB call_isX rfl (S.free 50) (by decide +kernel) (pa_cons (pv 0) (pa_cons (pe_glob (v := .ref (ga K "BadDesk")) rfl (S.glo 32) rfl) pa_nil))) (pa_cons (pe_callB call_isX rfl (S.free 50) (by decide +kernel) (pa_cons (pv 0) (pa_cons (pe_glob (v := .ref (ga K "NotPlain")) rfl (S.glo 33) rfl) pa_nil))) pa_nil))))))
      (pss_cons (ps_set (i := 1) sc_kin.nd rfl (.inl rfl) (pe_op op_cat (pv 1) (pe_lst (pa_cons (pe_callB call_isX rfl (S.free 50) (by decide +kernel) (pa_cons (pv 0) (pa_cons (pe_glob (v := .ref (ga K "Unsettled")) rfl (S.glo 34) rfl) pa_nil))) (pa_cons (pe_callB call_isX rfl (S.free 50) (by decide +kernel) (pa_cons (pv 0) (pa_cons (pe_glob (v := .ref (ga K "NoLabel")) rfl (S.glo 36) rfl) pa_nil))) (pa_cons (pe_callB call_isX rfl (S.free 50) (by decide +kernel) (pa_cons (pv 0) (pa_cons (pe_glob (v := .ref (ga K "NoPicture")) rfl (S.glo 37) rfl) pa_nil))) pa_nil))))))
      (pss_cons (ps_set (i := 1) sc_kin.nd rfl (.inl rfl) (pe_op op_cat (pv 1) (pe_lst (pa_cons (pe_callB call_isX rfl (S.free 50) (by decide +kernel) (pa_cons (pv 0) (pa_cons (pe_glob (v := .ref (ga K "NoName")) rfl (S.glo 38) rfl) pa_nil))) (pa_cons (pe_callB call_isX rfl (S.free 50) (by decide +kernel) (pa_cons (pv 0) (pa_cons (pe_glob (v := .ref (ga K "Twice")) rfl (S.glo 40) rfl) pa_nil))) (pa_cons (pe_callB call_isX rfl (S.free 50) (by decide +kernel) (pa_cons (pv 0) (pa_cons (pe_glob (v := .ref (ga K "Behind")) rfl (S.glo 44) rfl) pa_nil))) pa_nil))))))
      (pss_cons (ps_set (i := 1) sc_kin.nd rfl (.inl rfl) (pe_op op_cat (pv 1) (pe_lst (pa_cons (pe_callB call_isX rfl (S.free 50) (by decide +kernel) (pa_cons (pv 0) (pa_cons (pe_glob (v := .ref (ga K "NoFact")) rfl (S.glo 39) rfl) pa_nil))) (pa_cons (pe_callB call_isX rfl (S.free 50) (by decide +kernel) (pa_cons (pv 0) (pa_cons (pe_glob (v := .ref (ga K "Impossible")) rfl (S.glo 45) rfl) pa_nil))) (pa_cons (pe_callB call_isX rfl (S.free 50) (by decide +kernel) (pa_cons (pv 0) (pa_cons (pe_glob (v := .ref (ga K "SamePlace")) rfl (S.glo 41) rfl) pa_nil))) pa_nil))))))
      (pss_cons (ps_set (i := 1) sc_kin.nd rfl (.inl rfl) (pe_op op_cat (pv 1) (pe_lst (pa_cons (pe_callB call_isX rfl (S.free 50) (by decide +kernel) (pa_cons (pv 0) (pa_cons (pe_glob (v := .ref (ga K "TwoPictures")) rfl (S.glo 42) rfl) pa_nil))) (pa_cons (pe_callB call_isX rfl (S.free 50) (by decide +kernel) (pa_cons (pv 0) (pa_cons (pe_glob (v := .ref (ga K "NotJoined")) rfl (S.glo 43) rfl) pa_nil))) (pa_cons (pe_callB call_isX rfl (S.free 50) (by decide +kernel) (pa_cons (pv 0) (pa_cons (pe_glob (v := .ref (ga K "TooMany")) rfl (S.glo 47) rfl) pa_nil))) pa_nil))))))
      (pss_cons (ps_set (i := 1) sc_kin.nd rfl (.inl rfl) (pe_op op_cat (pv 1) (pe_lst (pa_cons (pe_callB call_isX rfl (S.free 50) (by decide +kernel) (pa_cons (pv 0) (pa_cons (pe_glob (v := .ref (ga K "BadText")) rfl (S.glo 48) rfl) pa_nil))) (pa_cons (pe_callB call_isX rfl (S.free 50) (by decide +kernel) (pa_cons (pv 0) (pa_cons (pe_glob (v := .ref (ga K "BadLine")) rfl (S.glo 49) rfl) pa_nil))) (pa_cons (pe_callB call_isX rfl (S.free 50) (by decide +kernel) (pa_cons (pv 0) (pa_cons (pe_glob (v := .ref (ga K "Nothing")) rfl (S.glo 46) rfl) pa_nil))) pa_nil))))))
      (pss_one (ps_ret (pv 1))))))))))))))), ?_⟩
    refine use_vlst (l := b_0 x) same_refl ?_ rfl fun p H2 s2 hp => ?_
    · exact (gvs_cons (gv_isx rfl he T (.own _) (S.kin hx (by decide))) (gvs_cons (gv_isx rfl he T (.own _) (S.kin hx (by decide))) (gvs_cons (gv_isx rfl he T (.own _) (S.kin hx (by decide))) gvs_nil)))
    refine use_vcat (l := b_0 x) (m := b_1 x) s2 rfl hp ?_ rfl fun p H2 s2 hp => ?_
    · exact (gvs_cons (gv_isx rfl he T (.own _) (S.kin hx (by decide))) (gvs_cons (gv_isx rfl he T (.own _) (S.kin hx (by decide))) (gvs_cons (gv_isx rfl he T (.own _) (S.kin hx (by decide))) gvs_nil)))
    refine use_vcat (l := b_0 x ++ b_1 x) (m := b_2 x) s2 rfl hp ?_ rfl fun p H2 s2 hp => ?_
    · exact (gvs_cons (gv_isx rfl he T (.own _) (S.kin hx (by decide))) (gvs_cons (gv_isx rfl he T (.own _) (S.kin hx (by decide))) (gvs_cons (gv_isx rfl he T (.own _) (S.kin hx (by decide))) gvs_nil)))
    refine use_vcat (l := b_0 x ++ b_1 x ++ b_2 x) (m := b_3 x) s2 rfl hp ?_ rfl fun p H2 s2 hp => ?_
    · exact (gvs_cons (gv_isx rfl he T (.own _) (S.kin hx (by decide))) (gvs_cons (gv_isx rfl he T (.own _) (S.kin hx (by decide))) (gvs_cons (gv_isx rfl he T (.own _) (S.kin hx (by decide))) gvs_nil)))
    refine use_vcat (l := b_0 x ++ b_1 x ++ b_2 x ++ b_3 x) (m := b_4 x) s2 rfl hp ?_ rfl fun p H2 s2 hp => ?_
    · exact (gvs_cons (gv_isx rfl he T (.own _) (S.kin hx (by decide))) (gvs_cons (gv_isx rfl he T (.own _) (S.kin hx (by decide))) (gvs_cons (gv_isx rfl he T (.own _) (S.kin hx (by decide))) gvs_nil)))
    refine use_vcat (l := b_0 x ++ b_1 x ++ b_2 x ++ b_3 x ++ b_4 x) (m := b_5 x) s2 rfl hp ?_ rfl fun p H2 s2 hp => ?_
    · exact (gvs_cons (gv_isx rfl he T (.own _) (S.kin hx (by decide))) (gvs_cons (gv_isx rfl he T (.own _) (S.kin hx (by decide))) (gvs_cons (gv_isx rfl he T (.own _) (S.kin hx (by decide))) gvs_nil)))
    refine use_vcat (l := b_0 x ++ b_1 x ++ b_2 x ++ b_3 x ++ b_4 x ++ b_5 x) (m := b_6 x) s2 rfl hp ?_ rfl fun p H2 s2 hp => ?_
    · exact (gvs_cons (gv_isx rfl he T (.own _) (S.kin hx (by decide))) (gvs_cons (gv_isx rfl he T (.own _) (S.kin hx (by decide))) (gvs_cons (gv_isx rfl he T (.own _) (S.kin hx (by decide))) gvs_nil)))
    refine use_vcat (l := b_0 x ++ b_1 x ++ b_2 x ++ b_3 x ++ b_4 x ++ b_5 x ++ b_6 x) (m := b_7 x) s2 rfl hp ?_ rfl fun p H2 s2 hp => ?_
    · exact (gvs_cons (gv_isx rfl he T (.own _) (S.kin hx (by decide))) (gvs_cons (gv_isx rfl he T (.own _) (S.kin hx (by decide))) (gvs_cons (gv_isx rfl he T (.own _) (S.kin hx (by decide))) gvs_nil)))
    refine use_vcat (l := b_0 x ++ b_1 x ++ b_2 x ++ b_3 x ++ b_4 x ++ b_5 x ++ b_6 x ++ b_7 x) (m := b_8 x) s2 rfl hp ?_ rfl fun p H2 s2 hp => ?_
    · exact (gvs_cons (gv_isx rfl he T (.own _) (S.kin hx (by decide))) (gvs_cons (gv_isx rfl he T (.own _) (S.kin hx (by decide))) (gvs_cons (gv_isx rfl he T (.own _) (S.kin hx (by decide))) gvs_nil)))
    refine use_vcat (l := b_0 x ++ b_1 x ++ b_2 x ++ b_3 x ++ b_4 x ++ b_5 x ++ b_6 x ++ b_7 x ++ b_8 x) (m := b_9 x) s2 rfl hp ?_ rfl fun p H2 s2 hp => ?_
    · exact (gvs_cons (gv_isx rfl he T (.own _) (S.kin hx (by decide))) (gvs_cons (gv_isx rfl he T (.own _) (S.kin hx (by decide))) (gvs_cons (gv_isx rfl he T (.own _) (S.kin hx (by decide))) gvs_nil)))
    refine use_vcat (l := b_0 x ++ b_1 x ++ b_2 x ++ b_3 x ++ b_4 x ++ b_5 x ++ b_6 x ++ b_7 x ++ b_8 x ++ b_9 x) (m := b_10 x) s2 rfl hp ?_ rfl fun p H2 s2 hp => ?_
    · exact (gvs_cons (gv_isx rfl he T (.own _) (S.kin hx (by decide))) (gvs_cons (gv_isx rfl he T (.own _) (S.kin hx (by decide))) (gvs_cons (gv_isx rfl he T (.own _) (S.kin hx (by decide))) gvs_nil)))
    refine use_vcat (l := b_0 x ++ b_1 x ++ b_2 x ++ b_3 x ++ b_4 x ++ b_5 x ++ b_6 x ++ b_7 x ++ b_8 x ++ b_9 x ++ b_10 x) (m := b_11 x) s2 rfl hp ?_ rfl fun p H2 s2 hp => ?_
    · exact (gvs_cons (gv_isx rfl he T (.own _) (S.kin hx (by decide))) (gvs_cons (gv_isx rfl he T (.own _) (S.kin hx (by decide))) (gvs_cons (gv_isx rfl he T (.own _) (S.kin hx (by decide))) gvs_nil)))
    exact ⟨.ref p, rfl, k p _ s2 (by rw [← b_all]; exact hp)⟩
end
end Lw
end

/-! Lw8 -/
section
set_option maxHeartbeats 4000000
set_option exponentiation.threshold 1000
namespace Lw
open PySem PySem.Spec PyProof.Rows L2 He Er
section
variable {w : World} {K : PySem.W.Frag} {mg : Str → Option Value} {base : Heap} {f fK : Addr} {fd fdK : FuncData} {v u : V}
def bitD (i : Nat) : PyData := .list ((List.range 36).map fun j => .bool (decide (i = j)))
theorem bitD_ok : ((List.range 36).all fun i => SeqAt.shaped (bitD i) && (bitD i).canLay0) = true := by decide +kernel
theorem bitD_eqv {i : Nat} (h : i < 36) : (bitD i).eqv (bitD i) = true := SeqAt.eqv_refl _ (ba (List.all_eq_true.mp bitD_ok i (List.mem_range.mpr h))).2
theorem bitD_sh {i : Nat} (h : i < 36) : SeqAt.shaped (bitD i) = true := (ba (List.all_eq_true.mp bitD_ok i (List.mem_range.mpr h))).1
theorem dp_bits {H : Hp} {α : Type} {g : α → Bool} : ∀ {l : List α}, DpAll K H (l.map fun x => V.bl (g x)) (l.map fun x => PyData.bool (g x))
  | [] => .nil
  | _ :: _ => .cons (.bl _) dp_bits
theorem kin_bits {i : Nat} (h : i < 36) : (kinN.map fun y => V.bl (decide (nam i = y))) = (List.range 36).map fun j => V.bl (decide (i = j)) := by
  have e := congrArg (fun l => l.map V.bl) (nam_row h)
  rw [List.map_map, List.map_map] at e
  exact e
def spStands (K : PySem.W.Frag) : Sp := fun vs H Q _ => ∃ (a : Addr) (i : Nat) (fs : List (Str × V)), vs = [.ref a, .int i] ∧ i < 36 ∧ ErX H a (ga K (nam i)) fs ∧ ∀ H2, Same H H2 → Q (.bl true) H2
theorem three_ok : ((List.range 36).all fun i => (decide (nam i ∈ three) || decide (nam i = "Missing")) == (decide (22 ≤ i) && decide (i < 25))) = true := by decide +kernel
theorem three_i {i : Nat} (h : i < 36) : (decide (nam i ∈ three) || decide (nam i = "Missing")) = (decide (22 ≤ i) && decide (i < 25)) := eq_of_beq (List.all_eq_true.mp three_ok i (List.mem_range.mpr h))
theorem sc_st : FnScope ["_law_error", "_law_place", "_law_at"] ["_law_error", "_law_place"] (defScope sLstandsright) := ⟨rfl, rfl, rfl, by decide +kernel, rfl, by decide +kernel, by decide +kernel⟩
theorem v_eq {i j : Nat} : decide (V.int (i : Int) = V.int (0 + (j : Int))) = decide (i = j) := by
  by_cases h : i = j
  · rw [decide_eq_true h, decide_eq_true (by rw [h, Int.zero_add])]
  · rw [decide_eq_false h, decide_eq_false (fun z => h (by injection z with z; omega))]
theorem erx_cls {H : Hp} {a C : Addr} {fs : List (Str × V)} (h : ErX H a C fs) : ∃ d, H a = some (exo a C d) ∧ ∀ dx, d = some dx → ∃ fs, H dx = some (exd dx fs) := by
  rcases h with ⟨_, h⟩ | ⟨d, h1, h2⟩
  · exact ⟨none, h, fun dx z => (nomatch z)⟩
  · refine ⟨some d, h1, fun dx z => ?_⟩
    cases z
    exact ⟨_, h2⟩
theorem ifSame {v : V} {A B : Prop} (h : B) : if (!decide (v = v)) = true then A else B := by
  rw [decide_eq_true (rfl : v = v)]
  exact iteF h
theorem ok_Lst (S : Hd K mg) (F : L2.Fun K "_law_stands_right" "_law_stands_right" sLstandsright f fd) (FK : L2.Fun K "_law_kin" "_law_kin" sLkin fK fdK) (gK : mg "_law_kin" = some (.ref fK)) : FnOk P w K mg base CX0 2 f fd ["_law_error", "_law_place"] (spStands K) := by
  have GK : FnOk P w K mg base CX0 1 fK fdK ["_law_error"] (spKin K) := ok_Lkin S FK
  have bK : L2.Binds K fdK ["_law_error"] [] := FK.binds fun _ _ _ _ _ _ us hl => match us, hl with | [_], _ => rfl
  refine F.ok sc_st (fun vs H Q E h => ?_) (fun cdv A outer s H vs Q E hr h => ?_)
  · obtain ⟨a, i, fs, rfl, _⟩ := h
    rfl
  · obtain ⟨a, i, fs, rfl, hi, he, k⟩ := h
    have ha := nam_in hi
    have T := (S.err ha).ec
    have hu : (A.deeper (envOfC "_law_stands_right" (defScope sLstandsright) s.heap.objs.size f cdv)).units + 64 < cLine := by have := hr.un; omega
    refine ⟨_, PSs.nox (pss_cons (ps_if (pt_cmpR (op_neD hu) (pe_call GK hr rfl gK FK.kp bK .nil pass0 (pa_cons (pv 0) pa_nil))
        (pe_lc (own := [("_law_at", 2)]) (g := gName 2) (by rfl) sc_st.nd (pi_range1 rfl (S.free 55) (pa_cons pe_int pa_nil)) (blkOk_by (own := [("_law_at", 2)]) (N := ["_law_error", "_law_place", "_law_at"]) (sc := defScope sLstandsright) (by decide +kernel))
          (fun _ _ _ _ _ => pg_name (i := 2) sc_st.nd rfl (Or.inl rfl)) (fun _ _ _ _ _ => pts_nil) (fun _ _ _ _ _ => pe_cmpR op_eq (pv 1) (pv 2) (nomark _))) (nomark _)) (pss_one (ps_ret pe_bl)) pss_nil)
      (pss_cons (ps_if (PW.pt (pw_or (pt_not (pt_val (pe_callB call_isX rfl (S.free 50) (by decide +kernel) (pa_cons (pv 0) (pa_cons (pe_glob (v := .ref (ga K "EyesError")) rfl (S.glo 12) rfl) pa_nil)))))
          (pw_or1 (pt_not (pt_val (pe_callB call_isX rfl (S.free 50) (by decide +kernel) (pa_cons (pv 0) (pa_cons (pe_bltn (v := .ty "ValueError") rfl (S.free 63) (by decide +kernel) rfl) pa_nil)))))))) (pss_one (ps_ret pe_bl)) pss_nil)
      (pss_cons (ps_if (pt_cmpR op_ne (pe_callB call_isX rfl (S.free 50) (by decide +kernel) (pa_cons (pv 0) (pa_cons (pe_glob (v := .ref (ga K "Missing")) rfl (S.glo 35) rfl) pa_nil))) (pe_chain op_le op_lt pe_int (pv 1) pe_int) (nomark _)) (pss_one (ps_ret pe_bl)) pss_nil)
      (pss_cons (ps_if (PW.pt (pw_or (pt_val (pe_callB call_isX rfl (S.free 50) (by decide +kernel) (pa_cons (pv 0) (pa_cons (pe_bltn (v := .ty "LookupError") rfl (S.free 58) (by decide +kernel) rfl) pa_nil))))
          (pw_or (pt_val (pe_callB call_isX rfl (S.free 50) (by decide +kernel) (pa_cons (pv 0) (pa_cons (pe_bltn (v := .ty "TypeError") rfl (S.free 59) (by decide +kernel) rfl) pa_nil))))
          (pw_or1 (pt_val (pe_callB call_isX rfl (S.free 50) (by decide +kernel) (pa_cons (pv 0) (pa_cons (pe_bltn (v := .ty "ArithmeticError") rfl (S.free 60) (by decide +kernel) rfl) pa_nil)))))))) (pss_one (ps_ret pe_bl)) pss_nil)
      (pss_one (ps_ret (pe_and (pe_not (pe_callB call_isX rfl (S.free 50) (by decide +kernel) (pa_cons (pv 0) (pa_cons (pe_bltn (v := .ty "RuntimeError") rfl (S.free 61) (by decide +kernel) rfl) pa_nil))))
          (pe_one (pe_not (pe_callB call_isX rfl (S.free 50) (by decide +kernel) (pa_cons (pv 0) (pa_cons (pe_bltn (v := .ty "AttributeError") rfl (S.free 62) (by decide +kernel) rfl) pa_nil)))))))))))), ?_⟩
    refine ⟨_, rfl, a, nam i, fs, rfl, ha, he, fun p H2 s2 hp => ?_⟩
    refine ⟨36, rfl, by decide, by decide, fun D hD => ?_⟩
    refine lc_range (lo := 0) (n := 36) (fun n H3 => H3 D = some (.lst ((List.range n).map fun j => V.bl (decide (i = j)))) ∧ ∀ b, b ≠ D → H3 b = H2 b) ⟨upd_same, fun b hb => upd_ne hb⟩ (fun j H3 hj ⟨h1, h2⟩ => ?_) fun H3 ⟨h1, h2⟩ => ?_
    · refine ⟨rfl, ?_⟩
      show tOp rEq (tVar 1) (tVar 2) _ H3 _
      refine ⟨_, rfl, _, rfl, rfl, _, h1, by rw [List.length_map, List.length_range, sizeLine_eq]; omega, ?_, fun b hb => by rw [upd_ne hb]; exact h2 b hb⟩
      rw [upd_same, List.range_succ, List.map_append, v_eq]
      rfl
    have pD : p ≠ D := fun z => by rw [z, hD] at hp; cases hp
    have hp3 : H3 p = some (.lst ((List.range 36).map fun j => V.bl (decide (i = j)))) := by rw [h2 p pD, hp, kin_bits hi]
    have s3 : Same H H3 := fun b o e => by
      have e2 := s2 _ _ e
      rw [h2 b (fun z => by rw [z, hD] at e2; cases e2)]
      exact e2
    have he3 := he.mono s3
    refine ⟨bitD i, bitD i, .lst (SqL.of hp3) dp_bits, .lst (SqL.of h1) dp_bits, bitD_sh hi, bitD_sh hi, _, rfl, ?_⟩
    rw [bitD_eqv hi]
    refine iteF ?_
    obtain ⟨d3, g1, g2⟩ := erx_cls he3
    refine ⟨_, rfl, a, _, d3, _, _, _, rfl, .own _, g1, g2, T, S.isEE ha, _, rfl, ?_⟩
    refine iteF ?_
    refine ⟨_, rfl, a, _, d3, _, _, _, rfl, .ty _, g1, g2, T, S.isVE ha, _, rfl, ?_⟩
    refine iteF ?_
    refine ⟨_, rfl, a, _, d3, _, _, _, rfl, .own _, g1, g2, T, S.isMi ha, _, rfl, _, _, rfl, rfl, _, rfl, ?_⟩
    have hc : ∀ {Q : VK}, Q (.bl (decide (22 ≤ i) && decide (i < 25))) H3 → (if decide ((22 : Int) ≤ (i : Int)) = true then tC (V.int 25) (L2.start ["_law_error", "_law_place", "_law_at"] [.ref a, .int i]) H3 fun w' H4 => rI0 (fun i j => V.bl (decide (i < j))) (V.int i) w' H4 Q else Q (V.bl false) H3) := by
      intro Q q
      by_cases h22 : 22 ≤ i
      · rw [decide_eq_true (show (22 : Int) ≤ (i : Int) by omega)]
        rw [decide_eq_true h22, Bool.true_and] at q
        refine iteT ⟨_, _, rfl, rfl, ?_⟩
        show Q (.bl (decide ((i : Int) < ((25 : Nat) : Int)))) H3
        rw [lt_int]
        exact q
      · rw [decide_eq_false (show ¬ (22 : Int) ≤ (i : Int) by omega)]
        rw [decide_eq_false h22, Bool.false_and] at q
        exact iteF q
    refine hc ?_
    refine ⟨rfl, _, rfl, ?_⟩
    rw [three_i hi]
    refine ifSame ?_
    refine ⟨_, rfl, a, _, d3, _, _, _, rfl, .ty _, g1, g2, T, S.odd ha (by decide), _, rfl, ?_⟩
    refine iteF ?_
    refine ⟨_, rfl, a, _, d3, _, _, _, rfl, .ty _, g1, g2, T, S.odd ha (by decide), _, rfl, ?_⟩
    refine iteF ?_
    refine ⟨_, rfl, a, _, d3, _, _, _, rfl, .ty _, g1, g2, T, S.odd ha (by decide), _, rfl, ?_⟩
    refine iteF ?_
    refine ⟨_, rfl, a, _, d3, _, _, _, rfl, .ty _, g1, g2, T, S.odd ha (by decide), _, rfl, _, rfl, ?_⟩
    refine iteT ?_
    refine ⟨_, rfl, a, _, d3, _, _, _, rfl, .ty _, g1, g2, T, S.odd ha (by decide), _, rfl, ?_⟩
    exact k _ s3
end
end Lw
end

/-! Lw9 -/
section
set_option maxHeartbeats 4000000
set_option exponentiation.threshold 1000
namespace Lw
open PySem PySem.Spec PyProof.Rows L2 He Er
section
variable {w : World} {K : PySem.W.Frag} {mg : Str → Option Value} {base : Heap} {f fF fS : Addr} {fd fdF fdS : FuncData} {v u : V}
def spAll (K : PySem.W.Frag) : Sp := fun vs H Q _ => ∃ (q m : Addr) (v u : V) (xs : List V), vs = [.ref q, .ref m] ∧ H q = some (.lst [v, u]) ∧ Vs H v u ∧ H m = some (.lst xs) ∧ Ers H xs (tab K v u) ∧ ∀ H2, Same H H2 → Q (.bl true) H2
theorem vals_shl {H : Hp} {v u : V} (h : Vs H v u) (i : Nat) : ∃ d, ShL H (valsOf i v u) d := by
  unfold valsOf
  split
  · exact shl1 h.1
  · split
    · exact shl2 h
    · exact shl0
theorem tab_at {K : PySem.W.Frag} {v u : V} {i : Nat} {C : Addr} {fs : List (Str × V)} (h : (tab K v u)[i]? = some (C, fs)) : i < 36 ∧ C = ga K (nam i) ∧ fs = fldsOf i v u := by
  have hi : i < 36 := by
    have := (List.getElem?_eq_some_iff.mp h).1
    rw [tab_len] at this
    exact this
  rw [tab_get K v u i hi] at h
  cases h
  exact ⟨hi, rfl, rfl⟩
abbrev rLt : R2 := rI0 fun i j => V.bl (decide (i < j))
theorem due_s {K : PySem.W.Frag} {σ : L2.St} {H0 H : Hp} {ts : TS} {D : Ends} {q : Addr} {v u : V} {i : Nat} (s : Same H0 H) (h0 : σ[0]? = some (some (.ref q))) (h2 : σ[2]? = some (some (.int i))) (hq : H q = some (.lst [v, u])) (hi : i < 36)
    (k : ∀ p H3, Same H0 H3 → H3 p = some (.lst (valsOf i v u)) → ts D (σ.set 4 (some (.ref p))) H3) :
    tSeq (tAsg (tIf (tTest (tOp rLt (tVar 2) (tC (.int 29)))) (tSl (rSlL K) (tVar 0) tNoPart (tPart (tC (.int 1)))) (tIf (tTest (tOp rLt (tVar 2) (tC (.int 35)))) (tVar 0) (tLst tNil))) (gName 4)) ts D σ H := by
  refine ⟨_, h2, _, _, rfl, rfl, _, rfl, ite2 (fun h29 => ?_) (fun h29 => ?_)⟩
  · have h29 : i < 29 := by have := of_decide_eq_true h29; omega
    have e2 : valsOf i v u = [v] := if_pos h29
    rw [e2] at k
    exact ⟨_, h0, _, rfl, q, [v, u], rfl, SqL.of hq, fun p hp => k p _ (same_trans s (same_new hp)) upd_same⟩
  · have h29 : ¬ i < 29 := fun z => h29 (decide_eq_true (by omega))
    refine ⟨_, h2, _, _, rfl, rfl, _, rfl, ite2 (fun h35 => ?_) (fun h35 => ?_)⟩
    · have h35 : i < 35 := by have := of_decide_eq_true h35; omega
      have e2 : valsOf i v u = [v, u] := by unfold valsOf; rw [if_neg h29, if_pos h35]
      rw [e2] at k
      exact ⟨_, h0, k q _ s hq⟩
    · have h35 : ¬ i < 35 := fun z => h35 (decide_eq_true (by omega))
      have e2 : valsOf i v u = [] := by unfold valsOf; rw [if_neg h29, if_neg h35]
      rw [e2] at k
      exact ⟨fits (Nat.le_of_ble_eq_true rfl), fun p hp => k p _ (same_trans s (same_new hp)) upd_same⟩
abbrev nAll : List Str := ["_law_values", "_law_made", "_law_place", "_law_error", "_law_due"]
theorem sc_all : FnScope nAll ["_law_values", "_law_made"] (defScope sLallright) := ⟨rfl, rfl, rfl, by decide +kernel, rfl, by decide +kernel, by decide +kernel⟩
theorem ok_Lall (S : Hd K mg) (F : L2.Fun K "_law_all_right" "_law_all_right" sLallright f fd) (GF : FnOk P w K mg base CX0 1 fF fdF ["_law_error", "_law_place"] (spFields K)) (bF : L2.Binds K fdF ["_law_error", "_law_place"] []) (gF : mg "_law_fields" = some (.ref fF)) (kF : PySem.W.keepIn K (.ref fF) = true)
    (GS : FnOk P w K mg base CX0 2 fS fdS ["_law_error", "_law_place"] (spStands K)) (bS : L2.Binds K fdS ["_law_error", "_law_place"] []) (gS : mg "_law_stands_right" = some (.ref fS)) (kS : PySem.W.keepIn K (.ref fS) = true) : FnG P w K mg base 3 f fd ["_law_values", "_law_made"] (spAll K) := by
  refine Fun_okG F sc_all (fun vs H Q E h => ?_) (fun cdv A outer s H vs Q E hr hgd h => ?_)
  · obtain ⟨q, m, v, u, xs, rfl, _⟩ := h
    rfl
  · obtain ⟨q, m, v, u, xs, rfl, hq, hv, hm, he, k⟩ := h
    refine ⟨_, PSs.nox (pss_cons (ps_for PassesOwn.never rfl (pi_enum rfl (S.free 56) (pa_cons (pv 1) pa_nil)) (pg_tup rfl (pgs_cons (pg_name (i := 2) sc_all.nd rfl (.inl rfl)) (pgs_cons (pg_name (i := 3) sc_all.nd rfl (.inl rfl)) pgs_nil)))
        (pss_cons (ps_set (i := 4) sc_all.nd rfl (.inl rfl) (pe_ifExp (pt_cmpR op_lt (pv 2) pe_int (nomark _)) (pe_slice sl_list (pv 0) po_none (po_some pe_int)) (pe_ifExp (pt_cmpR op_lt (pv 2) pe_int (nomark _)) (pv 0) (pe_lst pa_nil))))
        (pss_one (ps_if (PW.pt (pw_or (pt_cmpR op_ne (pe_callB (call_reprE hr hgd S.sysm) rfl (S.free 54) (by decide +kernel) (pa_cons (pe_call GF (hr.mono (by decide)) rfl gF kF bF .nil pass0 (pa_cons (pv 3) (pa_cons (pv 2) pa_nil))) pa_nil))
            (pe_callB (call_reprE hr hgd S.sysm) rfl (S.free 54) (by decide +kernel) (pa_cons (pv 4) pa_nil)) (nomark _))
          (pw_or1 (pt_not (pt_val (pe_call GS hr rfl gS kS bS .nil pass0 (pa_cons (pv 3) (pa_cons (pv 2) pa_nil)))))))) (pss_one (ps_ret pe_bl)) pss_nil))))
      (pss_one (ps_ret (pe_cmpR op_eq (pe_callB call_len_seq rfl (S.free 57) PySem.boot_len (pa_cons (pv 1) pa_nil)) pe_int (nomark _))))), ?_⟩
    refine ⟨_, rfl, m, xs, rfl, SqL.of hm, ?_⟩
    refine for_it walk_enum (fun i σ' H' => Same H H' ∧ σ'.take 2 = [some (.ref q), some (.ref m)] ∧ σ'.length = 5) ⟨same_refl, rfl, rfl⟩ (fun i σ' H' _ p => SqL.of (p.1 _ _ hm)) (fun i x σ' H' H2 hi hp hy => ?_) fun σ' H' hp => ?_
    · obtain ⟨sH, h1, h2⟩ := hp
      obtain ⟨T, px, py, rfl, hT, rfl, e1, e2⟩ := hy
      cases e1
      obtain ⟨a, C, fs, rfl, ht, hE⟩ := he.get e2
      obtain ⟨hi36, rfl, rfl⟩ := tab_at ht
      match σ', h1, h2 with
      | [_, _, c2, c3, c4], rfl, _ =>
      have sT : Same H' (upd H' T (.tup [.int i, .ref a])) := same_new hT
      have hT2 : upd H' T (.tup [.int i, .ref a]) T = some (.tup [.int i, .ref a]) := upd_same
      generalize upd H' T (.tup [.int i, .ref a]) = H2 at sT hT2
      have s2 : Same H H2 := same_trans sH sT
      obtain ⟨d, hd⟩ := vals_shl hv i
      refine ⟨T, [.int i, .ref a], rfl, SqT.of hT2, rfl, ?_⟩
      refine ⟨_, _, rfl, _, _, rfl, rfl, ?_⟩
      refine due_s (H0 := H2) same_refl rfl rfl (s2 _ _ hq) hi36 fun p H3 s3 hp3 => ?_
      have hE3 := hE.mono (same_trans s2 s3)
      have s03 := same_trans s2 s3
      refine ⟨_, rfl, _, rfl, a, i, v, u, rfl, hi36, hE3, fun p4 H4 s4 hp4 => ?_⟩
      refine ⟨p4, d, rfl, hd.sh _ (same_trans s03 s4) _ hp4, hd.ok, hd.len, hd.dep, ?_⟩
      refine ⟨_, rfl, p, d, rfl, hd.sh _ (same_trans s03 s4) _ (s4 _ _ hp3), hd.ok, hd.len, hd.dep, ?_⟩
      refine ⟨rfl, _, rfl, ?_⟩
      refine ifSame ?_
      refine ⟨_, rfl, _, rfl, a, i, _, rfl, hi36, hE3.mono s4, fun H5 s5 => ⟨_, rfl, ?_⟩⟩
      refine iteF ?_
      exact ⟨same_trans s03 (same_trans s4 s5), rfl, rfl⟩
    · obtain ⟨sH, h1, h2⟩ := hp
      match σ', h1, h2 with
      | [_, _, c2, c3, c4], rfl, _ =>
      refine ⟨_, rfl, m, xs, rfl, .inl (SqL.of (sH _ _ hm)), rfl, ?_⟩
      have e : decide (V.int (xs.length : Int) = V.int 36) = true := decide_eq_true (by rw [he.length, tab_len]; rfl)
      show Q (.bl (decide (V.int (xs.length : Int) = V.int 36))) H'
      rw [e]
      exact k _ sH
end
end Lw
end

/-! Lw10 -/
section
set_option maxHeartbeats 4000000
set_option exponentiation.threshold 1000
namespace Lw
open PySem PySem.Spec PyProof.Rows L2 He Er
section
variable {w : World} {K : PySem.W.Frag} {mg : Str → Option Value} {base : Heap} {f : Addr} {fd : FuncData}
/-! ### what draws -/
theorem pow40 : (10 : Int) ^ (40 : Int).toNat = 10000000000000000000000000000000000000000 := by decide +kernel
theorem pow41 : (10 : Int) ^ (41 : Int).toNat = 100000000000000000000000000000000000000000 := by decide +kernel
theorem jug_step {n r b M : Int} (h0 : 0 ≤ n) (h1 : n < M) (hM : 110000000000000000000000000000000000000000 ≤ M) (r0 : 0 ≤ r) (r1 : r < 10000000000000000000000000000000000000000) (hb : b = 0 ∨ b = 1) :
    0 ≤ n * 1229 + r + 100000000000000000000000000000000000000000 * b ∧ n * 1229 + r + 100000000000000000000000000000000000000000 * b < M * 2048 := by
  rcases hb with rfl | rfl <;> omega
theorem fmod_pos {x m : Int} (h : 0 < m) : 0 ≤ x.fmod m ∧ x.fmod m < m := by
  rw [Int.fmod_eq_emod_of_nonneg x (Int.le_of_lt h)]
  exact ⟨Int.emod_nonneg _ (Int.ne_of_gt h), Int.emod_lt_of_pos _ h⟩
theorem nat_of_lt {n : Int} {k : Nat} (h0 : 0 ≤ n) (h : n < ((2 ^ k : Nat) : Int)) : n.natAbs < 2 ^ k := by omega
theorem jugM (i : Nat) : (((2 ^ (150 + 11 * i) : Nat) : Int)) * 2048 = ((2 ^ (150 + 11 * (i + 1)) : Nat) : Int) := by
  have e : 2 ^ (150 + 11 * (i + 1)) = 2 ^ (150 + 11 * i) * 2048 := by
    rw [show 150 + 11 * (i + 1) = (150 + 11 * i) + 11 by omega, Nat.pow_add]
  rw [e]
  rfl
theorem jugM0 (i : Nat) : (110000000000000000000000000000000000000000 : Int) ≤ ((2 ^ (150 + 11 * i) : Nat) : Int) := by
  have e : 2 ^ 150 ≤ 2 ^ (150 + 11 * i) := Nat.pow_le_pow_right (by decide) (by omega)
  have e2 : (110000000000000000000000000000000000000000 : Nat) ≤ 2 ^ 150 := by decide +kernel
  exact Int.ofNat_le.mpr (Nat.le_trans e2 e)
theorem cut_mem {xs : List V} {a b : Option Int} {x : V} (h : x ∈ cutV xs a b) : x ∈ xs := List.mem_of_mem_drop (List.mem_of_mem_take h)
theorem cut_len {xs : List V} {a b : Option Int} : (cutV xs a b).length ≤ xs.length := by
  unfold cutV
  rw [List.length_take, List.length_drop]
  omega
def spJug (K : PySem.W.Frag) : Sp := fun vs H Q _ => ∃ (a : Addr) (ns : List Int), vs = [.ref a] ∧ SqL K H a (ns.map V.int) ∧ ns.length ≤ 63 ∧ ∀ p H2 (n : Int), Same H H2 → H2 p = some (.lst [.int n, .int 0]) → 0 ≤ n → n.natAbs < 2 ^ 900 → Q (.ref p) H2
abbrev nJug : List Str := ["_law_script", "_law_whole", "_law_cell"]
theorem sc_jug : FnScope nJug ["_law_script"] (defScope sLjug) := ⟨rfl, rfl, rfl, by decide +kernel, rfl, by decide +kernel, by decide +kernel⟩
theorem SqL.same {H H2 : Hp} {a : Addr} {xs : List V} (s : Same H H2) (h : SqL K H a xs) : SqL K H2 a xs := by
  rcases h with h | h
  · rcases h with h | ⟨o, h⟩
    · exact .inl (.inl (s _ _ h))
    · exact .inl (.inr ⟨o, s _ _ h⟩)
  · exact .inr h
theorem ok_Ljug (S : Hd K mg) (F : L2.Fun K "_law_jug" "_law_jug" sLjug f fd) : FnOk P w K mg base CX0 1 f fd ["_law_script"] (spJug K) := by
  refine F.ok sc_jug (fun vs H Q E h => ?_) (fun cdv A outer s H vs Q E hr h => ?_)
  · obtain ⟨a, ns, rfl, _⟩ := h
    rfl
  · obtain ⟨a, ns, rfl, hS, h63, k⟩ := h
    refine ⟨_, PSs.nox (pss_cons (ps_set (i := 1) sc_jug.nd rfl (.inl rfl) pe_int)
      (pss_cons (ps_for PassesOwn.never rfl (pi_list (pe_slice sl_list (pv 0) po_none (po_some pe_int))) (pg_name (i := 2) sc_jug.nd rfl (.inl rfl))
        (pss_one (ps_set (i := 1) sc_jug.nd rfl (.inl rfl) (pe_op op_add (pe_op op_add (pe_op op_mulW (pv 1) pe_int)
            (pe_op op_modN (pe_callB call_abs rfl (S.free 53) (by decide +kernel) (pa_cons (pe_callTy call_int1 rfl (S.free 52) (by decide +kernel) (pa_cons (pv 2) pa_nil)) pa_nil)) (pe_op op_pow pe_int pe_int)))
            (pe_op op_mulW (pe_op op_pow pe_int pe_int) (pe_callTy call_int1 rfl (S.free 52) (by decide +kernel) (pa_cons (pe_cmpR op_lt (pv 2) pe_int (nomark _)) pa_nil)))))))
      (pss_one (ps_ret (pe_lst (pa_cons (pv 1) (pa_cons pe_int pa_nil))))))), ?_⟩
    refine ⟨_, rfl, _, rfl, a, _, rfl, hS, fun p hp => ?_⟩
    have hl : (cutV (ns.map V.int) none (some 40)).length ≤ 63 := Nat.le_trans cut_len (by rw [List.length_map]; exact h63)
    refine ⟨p, rfl, ⟨_, SqL.of upd_same⟩, ?_⟩
    refine for_list (a := p) (xs := cutV (ns.map V.int) none (some 40)) (fun i σ' H' => H' = upd H p (.lst (cutV (ns.map V.int) none (some 40))) ∧ ∃ (n : Int) (c : Option V), σ' = [some (.ref a), some (.int n), c] ∧ 0 ≤ n ∧ n < ((2 ^ (150 + 11 * i) : Nat) : Int)) ⟨rfl, 71, none, rfl, by decide, by decide +kernel⟩
      (fun i σ' H' hi hp => ?_) (fun i x σ' H' hx hp => ?_) fun σ' H' hp => ?_
    · rw [hp.1]
      exact SqL.of upd_same
    · obtain ⟨rfl, n, c, rfl, h0, h1⟩ := hp
      have hx2 := cut_mem (List.mem_of_getElem? hx)
      obtain ⟨z, _, rfl⟩ := List.mem_map.mp hx2
      have hi : i < 63 := Nat.lt_of_lt_of_le (List.getElem?_eq_some_iff.mp hx).1 hl
      have hn : n.natAbs < 2 ^ 900 := Nat.lt_of_lt_of_le (nat_of_lt h0 h1) (Nat.pow_le_pow_right (by decide) (by omega))
      refine ⟨_, rfl, _, _, rfl, rfl, wide_mul (a := 900) (b := 11) hn (by decide) (by decide) (by decide) (by decide), ?_⟩
      refine ⟨_, rfl, .inl ⟨_, rfl, _, rfl, _, _, rfl, rfl, ⟨by decide, by decide, by decide⟩, _, _, rfl, rfl, (by show (10 : Int) ^ (40 : Int).toNat ≠ 0; rw [pow40]; decide), ?_⟩⟩
      refine ⟨_, _, rfl, rfl, _, _, rfl, rfl, ⟨by decide, by decide, by decide⟩, ?_⟩
      refine ⟨_, rfl, _, _, rfl, rfl, .inr ⟨_, rfl, ?_⟩⟩
      refine ⟨_, _, rfl, rfl, wide_mul (a := 137) (b := 1) (by rw [pow41]; decide +kernel) (by split <;> decide) (by decide) (by decide) (by decide), ?_⟩
      refine ⟨_, _, rfl, rfl, ?_⟩
      have hf := fmod_pos (x := if z < 0 then -z else z) (m := (10 : Int) ^ (40 : Int).toNat) (by rw [pow40]; decide)
      rw [pow40] at hf
      have hs := jug_step (b := if decide (z < 0) = true then 1 else 0) h0 h1 (jugM0 i) hf.1 hf.2 (by split; exact .inr rfl; exact .inl rfl)
      rw [jugM] at hs
      rw [← pow41, ← pow40] at hs
      exact ⟨rfl, _, _, rfl, hs.1, hs.2⟩
    · obtain ⟨rfl, n, c, rfl, h0, h1⟩ := hp
      refine ⟨_, rfl, fits (Nat.le_of_ble_eq_true rfl), fun p2 hp2 => k p2 _ n (same_trans (same_new hp) (same_new hp2)) upd_same h0 ?_⟩
      exact Nat.lt_of_lt_of_le (nat_of_lt h0 h1) (Nat.pow_le_pow_right (by decide) (by omega))
end
end Lw
end

/-! Lw11 -/
section
set_option maxHeartbeats 4000000
set_option exponentiation.threshold 1000
namespace Lw
open PySem PySem.Spec PyProof.Rows L2 He Er
section
variable {w : World} {K : PySem.W.Frag} {mg : Str → Option Value} {base : Heap} {f : Addr} {fd : FuncData}
/-- a jug stands at p -/
def Jug (H : Hp) (p : Addr) (B : Int) : Prop := ∃ n c : Int, H p = some (.lst [.int n, .int c]) ∧ 0 ≤ n ∧ n.natAbs < 2 ^ 900 ∧ 0 ≤ c ∧ c ≤ B
def spPour : Sp := fun vs H Q _ => ∃ (p : Addr) (m B : Int), vs = [.ref p, .int m] ∧ Jug H p B ∧ B ≤ 100 ∧ 0 < m ∧ m.natAbs < 2 ^ 200 ∧ ∀ H2 r, (∀ b, b ≠ p → H2 b = H b) → Jug H2 p (B + 1) → 0 ≤ r → r < m → Q (.int r) H2
abbrev nPour : List Str := ["_law_jug_here", "_law_many", "_law_rest"]
theorem sc_pour : FnScope nPour ["_law_jug_here", "_law_many"] (defScope sLpour) := ⟨rfl, rfl, rfl, by decide +kernel, rfl, by decide +kernel, by decide +kernel⟩
theorem pour_new {x : Int} (h0 : 0 ≤ x) (h1 : x < 131072) : 0 ≤ (x ^ 13).fdiv 7 ∧ ((x ^ 13).fdiv 7).natAbs < 2 ^ 900 := by
  obtain ⟨k, rfl⟩ := Int.eq_ofNat_of_zero_le h0
  have hk : k < 2 ^ 17 := by
    rw [show (2 : Nat) ^ 17 = 131072 by decide]
    omega
  have e : ((k : Int) ^ 13).fdiv 7 = ((k ^ 13 / 7 : Nat) : Int) := by
    rw [Int.fdiv_eq_ediv_of_nonneg _ (by decide)]
    rw [show (k : Int) ^ 13 = ((k ^ 13 : Nat) : Int) by simp]
    rfl
  rw [e]
  refine ⟨Int.natCast_nonneg _, ?_⟩
  show k ^ 13 / 7 < 2 ^ 900
  have h2 : k ^ 13 < (2 ^ 17) ^ 13 := Nat.pow_lt_pow_left hk (by decide)
  have h3 : k ^ 13 / 7 ≤ k ^ 13 := Nat.div_le_self _ _
  have h4 : (2 ^ 17) ^ 13 ≤ 2 ^ 900 := by rw [← Nat.pow_mul]; exact Nat.pow_le_pow_right (by decide) (by decide)
  omega
theorem ok_Lpour (F : L2.Fun K "_law_pour" "_law_pour" sLpour f fd) : FnOk P w K mg base CX0 1 f fd ["_law_jug_here", "_law_many"] spPour := by
  refine F.ok sc_pour (fun vs H Q E h => ?_) (fun cdv A outer s H vs Q E hr h => ?_)
  · obtain ⟨p, m, B, rfl, _⟩ := h
    rfl
  · obtain ⟨p, m, B, rfl, ⟨n, c, hp, n0, n1, c0, c1⟩, hB, m0, m1, k⟩ := h
    refine ⟨_, PSs.nox (pss_cons (ps_if (pt_cmpR op_eq (pe_ix ix_list (pv 0) pe_int (fun _ _ => rfl)) pe_int (nomark _))
        (pss_cons (ps_asg (pe_op op_add (pe_ix ix_list (pv 0) pe_int (fun _ _ => rfl)) pe_int) (pg_sub (pv 0) pe_int set_list))
        (pss_one (ps_asg (pe_op op_fdivN (pe_op op_pow (pe_op op_add (pe_op op_mul pe_int (pe_ix ix_list (pv 0) pe_int (fun _ _ => rfl))) pe_int) pe_int) pe_int) (pg_sub (pv 0) pe_int set_list)))) pss_nil)
      (pss_cons (ps_set (i := 2) sc_pour.nd rfl (.inl rfl) (pe_ix ix_list (pv 0) pe_int (fun _ _ => rfl)))
      (pss_cons (ps_asg (pe_op op_fdivW (pv 2) (pv 1)) (pg_sub (pv 0) pe_int set_list))
      (pss_one (ps_ret (pe_op op_modN (pv 2) (pv 1))))))), ?_⟩
    refine ⟨_, rfl, p, _, 0, _, rfl, rfl, SqL.of hp, rfl, ?_⟩
    refine ⟨rfl, _, rfl, ite2 (fun h => ?_) (fun h => ?_)⟩
    · refine ⟨_, rfl, p, _, 1, _, rfl, rfl, SqL.of hp, rfl, _, _, rfl, rfl, _, rfl, p, _, 1, 1, rfl, rfl, hp, rfl, ?_⟩
      refine ⟨_, rfl, p, _, 1, _, rfl, rfl, SqL.of upd_same, rfl, ?_⟩
      refine ⟨_, _, rfl, rfl, .inl (by constructor <;> decide), ?_⟩
      refine ⟨_, _, rfl, rfl, _, _, rfl, rfl, ⟨by decide, by decide, ?_⟩, _, _, rfl, rfl, ⟨by decide, by decide⟩, _, rfl, p, _, 0, 0, rfl, rfl, upd_same, rfl, ?_⟩
      · have : (2 : Nat) ^ 64 = 18446744073709551616 := by decide
        omega
      have hw : 0 ≤ (((1009 * (c + 1) + 3541) ^ (13 : Int).toNat).fdiv 7) ∧ (((1009 * (c + 1) + 3541) ^ (13 : Int).toNat).fdiv 7).natAbs < 2 ^ 900 := pour_new (x := 1009 * (c + 1) + 3541) (by omega) (by omega)
      refine ⟨_, rfl, p, _, 0, _, rfl, rfl, SqL.of upd_same, rfl, ?_⟩
      refine ⟨_, rfl, _, rfl, _, _, rfl, rfl, wide_div m0 m1 (by decide) (by decide), _, rfl, p, _, 0, 0, rfl, rfl, upd_same, rfl, ?_⟩
      refine ⟨_, rfl, _, rfl, _, _, rfl, rfl, Int.ne_of_gt m0, ?_⟩
      have hf := fmod_pos (x := (((1009 * (c + 1) + 3541) ^ (13 : Int).toNat).fdiv 7)) m0
      refine k _ _ (fun b hb => ?_) ⟨_, _, upd_same, Int.ediv_nonneg hw.1 (Int.le_of_lt m0), ?_, (by omega), (by omega)⟩ hf.1 hf.2
      · rw [upd_ne hb, upd_ne hb, upd_ne hb]
      · have h5 : (((1009 * (c + 1) + 3541) ^ (13 : Int).toNat).fdiv 7) / m ≤ (((1009 * (c + 1) + 3541) ^ (13 : Int).toNat).fdiv 7) := Int.ediv_le_self _ hw.1
        have h6 : 0 ≤ (((1009 * (c + 1) + 3541) ^ (13 : Int).toNat).fdiv 7) / m := Int.ediv_nonneg hw.1 (Int.le_of_lt m0)
        have h7 := hw.2
        omega
    · refine ⟨_, rfl, p, _, 0, _, rfl, rfl, SqL.of hp, rfl, ?_⟩
      refine ⟨_, rfl, _, rfl, _, _, rfl, rfl, wide_div m0 m1 (by decide) (by decide), _, rfl, p, _, 0, 0, rfl, rfl, hp, rfl, ?_⟩
      refine ⟨_, rfl, _, rfl, _, _, rfl, rfl, Int.ne_of_gt m0, ?_⟩
      have hf := fmod_pos (x := n) m0
      refine k _ _ (fun b hb => ?_) ⟨_, _, upd_same, Int.ediv_nonneg n0 (Int.le_of_lt m0), ?_, c0, (by omega)⟩ hf.1 hf.2
      · exact upd_ne hb
      · have h5 : n / m ≤ n := Int.ediv_le_self _ n0
        have h6 : 0 ≤ n / m := Int.ediv_nonneg n0 (Int.le_of_lt m0)
        have h7 := n1
        omega
end
end Lw
end

/-! Lw12 -/
section
set_option maxHeartbeats 4000000
set_option exponentiation.threshold 1000
namespace Lw
open PySem PySem.Spec PyProof.Rows L2 He Er
section
variable {w : World} {K : PySem.W.Frag} {mg : Str → Option Value} {base : Heap} {f : Addr} {fd : FuncData}
/-- the defs that law calls -/
structure Df (w : World) (K : PySem.W.Frag) (mg : Str → Option Value) (base : Heap) (x : Str) (k : Nat) (ps : List Str) (sp : Sp) : Prop where
  ex : ∃ (f : Addr) (fd : FuncData), FnOk P w K mg base CX0 k f fd ps sp ∧ L2.Binds K fd ps [] ∧ mg x = some (.ref f) ∧ PySem.W.keepIn K (.ref f) = true
theorem pe_df {X : Cx} {x : Str} {k : Nat} {ps : List Str} {sp : Sp} {e : Expr} {es : List Expr} {t : TA} {p pos : Pos} (D : Df X.w X.K X.mg X.base x k ps sp) (hP : X.prog = P) (hr : Room k X.A) (hg : Gl X x) (ha : PA X (e :: es) t)
    (hdb : (x == ("__debug__" : Str)) = false := by decide) (he : starEach (e :: es) X.env = (false, eval e X.env) :: starEach es X.env := by rfl) (hpl : (backTo pos (starEach es X.env)).any (·.1) = false := by rfl) : PE X (.Call (.Name x p) (e :: es) [] pos) (tCall sp [] E0 t) := by
  obtain ⟨f, fd, F, b, g, kp⟩ := D.ex
  rw [← hP] at F
  exact pe_call F hr hg g kp b .nil pass0 ha hdb he hpl
structure DfG (w : World) (K : PySem.W.Frag) (mg : Str → Option Value) (base : Heap) (x : Str) (k : Nat) (ps : List Str) (sp : Sp) : Prop where
  ex : ∃ (f : Addr) (fd : FuncData), FnG P w K mg base k f fd ps sp ∧ L2.Binds K fd ps [] ∧ mg x = some (.ref f) ∧ PySem.W.keepIn K (.ref f) = true
theorem pe_dfg {X : Cx} {x : Str} {k : Nat} {ps : List Str} {sp : Sp} {e : Expr} {es : List Expr} {t : TA} {p pos : Pos} (D : DfG X.w X.K X.mg X.base x k ps sp) (hP : X.prog = P) (hr : Room k X.A) (hgd : X.A.guards = some []) (hg : Gl X x) (ha : PA X (e :: es) t)
    (hdb : (x == ("__debug__" : Str)) = false := by decide) (he : starEach (e :: es) X.env = (false, eval e X.env) :: starEach es X.env := by rfl) (hpl : (backTo pos (starEach es X.env)).any (·.1) = false := by rfl) :
    PE X (.Call (.Name x p) (e :: es) [] pos) (fun σ H Q => t σ H fun vs H1 => sp vs H1 Q fun _ _ _ => False) := by
  obtain ⟨f, fd, F, b, g, kp⟩ := D.ex
  rw [← hP] at F
  exact pe_callG F hr hgd hg g kp b ha hdb he hpl
theorem Hd.jug (S : Hd K mg) : Df w K mg base "_law_jug" 1 ["_law_script"] (spJug K) := by
  obtain ⟨fd, F⟩ := S.def_ 1 (d := dLjug)
  have F := fun_of (st := sLjug) F
  exact ⟨_, fd, ok_Ljug S F, F.binds fun _ _ _ _ _ _ us hl => (match us, hl with | [_], _ => rfl), S.glo 1, F.kp⟩
theorem Hd.pour (S : Hd K mg) : Df w K mg base "_law_pour" 1 ["_law_jug_here", "_law_many"] spPour := by
  obtain ⟨fd, F⟩ := S.def_ 2 (d := dLpour)
  have F := fun_of (st := sLpour) F
  exact ⟨_, fd, ok_Lpour F, F.binds fun _ _ _ _ _ _ us hl => (match us, hl with | [_, _], _ => rfl), S.glo 2, F.kp⟩
abbrev lP (K : PySem.W.Frag) (v u : V) := l_parts0 K v u ++ l_parts1 K v u ++ l_parts2 K v u ++ l_parts3 K v u ++ l_parts4 K v u
abbrev lO (K : PySem.W.Frag) (v u : V) := l_others0 K v u ++ l_others1 K v u ++ l_others2 K v u
abbrev lN (K : PySem.W.Frag) (v u : V) := l_othersn0 K v u ++ l_othersn1 K v u ++ l_othersn2 K v u ++ l_othersn3 K v u
theorem Hd.parts (S : Hd K mg) : Df w K mg base "_law_parts" 5 ["_law_one"] (spMade 0 (fun v _ => [v]) (lP K)) := by
  obtain ⟨fd, F⟩ := S.def_ 3 (d := dLparts)
  have F := fun_of (st := sLparts) F
  exact ⟨_, fd, ok_Lparts S F, F.binds fun _ _ _ _ _ _ us hl => (match us, hl with | [_], _ => rfl), S.glo 3, F.kp⟩
theorem Hd.turned (S : Hd K mg) : Df w K mg base "_law_parts_turned" 5 ["_law_one"] (spMade 0 (fun v _ => [v]) (lP K)) := by
  obtain ⟨fd, F⟩ := S.def_ 4 (d := dLpartsturned)
  have F := fun_of (st := sLpartsturned) F
  exact ⟨_, fd, ok_Lpartsturned S F, F.binds fun _ _ _ _ _ _ us hl => (match us, hl with | [_], _ => rfl), S.glo 4, F.kp⟩
theorem Hd.others (S : Hd K mg) : Df w K mg base "_law_others" 5 ["_law_one", "_law_two"] (spMade 0 (fun v u => [v, u]) (lO K)) := by
  obtain ⟨fd, F⟩ := S.def_ 5 (d := dLothers)
  have F := fun_of (st := sLothers) F
  exact ⟨_, fd, ok_Lothers S F, F.binds fun _ _ _ _ _ _ us hl => (match us, hl with | [_, _], _ => rfl), S.glo 5, F.kp⟩
theorem Hd.named (S : Hd K mg) : Df w K mg base "_law_others_named" 5 ["_law_one", "_law_two"] (spMade 0 (fun v u => [v, u]) (lN K)) := by
  obtain ⟨fd, F⟩ := S.def_ 6 (d := dLothersnamed)
  have F := fun_of (st := sLothersnamed) F
  exact ⟨_, fd, ok_Lothersnamed S F, F.binds fun _ _ _ _ _ _ us hl => (match us, hl with | [_, _], _ => rfl), S.glo 6, F.kp⟩
theorem Hd.kinD (S : Hd K mg) : Df w K mg base "_law_kin" 1 ["_law_error"] (spKin K) := by
  obtain ⟨fd, F⟩ := S.def_ 8 (d := dLkin)
  have F := fun_of (st := sLkin) F
  exact ⟨_, fd, ok_Lkin S F, F.binds fun _ _ _ _ _ _ us hl => (match us, hl with | [_], _ => rfl), S.glo 8, F.kp⟩
theorem Hd.all (S : Hd K mg) : DfG w K mg base "_law_all_right" 3 ["_law_values", "_law_made"] (spAll K) := by
  obtain ⟨fd, F⟩ := S.def_ 10 (d := dLallright)
  have F := fun_of (st := sLallright) F
  obtain ⟨fdF, FF⟩ := S.def_ 7 (d := dLfields)
  have FF := fun_of (st := sLfields) FF
  obtain ⟨fdS, FS⟩ := S.def_ 9 (d := dLstandsright)
  have FS := fun_of (st := sLstandsright) FS
  obtain ⟨fdK, FK⟩ := S.def_ 8 (d := dLkin)
  have FK := fun_of (st := sLkin) FK
  exact ⟨_, fd, ok_Lall S F (ok_Lfields S FF) (FF.binds fun _ _ _ _ _ _ us hl => (match us, hl with | [_, _], _ => rfl)) (S.glo 7) FF.kp (ok_Lst S FS FK (S.glo 8)) (FS.binds fun _ _ _ _ _ _ us hl => (match us, hl with | [_, _], _ => rfl)) (S.glo 9) FS.kp,
    F.binds fun _ _ _ _ _ _ us hl => (match us, hl with | [_, _], _ => rfl), S.glo 10, F.kp⟩
end
end Lw
end

/-! Lw13 -/
section
set_option maxHeartbeats 4000000
set_option exponentiation.threshold 1000
namespace Lw
open PySem PySem.Spec PyProof.Rows L2 He Er
section
variable {w : World} {K : PySem.W.Frag} {mg : Str → Option Value} {base : Heap} {f : Addr} {fd : FuncData}
theorem va_frame {H H2 : Hp} {p : Addr} {n c : Int} {v : V} {d : PyData} (hp : H p = some (.lst [.int n, .int c])) (ho : ∀ b, b ≠ p → H2 b = H b) (x : Va H v d) : Va H2 v d := by
  have ne : ∀ {a : Addr} {o : HO}, H a = some o → o ≠ .lst [.int n, .int c] → H2 a = some o := fun {a o} e z => by
    rw [ho a (fun y => z (by rw [y, hp] at e; exact (Option.some.inj e).symm))]
    exact e
  cases x with
  | non => exact .non
  | bl b => exact .bl b
  | int n h => exact .int n h
  | str x h h2 => exact .str x h h2
  | lst e h => exact .lst (ne e (fun z => by cases z)) h
  | tup e => exact .tup (ne e (fun z => by cases z))
  | dct e e2 => exact .dct (ne e (fun z => by cases z)) (ne e2 (fun z => by cases z))
theorem plain_at {H : Hp} {L : List V} {r : Int} (h : ∀ x ∈ L, ∃ d, Va H x d) (h0 : 0 ≤ r) (h1 : r < (L.length : Int)) : ∃ v, atI L r = some v ∧ ∃ d, Va H v d := by
  obtain ⟨j, rfl⟩ := Int.eq_ofNat_of_zero_le h0
  have hj : j < L.length := by omega
  exact ⟨L[j], atI_nat (List.getElem?_eq_getElem hj), h _ (List.getElem_mem hj)⟩
theorem Jug.mono {H H2 : Hp} {p : Addr} {B : Int} (s : Same H H2) (h : Jug H p B) : Jug H2 p B := by
  obtain ⟨n, c, h1, h2⟩ := h
  exact ⟨n, c, s _ _ h1, h2⟩
theorem jug_frame {H H2 : Hp} {p b : Addr} {B : Int} {o : HO} (h : Jug H p B) (ho : ∀ b, b ≠ p → H2 b = H b) (e : H b = some o) (hn : ∀ n c : Int, o ≠ .lst [.int n, .int c]) : H2 b = some o := by
  obtain ⟨n, c, h1, _⟩ := h
  rw [ho b (fun y => hn n c (by rw [y, h1] at e; exact (Option.some.inj e).symm))]
  exact e
theorem va_jug {H H2 : Hp} {p : Addr} {B : Int} {v : V} (h : Jug H p B) (ho : ∀ b, b ≠ p → H2 b = H b) (x : ∃ d, Va H v d) : ∃ d, Va H2 v d := by
  obtain ⟨n, c, h1, _⟩ := h
  obtain ⟨d, x⟩ := x
  exact ⟨d, va_frame h1 ho x⟩
theorem pow50 : (10 : Int) ^ (50 : Int).toNat = 100000000000000000000000000000000000000000000000000 := by decide +kernel
theorem num_ok {r q : Int} (h0 : 0 ≤ r) (h1 : r < 2) (q0 : 0 ≤ q) (q1 : q < (10 : Int) ^ (50 : Int).toNat) : ((2 * r - 1) * q).natAbs < 10 ^ 50 := by
  rw [pow50] at q1
  have e : (10 : Nat) ^ 50 = 100000000000000000000000000000000000000000000000000 := by decide +kernel
  rw [e]
  have hr : r = 0 ∨ r = 1 := by omega
  rcases hr with rfl | rfl <;> omega
theorem ifSameT {v : V} {A B : Prop} (h : A) : if decide (v = v) = true then A else B := by
  rw [decide_eq_true (rfl : v = v)]
  exact iteT h
theorem in_none {x : Str} (h : x = "Missing" ∨ x = "EyesError") : inV (.bl true) (kinN.map fun y => V.bl (decide (x = y))) = false := by
  rcases h with rfl | rfl <;> decide +kernel
theorem flat_kin {x : Str} : (kinN.map fun y => V.bl (decide (x = y))).all flatV = true := by
  rw [List.all_map, List.all_eq_true]
  intro y _
  rfl
def spLaw (K : PySem.W.Frag) : Sp := fun vs H Q _ => ∃ (a : Addr) (ns : List Int), vs = [.ref a] ∧ SqL K H a (ns.map V.int) ∧ ns.length ≤ 63 ∧ ∀ H2, Q (.bl true) H2
abbrev nLaw : List Str := ["_law_script", "_law_jug_here", "_law_number", "_law_plain", "_law_values", "_law_one", "_law_two", "_law_error"]
theorem sc_law : FnScope nLaw ["_law_script"] (defScope slaw) := ⟨rfl, rfl, rfl, by decide +kernel, rfl, by decide +kernel, by decide +kernel⟩
theorem ok_law (S : Hd K mg) (F : L2.Fun K "law" "law" slaw f fd) : FnG P w K mg base 6 f fd ["_law_script"] (spLaw K) := by
  refine Fun_okG F sc_law (fun vs H Q E h => ?_) (fun cdv A outer s H vs Q E hr hgd h => ?_)
  · obtain ⟨a, ns, rfl, _⟩ := h
    rfl
  · obtain ⟨a, ns, rfl, hS, h63, k⟩ := h
    have r1 : Room 1 (A.deeper (envOfC "law" (defScope slaw) s.heap.objs.size f cdv)) := hr.mono (by decide)
    have r3 : Room 3 (A.deeper (envOfC "law" (defScope slaw) s.heap.objs.size f cdv)) := hr.mono (by decide)
    have r4 : Room 4 (A.deeper (envOfC "law" (defScope slaw) s.heap.objs.size f cdv)) := hr.mono (by decide)
    refine ⟨_, PSs.nox (pss_cons (ps_set (i := 1) sc_law.nd rfl (.inl rfl) (pe_df S.jug rfl r1 rfl (pa_cons (pv 0) pa_nil)))
      (pss_cons (ps_set (i := 2) sc_law.nd rfl (.inl rfl) (pe_op op_mulW (pe_op op_sub (pe_op op_mul pe_int (pe_df S.pour rfl r1 rfl (pa_cons (pv 1) (pa_cons pe_int pa_nil)))) pe_int) (pe_df S.pour rfl r1 rfl (pa_cons (pv 1) (pa_cons (pe_op op_pow pe_int pe_int) pa_nil)))))
      (pss_cons (ps_set (i := 3) sc_law.nd rfl (.inl rfl) (pe_lst (pa_cons pe_non (pa_cons pe_bl (pa_cons (pv 2) (pa_cons pe_str (pa_cons pe_str (pa_cons (pe_tup (pa_cons pe_int (pa_cons pe_str pa_nil))) (pa_cons (pe_lst (pa_cons (pv 2) pa_nil))
          (pa_cons (pe_disp (pps_cons pe_str (pe_lst (pa_cons pe_int pa_nil)) pps_nil) (by rfl) (by rfl) (fun z => by cases z) (by decide)) (pa_cons pe_bl (pa_cons pe_int (pa_cons pe_str pa_nil)))))))))))))
      (pss_cons (ps_set (i := 4) sc_law.nd rfl (.inl rfl) (pe_lst (pa_cons (pe_ix ix_list (pv 3) (pe_df S.pour rfl r1 rfl (pa_cons (pv 1) (pa_cons pe_int pa_nil))) (fun _ _ => rfl)) (pa_cons (pe_ix ix_list (pv 3) (pe_df S.pour rfl r1 rfl (pa_cons (pv 1) (pa_cons pe_int pa_nil))) (fun _ _ => rfl)) pa_nil))))
      (pss_cons (ps_par (i := 5) (j := 6) (by rfl) sc_law.nd rfl rfl (by decide) rfl rfl (pa_cons (pe_ix ix_list (pv 4) pe_int (fun _ _ => rfl)) (pa_cons (pe_ix ix_list (pv 4) pe_int (fun _ _ => rfl)) pa_nil)) (by rfl))
      (pss_cons (ps_if (pt_not (pt_val (pe_dfg S.all rfl r3 hgd rfl (pa_cons (pv 4) (pa_cons (pe_op op_cat (pe_df S.parts rfl hr rfl (pa_cons (pv 5) pa_nil)) (pe_df S.others rfl hr rfl (pa_cons (pv 5) (pa_cons (pv 6) pa_nil)))) pa_nil))))) (pss_one (ps_ret pe_bl)) pss_nil)
      (pss_cons (ps_if (pt_not (pt_val (pe_dfg S.all rfl r3 hgd rfl (pa_cons (pv 4) (pa_cons (pe_op op_cat (pe_df S.turned rfl hr rfl (pa_cons (pv 5) pa_nil)) (pe_df S.named rfl hr rfl (pa_cons (pv 5) (pa_cons (pv 6) pa_nil)))) pa_nil))))) (pss_one (ps_ret pe_bl)) pss_nil)
      (pss_cons (ps_for PassesOwn.never rfl (pi_list (pe_lst (pa_cons (pe_pos (mk_Missing S) rfl r4 rfl (pa_cons (pv 5) pa_nil)) (pa_cons (pe_kwd (mk_Missing S) rfl r4 rfl (pk_cons (pv 5) pk_nil)) (pa_cons (pe_excz PySem.F.excBase_ValueError S.b7 (S.glo 12) (S.err (x := "EyesError") (by decide)).oex.kC rfl) pa_nil))))) (pg_name (i := 7) sc_law.nd rfl (.inl rfl))
        (pss_one (ps_if (PW.pt (pw_or (pt_cmpR op_in_seq pe_bl (pe_df S.kinD rfl r1 rfl (pa_cons (pv 7) pa_nil)) (by rfl))
          (pw_or (pt_not (pt_val (pe_callB call_isX rfl (S.free 50) (by decide +kernel) (pa_cons (pv 7) (pa_cons (pe_glob (v := .ref (ga K "EyesError")) rfl (S.glo 12) rfl) pa_nil)))))
          (pw_or1 (pt_not (pt_val (pe_callB call_isX rfl (S.free 50) (by decide +kernel) (pa_cons (pv 7) (pa_cons (pe_bltn (v := .ty "ValueError") rfl (S.free 63) (by decide +kernel) rfl) pa_nil))))))))) (pss_one (ps_ret pe_bl)) pss_nil)))
      (pss_one (ps_ret (pe_and (pe_cmpR op_eq (pe_callB (call_reprV hr hgd S.sysm) rfl (S.free 54) (by decide +kernel) (pa_cons (pe_getE (pe_pos (mk_Missing S) rfl r4 rfl (pa_cons (pv 5) pa_nil))) pa_nil))
            (pe_callB (call_reprV hr hgd S.sysm) rfl (S.free 54) (by decide +kernel) (pa_cons (pv 5) pa_nil)) (nomark _))
          (pe_one (pe_cmpR op_eq (pe_callB (call_reprV hr hgd S.sysm) rfl (S.free 54) (by decide +kernel) (pa_cons (pe_getE (pe_kwd (mk_Missing S) rfl r4 rfl (pk_cons (pv 6) pk_nil))) pa_nil))
            (pe_callB (call_reprV hr hgd S.sysm) rfl (S.free 54) (by decide +kernel) (pa_cons (pv 6) pa_nil)) (nomark _)))))))))))))), ?_⟩
    refine ⟨_, rfl, a, ns, rfl, hS, h63, fun p H1 n s1 hp n0 n1 => ?_⟩
    refine ⟨_, rfl, p, 2, 0, rfl, ⟨n, 0, hp, n0, n1, by decide, by decide⟩, by decide, by decide, by decide +kernel, fun H2 r ho J2 r0 r1 => ?_⟩
    refine ⟨_, _, rfl, rfl, .inl (by constructor <;> decide), _, _, rfl, rfl, ?_⟩
    refine ⟨_, rfl, _, _, rfl, rfl, ⟨by decide, by decide, by decide⟩, p, _, 1, rfl, J2, by decide, by show 0 < (10 : Int) ^ (50 : Int).toNat; rw [pow50]; decide, by show ((10 : Int) ^ (50 : Int).toNat).natAbs < _; rw [pow50]; decide +kernel, fun H3 q ho3 J3 q0 q1 => ?_⟩
    have hnum : ((2 * r - 1) * q).natAbs < 10 ^ 50 := num_ok r0 r1 q0 q1
    have hr2 : (2 * r - 1).natAbs < 2 ^ 2 := by rw [show (2 : Nat) ^ 2 = 4 by decide]; omega
    have hq2 : q.natAbs < 2 ^ 200 := by
      rw [pow50] at q1
      rw [show (2 : Nat) ^ 200 = 1606938044258990275541962092341162602522202993782792835301376 by decide +kernel]
      omega
    refine ⟨_, _, rfl, rfl, wide_mul (a := 2) (b := 200) hr2 hq2 (by decide) (by decide) (by decide), ?_⟩
    refine ⟨_, rfl, ?_⟩
    refine ⟨fits (Nat.le_of_ble_eq_true rfl), fun t ht => ?_⟩
    have st : Same H3 (upd H3 t (.tup [.int 1, .str "one.a"])) := same_new ht
    have et : upd H3 t (.tup [.int 1, .str "one.a"]) t = some (.tup [.int 1, .str "one.a"]) := upd_same
    generalize upd H3 t (.tup [.int 1, .str "one.a"]) = Ht at st et
    refine ⟨_, rfl, fits (Nat.le_of_ble_eq_true rfl), fun l hl => ?_⟩
    have sl : Same Ht (upd Ht l (.lst [.int ((2 * r - 1) * q)])) := same_new hl
    have el : upd Ht l (.lst [.int ((2 * r - 1) * q)]) l = some (.lst [.int ((2 * r - 1) * q)]) := upd_same
    generalize upd Ht l (.lst [.int ((2 * r - 1) * q)]) = Hl at sl el
    refine fun d hd => ⟨fits (Nat.le_of_ble_eq_true rfl), fun l2 hl2 => ?_⟩
    have ndl : l2 ≠ d := fun z => by rw [z, upd_same] at hl2; cases hl2
    have hl2' : Hl l2 = none := by rw [upd_ne ndl] at hl2; exact hl2
    have sd : Same Hl (upd (upd (upd Hl d (.dK [])) l2 (.lst [.int 1])) d (.dK [(.inr "one.b", .ref l2)])) := fun b o e => by
      rw [upd_ne (ne_of_none e hd), upd_ne (ne_of_none e hl2'), upd_ne (ne_of_none e hd)]
      exact e
    have ed : upd (upd (upd Hl d (.dK [])) l2 (.lst [.int 1])) d (.dK [(.inr "one.b", .ref l2)]) d = some (.dK [(.inr "one.b", .ref l2)]) := upd_same
    have el2 : upd (upd (upd Hl d (.dK [])) l2 (.lst [.int 1])) d (.dK [(.inr "one.b", .ref l2)]) l2 = some (.lst [.int 1]) := by rw [upd_ne ndl]; exact upd_same
    refine ⟨by rw [upd_ne ndl.symm]; exact upd_same, [(.inr "one.b", .ref l2)], rfl, Nat.le_of_ble_eq_true rfl, fits (Nat.le_of_ble_eq_true rfl), fun pl hpl => ?_⟩
    have hpl : upd (upd (upd Hl d (.dK [])) l2 (.lst [.int 1])) d (.dK [(.inr "one.b", .ref l2)]) pl = none := hpl
    show tSeq _ _ _ _ (upd (upd (upd (upd Hl d (.dK [])) l2 (.lst [.int 1])) d (.dK [(.inr "one.b", .ref l2)])) pl (.lst [.non, .bl true, .int ((2 * r - 1) * q), .str "part", .str "", .ref t, .ref l, .ref d, .bl false, .int 0, .str "one.a"]))
    generalize upd (upd (upd Hl d (.dK [])) l2 (.lst [.int 1])) d (.dK [(.inr "one.b", .ref l2)]) = Hd at sd ed el2 hpl
    have sp : Same Hd (upd Hd pl (.lst [.non, .bl true, .int ((2 * r - 1) * q), .str "part", .str "", .ref t, .ref l, .ref d, .bl false, .int 0, .str "one.a"])) := same_new hpl
    have ep : upd Hd pl (.lst [.non, .bl true, .int ((2 * r - 1) * q), .str "part", .str "", .ref t, .ref l, .ref d, .bl false, .int 0, .str "one.a"]) pl = some (.lst [.non, .bl true, .int ((2 * r - 1) * q), .str "part", .str "", .ref t, .ref l, .ref d, .bl false, .int 0, .str "one.a"]) := upd_same
    generalize upd Hd pl (.lst [.non, .bl true, .int ((2 * r - 1) * q), .str "part", .str "", .ref t, .ref l, .ref d, .bl false, .int 0, .str "one.a"]) = Hp at sp ep
    have hL : ∀ x ∈ ([.non, .bl true, .int ((2 * r - 1) * q), .str "part", .str "", .ref t, .ref l, .ref d, .bl false, .int 0, .str "one.a"] : List V), ∃ d, Va Hp x d := by
      intro x hx
      simp only [List.mem_cons, List.not_mem_nil, or_false] at hx
      rcases hx with rfl | rfl | rfl | rfl | rfl | rfl | rfl | rfl | rfl | rfl | rfl
      · exact ⟨_, .non⟩
      · exact ⟨_, .bl true⟩
      · exact ⟨_, .int _ hnum⟩
      · exact ⟨_, .str _ (by decide +kernel) (by decide +kernel)⟩
      · exact ⟨_, .str _ (by decide +kernel) (by decide +kernel)⟩
      · exact ⟨_, .tup (sp _ _ (sd _ _ (sl _ _ et)))⟩
      · exact ⟨_, .lst (sp _ _ (sd _ _ el)) hnum⟩
      · exact ⟨_, .dct (sp _ _ ed) (sp _ _ el2)⟩
      · exact ⟨_, .bl false⟩
      · exact ⟨_, .int 0 (by decide +kernel)⟩
      · exact ⟨_, .str _ (by decide +kernel) (by decide +kernel)⟩
    have J4 : Jug Hp p 2 := J3.mono (same_trans st (same_trans sl (same_trans sd sp)))
    have hLl : (([.non, .bl true, .int ((2 * r - 1) * q), .str "part", .str "", .ref t, .ref l, .ref d, .bl false, .int 0, .str "one.a"] : List V).length : Int) = 11 := rfl
    have hLn : ∀ n c : Int, HO.lst ([.non, .bl true, .int ((2 * r - 1) * q), .str "part", .str "", .ref t, .ref l, .ref d, .bl false, .int 0, .str "one.a"] : List V) ≠ .lst [.int n, .int c] := fun n c z => by cases z
    generalize ([.non, .bl true, .int ((2 * r - 1) * q), .str "part", .str "", .ref t, .ref l, .ref d, .bl false, .int 0, .str "one.a"] : List V) = L at ep hL hLl hLn
    refine ⟨_, rfl, _, rfl, p, 11, 2, rfl, J4, by decide, by decide, by decide +kernel, fun H5 r5 o5 J5 r50 r51 => ?_⟩
    have ep5 := jug_frame J4 o5 ep hLn
    have hL5 : ∀ x ∈ L, ∃ d, Va H5 x d := fun x hx => va_jug J4 o5 (hL x hx)
    obtain ⟨v, hv1, hv2⟩ := plain_at hL5 r50 (by rw [hLl]; exact r51)
    refine ⟨pl, L, r5, v, rfl, rfl, SqL.of ep5, hv1, ?_⟩
    refine ⟨_, rfl, _, rfl, p, 11, 3, rfl, J5, by decide, by decide, by decide +kernel, fun H6 r6 o6 J6 r60 r61 => ?_⟩
    have ep6 := jug_frame J5 o6 ep5 hLn
    have hL6 : ∀ x ∈ L, ∃ d, Va H6 x d := fun x hx => va_jug J5 o6 (hL5 x hx)
    obtain ⟨u, hu1, hu2⟩ := plain_at hL6 r60 (by rw [hLl]; exact r61)
    refine ⟨pl, L, r6, u, rfl, rfl, SqL.of ep6, hu1, ?_⟩
    have hv6 : Vs H6 v u := ⟨va_jug J5 o6 hv2, hu2⟩
    refine ⟨fits (Nat.le_of_ble_eq_true rfl), fun qa hqa => ?_⟩
    have hv7 := hv6.mono (same_new (o := .lst [v, u]) hqa)
    have eq7 : upd H6 qa (.lst [v, u]) qa = some (.lst [v, u]) := upd_same
    show tSeq _ _ _ _ (upd H6 qa (.lst [v, u]))
    generalize upd H6 qa (.lst [v, u]) = H7 at hv7 eq7
    refine ⟨_, rfl, qa, _, 0, _, rfl, rfl, SqL.of eq7, rfl, _, rfl, qa, _, 1, _, rfl, rfl, SqL.of eq7, rfl, _, _, rfl, ?_⟩
    refine ⟨_, rfl, _, rfl, v, u, rfl, hv7, fun p1 xs1 H8 s8 hx1 he1 => ⟨_, rfl, _, rfl, v, u, rfl, hv7.mono s8, fun p2 xs2 H9 s9 hx2 he2 => ?_⟩⟩
    have len1 : ∀ (K : PySem.W.Frag) (v u : V), (lP K v u).length = 22 := fun _ _ _ => rfl
    have len2 : ∀ (K : PySem.W.Frag) (v u : V), (lO K v u).length = 14 := fun _ _ _ => rfl
    have len3 : ∀ (K : PySem.W.Frag) (v u : V), (lN K v u).length = 14 := fun _ _ _ => rfl
    refine ⟨p1, p2, xs1, xs2, rfl, rfl, s9 _ _ hx1, hx2, by rw [he1.length, he2.length, len1, len2, sizeLine_eq]; omega, fun p3 hp3 => ?_⟩
    have s10 := same_trans s8 (same_trans s9 (same_new (o := .lst (xs1 ++ xs2)) hp3))
    refine ⟨qa, p3, v, u, xs1 ++ xs2, rfl, s10 _ _ eq7, hv7.mono s10, upd_same, (he1.mono (same_trans s9 (same_new hp3))).append (he2.mono (same_new hp3)), fun Ha sa => ⟨_, rfl, ?_⟩⟩
    refine iteF ?_
    have sA := same_trans s10 sa
    clear hx1 he1 hx2 he2 hp3
    refine ⟨_, rfl, _, rfl, v, u, rfl, hv7.mono sA, fun p1 xs1 H8 s8 hx1 he1 => ⟨_, rfl, _, rfl, v, u, rfl, (hv7.mono sA).mono s8, fun p2 xs2 H9 s9 hx2 he2 => ?_⟩⟩
    refine ⟨p1, p2, xs1, xs2, rfl, rfl, s9 _ _ hx1, hx2, by rw [he1.length, he2.length, len1, len3, sizeLine_eq]; omega, fun p3 hp3 => ?_⟩
    have s10 := same_trans sA (same_trans s8 (same_trans s9 (same_new (o := .lst (xs1 ++ xs2)) hp3)))
    refine ⟨qa, p3, v, u, xs1 ++ xs2, rfl, s10 _ _ eq7, hv7.mono s10, upd_same, (by rw [← tab_named]; exact (he1.mono (same_trans s9 (same_new hp3))).append (he2.mono (same_new hp3))), fun Hb sb => ⟨_, rfl, ?_⟩⟩
    refine iteF ?_
    have hvb := hv7.mono (same_trans s10 sb)
    clear hx1 he1 hx2 he2 hp3
    refine ⟨v, rfl, rfl, (fun z hz => by obtain rfl : z = v := by simpa using hz
                                         exact hvb.1), fun a1 Hc sc nc ec => ?_⟩
    refine ⟨v, rfl, rfl, (fun z hz => by obtain rfl : z = v := by simpa using hz
                                         exact (hvb.mono sc).1), fun a2 Hd2 sd2 nd ed2 => ?_⟩
    refine fun a3 n3 => ?_
    refine ⟨fits (Nat.le_of_ble_eq_true rfl), fun pe hpe => ?_⟩
    refine ⟨pe, rfl, ⟨_, SqL.of upd_same⟩, ?_⟩
    have s3 : Same Hd2 (upd Hd2 a3 (exo a3 (ga K "EyesError") none)) := same_new n3
    have x3 : ErX (upd Hd2 a3 (exo a3 (ga K "EyesError") none)) a3 (ga K "EyesError") [] := .inl ⟨rfl, upd_same⟩
    have hpe : upd Hd2 a3 (exo a3 (ga K "EyesError") none) pe = none := hpe
    have s4 : Same (upd Hd2 a3 (exo a3 (ga K "EyesError") none)) (upd (upd Hd2 a3 (exo a3 (ga K "EyesError") none)) pe (.lst [.ref a1, .ref a2, .ref a3])) := same_new hpe
    have e4 : upd (upd Hd2 a3 (exo a3 (ga K "EyesError") none)) pe (.lst [.ref a1, .ref a2, .ref a3]) pe = some (.lst [.ref a1, .ref a2, .ref a3]) := upd_same
    have each : ∀ (i : Nat) (x : V), ([.ref a1, .ref a2, .ref a3] : List V)[i]? = some x → ∃ (a : Addr) (X : Str) (fs : List (Str × V)), x = .ref a ∧ (X = "Missing" ∨ X = "EyesError") ∧ X ∈ allN ∧ ErX (upd (upd Hd2 a3 (exo a3 (ga K "EyesError") none)) pe (.lst [.ref a1, .ref a2, .ref a3])) a (ga K X) fs := by
      intro i x hx
      match i, hx with
      | 0, hx =>
        cases hx
        exact ⟨a1, "Missing", _, rfl, .inl rfl, by decide, ec.mono (same_trans sd2 (same_trans s3 s4))⟩
      | 1, hx =>
        cases hx
        exact ⟨a2, "Missing", _, rfl, .inl rfl, by decide, ed2.mono (same_trans s3 s4)⟩
      | 2, hx =>
        cases hx
        exact ⟨a3, "EyesError", _, rfl, .inr rfl, by decide, x3.mono s4⟩
      | n + 3, hx => simp at hx
    have hvf := hvb.mono (same_trans sc (same_trans sd2 (same_trans s3 s4)))
    generalize hHf : upd (upd Hd2 a3 (exo a3 (ga K "EyesError") none)) pe (.lst [.ref a1, .ref a2, .ref a3]) = Hf at s4 e4 each hvf
    refine for_list (a := pe) (xs := [.ref a1, .ref a2, .ref a3]) (fun i σ' H' => Same Hf H' ∧ ∃ c2 c3 c4 c7, σ' = [some (.ref a), some (.ref p), c2, c3, c4, some v, some u, c7]) ⟨by rw [← hHf]; exact same_refl, _, _, _, _, rfl⟩
      (fun i σ' H' hi hp => SqL.of (hp.1 _ _ e4)) (fun i x σ' H' hx hp => ?_) fun σ' H' hp => ?_
    · obtain ⟨sf, c2, c3, c4, c7, rfl⟩ := hp
      obtain ⟨b, X, fs, rfl, hX, hA, hE⟩ := each i x hx
      have T := (S.err hA).ec
      refine ⟨_, rfl, b, X, fs, rfl, hA, hE.mono sf, fun pk Hg sg hpk => ⟨pk, _, rfl, .inl (SqL.of hpk), rfl, flat_kin, _, rfl, ?_⟩⟩
      rw [in_none hX]
      refine iteF ?_
      obtain ⟨d3, g1, g2⟩ := erx_cls (hE.mono (same_trans sf sg))
      refine ⟨_, rfl, b, _, d3, _, _, _, rfl, .own _, g1, g2, T, S.isEE hA, _, rfl, ?_⟩
      refine iteF ?_
      refine ⟨_, rfl, b, _, d3, _, _, _, rfl, .ty _, g1, g2, T, S.isVE hA, _, rfl, ?_⟩
      refine iteF ?_
      exact ⟨same_trans sf sg, _, _, _, _, rfl⟩
    · obtain ⟨sf, c2, c3, c4, c7, rfl⟩ := hp
      have hvg := hvf.mono sf
      have T := (S.err (x := "Missing") (by decide)).xf
      have no := S.no (x := "Missing") (f := "name") (l := ["name"]) (List.mem_of_getElem? (i := 22) rfl) (by decide)
      refine ⟨v, rfl, rfl, (fun z hz => by obtain rfl : z = v := by simpa using hz
                                           exact hvg.1), fun b1 Hi si ni ei => ?_⟩
      obtain ⟨d1, k1, k2⟩ := erx_has ei (by simp)
      obtain ⟨⟨dv, hdv⟩, ⟨du, hdu⟩⟩ := hvg.mono si
      refine ⟨b1, _, d1, _, v, rfl, k1, k2, rfl, T, no, v, dv, rfl, hdv, _, rfl, v, dv, rfl, hdv, rfl, _, rfl, ?_⟩
      refine ifSameT ?_
      refine ⟨u, rfl, rfl, (fun z hz => by obtain rfl : z = u := by simpa using hz
                                           exact ⟨du, hdu⟩), fun b2 Hj sj nj ej => ?_⟩
      obtain ⟨d2, k3, k4⟩ := erx_has ej (by simp)
      refine ⟨b2, _, d2, _, u, rfl, k3, k4, rfl, T, no, u, du, rfl, hdu.mono sj, _, rfl, u, du, rfl, hdu.mono sj, rfl, ?_⟩
      show Q (.bl (decide (V.str du.shown = V.str du.shown))) Hj
      rw [decide_eq_true (rfl : V.str du.shown = V.str du.shown)]
      exact k _
end
end Lw
end

/-! Lw14 -/
section
set_option maxHeartbeats 0
set_option exponentiation.threshold 1000
namespace Lw
open PySem PySem.Spec PyProof.Rows L2 He Er
theorem facts {w : World} {K : PySem.W.Frag} {h : Heap} {mg : Str → Option Value} {f : Addr} (X : K.In h) (G : h.Ns mainGlobals mg) (hfa : mg ("law" : Str) = some (.ref f)) (c : SaysE fa fn fs exA K) :
    ∃ fd : FuncData, (∀ (s : Shared) (v : Value), BindsTo s fd ⟨[v], []⟩ [("_law_script", v)]) ∧ ∀ base : Heap, K.In base → base.Ns mainGlobals mg → FnG P w K mg base 6 f fd ["_law_script"] (spLaw K) := by
  have S : Hd K mg := ⟨c, h, X, G⟩
  obtain ⟨fd, F⟩ := S.def_ 11 (d := dlaw)
  have e := hfa.symm.trans (S.glo 11)
  cases e
  have b := FunD.bindsA (ps := ["_law_script"]) F fun _ _ _ _ _ _ us hl => match us, hl with | [_], _ => rfl
  exact ⟨fd, fun s v => b s [v] rfl, fun base _ _ => ok_law S (fun_of (st := slaw) F)⟩
end Lw
open PySem PySem.W PySem.Calls PyProof.Rows
theorem PySem.Challenge.cw_alleyes_k00_errors_keep_their_fields_holds : PySem.Challenge.rw_alleyes_k00_errors_keep_their_fields.Holds := by
  w_on; o_law
  refine HandSHeadRun.head_any (r := OpenLaw.row PySem.Challenge.rw_alleyes_k00_errors_keep_their_fields) (q := view (OpenLaw.row PySem.Challenge.rw_alleyes_k00_errors_keep_their_fields).prog [51]) (H := Lw.hk) (ob := Lw.ob) (M := 12000) (loose := Lw.loose) (d := HandSHeadRun.topDef (OpenLaw.row PySem.Challenge.rw_alleyes_k00_errors_keep_their_fields).prog 51) (kwd := []) Lw.ob_eq
    (by kernel_rfl) (fun s => by kernel_rfl) Lw.run (by kernel_rfl) (by kernel_rfl) (by kernel_rfl) (by rfl) (by first | assumption | decide +kernel) (by decide +kernel) ⟨rfl, rfl, rfl, rfl, rfl, by decide +kernel⟩ ?hw ?hc
  case hw => w_witness2
  case hc =>
    refine Er.walk_ofG (l := PySem.Challenge.rw_alleyes_k00_errors_keep_their_fields) (n := 63) (k := 6) (x := "_law_script") rfl (by decide) (by kernel_rfl) ⟨rfl, by decide, by decide⟩ ?F
    intro w mg fa h Y G hmg0
    obtain ⟨K, KX, c⟩ := Y
    have hmg : mg ("law" : PySem.Str) = some (.ref fa) := by
      have e : (HandSHeadRun.topDef (OpenLaw.row PySem.Challenge.rw_alleyes_k00_errors_keep_their_fields).prog 51).name = ("law" : PySem.Str) := by kernel_rfl
      rw [← e]
      exact hmg0
    obtain ⟨fd, hb, hF⟩ := Lw.facts (w := w) KX G hmg c
    exact ⟨K, fd, Lw.spLaw K, KX, hb, fun H a ns hl _ hS => ⟨a, ns, rfl, hS, hl, fun _ => rfl⟩, hF⟩
end
