import PyProof.Rows.All
import Wide.All
import OpenK.AllK
import Wide.FinOn
import KE.KExcSuper
import HandS.Base
import HandS.Call
import HandS.List
import HandS.Exc
import HandS.ExcInit
import HandS.MakeKwOnly
import HandS.ExcField
import HandS.IsInst
import HandS.Codes
import KE.KExcIs
import HandS.ExcIs
import HandS.ExcValue
import HandS.Lambda
import HandS.HeadHook1
import HandS.HeadHook2
import HandS.HeadHook3
import HandS.HeadHook4
import HandS.Head0
import HandS.Head1
import HandS.Head2
import HandS.HeadEnd
import HandS.HeadWalk
import HandS.ForMost
import HandS.Deep
import HandS.Flow
import HandS.TupAny
import HandS.Defaults
import HandS.Comp
import PyProof.ReprRoads
import PySem.Challenge.RW_twoslots_k00_errors_made
set_option Elab.async false
set_option linter.all false
set_option maxRecDepth 100000
set_option maxHeartbeats 4000000
/-! Own errors whose making begins with super().__init__(text). -/
namespace My
open PySem PySem.W PySem.Calls PySem.Spec PyProof.Rows L2

/-! ### a context whose def closes over its class -/
def cxS (CX : CXT) (P : Program) (w : World) (K : Frag) (mg : Str → Option Value) (base : Heap) (N : List Str)
    (qual : Str) (scope : Scope) (f cc : Addr) (cd : Value) (A : Around) (outer : List Env) (s : Shared) (H : Hp) (E : XK) : Cx where
  prog := P
  w := w
  K := K
  mg := mg
  base := base
  A := A.deeper (ksEnv qual scope s.heap.objs.size f cd cc)
  N := N
  s_0 := s
  H_0 := H
  env := ksEnv qual scope s.heap.objs.size f cd cc
  outer := outer
  stack := ksEnv qual scope s.heap.objs.size f cd cc :: outer
  ex := []
  calm := true
  fn := fun _ => false
  pn := []
  xe := fun e s' => wpAny (model P w) (A.deeper (ksEnv qual scope s.heap.objs.size f cd cc))
    (leaving (ksEnv qual scope s.heap.objs.size f cd cc) e) (fun _ s2 => CX outer H s E e s2) (fun e' s2 => CX outer H s E e' s2) s'

structure SupScope (N : List Str) (sc : Scope) : Prop where
  kind : sc.kind = .function
  co : sc.isCoroutine = false
  gen : sc.isGenerator = false
  nd : N.Nodup
  par : ∀ x ∈ N, sc.names.lookup x = some .local
  nocell : ∀ y ∈ sc.names, y.2 ≠ .cell
  free : ∀ y ∈ sc.names, y.2 = .free → y.1 = "__class__"
  sup : sc.names.lookup ("super" : Str) = some .globalImplicit
  cls : sc.names.lookup ("__class__" : Str) = some .free

theorem lookup_zip_rev {N : List Str} {us : List Value} (nd : N.Nodup) : ∀ {i : Nat} {x : Str} {u : Value}, N[i]? = some x → us[i]? = some u →
    (N.zip us).reverse.lookup x = some u := by
  have key : ∀ {N : List Str} {us : List Value} (acc : List (Str × Value)) {i : Nat} {x : Str} {u : Value}, N.Nodup → N[i]? = some x → us[i]? = some u →
      ((N.zip us).reverse ++ acc).lookup x = some u := by
    intro N
    induction N with
    | nil =>
      intro us acc i x u _ h _
      simp at h
    | cons n N ih =>
      intro us acc i x u nd h1 h2
      cases us with
      | nil => simp at h2
      | cons v us =>
        rw [List.zip_cons_cons, List.reverse_cons, List.append_assoc]
        cases i with
        | zero =>
          simp at h1 h2
          subst h1 h2
          have nin : n ∉ N := (List.nodup_cons.mp nd).1
          have out : ∀ (l : List (Str × Value)) (r : List (Str × Value)), (∀ p ∈ l, p.1 ≠ n) → (l ++ r).lookup n = r.lookup n := by
            intro l
            induction l with
            | nil => intro r _; rfl
            | cons p l ihl =>
              intro r hp
              obtain ⟨a, b⟩ := p
              have hne : (n == a) = false := by
                have := hp (a, b) (List.mem_cons_self ..)
                simpa using fun e => this e.symm
              show List.lookup n ((a, b) :: (l ++ r)) = _
              rw [List.lookup_cons, hne]
              exact ihl r fun q hq => hp q (List.mem_cons_of_mem _ hq)
          rw [out _ _ (fun p hp => ?_)]
          · simp [List.lookup_cons]
          · intro e
            have hm := List.mem_reverse.mp hp
            have := (List.of_mem_zip (a := p.1) (b := p.2) (by simpa using hm)).1
            rw [e] at this
            exact nin this
        | succ i =>
          exact ih (us := us) ([(n, v)] ++ acc) (List.nodup_cons.mp nd).2 (by simpa using h1) (by simpa using h2)
  intro i x u h1 h2
  have := key (us := us) [] nd h1 h2
  simpa using this

theorem inv_startS {CX : CXT} {P : Program} {w : World} {K : Frag} {mg : Str → Option Value} {base : Heap} {N : List Str} {qual : Str} {scope : Scope}
    {f cc : Addr} {cd : Value} {A : Around} {outer : List Env} {s : Shared} {H : Hp} {E : XK} {us : List Value} {vs : List V} {h1 : Heap} {t1 : Nat}
    {cl : Value} {cld : Option Addr} {D : Value} {csl : Array (Option Value)}
    (S : SupScope N scope) (hd : A.handled = none) (e0 : Env0 P w K mg base A outer s H) (hl : vs.length = N.length) (r : Vals vs us)
    (hcell : K.lookup cc = some ⟨cl, cld, .cell (some D), csl⟩)
    (hns : h1.Ns s.heap.objs.size fun x => (N.zip us).reverse.lookup x) (hk : ∀ b o, s.heap.get? b = some o → h1.get? b = some o) :
    Inv (cxS CX P w K mg base N qual scope f cc cd A outer s H E) [] (vs.map some) H { s with heap := h1, toks := t1 } := by
  have noA : ∀ b : Addr, b ∉ (cxS CX P w K mg base N qual scope f cc cd A outer s H E).ex := fun b z => absurd (show b ∈ ([] : List Addr) from z) (by simp)
  have hcb : base.get? cc = some ⟨cl, cld, .cell (some D), csl⟩ := e0.mod.kin _ _ hcell
  have look : ∀ {x : Str} {c : Addr}, List.lookup x [(("__class__" : Str), cc)] = some c → x = "__class__" ∧ c = cc := by
    intro x c h
    rw [List.lookup_cons] at h
    by_cases e : x = "__class__"
    · subst e
      simp at h
      exact ⟨rfl, h.symm⟩
    · have : (x == ("__class__" : Str)) = false := by simpa using e
      rw [this] at h
      cases h
  refine ⟨⟨e0.mod, S.kind, rfl, rfl, Nat.le_refl _, fun y z c h1 h2 => ?_, fun y hy => ?_, fun y c h _ => ?_, fun _ => hd, Around.frames_deeper e0.frames,
    .inr ⟨rfl, rfl⟩, fun b z => absurd z (noA b), e0.bs, e0.bsz, fun b _ _ => noA b, fun b z => absurd z (noA b), e0.funs, e0.frf⟩,
    rfl, e0.bare, Un.kept hk, ⟨_, hns, fun i y v h1 h2 h3 => ?_⟩, fun y c h => ?_, e0.hok.fresh (Nat.le_refl _), fun y c h => ?_,
    fun p hp => absurd (show p ∈ ([] : List (Addr × Obj)) from hp) (by simp), e0.hok.kept hk, ?_⟩
  · exact (look h1).1.trans (look h2).1.symm
  · have hy : scope.names.lookup y = some .cell ∨ scope.names.lookup y = some .free := hy
    rcases hy with hy | hy
    · exact absurd rfl (S.nocell _ (PySem.mem_of_lookup hy))
    · have e : y = "__class__" := S.free _ (PySem.mem_of_lookup hy) rfl
      refine ⟨cc, ?_⟩
      show List.lookup y [(("__class__" : Str), cc)] = some cc
      rw [e]
      simp [List.lookup_cons]
  · cases h
  · have hx : i < vs.length := by
      have q := (List.getElem?_eq_some_iff.mp h2).1
      simpa using q
    have ha : vs[i]? = some v := by
      rw [List.getElem?_map] at h2
      cases e : vs[i]? with
      | none => rw [e] at h2; cases h2
      | some a => rw [e] at h2; cases h2; rfl
    obtain ⟨u, hu, rv⟩ := r.get ha
    exact ⟨u, rv, .inl ⟨S.par y (List.mem_of_getElem? h1), lookup_zip_rev S.nd h1 hu⟩⟩
  · have e := (look h).2
    subst e
    exact ⟨some D, _, hk _ _ (e0.bs _ _ hcb).1, rfl⟩
  · have e := (look h).2
    subst e
    exact (e0.bs _ _ hcb).2
  · show (vs.map some).length = N.length
    rw [List.length_map, hl]

/-- what the top says of an own error's __init__ that begins with super().__init__(text), D the class it stands in -/
structure SupFacts (P : Program) (K : Frag) (mg : Str → Option Value) (D f cc cda : Addr) (fd : FuncData) (slf : Str) : Prop where
  fn : ∃ oc od osl, K.lookup f = some ⟨oc, od, .func fd, osl⟩
  head : ∃ ar, (fd.params.posonlyargs ++ fd.params.args).head? = some ar ∧ ar.arg = slf
  code : ∃ ccl cdd vs ccs file tf, K.lookup cda = some ⟨ccl, cdd, .fields vs, ccs⟩ ∧ vs[2]? = some (.str file tf) ∧ ((P.main.file : Str) == file) = true
  cell : ∃ cl cld csl, K.lookup cc = some ⟨cl, cld, .cell (some (.ref D)), csl⟩
  cls : ∃ cd, clsIn K D = some cd
  sub : mroIn K D (.ref D) = some true
  sup : mg "super" = none
  top : (P.main.scope.names.lookup ("super" : Str)).isSome = false
  opq : nsIn K cStatics "thirdparty.any" = some none
  ini : ks_superIn K D D "__init__" = some (some (.builtin "ValueError.__init__"))
  isB : subIn K (.ref D) (.type "ValueError") = some true
  oex : OexC K D

section
variable {X : Cx} {pins : List (Addr × Obj)} {σ : L2.St} {H : Hp} {s : Shared} {Q : Value → Shared → Prop} {E : Value → Shared → Prop}
/-- the bound built-in __init__, called with one argument -/
theorem bound_init {D a u : Addr} {v : Value} {A : Around} (T : OexC X.K D) (I : Inv X pins σ H s) (e : H a = some (exo a D none))
    (hu : s.heap.get? u = some (kxs_mw "ValueError.__init__" a)) (h : ∀ s', Inv X pins σ H s' → Q .none s') :
    wpAny (model X.prog X.w) A (call (.ref u) [v]) Q E s := by
  obtain ⟨nm, q, N, bs, bm, sn, sub, ab, col, dd, k0, k1, k2, k3, k5, hC, hbm⟩ := T.cls
  obtain ⟨t1, ho⟩ := exo_at I.hok e
  obtain ⟨hp, g, d, t, os⟩ := s
  have FB := F.excBase_ValueError
  have w1 : (Value.type "method-wrapper" == Value.type "method" || Value.type "method-wrapper" == Value.type "builtin_function_or_method" ||
      Value.type "method-wrapper" == Value.type "method-wrapper") = true := by decide
  have w2 : (Value.type "method-wrapper" != Value.type "method") = true := by decide
  refine wpAny_call
    (codeAny_of_tree ?_)
  show wpAny _ A.in1 (callAny (.ref u) ⟨[v], []⟩) _ _ _
  simp only [callAny]
  refine wpAny_bind
    (wpAny_load hu ?_)
  simp only [kxs_mw, w2, w1, if_true]
  refine wpAny_bind
    (check_bound_init FB.toExcCallFacts (I.kIn _ _ hC) ho rfl ?_)
  refine wpAny_bind
    (wpAny_pure (wpAny_pure ?_))
  refine ⟨plainId_quiet FB.init.plain _,
    codeAny_builtin FB.initEntry ?_⟩
  refine exc_init_tree (cls := .ref D) (t0 := t1) (dv := none) (c2 := .none) (c3 := .none) (b4 := .bool false) ho (by show 1 ≤ sizeLine; decide) ?_
  intro h' k hx _
  have J := I.write (t' := t) (x := a) (e := a) (o := exo a D none) (by rw [e]; exact True.intro) (.inl rfl) k ⟨_, hx⟩ (exo_ok hx)
  have eu : upd H a (exo a D none) = H := by
    funext b
    by_cases hb : b = a
    · rw [hb, upd_same, e]
    · exact upd_ne hb
  rw [eu] at J
  exact h _ J
end

/-- super().__init__(text) as the first statement -/
theorem sup_exec {CX : CXT} {P : Program} {w : World} {K : Frag} {mg : Str → Option Value} {base : Heap} {N : List Str} {qual : Str} {scope : Scope}
    {f cc cda D a : Addr} {A : Around} {outer : List Env} {s0 s : Shared} {H0 H : Hp} {E0 : XK} {fd : FuncData} {self z : Str} {σ : L2.St} {body : List Stmt}
    {p0 p1 p2 p3 p4 p5 : Pos} {j : Nat}
    (S : SupScope N scope) (T : SupFacts P K mg D f cc cda fd self) (h0 : N[0]? = some self) (hσ : σ[0]? = some (some (.ref a))) (ha : H a = some (exo a D none))
    (I : Inv (cxS CX P w K mg base N qual scope f cc (.ref cda) A outer s0 H0 E0) [] σ H s) {Q : Flow → Shared → Prop} {E : Value → Shared → Prop}
    {pl : Sem Bool} (he : eval (.Call (.Attribute (.Call (.Name "super" p0) [] [] p1) "__init__" p2) [.Constant (.str z) j p3] [] p4) (ksEnv qual scope s0.heap.objs.size f (.ref cda) cc) = (do
      let ov ← attributeBase (.Call (.Name "super" p0) [] [] p1) "__init__" (ksEnv qual scope s0.heap.objs.size f (.ref cda) cc) (eval (.Call (.Name "super" p0) [] [] p1) (ksEnv qual scope s0.heap.objs.size f (.ref cda) cc))
      standAt p2.atName
      let (g, first) ← holding [ov] (getMethod ov "__init__" pl)
      callWith p4 g first (backTo p4 (starEach [.Constant (.str z) j p3] (ksEnv qual scope s0.heap.objs.size f (.ref cda) cc))) []))
    (h : ∀ s', Inv (cxS CX P w K mg base N qual scope f cc (.ref cda) A outer s0 H0 E0) [] σ H s' → Q .next s') :
    PySem.wpAt (model P w) (A.deeper (ksEnv qual scope s0.heap.objs.size f (.ref cda) cc)) (.func body (ksEnv qual scope s0.heap.objs.size f (.ref cda) cc))
      (exec (.Expr (.Call (.Attribute (.Call (.Name "super" p0) [] [] p1) "__init__" p2) [.Constant (.str z) j p3] [] p4) p5)
        (ksEnv qual scope s0.heap.objs.size f (.ref cda) cc)) Q E s := by
  obtain ⟨oc, od, osl, hf⟩ := T.fn
  obtain ⟨ar, har, hself⟩ := T.head
  obtain ⟨ccl, cdd, vs, ccs, file, tf, hcode, hvs, hfile⟩ := T.code
  obtain ⟨cl, cld, csl, hcell⟩ := T.cell
  obtain ⟨cd, hD⟩ := T.cls
  have X := I.kIn
  obtain ⟨m, hns, hlook⟩ := I.loc
  obtain ⟨uv, huv, hlk⟩ := hlook 0 self (.ref a) h0 hσ (.inl (S.par self (List.mem_of_getElem? h0)))
  have huv' : uv = .ref a := huv
  subst huv'
  have hm : m self = some (.ref a) := by
    rcases hlk with q | q
    · exact q.2
    · have k := S.par self (List.mem_of_getElem? h0)
      have q1 : scope.names.lookup self = some .cell ∨ scope.names.lookup self = some .free := q.1
      rw [k] at q1
      rcases q1 with q1 | q1 <;> cases q1
  obtain ⟨oD, hD1, hD2⟩ : ∃ oD, s.heap.get? D = some oD ∧ oD.data = .cls cd := by
    unfold clsIn at hD
    split at hD
    · rename_i ho
      cases hD
      exact ⟨_, X _ _ ho, rfl⟩
    · cases hD
  obtain ⟨t1, hao⟩ := exo_at I.hok ha
  have hsupmb : ∃ mb, s.heap.Ns builtinsNs mb ∧ mb "super" = some (.type "super") := by
    obtain ⟨mb, g1, g2⟩ := I.mod.blt
    exact ⟨mb, g1.keeps I.bk, (g2 _ (by decide +kernel)).trans (by first | boot_by_name | rfl | kernel_rfl)⟩
  obtain ⟨mb, hnb, hmb⟩ := hsupmb
  refine ks_wpAt_Expr_any ?_ I.quiet
  refine ks_wpAt_MethodCall (pl := pl) ?_ he
  refine ks_wpAt_super_base (env := ksEnv qual scope s0.heap.objs.size f (.ref cda) cc) S.sup S.cls (by decide) rfl (X _ _ hf) rfl har rfl (X _ _ hcode) rfl hvs hfile T.top ?_
  refine ks_loadName_global S.kind S.sup ?_
  refine loadGlobal_builtin (I.mod.glob.keeps I.bk) T.sup hnb hmb ⟨rfl, ?_⟩
  refine wpAny_loadName_free S.kind S.cls rfl ⟨_, X _ _ hcell, rfl⟩ ?_
  rw [hself]
  refine wpAny_loadName_local S.kind (S.par self (List.mem_of_getElem? h0)) hns hm ?_
  refine ks_wpAny_isType_cls hD1 hD2 ⟨rfl, ?_⟩
  refine ks_wpAny_call_super hD1 hD2 hao rfl (fun c e => by cases e) (looks_mroIn X T.sub) (fun h1 e1 k1 => ?_)
  have I1 := I.kept (t' := s.toks) k1
  have inst : InstAt h1 a _ D none := ⟨k1 _ _ hao, rfl, rfl, trivial⟩
  have hB : Looks (model P w) h1 (isInstance (.ref a) (.type "ValueError")) true := inst.type.andThen (looks_subIn I1.kIn T.isB)
  have hini : alongIn K "__init__" ((cd.mro.dropWhile (· != .ref D)).drop 1) = some (some (.builtin "ValueError.__init__")) := by
    have q := T.ini
    unfold ks_superIn at q
    rw [hD] at q
    exact q
  refine kxs_getMethod kxs_ValueError e1 (looks_opaque I1.kIn T.opq) (l₀ := cd.mro) ?_ rfl I1.kIn hini hB (ks_ne I1.kIn inst hD) (by decide) ?_
  · exact fun A Q E s k q => wpAny_bind ((looks_clsIn I1.kIn hD) A _ E s k (wpAny_pure q))
  obtain ⟨hp, g, d, t, os⟩ := s
  have hn : H h1.objs.size = none := I1.hok.fresh (Nat.le_refl _)
  have I2 := I1.kept (h' := h1.push (kxs_mw "ValueError.__init__" a)) (t' := t + 1) (fun b o e => Heap.get?_push_of_some _ e)
  have I3 := I2.pins_of (pins' := [(h1.objs.size, kxs_mw "ValueError.__init__" a)]) (fun p hp => by
    have e := List.mem_singleton.mp hp
    subst e
    refine ⟨Heap.get?_push_at rfl rfl, hn, fun e => ?_, I1.nofs (Nat.le_refl _), fun v e => by cases e⟩
    have := I1.lt
    rw [← e] at this
    exact absurd this (Nat.lt_irrefl _))
  have hu : (h1.push (kxs_mw "ValueError.__init__" a)).get? h1.objs.size = some (kxs_mw "ValueError.__init__" a) := Heap.get?_push_at rfl rfl
  have ha : PA ((cxS CX P w K mg base N qual scope f cc (.ref cda) A outer s0 H0 E0).wish E) [.Constant (.str z) j p3] _ := pa_cons pe_str pa_nil
  refine kxs_callWith1 (i := "ValueError.__init__") (x := a) (u := h1.objs.size) (h₀ := { objs := #[] }) (L := h1.objs.size + 1) (news := [(h1.objs.size, kxs_mw "ValueError.__init__" a)]) (fun p hp => ?_) (List.mem_singleton.mpr rfl) ?_
  · have e := List.mem_singleton.mp hp
    subst e
    exact ⟨hu, Nat.ne_of_lt (Nat.lt_succ_self _), rfl⟩
  refine thn (ha.run p4 _ _ σ H (fun vs H' => vs = [.str z] ∧ H' = H) (I3.wish E) ⟨rfl, rfl⟩) fun us s1 ⟨vs, H1, J, r1, ev, eh⟩ => ?_
  subst ev eh
  have hu1 := (J.pin (h1.objs.size, kxs_mw "ValueError.__init__" a) (by simp)).1
  refine ⟨hu1, ?_⟩
  cases r1 with
  | @cons _ v0 _ ur ra rr =>
    cases rr
    exact bound_init T.oex J.unwish ‹_› hu1 fun s' J' => h s' (J'.pins_of (pins' := []) (by simp))

/-- a def that closes over its class, whose body begins with super().__init__(text): the rest of its body by the layer -/
theorem fn_ofS {CX : CXT} {P : Program} {w : World} {K : Frag} {mg : Str → Option Value} {base : Heap} {k : Nat} {f D cc cda : Addr} {name qual : Str} {params : Arguments} {body rest : List Stmt} {scope : Scope}
    {dV kV doc pm ct : Value} {an : Option Addr} {N : List Str} {slf z : Str} {sp : Sp} {p0 p1 p2 p3 p4 p5 : Pos} {j : Nat} {pl : Sem Bool}
    (S : SupScope N scope) (T : SupFacts P K mg D f cc cda (ksFn name qual params body scope dV kV doc pm an (.ref cda) ct cc) slf)
    (hcd : codeIn K (.ref cda) qual = true) (h0 : N[0]? = some slf)
    (hbody : body = (.Expr (.Call (.Attribute (.Call (.Name "super" p0) [] [] p1) "__init__" p2) [.Constant (.str z) j p3] [] p4) p5) :: rest)
    (he : ∀ L, eval (.Call (.Attribute (.Call (.Name "super" p0) [] [] p1) "__init__" p2) [.Constant (.str z) j p3] [] p4) (ksEnv qual scope L f (.ref cda) cc) = (do
      let ov ← attributeBase (.Call (.Name "super" p0) [] [] p1) "__init__" (ksEnv qual scope L f (.ref cda) cc) (eval (.Call (.Name "super" p0) [] [] p1) (ksEnv qual scope L f (.ref cda) cc))
      standAt p2.atName
      let (g, first) ← holding [ov] (getMethod ov "__init__" pl)
      callWith p4 g first (backTo p4 (starEach [.Constant (.str z) j p3] (ksEnv qual scope L f (.ref cda) cc))) []))
    (len : ∀ vs H Q E, sp vs H Q E → vs.length = N.length)
    (hrun : ∀ (A : Around) (outer : List Env) (s : Shared) (H : Hp) (vs : List V) (Q : VK) (E : XK), Room k (A.deeper (ksEnv qual scope s.heap.objs.size f (.ref cda) cc)) → sp vs H Q E →
      ∃ a, vs[0]? = some (.ref a) ∧ H a = some (exo a D none) ∧
        ∃ t, PSs (cxS CX P w K mg base N qual scope f cc (.ref cda) A outer s H E) rest t ∧ t { nx := fun _ H' => Q .non H', rt := Q, bk := fun _ _ => False, ct := fun _ _ => False } (vs.map some) H) :
    FnOk P w K mg base CX (k + 1) f (ksFn name qual params body scope dV kV doc pm an (.ref cda) ct cc) N sp := by
  refine ⟨len, fun A outer s H args us vs Q E hr e0 hb r hsp => ?_⟩
  have hl := len _ _ _ _ hsp
  have KX : K.In s.heap := e0.mod.kin.keeps fun b o e => (e0.bs b o e).1
  have lim : s.heap.NoLimit := e0.mod.nolimit.keeps fun b o e => (e0.bs b o e).1
  obtain ⟨oc, od, osl, hf⟩ := T.fn
  obtain ⟨cl, cld, csl, hcell⟩ := T.cell
  refine ks_codeAny_call_defAt (fd := ksFn name qual params body scope dV kV doc pm an (.ref cda) ct cc) (body := body) (binds := N.zip us) hr.depth (KX _ _ hf) rfl lim (codeRec_of KX hcd) rfl hb S.nocell
    (fun y hy => S.par _ (List.of_mem_zip hy).1) (fun h1 hns hk => ?_) S.co S.gen S.kind
  have I := inv_startS (CX := CX) (qual := qual) (f := f) (cd := .ref cda) (E := E) (t1 := s.toks + (N.zip us).length) S hr.hd e0 hl r hcell hns hk
  obtain ⟨a, hv0, hex, t, ht, hq⟩ := hrun A outer s H vs Q E (hr.deeper _) hsp
  have hσ : (vs.map some)[0]? = some (some (V.ref a)) := by rw [List.getElem?_map, hv0]; rfl
  have fin : ∀ {σ' : L2.St} {H' : Hp} {v : V} {u : Value} {s' : Shared}, Inv (cxS CX P w K mg base N qual scope f cc (.ref cda) A outer s H E) [] σ' H' s' → RelV v u → Q v H' → CE outer P w H s Q u s' :=
    fun {σ' H' v u s'} J rv q => ⟨v, H', J.os, J.bare, J.base, J.hok, rv, q⟩
  subst hbody
  refine ks_wpAt_execs_cons ?_
  refine sup_exec (z := z) S T h0 hσ hex I (he _) fun s' J => ?_
  refine wpAt_of_wpAny ?_
  refine wpAny_mono (ht.run [] s' _ H _ J hq) (fun fl s2 hs => ?_) fun e s2 hs => hs
  cases fl with
  | ret u =>
    obtain ⟨v, σ', H', J, rv, q⟩ := hs
    exact fin J rv q
  | next =>
    obtain ⟨σ', H', J, q⟩ := hs
    exact fin (v := V.non) (u := Value.none) J rfl q
  | brk =>
    obtain ⟨_, _, _, q⟩ := hs
    exact False.elim q
  | cont =>
    obtain ⟨_, _, _, q⟩ := hs
    exact False.elim q

/-! ### the promise of an error's __init__ with one field, with two -/
def spE1 (D : Addr) (f1 : Str) : Sp := fun vs H Q _ => ∃ a y, vs = [.ref a, y] ∧ H a = some (exo a D none) ∧
  ∀ dx, H dx = none → dx ≠ a → Q .non (upd (upd H dx (exd dx [(f1, y)])) a (exo a D (some dx)))
def spE2 (D : Addr) (f1 f2 : Str) : Sp := fun vs H Q _ => ∃ a y z, vs = [.ref a, y, z] ∧ H a = some (exo a D none) ∧
  ∀ dx, H dx = none → dx ≠ a → Q .non (upd (upd (upd H dx (exd dx [(f1, y)])) a (exo a D (some dx))) dx (exd dx [(f2, z), (f1, y)]))
end My
set_option maxHeartbeats 4000000
/-! Own errors made as values, by place and by keyword. -/
namespace PySem
namespace MyX
open PySem.W PySem.Calls PyProof.Rows Builtin
open PySem.HandSPX (refsVE excO refsVE_contains call_own)
section
variable {M : Model} {A : Around} {E : Value → Shared → Prop} {h : Heap} {g : Array GenState} {d : Drawn} {t : Nat} {os : OsState}
variable {nm q : Str} {C N : Addr} {bs bm bmB : List Value} {hdct : Bool} {sn : List Str} {sub : List Value} {ab : Bool} {col : Option Bool} {dd : Option Addr} {k0 k1 k2 k3 k5 : Option Value} {B newId initId : String}
theorem check_new_kw (F : ExcBaseFacts B newId initId bmB) (hT : ∀ X : String, bm.contains (.type X) = bmB.contains (.type X)) {rest : List Value} {kw : List (Str × Value)} {Q : Unit → Shared → Prop}
    (hC : h.get? C = some (excClassObj nm q C N bs bm hdct sn sub ab col dd k0 k1 k2 k3 k5 newId)) (hq : Q () ⟨h, g, d, t, os⟩) : wpAny M A (checkBuiltinCall newId ⟨.ref C :: rest, kw⟩) Q E ⟨h, g, d, t, os⟩ := by
  have hcont : (Value.ref C :: bm).contains (.type B) = true := by rw [List.contains_cons, hT, F.hasB, Bool.or_true]
  have hstar := F.noStar
  simp only [checkBuiltinCall, F.newKind, F.newSplit, F.newRow]
  repeat (first | refine wpAny_loadPart_at hC ?_ | (refine wpAny_isSubtype_exc hC ?_; rw [hcont]) | refine wpAny_staticBase_exc hC ?_ | refine wpAny_madeBy_exc hC ?_ | simp only [bne_self_eq_false, Bool.false_eq_true, if_false] | wp_step)
  exact hq
end
section
variable {prog : Program} {w : World} {A : Around} {E : Value → Shared → Prop} {R : Result → Shared → Prop} {h : Heap} {g : Array GenState} {d : Drawn} {t : Nat} {os : OsState}
variable {nm q : Str} {C N : Addr} {bs bm bmB : List Value} {hdct : Bool} {sn : List Str} {sub : List Value} {ab : Bool} {col : Option Bool} {dd : Option Addr} {k0 k1 k2 k3 k5 : Option Value} {B newId initId : String}
theorem new_kw (F : ExcBaseFacts B newId initId bmB) (hT : ∀ X : String, bm.contains (.type X) = bmB.contains (.type X)) {rest : List Value} {kw : List (Str × Value)}
    (hC : h.get? C = some (excClassObj nm q C N bs bm hdct sn sub ab col dd k0 k1 k2 k3 k5 newId))
    (hq : R (.ok (.ret (.ref (h.objs.size + 1)))) ⟨(h.push { cls := .type "tuple", data := .seq rest.toArray }).push
      { cls := .ref C, data := .fields #[.ref h.objs.size, .none, .none, .none, .bool false, .none] }, g, d, t, os⟩) (hrest : rest.length ≤ sizeLine) :
    codeAny (model prog w) A (.builtin newId ⟨.ref C :: rest, kw⟩) R ⟨h, g, d, t, os⟩ := by
  have hends := F.ends
  have hcB : (Value.ref C :: bm).contains (.type B) = true := by rw [List.contains_cons, hT, F.hasB, Bool.or_true]
  have hcA : (Value.ref C :: bm).contains (.type "AttributeError") = false := by rw [List.contains_cons, hT, F.noAttr]; rfl
  have hcN : (Value.ref C :: bm).contains (.type "NameError") = false := by rw [List.contains_cons, hT, F.noName]; rfl
  refine codeAny_builtinAt F.entry ?_
  unfold Builtin.«BaseException.__new__»
  refine wpAt_bind ?_
  show wpAt _ _ _ (stack >>= _) _ _ _
  refine wpAt_bind (wpAt_stack fun p below => wpAt_of_wpAny ?_)
  wp_walk
  refine wpAt_of_wpAny ?_
  rw [F.owner]
  repeat (first | with_reducible refine wpAny_madeHere_exc F.canon hC ?_ | with_reducible refine wpAny_loadPart_at hC ?_ | (with_reducible refine wpAny_isSubtype_exc hC ?_; first | rw [hcB] | rw [hcA] | rw [hcN]) | wp_step)
  show R _ _
  rw [Heap.size_push]
  exact hq

theorem type_call_kw (F : ExcBaseFacts B newId initId bmB) (hT : ∀ X : String, bm.contains (.type X) = bmB.contains (.type X)) {rest : List Value} {kw : List (Str × Value)} {fI : Addr} {Q : Fin → Shared → Prop}
    (hC : h.get? C = some (excClassObj nm q C N bs bm hdct sn sub ab col dd k0 k1 k2 k3 k5 newId))
    (hi : W.Looks (model prog w) h (typeLookup (.ref C) "__init__") (some (.ref fI))) (hb : ∀ self, W.Looks (model prog w) h (bindSpecial (.ref fI) self) (.ref fI, [self])) (hrest : rest.length ≤ sizeLine)
    (hq : codeAny (model prog w) A (.call (.ref fI) ⟨.ref (h.objs.size + 1) :: rest, kw⟩)
      (fun r s' => match r with | .ok (.ret v) => v = .none ∧ Q (.done (.ret (.ref (h.objs.size + 1)))) s' | .ok _ => False | .error e => E e s')
      ⟨(h.push (W.kdv_tup rest)).push (excO C h.objs.size), g, d, t, os⟩) :
    wpAny (model prog w) A (Builtin.«type.__call__» ⟨.ref C :: rest, kw⟩) Q E ⟨h, g, d, t, os⟩ := by
  repeat (first | with_reducible refine wpAny_loadPart_at hC ?_ | with_reducible refine wpAny_madeBy_exc hC ?_ | wp_step)
  refine codeAny_call_builtin_code (Code.quiet_builtin _ F.quiet) (check_new_kw F hT hC ?_)
  refine new_kw F hT hC ?_ hrest
  show wpAny _ _ _ _ _ _
  have k : ∀ b o, h.get? b = some o → ((h.push (W.kdv_tup rest)).push (excO C h.objs.size)).get? b = some o := fun b o e => Heap.get?_push_of_some _ (Heap.get?_push_of_some _ e)
  have hC₁ := k _ _ hC
  have hget : ((h.push (W.kdv_tup rest)).push (excO C h.objs.size)).get? (h.objs.size + 1) = some (excO C h.objs.size) := by heap_get
  have hcC : (Value.ref C :: bm).contains (.ref C) = true := by simp
  have i1 := hi.keeps k
  have b1 := (hb (.ref (h.objs.size + 1))).keeps k
  unfold isInstance
  repeat (first | with_reducible refine wpAny_loadPart_at hget ?_ | (with_reducible refine wpAny_isSubtype_exc hC₁ ?_; rw [hcC]) | wp_step)
  show wpAny _ _ (typeLookup (.ref C) _) _ _ _
  refine i1.at ?_
  refine wpAny_holding (wpAny_bind (b1.at ?_))
  refine wpAny_bind (wpAny_call (codeAny_mono hq fun r s' z => ?_))
  rcases r with e | (v | _ | _ | _) <;> first | exact z | exact z.elim | skip
  obtain ⟨rfl, z⟩ := z
  first
    | exact wpAny_pure (wpAny_pure z)
    | (wp_walk; exact z)
theorem call_kw (F : ExcBaseFacts B newId initId bmB) (hT : ∀ X : String, bm.contains (.type X) = bmB.contains (.type X)) {rest : List Value} {kw : List (Str × Value)} {fI : Addr}
    (hC : h.get? C = some (excClassObj nm q C N bs bm hdct sn sub ab col dd k0 k1 k2 k3 k5 newId))
    (hi : W.Looks (model prog w) h (typeLookup (.ref C) "__init__") (some (.ref fI))) (hb : ∀ self, W.Looks (model prog w) h (bindSpecial (.ref fI) self) (.ref fI, [self])) (hrest : rest.length ≤ sizeLine)
    (hq : codeAny (model prog w) (A.under (.builtin "type.__call__" ⟨.ref C :: rest, kw⟩)) (.call (.ref fI) ⟨.ref (h.objs.size + 1) :: rest, kw⟩) (W.InitBack (h.objs.size + 1) R)
      ⟨(h.push (W.kdv_tup rest)).push (excO C h.objs.size), g, d, t, os⟩) :
    codeAny (model prog w) A (.call (.ref C) ⟨rest, kw⟩) R ⟨h, g, d, t, os⟩ := by
  have f1 := tc_lookup
  have f2 := tc_bind (.ref C)
  have hTy : (⟨h, g, d, t, os⟩ : Shared).TypeIs (.ref C) "type" := ⟨_, hC, rfl⟩
  refine codeAny_of_tree ?_
  show wpAny _ _ (callAny (.ref C) _) _ _ _
  repeat (any_goals (first | assumption | with_reducible refine wpAny_loadPart_at hC ?_ | wp_step))
  refine ⟨rfl, ?_⟩
  refine codeAny_call_builtin_at (Code.quiet_builtin _ (by decide +kernel)) entry_typeCall (wpAny_check_type_call_sub hC (type_call_kw F hT hC hi hb hrest ?_))
  refine codeAny_mono hq fun r s' z => ?_
  rcases r with e | (v | _ | _ | _) <;> exact z
end
end MyX
end PySem
set_option maxHeartbeats 4000000
namespace My
open PySem PySem.W PySem.Calls PySem.Spec PyProof.Rows L2
/-- C(..), C an own error with an own __init__ that keeps sp: a new object -/
def tMkV (C : Addr) (n m : Nat) (sp : Sp) (gV : List V → List V → List V) (t tk : TA) : TE := fun σ H Q => t σ H fun vs H1 => tk σ H1 fun zs H2 => vs.length = n ∧ zs.length = m ∧ vs.length ≤ 1000 ∧ ∀ a, H2 a = none →
  sp (gV (.ref a :: vs) zs) (upd H2 a (exo a C none)) (fun v H3 => v = .non ∧ Q (.ref a) H3) (fun _ _ _ => False)
section
variable {X : Cx} {CX : CXT} {k n : Nat} {fI C : Addr} {fd : FuncData} {ps ks : List Str} {sp : Sp} {x : Str} {p pos : Pos} {e : Expr} {es : List Expr} {kws : List Keyword} {t tk : TA} {g : List Value → List Value → List Value} {gV : List V → List V → List V}
theorem run_oex {pins : List (Addr × Obj)} {σ : L2.St} {H : Hp} {s : Shared} {Q : VK} {us ws : List Value} {vs zs : List V} (T : OexC X.K C) (iC : PySem.W.findIn X.K (.ref C) "__init__" = some (some (.ref fI))) (tI : PySem.W.typeIn X.K (.ref fI) = some (.type "function"))
    (F1 : FnOk X.prog X.w X.K X.mg X.base CX k fI fd ps sp) (hr : Room (k + 1) X.A) (hb : KBn X.K fd ps (n + 1) ks g gV) (hx : Passes CX X (fun _ _ _ => False))
    (I : Inv X pins σ H s) (r : Vals vs us) (rz : Vals zs ws) (l1 : vs.length = n) (l2 : zs.length = ks.length) (hz : vs.length ≤ 1000)
    (h : ∀ a, H a = none → sp (gV (.ref a :: vs) zs) (upd H a (exo a C none)) (fun v H3 => v = .non ∧ Q (.ref a) H3) (fun _ _ _ => False)) :
    wpAny (model X.prog X.w) X.A (call (.ref C) us (ks.zip ws)) (EP X pins σ Q) X.xe s := by
  obtain ⟨nm, q, N, bs, bm, sn, sub, ab, col, dd, k0, k1, k2, k3, k5, hC, hbm⟩ := T.cls
  obtain ⟨hp, gg, dr, tk', os⟩ := s
  have hsz : hp.objs.size ≤ hp.objs.size + 1 := Nat.le_succ _
  have hn : H (hp.objs.size + 1) = none := I.hok.fresh hsz
  have hq := h (hp.objs.size + 1) hn
  have kk : ∀ b o, hp.get? b = some o → ((hp.push (PySem.W.kdv_tup us)).push (PySem.HandSPX.excO C hp.objs.size)).get? b = some o := fun b o e => Heap.get?_push_of_some _ (Heap.get?_push_of_some _ e)
  have hget : ((hp.push (PySem.W.kdv_tup us)).push (PySem.HandSPX.excO C hp.objs.size)).get? (hp.objs.size + 1) = some (PySem.HandSPX.excO C hp.objs.size) := by heap_get
  have I2 : Inv X pins σ (upd H (hp.objs.size + 1) (exo (hp.objs.size + 1) C none)) ⟨(hp.push (PySem.W.kdv_tup us)).push (PySem.HandSPX.excO C hp.objs.size), gg, dr, tk', os⟩ :=
    I.laid (t' := tk') (a := hp.objs.size + 1) (o := exo (hp.objs.size + 1) C none) (h' := (hp.push (PySem.W.kdv_tup us)).push (PySem.HandSPX.excO C hp.objs.size)) kk hsz (exo_ok hget)
  have r1 : Vals (V.ref (hp.objs.size + 1) :: vs) (Value.ref (hp.objs.size + 1) :: us) := .cons rfl r
  have r2 := hb.rel r1 rz
  have n1 : (Value.ref (hp.objs.size + 1) :: us).length = n + 1 := by rw [List.length_cons, ← r.length, l1]
  have hus : us.length ≤ sizeLine := by
    rw [← Paired.length r, sizeLine_eq]
    omega
  refine wpAny_call (PySem.MyX.call_kw F.excBase_ValueError (fun Y => PySem.HandSPX.refsVE_contains Y bm hbm) (I.kIn _ _ hC) (PySem.W.looks_findIn I.kIn iC) (fun self => PySem.W.bind_fn I.kIn self tI) hus
    (codeAny_mono (F1.run _ X.stack _ _ ⟨Value.ref (hp.objs.size + 1) :: us, ks.zip ws⟩ (g (Value.ref (hp.objs.size + 1) :: us) ws) _ _ (fun _ _ _ => False) (hr.make C us (ks.zip ws)) (I2.env0.make C us (ks.zip ws))
      (hb.to _ (Value.ref (hp.objs.size + 1) :: us) ws I2.kIn n1 (rz.length.symm.trans l2)) r2 hq) fun r s' hq' => ?_))
  cases r with
  | error er => exact hx pins σ _ _ er s' I2 hq'
  | ok fl =>
    cases fl with
    | ret u =>
      obtain ⟨v, H', I3, rv, ev, q3⟩ := I2.after hq'
      subst ev
      exact ⟨rv, ⟨V.ref (hp.objs.size + 1), H', I3, rfl, q3⟩⟩
    | next => exact False.elim hq'
    | brk => exact False.elim hq'
    | cont => exact False.elim hq'
/-- C(e, ..) -/
theorem pe_oexV (T : OexC X.K C) (iC : PySem.W.findIn X.K (.ref C) "__init__" = some (some (.ref fI))) (tI : PySem.W.typeIn X.K (.ref fI) = some (.type "function"))
    (F1 : FnOk X.prog X.w X.K X.mg X.base CX k fI fd ps sp) (hr : Room (k + 1) X.A) (hb : KBn X.K fd ps (n + 1) [] g gV) (hx : Passes CX X (fun _ _ _ => False)) (hg : Gl X x) (hm : X.mg x = some (.ref C)) (ha : PA X (e :: es) t)
    (hdb : (x == ("__debug__" : Str)) = false := by decide) (he : starEach (e :: es) X.env = (false, eval e X.env) :: starEach es X.env := by rfl) (hpl : (backTo pos (starEach es X.env)).any (·.1) = false := by rfl) :
    PE X (.Call (.Name x p) (e :: es) [] pos) (tMkV C n 0 sp gV t tNil) := by
  refine ⟨fun pins s σ H Q I h => ?_⟩
  refine wpAny_Call_Name_kw (ld_glob I hg hm ?_ hdb)
  refine PySem.W.callWith_K (h₀ := X.base) I.ok.mod.kin T.kC (thn (ha.run pos pins s σ H _ I h) fun us s1 ⟨vs, H1, I1, r1, l1, l2, hz, q1⟩ => ⟨I1.kIn, ?_⟩) he hpl
  exact run_oex (ws := []) (zs := []) T iC tI F1 hr hb hx I1 r1 .nil l1 rfl hz q1
/-- C(k = v, ..) -/
theorem pe_oexK (T : OexC X.K C) (iC : PySem.W.findIn X.K (.ref C) "__init__" = some (some (.ref fI))) (tI : PySem.W.typeIn X.K (.ref fI) = some (.type "function"))
    (F1 : FnOk X.prog X.w X.K X.mg X.base CX k fI fd ps sp) (hr : Room (k + 1) X.A) (hb : KBn X.K fd ps 1 ks g gV) (hx : Passes CX X (fun _ _ _ => False)) (hg : Gl X x) (hm : X.mg x = some (.ref C)) (hkw : PK X kws tk)
    (hall : (backToKw pos (keywordEach kws X.env)).all (·.1.isSome) = true := by rfl) (hks : (backToKw pos (keywordEach kws X.env)).filterMap (·.1) = ks := by rfl) (hdb : (x == ("__debug__" : Str)) = false := by decide)
    (hpl : ((backTo pos (starEach [] X.env)).any (·.1) || (backToKw pos (keywordEach kws X.env)).any (·.1.isNone)) = false := by rfl) :
    PE X (.Call (.Name x p) [] kws pos) (tMkV C 0 ks.length sp gV tNil tk) := by
  refine ⟨fun pins s σ H Q I h => ?_⟩
  refine wpAny_Call_Name_kw (ld_glob I hg hm ?_ hdb)
  refine PySem.W.callWith_KW0 (h₀ := X.base) I.ok.mod.kin T.kC hall ?_ hpl
  refine thn (hkw.run pos pins s σ H _ I h) fun ws s2 ⟨zs, H2, I2, rz, l1, l2, hz, q2⟩ => ⟨I2.kIn, ?_⟩
  rw [hks]
  exact run_oex (us := []) (vs := []) T iC tI F1 hr hb hx I2 .nil rz rfl l2 (Nat.zero_le _) q2
end
end My
set_option maxHeartbeats 4000000
namespace My
open PySem PySem.W PySem.Calls PySem.Spec PyProof.Rows L2
/-! ### the text of an own error's __init__ -/
def eArgs (qs : List (Str × Pos)) : Arguments := { posonlyargs := [], args := qs.map fun q => { arg := q.1, annotation := none, pos := q.2 }, vararg := none, kwonlyargs := [], kw_defaults := [], kwarg := none, defaults := [] }
def eSup (z : Str) (j : Tok) (p0 p1 p2 p3 p4 p5 : Pos) : Stmt := .Expr (.Call (.Attribute (.Call (.Name "super" p0) [] [] p1) "__init__" p2) [.Constant (.str z) j p3] [] p4) p5
def eSet (f : Str) (q1 q2 q3 q4 : Pos) : Stmt := .Assign [.Attribute (.Name "self" q1) f q2] (.Name f q3) q4
def eScope (fs : List Str) : Scope := { kind := .function, names := ((("self" : Str) :: fs).map fun y => (y, NameKind.local)) ++ [(("__class__" : Str), NameKind.free), (("super" : Str), NameKind.globalImplicit)], isGenerator := false, isCoroutine := false, more := [] }
/-- how super().__init__(text) goes; by rfl where the places are known -/
def SupCall (z : Str) (j : Tok) (p0 p1 p2 p3 p4 : Pos) (qual : Str) (scope : Scope) (f cda cc : Addr) (pl : Sem Bool) : Prop :=
  ∀ L, eval (.Call (.Attribute (.Call (.Name "super" p0) [] [] p1) "__init__" p2) [.Constant (.str z) j p3] [] p4) (ksEnv qual scope L f (.ref cda) cc) = (do
      let ov ← attributeBase (.Call (.Name "super" p0) [] [] p1) "__init__" (ksEnv qual scope L f (.ref cda) cc) (eval (.Call (.Name "super" p0) [] [] p1) (ksEnv qual scope L f (.ref cda) cc))
      standAt p2.atName
      let (g, first) ← holding [ov] (getMethod ov "__init__" pl)
      callWith p4 g first (backTo p4 (starEach [.Constant (.str z) j p3] (ksEnv qual scope L f (.ref cda) cc))) [])
section
variable {P : Program} {w : World} {K : Frag} {mg : Str → Option Value} {base : Heap} {k : Nat} {f D cc cda : Addr} {qual : Str} {kV doc pm ct : Value} {an : Option Addr} {z f1 f2 : Str} {j : Tok} {pl : Sem Bool}
theorem init1 {pa pb p0 p1 p2 p3 p4 p5 q1 q2 q3 q4 : Pos} (S : SupScope ["self", f1] (eScope [f1]))
    (T : SupFacts P K mg D f cc cda (ksFn "__init__" qual (eArgs [("self", pa), (f1, pb)]) [eSup z j p0 p1 p2 p3 p4 p5, eSet f1 q1 q2 q3 q4] (eScope [f1]) .none kV doc pm an (.ref cda) ct cc) "self")
    (he : SupCall z j p0 p1 p2 p3 p4 qual (eScope [f1]) f cda cc pl) (hcd : codeIn K (.ref cda) qual = true) (h1 : PySem.W.findIn K (.ref D) f1 = some none) (hd1 : (f1 == ("__debug__" : Str)) = false := by decide) (hc1 : (f1 == ("__classdict__" : Str)) = false := by decide) :
    FnOk P w K mg base C8.CX0 (k + 1) f (ksFn "__init__" qual (eArgs [("self", pa), (f1, pb)]) [eSup z j p0 p1 p2 p3 p4 p5, eSet f1 q1 q2 q3 q4] (eScope [f1]) .none kV doc pm an (.ref cda) ct cc) ["self", f1] (spE1 D f1) := by
  refine fn_ofS (z := z) S T hcd rfl rfl he (fun vs H Q E ⟨a, y, e, _⟩ => by rw [e]; rfl) fun A outer s H vs Q E hr ⟨a, y, ev, ha, q⟩ => ?_
  subst ev
  refine ⟨a, rfl, ha, _, pss_one (ps_ost (pe_var (i := 0) rfl (.inl (S.par _ (by simp)))) (pe_var (i := 1) rfl (.inl (S.par _ (by simp))) hd1 hc1)), ?_⟩
  exact ⟨y, rfl, _, rfl, a, D, rfl, T.oex, h1, .inl ⟨ha, q⟩⟩
theorem init2 {pa pb pc p0 p1 p2 p3 p4 p5 q1 q2 q3 q4 r1 r2 r3 r4 : Pos} (S : SupScope ["self", f1, f2] (eScope [f1, f2]))
    (T : SupFacts P K mg D f cc cda (ksFn "__init__" qual (eArgs [("self", pa), (f1, pb), (f2, pc)]) [eSup z j p0 p1 p2 p3 p4 p5, eSet f1 q1 q2 q3 q4, eSet f2 r1 r2 r3 r4] (eScope [f1, f2]) .none kV doc pm an (.ref cda) ct cc) "self")
    (he : SupCall z j p0 p1 p2 p3 p4 qual (eScope [f1, f2]) f cda cc pl) (hcd : codeIn K (.ref cda) qual = true) (h1 : PySem.W.findIn K (.ref D) f1 = some none) (h2 : PySem.W.findIn K (.ref D) f2 = some none) (hd1 : (f1 == ("__debug__" : Str)) = false := by decide) (hc1 : (f1 == ("__classdict__" : Str)) = false := by decide)
    (hd2 : (f2 == ("__debug__" : Str)) = false := by decide) (hc2 : (f2 == ("__classdict__" : Str)) = false := by decide) :
    FnOk P w K mg base C8.CX0 (k + 1) f (ksFn "__init__" qual (eArgs [("self", pa), (f1, pb), (f2, pc)]) [eSup z j p0 p1 p2 p3 p4 p5, eSet f1 q1 q2 q3 q4, eSet f2 r1 r2 r3 r4] (eScope [f1, f2]) .none kV doc pm an (.ref cda) ct cc) ["self", f1, f2] (spE2 D f1 f2) := by
  refine fn_ofS (z := z) S T hcd rfl rfl he (fun vs H Q E ⟨a, y, u, e, _⟩ => by rw [e]; rfl) fun A outer s H vs Q E hr ⟨a, y, u, ev, ha, q⟩ => ?_
  subst ev
  refine ⟨a, rfl, ha, _, pss_cons (ps_ost (pe_var (i := 0) rfl (.inl (S.par _ (by simp)))) (pe_var (i := 1) rfl (.inl (S.par _ (by simp))) hd1 hc1))
    (pss_one (ps_ost (pe_var (i := 0) rfl (.inl (S.par _ (by simp)))) (pe_var (i := 2) rfl (.inl (S.par _ (by simp))) hd2 hc2))), ?_⟩
  refine ⟨y, rfl, _, rfl, a, D, rfl, T.oex, h1, .inl ⟨ha, fun dx hn hne => ?_⟩⟩
  have ed : (upd (upd H dx (exd dx [(f1, y)])) a (exo a D (some dx))) dx = some (exd dx [(f1, y)]) := by
    rw [upd_ne hne, upd_same]
  exact ⟨u, rfl, _, rfl, a, D, rfl, T.oex, h2, .inr ⟨dx, _, upd_same, ed, by simp, q dx hn hne⟩⟩
end
end My
set_option maxHeartbeats 4000000
namespace My
open PySem PySem.W PySem.Calls PySem.Spec PyProof.Rows L2
/-! ### an own error that was made: its fields, its kinds -/
/-- at a stands an own error of the class C with the fields fs -/
def ErrO (H : Hp) (a C : Addr) (fs : List (Str × V)) : Prop := ∃ d, H a = some (exo a C (some d)) ∧ H d = some (exd d fs)
/-- e.n -/
def tOf (K : Frag) (n : Str) (te : TE) : TE := fun σ H Q => te σ H fun x H1 => ∃ a C fs v, x = .ref a ∧ ErrO H1 a C fs ∧ XfC K C ∧ PySem.W.findIn K (.ref C) n = some none ∧ fs.lookup n = some v ∧ Q v H1
section
variable {X : Cx} {e : Expr} {te : TE} {pos : Pos} {n : Str}
theorem pe_ofld (he : PE X e te) (hb : attributeBase e n X.env (eval e X.env) = eval e X.env := by rfl) : PE X (.Attribute e n pos) (tOf X.K n te) := by
  refine ⟨fun pins s σ H Q I h => ?_⟩
  refine attr_of hb (thn (he.run pins s σ H _ I h) fun u s1 hh => ?_)
  obtain ⟨x, H1, I1, rx, a, C, fs, v, ex, ⟨d, ea, ed⟩, T, hno, l, q⟩ := hh
  subst ex
  obtain rfl : u = Value.ref a := rx
  obtain ⟨t1, ho⟩ := exo_at I1.hok ea
  obtain ⟨mA, hns, hr⟩ := exd_at I1.hok ed
  obtain ⟨od, hod, hl⟩ := lookIn_ns hns
  obtain ⟨u, hu, ru⟩ := RelO.some_of (v := v) (o := mA n) (by rw [← l]; exact hr n)
  have J : PySem.W.InstAt s1.heap a _ C (some od) := ⟨ho, rfl, rfl, hod⟩
  exact HandSPX.exc_get I1.kIn J T.ga T.gg T.exC (PySem.W.findObj_own T.hdC hno rfl (by rw [hl, hu])) (handed_of ru) ⟨v, H1, I1.tok _, ru, q⟩
/-- isinstance(e, c), e an own error that was made -/
def rIsO (K : Frag) : List V → Hp → VK → Prop := fun xs H Q => ∃ (a C : Addr) (fs : List (Str × V)) (c : V) (cv : Value) (b : Bool), xs = [.ref a, c] ∧ ErrO H a C fs ∧ ExcC K C ∧ ClsV c cv ∧ PySem.W.kitOne K (.ref C) cv = some b ∧ Q (.bl b) H
theorem call_isO : CallR X (.builtin "isinstance") (rIsO X.K) := by
  intro pins s σ H xs us Q I r h
  obtain ⟨a, C, fs, c, cv, b, rfl, ⟨d, ea, ed⟩, T, kc, e, q⟩ := h
  obtain ⟨u1, u2, rfl, r1, r2⟩ := vals2 r
  have e2 := kc.eq r2
  subst e2
  obtain rfl : u1 = Value.ref a := r1
  obtain ⟨t1, ho⟩ := exo_at I.hok ea
  obtain ⟨mA, hns, hr⟩ := exd_at I.hok ed
  obtain ⟨od, hod, hl⟩ := lookIn_ns hns
  have J : PySem.W.InstAt s.heap a _ C (some od) := ⟨ho, rfl, rfl, hod⟩
  have hcl : (clsIn X.K C).isSome = true := by
    obtain ⟨cd, hc, _⟩ := any_some T.hd
    rw [hc]; rfl
  exact PySem.W.kia_one (kitx_exc hcl T.hg T.hk T.hs T.ha T.hn T.ht T.hm) I.kIn J e (fun z => nomatch z) fun tk => ⟨.bl b, H, I.tok tk, rfl, q⟩
/-- .. of one without a dict -/
def rIsN (K : Frag) : List V → Hp → VK → Prop := fun xs H Q => ∃ (a C : Addr) (c : V) (cv : Value) (b : Bool), xs = [.ref a, c] ∧ H a = some (exo a C none) ∧ ExcC K C ∧ ClsV c cv ∧ PySem.W.kitOne K (.ref C) cv = some b ∧ Q (.bl b) H
theorem call_isN : CallR X (.builtin "isinstance") (rIsN X.K) := by
  intro pins s σ H xs us Q I r h
  obtain ⟨a, C, c, cv, b, rfl, ea, T, kc, e, q⟩ := h
  obtain ⟨u1, u2, rfl, r1, r2⟩ := vals2 r
  have e2 := kc.eq r2
  subst e2
  obtain rfl : u1 = Value.ref a := r1
  obtain ⟨t1, ho⟩ := exo_at I.hok ea
  have J : PySem.W.InstAt s.heap a _ C none := ⟨ho, rfl, rfl, trivial⟩
  exact PySem.W.kia_one (PySem.W.handS_kitx_exc T.hg T.hk T.hs T.hd T.ha T.hn T.ht T.hm) I.kIn J e (fun z => nomatch z) fun tk => ⟨.bl b, H, I.tok tk, rfl, q⟩
end
end My
set_option maxHeartbeats 4000000
/-! An own error of a class without __init__, made of nothing. -/
namespace My
open PySem PySem.W PySem.Calls PySem.Spec PyProof.Rows L2
theorem pe_exc0 {X : Cx} {C : Addr} {bmB : List Value} {B newId initId : String} {x : Str} {p pos : Pos} (F : ExcBaseFacts B newId initId bmB) (q : excIn X.K C bmB newId = true) (gC : X.mg x = some (.ref C)) (kC : keepIn X.K (.ref C) = true) (hg : Gl X x) (hdb : (x == ("__debug__" : Str)) = false := by decide) :
    PE X (.Call (.Name x p) [] [] pos) (fun σ H Q => ∀ a, H a = none → Q (.ref a) (upd H a (exo a C none))) := by
  refine ⟨fun pins s σ H Q I h => ?_⟩
  refine wpAny_Call_Name_kw (ld_glob I hg gC ?_ hdb)
  refine PySem.W.callWith_K0 (first := []) I.kIn kC ?_
  show wpAny _ _ (call (.ref C) []) _ _ _
  obtain ⟨bm, N, nm, qn, bs, hdct, sn, sub, ab, col, dd, k0, k1, k2, k3, k5, mN, hC, hN, hni, T⟩ := exc_obj I.kIn q
  refine wpAny_call_exc_subT F T hC hN hni (fun h' a hm => ?_) (Nat.zero_le _)
  have hn : H a = none := I.hok.gone hm.new
  obtain ⟨t, ht, _, _⟩ := hm.there
  exact ⟨.ref a, upd H a (exo a C none), I.laidN hm.keeps hm.new hn (exo_ok ht), rfl, h a hn⟩
end My
set_option maxHeartbeats 4000000
/-! A lambda that captures nothing, as a value: made, kept, called. -/
namespace My
open PySem PySem.W PySem.Calls PySem.Spec PyProof.Rows L2 LamX
/-- at f stands a lambda that captures nothing -/
def LamO (f : Addr) (q : Str) (params : Arguments) (body : Expr) (scope : Scope) (c' : Addr) : HO := .ext fun h => ∃ pm ctv, h.get? f = some (kla_obj "<lambda>" q params body scope [] pm c' ctv)
theorem lamO_ok {P : Program} {w : World} {H : Hp} {h : Heap} {f c' : Addr} {q : Str} {params : Arguments} {body : Expr} {scope : Scope} {pm ctv : Value} (e : h.get? f = some (kla_obj "<lambda>" q params body scope [] pm c' ctv)) :
    ObjOk P w H h f (LamO f q params body scope c') := ⟨⟨pm, ctv, e⟩, ⟨_, e⟩, fun h1 h2 ⟨pm, ctv, z⟩ k => ⟨pm, ctv, k _ z⟩⟩
theorem lamO_at {P : Program} {w : World} {H : Hp} {h : Heap} {f c' : Addr} {q : Str} {params : Arguments} {body : Expr} {scope : Scope} (hok : HOk P w H h) (e : H f = some (LamO f q params body scope c')) :
    ∃ pm ctv, h.get? f = some (kla_obj "<lambda>" q params body scope [] pm c' ctv) := by
  have x : ObjOk P w H h f (.ext fun h => ∃ pm ctv, h.get? f = some (kla_obj "<lambda>" q params body scope [] pm c' ctv)) := hok f _ e
  exact x.1
theorem codeO_at {P : Program} {w : World} {H : Hp} {h : Heap} {c : Addr} {q : Str} (hok : HOk P w H h) (e : H c = some (CodeO c q)) : ∃ (oc : Obj) (vs : Array Value) (t : Tok), h.get? c = some oc ∧ oc.data = .fields vs ∧ vs[1]? = some (.str q t) := by
  have x : ObjOk P w H h c (.ext fun h => ∃ (oc : Obj) (vs : Array Value) (t : Tok), h.get? c = some oc ∧ oc.data = .fields vs ∧ vs[1]? = some (.str q t)) := hok c _ e
  exact x.1
section
variable {X : Cx} {pins : List (Addr × Obj)} {σ : L2.St} {H : Hp} {s : Shared}
/-- lambda ..: body -/
def tLamV (T : List (Addr × Str)) (q : Str) (params : Arguments) (body : Expr) (scope : Scope) : TE := fun σ H Q => Tabs T H ∧ ∀ (f c' : Addr) (H1 : Hp), ExtN H H1 → Tabs T H1 → H1 f = none → H1 c' = some (CodeO c' q) → Q (.ref f) (upd H1 f (LamO f q params body scope c'))
theorem pe_lamV {T : List (Addr × Str)} {c P : Addr} {params : Arguments} {body : Expr} {scope : Scope} {pos : Pos} (TB : TabB X.base X.mg c P) (hcode : X.env.code = .ref c)
    (hm : (P, X.env.qual ++ "<lambda>") ∈ T) (hu : ∀ p ∈ T, p.1 = P → p.2 = X.env.qual ++ "<lambda>") (hfree : ∀ y ∈ scope.names, y.2 ≠ .free) (hdef : defaultsOf params X.env = ([], []) := by rfl) (hclo : cloFrom X.env.cells scope.names [] = [] := by rfl) :
    PE X (.Lambda params body scope pos) (tLamV T (X.env.qual ++ "<lambda>") params body scope) := by
  refine ⟨fun pins s σ H Q I h => ?_⟩
  obtain ⟨hT, h⟩ := h
  obtain ⟨ps, hP, ht, ha⟩ := hT _ hm
  refine PySem.W.kla_eval hdef ?_
  have bP : s.heap.BuiltinsAt X.mg P := TB.bm.keeps I.bk
  have hP' : s.heap.get? P = some { cls := .none, data := .fields ps } := I.hok P _ hP
  have hclos : closureFor scope X.env = pure (cloFrom X.env.cells scope.names []) := closure_ok fun y hy e => absurd e (hfree y hy)
  rw [hclo] at hclos
  cases hc : codeAmong pos ps.toList with
  | none =>
    refine PySem.W.kla_makeFunction (mg := X.mg) (c := c) (P := P) (ps := ps) hclos I.ok.glob (I.mod.glob.keeps I.bk) hcode (TB.code.keeps I.bk) hP' ht hc TB.gP bP fun c' ctv h' tk hx hge hlt hrec htb => ?_
    obtain ⟨c2, oc, vs, t, e2, hoc, hd, hv⟩ := hrec
    cases e2
    have hsz : s.heap.objs.size ≤ h'.objs.size := Nat.le_trans hge (Nat.le_of_lt hlt)
    have nC : H c' = none := I.hok.fresh hge
    have I1 := inv_table (t' := tk) (more := #[rawInt pos.line, rawInt pos.col, .ref c']) (h' := h') I hP (fun b o hb e => hx b o hb e) htb hge ⟨oc, vs, t, hoc, hd, hv⟩
    have I2 := I1.laid (t' := tk) (a := h'.objs.size) (o := LamO h'.objs.size (X.env.qual ++ "<lambda>") params body scope c') (h' := h'.push (PySem.W.kla_obj "<lambda>" (X.env.qual ++ "<lambda>") params body scope [] ((X.mg "__name__").getD .none) c' ctv))
      (fun b o e => Heap.get?_push_of_some _ e) (Nat.le_refl _) (lamO_ok (Heap.get?_push_size _ rfl))
    have hE : ExtN H (upd (upd H P (.tbl (ps ++ #[rawInt pos.line, rawInt pos.col, .ref c']))) c' (CodeO c' (X.env.qual ++ "<lambda>"))) := fun b o e n => by
      rw [upd_ne (ne_of_none e nC), upd_ne (fun z => n ps (Option.some.inj (e.symm.trans (by rw [z]; exact hP))))]
      exact e
    have eL : (ps ++ #[rawInt pos.line, rawInt pos.col, .ref c']).toList = ps.toList ++ [rawInt pos.line, rawInt pos.col, .ref c'] := by simp
    have nF : (upd (upd H P (.tbl (ps ++ #[rawInt pos.line, rawInt pos.col, .ref c']))) c' (CodeO c' (X.env.qual ++ "<lambda>"))) h'.objs.size = none := by
      have n1 : h'.objs.size ≠ c' := Nat.ne_of_gt hlt
      have n2 : h'.objs.size ≠ P := Nat.ne_of_gt (Nat.lt_of_lt_of_le (Heap.lt_size hP') hsz)
      rw [upd_ne n1, upd_ne n2]
      exact I.hok.fresh hsz
    refine ⟨.ref h'.objs.size, _, I2, rfl, h h'.objs.size c' _ hE (fun p hp => ?_) nF upd_same⟩
    by_cases hb : p.1 = P
    · rw [hu p hp hb, hb]
      refine ⟨_, by rw [upd_ne (ne_of_none hP nC), upd_same], by rw [eL]; exact PySem.TriplesOk_snoc _ _ _ _ ht, fun p' cv hcv => ?_⟩
      rw [eL] at hcv
      rcases among_app _ ht hcv with z | z
      · obtain ⟨c0, e1, e2⟩ := ha p' cv z
        exact ⟨c0, e1, hE _ _ e2 codeO_ne⟩
      · exact ⟨c', z, upd_same⟩
    · obtain ⟨ps', a1, a2, a3⟩ := hT p hp
      refine ⟨ps', by rw [upd_ne (ne_of_none a1 nC), upd_ne hb]; exact a1, a2, fun p' cv hcv => ?_⟩
      obtain ⟨c0, e1, e2⟩ := a3 p' cv hcv
      exact ⟨c0, e1, hE _ _ e2 codeO_ne⟩
  | some cv =>
    obtain ⟨c', e, hco⟩ := ha pos cv hc
    subst e
    refine PySem.W.kla_makeFunctionHit (mg := X.mg) (c := c) (P := P) (ps := ps) hclos I.ok.glob (I.mod.glob.keeps I.bk) hcode (TB.code.keeps I.bk) hP' ht hc bP fun ctv h' tk hx hsz => ?_
    have I2 := I.laid (t' := tk) (a := h'.objs.size) (o := LamO h'.objs.size (X.env.qual ++ "<lambda>") params body scope c') (h' := h'.push (PySem.W.kla_obj "<lambda>" (X.env.qual ++ "<lambda>") params body scope [] ((X.mg "__name__").getD .none) c' ctv))
      (fun b o e => Heap.get?_push_of_some _ (hx b o e)) hsz (lamO_ok (Heap.get?_push_size _ rfl))
    exact ⟨.ref h'.objs.size, _, I2, rfl, h h'.objs.size c' H (ExtN.refl H) hT (I.hok.fresh hsz) hco⟩
end
/-! ### its body -/
/-- the context of its body -/
def cxL (X : Cx) (N : List Str) (q : Str) (scope : Scope) (f c' : Addr) (A : Around) (outer : List Env) (s : Shared) (H : Hp) (E : XK) : Cx where
  prog := X.prog
  w := X.w
  K := X.K
  mg := X.mg
  base := X.base
  A := A.deeper (envX q scope s.heap.objs.size f (.ref c') [])
  N := N
  s_0 := s
  H_0 := H
  env := envX q scope s.heap.objs.size f (.ref c') []
  outer := outer
  stack := envX q scope s.heap.objs.size f (.ref c') [] :: outer
  ex := []
  fn := fun _ => false
  calm := true
  pn := []
  xe := fun e s' => wpAny (model X.prog X.w) (A.deeper (envX q scope s.heap.objs.size f (.ref c') [])) (leaving (envX q scope s.heap.objs.size f (.ref c') []) e) (fun _ s'' => C8.CX0 outer H s E e s'') (fun e' s'' => C8.CX0 outer H s E e' s'') s'
structure LamScope (N : List Str) (sc : Scope) : Prop where
  kind : sc.kind = .function
  co : sc.isCoroutine = false
  gen : sc.isGenerator = false
  nd : N.Nodup
  par : ∀ x ∈ N, sc.names.lookup x = some .local
  nocell : ∀ y ∈ sc.names, y.2 ≠ .cell ∧ y.2 ≠ .free
theorem inv_startL {X : Cx} {N : List Str} {q : Str} {scope : Scope} {f c' : Addr} {A : Around} {outer : List Env} {s : Shared} {H : Hp} {E : XK} {us : List Value} {vs : List V} {h1 : Heap} {t1 : Nat}
    (S : LamScope N scope) (hd : A.handled = none) (e0 : Env0 X.prog X.w X.K X.mg X.base A outer s H) (hl : vs.length = N.length) (r : Vals vs us)
    (hns : h1.Ns s.heap.objs.size fun x => (N.zip us).reverse.lookup x) (hk : ∀ b o, s.heap.get? b = some o → h1.get? b = some o) :
    Inv (cxL X N q scope f c' A outer s H E) [] (vs.map some) H { s with heap := h1, toks := t1 } := by
  have noA : ∀ b : Addr, b ∉ (cxL X N q scope f c' A outer s H E).ex := fun b z => absurd (show b ∈ ([] : List Addr) from z) (by simp)
  have nofree : ∀ {x : Str} {c : Addr}, List.lookup x ([] : List (Str × Addr)) = some c → False := fun {x c} h => by cases h
  refine ⟨⟨e0.mod, S.kind, rfl, rfl, Nat.le_refl _, fun y z c h1 h2 => (nofree h1).elim, fun y hy => ?_, fun y c h _ => ?_, fun _ => hd, Around.frames_deeper e0.frames,
    .inr ⟨rfl, rfl⟩, fun b z => absurd z (noA b), e0.bs, e0.bsz, fun b _ _ => noA b, fun b z => absurd z (noA b), e0.funs, e0.frf⟩,
    rfl, e0.bare, Un.kept hk, ⟨_, hns, fun i y v h1 h2 h3 => ?_⟩, fun y c h => (nofree h).elim, e0.hok.fresh (Nat.le_refl _), fun y c h => (nofree h).elim,
    fun p hp => absurd (show p ∈ ([] : List (Addr × Obj)) from hp) (by simp), e0.hok.kept hk, ?_⟩
  · have hy : scope.names.lookup y = some .cell ∨ scope.names.lookup y = some .free := hy
    rcases hy with hy | hy
    · exact absurd rfl (S.nocell _ (PySem.mem_of_lookup hy)).1
    · exact absurd rfl (S.nocell _ (PySem.mem_of_lookup hy)).2
  · have z : false = true := h
    cases z
  · have hx : i < vs.length := by
      have q := (List.getElem?_eq_some_iff.mp h2).1
      simpa using q
    have ha : vs[i]? = some v := by
      rw [List.getElem?_map] at h2
      cases e : vs[i]? with
      | none => rw [e] at h2; cases h2
      | some a => rw [e] at h2; cases h2; rfl
    obtain ⟨u, hu, rv⟩ := r.get ha
    exact ⟨u, rv, .inl ⟨S.par y (List.mem_of_getElem? h1), lookup_zip_rev S.nd h1 hu⟩⟩
  · show (vs.map some).length = N.length
    rw [List.length_map, hl]
/-- x(e, ..), x a name that holds such a lambda -/
def tCallL (X : Cx) (k i : Nat) (t : TA) : TE := fun σ H Q => ∃ (f c' : Addr) (N : List Str) (q : Str) (params : Arguments) (body : Expr) (scope : Scope), σ[i]? = some (some (.ref f)) ∧ H f = some (LamO f q params body scope c') ∧ t σ H fun vs H1 =>
  H1 f = some (LamO f q params body scope c') ∧ H1 c' = some (CodeO c' q) ∧ LamScope N scope ∧ vs.length = N.length ∧
  (∀ pm ctv (us : List Value), us.length = N.length → bindArgs (kla_fn "<lambda>" q params body scope [] pm (.ref c') ctv) ⟨us, []⟩ = pure (N.zip us)) ∧
  ∀ (A : Around) (outer : List Env) (s : Shared), Room k (A.deeper (envX q scope s.heap.objs.size f (.ref c') [])) → ∃ tb, PE (cxL X N q scope f c' A outer s H1 C8.E0) body tb ∧ tb (vs.map some) H1 Q
theorem pe_callLam {X : Cx} {k i : Nat} {x : Str} {e : Expr} {es : List Expr} {p pos : Pos} {t : TA} (hr : Room (k + 1) X.A) (hN : X.N[i]? = some x) (hv : Vis X.env.scope x) (ha : PA X (e :: es) t)
    (hd : (x == ("__debug__" : Str)) = false := by decide) (hcd : (x == ("__classdict__" : Str)) = false := by decide)
    (he : starEach (e :: es) X.env = (false, eval e X.env) :: starEach es X.env := by rfl) (hpl : (backTo pos (starEach es X.env)).any (·.1) = false := by rfl) :
    PE X (.Call (.Name x p) (e :: es) [] pos) (tCallL X k i t) := by
  refine ⟨fun pins s σ H Q I h => ?_⟩
  obtain ⟨f, c', N, q, params, body, scope, hs, hf, ht⟩ := h
  refine wpAny_Call_Name_kw (thn ((pe_var (pos := p) hN hv hd hcd).run pins s σ H (fun v H1 => v = .ref f ∧ H1 = H) I ⟨.ref f, hs, rfl, rfl⟩) fun u s1 ⟨v, H1, I1, r1, q1⟩ => ?_)
  obtain ⟨ev, eH⟩ := q1
  subst ev
  rw [eH] at I1
  obtain rfl : u = Value.ref f := r1
  have fnAt : ∀ {s : Shared} {σ : L2.St} {H : Hp}, Inv X pins σ H s → H f = some (LamO f q params body scope c') → FnAt f s.heap := fun {s σ H} I hf => by
    obtain ⟨pm, ctv, ho⟩ := lamO_at I.hok hf
    exact ⟨_, _, _, _, ho⟩
  refine PySem.W.callWith_F (first := []) (fnAt I1 hf) (thn (ha.run pos pins s1 σ H _ I1 ht) fun us s2 ⟨vs, H2, I2, r, hf2, hc2, S, hl, hb, hrun⟩ => ⟨fnAt I2 hf2, ?_⟩) he hpl
  show wpAny _ _ (call (.ref f) us) _ _ _
  obtain ⟨pm, ctv, ho⟩ := lamO_at I2.hok hf2
  obtain ⟨oc, vs0, t0, hoc, hdc, hvc⟩ := codeO_at I2.hok hc2
  have rc : codeAny (model X.prog X.w) X.A (.call (.ref f) ⟨us, []⟩) (CR C8.CX0 X.stack X.prog X.w H2 s2 Q C8.E0) s2 := by
    refine PySem.W.kla_callFunE hr.depth ho rfl S.co S.gen rfl ⟨c', oc, vs0, t0, rfl, hoc, hdc, hvc⟩ ?_
    rw [hb pm ctv us (by rw [← r.length]; exact hl)]
    refine wpAny_pure (wpAny_newFunctionEnv (fun y hy => (S.nocell y hy).1) (fun y hy => S.par _ (List.of_mem_zip hy).1) (fun h₁ hns hsb => ⟨I2.nolimit.fresh _ hsb, ?_⟩) S.kind)
    show codeAny _ _ (.expr body (envX q scope s2.heap.objs.size f (.ref c') [])) _ _
    have kp : ∀ b o, s2.heap.get? b = some o → h₁.get? b = some o := fun b o e => hsb.extBut b o (Nat.ne_of_lt (Heap.lt_size e)) (Heap.get?_push_of_some _ e)
    have J := inv_startL (X := X) (q := q) (f := f) (c' := c') (E := C8.E0) (t1 := s2.toks + (N.zip us).length) S hr.hd I2.env0 hl r hns kp
    obtain ⟨tb, hb, hq⟩ := hrun X.A X.stack s2 (hr.deeper _)
    refine PySem.W.kla_codeExpr (wpAny_mono (hb.run [] _ _ H2 Q J hq) (fun v s' hq => ?_) fun e s' hq => hq)
    obtain ⟨w', H', J', rv, q⟩ := hq
    exact ⟨w', H', J'.os, J'.bare, J'.base, J'.hok, rv, q⟩
  refine wpAny_call (codeAny_mono rc fun r s' hq => ?_)
  cases r with
  | error e => exact False.elim hq
  | ok fl =>
    cases fl with
    | ret u => exact I2.after hq
    | next => exact False.elim hq
    | brk => exact False.elim hq
    | cont => exact False.elim hq
end My
set_option maxHeartbeats 4000000
/-! What the head tells of own errors whose making begins with super().__init__(text). -/
namespace My
open PySem PySem.W PySem.Calls PySem.Spec PyProof.Rows L2 He
/-- an own error class of the text: its name, its __init__'s qualified name, parameters, body, scope, its fields -/
structure ErrD where
  x : Str
  qual : Str
  params : Arguments
  body : List Stmt
  scope : Scope
  fs : List Str
def ErrD.C (K : Frag) (d : ErrD) : Addr := ga K d.x
def ErrD.f (K : Frag) (d : ErrD) : Addr := ma K (ga K d.x) "__init__"
abbrev ErrW : Type := Option (Str × Str × Arguments × FuncBody × Scope × Addr × List Str × Addr)
def errW (K : Frag) (d : ErrD) : ErrW := match K.lookup (d.f K) with
  | some ⟨_, _, .func fd, _⟩ => some (fd.name, fd.qualname, fd.params, fd.body, fd.scope, fd.globals, fd.closure.map (·.1), fd.builtins)
  | _ => none
def ErrD.val (d : ErrD) : ErrW := some ("__init__", d.qual, d.params, .stmts d.body, d.scope, mainGlobals, ["__class__"], builtinsNs)
def isNone : Value → Bool
  | .none => true
  | _ => false
theorem isNone_ok {v : Value} (h : isNone v = true) : v = .none := by cases v <;> first | rfl | cases h
/-- the class object -/
def shapeB (K : Frag) (C : Addr) : Bool := match K.lookup C with
  | some ⟨.type "type", _, .cls cd, sl⟩ => (match cd.mro, sl.toList with
    | .ref C' :: bm, [_, _, _, _, some (.builtin n), _] => C' == C && n == "ValueError.__new__" && !cd.hasDel && cd.hasDict && PySem.HandSPX.refsVE bm
    | _, _ => false)
  | _ => false
theorem shapeB_ok {K : Frag} {C : Addr} (h : shapeB K C = true) : ∃ nm q N bs bm sn sub ab col dd k0 k1 k2 k3 k5, K.lookup C = some (excClassObj nm q C N bs bm true sn sub ab col dd k0 k1 k2 k3 k5 "ValueError.__new__") ∧ PySem.HandSPX.refsVE bm = true := by
  unfold shapeB at h
  split at h
  · rename_i dd cd sl ho
    split at h
    · rename_i C' bm k0 k1 k2 k3 n k5 hm hs
      simp only [Bool.and_eq_true, beq_iff_eq, Bool.not_eq_true'] at h
      obtain ⟨⟨⟨⟨h1, h2⟩, h3⟩, h4⟩, h5⟩ := h
      subst h1 h2
      obtain ⟨nm, bs, mro, N, q, hdct, sn, sub, ab, col, hdl⟩ := cd
      simp only at hm h3 h4
      subst hm h3 h4
      have es : sl = #[k0, k1, k2, k3, some (.builtin "ValueError.__new__"), k5] := by
        apply Array.ext'
        rw [hs]
      subst es
      exact ⟨_, _, _, _, bm, _, _, _, _, _, _, _, _, _, _, ho, h5⟩
    · cases h
  · cases h
/-- the code object tells the file -/
def fileB (K : Frag) (file : Str) (c : Value) : Bool := match c with
  | .ref a => (match K.lookup a with
    | some ⟨_, _, .fields vs, _⟩ => (match (vs[2]? : Option Value) with
      | some (Value.str f _) => file == f
      | _ => false)
    | _ => false)
  | _ => false
theorem fileB_ok {K : Frag} {file : Str} {c : Value} (h : fileB K file c = true) : ∃ a, c = .ref a ∧ ∃ ccl cdd vs ccs f tf, K.lookup a = some ⟨ccl, cdd, .fields vs, ccs⟩ ∧ vs[2]? = some (.str f tf) ∧ (file == f) = true := by
  unfold fileB at h
  split at h
  · rename_i a
    split at h
    · rename_i ccl cdd vs ccs ho
      split at h
      · rename_i f tf hv
        exact ⟨a, rfl, _, _, _, _, _, _, ho, hv, h⟩
      · cases h
    · cases h
  · cases h
def cellB (K : Frag) (C cc : Addr) : Bool := match K.lookup cc with
  | some ⟨_, _, .cell (some (.ref D)), _⟩ => D == C
  | _ => false
theorem cellB_ok {K : Frag} {C cc : Addr} (h : cellB K C cc = true) : ∃ cl cld csl, K.lookup cc = some ⟨cl, cld, .cell (some (.ref C)), csl⟩ := by
  unfold cellB at h
  split at h
  · rename_i cl cld D csl ho
    have e := beq_iff_eq.mp h
    subst e
    exact ⟨_, _, _, ho⟩
  · cases h
def closB (K : Frag) (C : Addr) : List (Str × Addr) → Bool
  | [(_, cc)] => cellB K C cc
  | _ => false
theorem closB_ok {K : Frag} {C : Addr} {l : List (Str × Addr)} {x : Str} (h : closB K C l = true) (e : l.map (·.1) = [x]) : ∃ cc, l = [(x, cc)] ∧ cellB K C cc = true := by
  match l, h with
  | [(z, cc)], h =>
    have ez : z = x := by simpa using e
    subst ez
    exact ⟨cc, rfl, h⟩
def fnB (K : Frag) (file : Str) (d : ErrD) : Bool := match K.lookup (d.f K) with
  | some ⟨_, _, .func fd, _⟩ => isNone fd.defaults && (codeIn K fd.code d.qual && (fileB K file fd.code && closB K (d.C K) fd.closure))
  | _ => false
def optB (a b : Option (Option Value)) : Bool := decide (a = b)
def errB (K : Frag) (file : Str) (d : ErrD) : Bool :=
  (Fa.glo d.x).ok K && (shapeB K (d.C K) && (fnB K file d && (
  eqO (findIn K (.ref (d.C K)) "__setattr__") (some (some (.builtin "object.__setattr__"))) && (
  decide (subIn K (.ref (d.C K)) (.type "BaseException") = some true) && (
  decide (typeIn K (.ref (d.C K)) = some (.type "type")) && (
  keepIn K (.ref (d.C K)) && (
  eqO (findIn K (.ref (d.C K)) "__init__") (some (some (.ref (d.f K)))) && (
  decide (typeIn K (.ref (d.f K)) = some (.type "function")) && (
  xfB K (d.C K) && (
  eqO (findIn K (.ref (d.C K)) "__class__") (some (some (.builtin "object.__class__"))) && (
  decide (mroIn K (d.C K) (.type "object") = some true) && (
  decide (mroIn K (d.C K) (.ref (d.C K)) = some true) && (
  eqO (ks_superIn K (d.C K) (d.C K) "__init__") (some (some (.builtin "ValueError.__init__"))) && (
  decide (subIn K (.ref (d.C K)) (.type "ValueError") = some true) && (
  (d.fs.all fun y => eqO (findIn K (.ref (d.C K)) y) (some none)) &&
  decide ((d.params.posonlyargs ++ d.params.args).head?.map (·.arg) = some "self"))))))))))))))))
/-- what is so for all of them -/
def sysB (K : Frag) : Bool := match K.lookup sysModules with
  | some o => decide (o.cls = .type "dict")
  | none => false
theorem sysB_ok {K : Frag} (h : sysB K = true) : ∃ o, K.lookup sysModules = some o ∧ o.cls = .type "dict" := by
  unfold sysB at h
  split at h
  · rename_i o ho
    exact ⟨o, ho, of_decide_eq_true h⟩
  · cases h
def allB (K : Frag) : Bool := sysB K && (eqO (nsIn K cStatics "thirdparty.any") (some none) && (eqO (specialIn K (.builtin "object.__class__") "__get__") (some (some (.builtin "getset_descriptor.__get__"))) && decide (takesIn K (.builtin "object.__class__") = some true)))
/-- .. told -/
structure ErrK (P : Program) (K : Frag) (d : ErrD) : Prop where
  gl : (Fa.glo d.x).ok K = true
  oex : OexC K (d.C K)
  iC : findIn K (.ref (d.C K)) "__init__" = some (some (.ref (d.f K)))
  tI : typeIn K (.ref (d.f K)) = some (.type "function")
  xf : XfC K (d.C K)
  ec : ExcC K (d.C K)
  cls : ∃ cd, clsIn K (d.C K) = some cd
  noF : ∀ y ∈ d.fs, findIn K (.ref (d.C K)) y = some none
  fn : ∀ mg : Str → Option Value, mg "super" = none → (P.main.scope.names.lookup ("super" : Str)).isSome = false → ∃ cc cda kV doc pm an ct,
    SupFacts P K mg (d.C K) (d.f K) cc cda (ksFn "__init__" d.qual d.params d.body d.scope .none kV doc pm an (.ref cda) ct cc) "self" ∧ codeIn K (.ref cda) d.qual = true
theorem errK_of {P : Program} {K : Frag} {d : ErrD} (ha : allB K = true) (hb : errB K P.main.file d = true) (hw : errW K d = d.val) : ErrK P K d := by
  unfold errB at hb
  obtain ⟨b1, hb⟩ := ba hb
  obtain ⟨b2, hb⟩ := ba hb
  obtain ⟨b3, hb⟩ := ba hb
  obtain ⟨b4, hb⟩ := ba hb
  obtain ⟨b5, hb⟩ := ba hb
  obtain ⟨b6, hb⟩ := ba hb
  obtain ⟨b7, hb⟩ := ba hb
  obtain ⟨b8, hb⟩ := ba hb
  obtain ⟨b9, hb⟩ := ba hb
  obtain ⟨b10, hb⟩ := ba hb
  obtain ⟨b11, hb⟩ := ba hb
  obtain ⟨b12, hb⟩ := ba hb
  obtain ⟨b13, hb⟩ := ba hb
  obtain ⟨b14, hb⟩ := ba hb
  obtain ⟨b15, hb⟩ := ba hb
  obtain ⟨b16, b17⟩ := ba hb
  obtain ⟨_, ha⟩ := ba ha
  obtain ⟨a1, ha⟩ := ba ha
  obtain ⟨a2, a3⟩ := ba ha
  have xf := xfB_ok b10
  have oex : OexC K (d.C K) := ⟨shapeB_ok b2, eqO_ok b4, of_decide_eq_true b5, of_decide_eq_true b6, b7⟩
  have cls : ∃ cd, clsIn K (d.C K) = some cd := by
    obtain ⟨nm, q, N, bs, bm, sn, sub, ab, col, dd, k0, k1, k2, k3, k5, hC, _⟩ := oex.cls
    exact ⟨_, by unfold clsIn; rw [hC]⟩
  refine ⟨b1, oex, eqO_ok b8, of_decide_eq_true b9, xf, ⟨xf.ga, xf.gg, xf.exC, xf.hdC, eqO_ok b11, eqO_ok a2, of_decide_eq_true a3, of_decide_eq_true b12⟩, cls, fun y hy => eqO_ok (List.all_eq_true.mp b16 y hy), fun mg hs ht => ?_⟩
  unfold fnB at b3
  unfold errW at hw
  cases q : K.lookup (d.f K) with
  | none =>
    rw [q] at b3
    cases b3
  | some o =>
    obtain ⟨oc, od, dt, osl⟩ := o
    rw [q] at b3 hw
    cases dt with
    | func fd =>
      obtain ⟨n1, n2, n3, n4, n5, n6, n7, n8, n9, n10, n11, n12, n13, n14, n15⟩ := fd
      have e2 : (some (n1, n2, n3, n4, n5, n6, n7.map (·.1), n15) : ErrW) = some (("__init__" : Str), d.qual, d.params, FuncBody.stmts d.body, d.scope, mainGlobals, [("__class__" : Str)], builtinsNs) := hw
      simp only [Option.some.injEq, Prod.mk.injEq] at e2
      obtain ⟨h1, h2, h3, h4, h5, h6, h7, h8⟩ := e2
      subst h1 h2 h3 h4 h5 h6 h8
      have c3 : (isNone n8 && (codeIn K n13 d.qual && (fileB K P.main.file n13 && closB K (d.C K) n7))) = true := b3
      obtain ⟨k1, c3⟩ := ba c3
      obtain ⟨k2, c3⟩ := ba c3
      obtain ⟨k3, k4⟩ := ba c3
      have e8 := isNone_ok k1
      subst e8
      obtain ⟨cda, e13, hfile⟩ := fileB_ok k3
      subst e13
      obtain ⟨cc, e7, hcell⟩ := closB_ok k4 h7
      subst e7
      refine ⟨cc, cda, n9, n10, n11, n12, n14, ⟨⟨_, _, _, q⟩, ?_, hfile, cellB_ok hcell, cls, of_decide_eq_true b13, hs, ht, eqO_ok a1, eqO_ok b14, of_decide_eq_true b15, oex⟩, k2⟩
      have hh := of_decide_eq_true b17
      cases hp : (d.params.posonlyargs ++ d.params.args).head? with
      | none =>
        rw [hp] at hh
        cases hh
      | some ar =>
        rw [hp] at hh
        exact ⟨ar, rfl, Option.some.inj hh⟩
    | _ => cases b3
/-! ### the Hook -/
def asY (g : Addr → Option Obj) (n : Nat) : List Addr := cStatics :: sysModules :: asD g n
structure SaysY (file : Str) (fa : List Fa) (fn : List DefD) (tf : List Defn) (es : List ErrD) (ex : Frag → Bool) (h : Heap) (K : Frag) : Prop where
  d : SaysD fa fn K
  all : allB K = true
  err : ∀ e ∈ es, errB K file e = true ∧ errW K e = e.val
  more : ex K = true
  hd : ∀ p ∈ tf, codeHdIn K (cT K p).1 (cT K p).2 = true
  out : ∀ p ∈ tf, K.lookup (cT K p).2 = none
  empty : ∀ p ∈ tf, h.get? (cT K p).2 = some { cls := .none, data := .fields #[] }
abbrev AlY : Type := AlD × Bool × List ErrW
def obsY (n : Nat) (file : Str) (fa : List Fa) (fn : List DefD) (tf : List Defn) (es : List ErrD) (ex : Frag → Bool) (g : Addr → Option Obj) : AlY :=
  (obsD fa fn (frT g (asY g n)), (allB (frT g (asY g n)) && ((es.all fun e => errB (frT g (asY g n)) file e) && (ex (frT g (asY g n)) && tabsB g tf (frT g (asY g n))))), es.map fun e => errW (frT g (asY g n)) e)
def valY (fn : List DefD) (es : List ErrD) : AlY := (valD fn, true, es.map ErrD.val)
theorem saysY_of {n : Nat} {file : Str} {fa : List Fa} {fn : List DefD} {tf : List Defn} {es : List ErrD} {ex : Frag → Bool} {h : Heap} (e : obsY n file fa fn tf es ex h.get? = valY fn es) : SaysY file fa fn tf es ex h (frT h.get? (asY h.get? n)) := by
  have e1 : obsD fa fn (frT h.get? (asY h.get? n)) = valD fn := congrArg (fun z : AlY => z.1) e
  have e2 := congrArg (fun z : AlY => z.2.1) e
  have e3 : es.map (fun e => errW (frT h.get? (asY h.get? n)) e) = es.map ErrD.val := congrArg (fun z : AlY => z.2.2) e
  obtain ⟨h0, e2⟩ := ba e2
  obtain ⟨h1, e2⟩ := ba e2
  obtain ⟨h2, h3⟩ := ba e2
  have key : ∀ p ∈ tf, codeHdIn (frT h.get? (asY h.get? n)) (cT (frT h.get? (asY h.get? n)) p).1 (cT (frT h.get? (asY h.get? n)) p).2 = true ∧ ∃ o, h.get? (cT (frT h.get? (asY h.get? n)) p).2 = some o ∧ emptyTab o = true := fun p hp => by
    obtain ⟨h3, h4⟩ := ba (List.all_eq_true.mp h3 p hp)
    refine ⟨h3, ?_⟩
    cases q : h.get? (cT (frT h.get? (asY h.get? n)) p).2 with
    | none =>
      rw [q] at h4
      cases h4
    | some o =>
      rw [q] at h4
      exact ⟨o, rfl, h4⟩
  refine ⟨e1, h0, fun d hd => ⟨List.all_eq_true.mp h1 d hd, ?_⟩, h2, fun p hp => (key p hp).1, fun p hp => ?_, fun p hp => ?_⟩
  · obtain ⟨i, hi, ei⟩ := List.mem_iff_getElem.mp hd
    have e4 : (es.map fun e => errW (frT h.get? (asY h.get? n)) e)[i]? = (es.map ErrD.val)[i]? := by rw [e3]
    rw [List.getElem?_map, List.getElem?_map, List.getElem?_eq_getElem hi, ei] at e4
    exact Option.some.inj e4
  · obtain ⟨_, o, q, z⟩ := key p hp
    exact frT_none q z
  · obtain ⟨_, o, q, z⟩ := key p hp
    rw [q, emptyTab_eq z]
def hookY (n : Nat) (file : Str) (fa : List Fa) (fn : List DefD) (tf : List Defn) (es : List ErrD) (ex : Frag → Bool) : Hook where
  α := AlY
  obs := fun s => obsY n file fa fn tf es ex s.heap.get?
  val := fun _ => valY fn es
  says := fun _ h => ∃ K : Frag, K.In h ∧ SaysY file fa fn tf es ex h K
  of := fun _ _ e => ⟨_, frT_in, saysY_of e⟩
  keeps := fun _ _ _ ⟨K, hK, c⟩ k => ⟨K, Frag.In.keeps hK k, ⟨c.d, c.all, c.err, c.more, c.hd, c.out, fun p hp => k _ _ (c.empty p hp)⟩⟩
theorem obsY_eq {n : Nat} {file : Str} {fa : List Fa} {fn : List DefD} {tf : List Defn} {es : List ErrD} {ex : Frag → Bool} {g : Addr → Option Obj} {s : Shared} (h : ∀ a, g a = s.heap.get? a) : obsY n file fa fn tf es ex g = (hookY n file fa fn tf es ex).obs s := by
  have e : g = s.heap.get? := funext h
  rw [e] <;> rfl
end My
set_option maxHeartbeats 4000000
/-! One head looked at twice: two runs, each of which asks for a part of the facts (less memory at once). -/
namespace My
open PySem PySem.W PySem.Calls PySem.Spec PyProof.Rows L2 He
def hookYY (n : Nat) (file : Str) (fa : List Fa) (fn : List DefD) (tf : List Defn) (e1 e2 : List ErrD) (x1 x2 : Frag → Bool) : Hook where
  α := AlY × AlY
  obs := fun s => (obsY n file fa fn tf e1 x1 s.heap.get?, obsY n file [] [] [] e2 x2 s.heap.get?)
  val := fun _ => (valY fn e1, valY [] e2)
  says := fun _ h => ∃ K : Frag, K.In h ∧ SaysY file fa fn tf (e1 ++ e2) (fun K => x1 K && x2 K) h K
  of := fun _ _ e => by
    have a := saysY_of (congrArg Prod.fst e)
    have b := saysY_of (congrArg Prod.snd e)
    exact ⟨_, frT_in, ⟨a.d, a.all, fun z hz => (List.mem_append.mp hz).elim (a.err z) (b.err z), Bool.and_eq_true_iff.mpr ⟨a.more, b.more⟩, a.hd, a.out, a.empty⟩⟩
  keeps := fun _ _ _ ⟨K, hK, c⟩ k => ⟨K, Frag.In.keeps hK k, ⟨c.d, c.all, c.err, c.more, c.hd, c.out, fun p hp => k _ _ (c.empty p hp)⟩⟩
/-- two looks at one run -/
theorem run_two {r : OpenRow} {q : Program} {H1 H2 H : Hook} {ob1 : SharedT → H1.α} {ob2 : SharedT → H2.α} {ob : SharedT → H.α} {M : Nat} {loose : List Str} {w : World} (pr : H1.α → H2.α → H.α) (ho : ∀ s, ob s = pr (ob1 s) (ob2 s)) (hv : H.val w = pr (H1.val w) (H2.val w))
    (a : HandSHeadRun.RunEq r q H1 ob1 M loose w) (b : HandSHeadRun.RunEq r q H2 ob2 M loose w) : HandSHeadRun.RunEq r q H ob M loose w := fun os => by
  obtain ⟨s, hs, e1⟩ := Option.map_eq_some_iff.mp (a os)
  obtain ⟨s', hs', e2⟩ := Option.map_eq_some_iff.mp (b os)
  rw [hs] at hs'
  cases hs'
  rw [hs]
  simp only [Prod.mk.injEq] at e1 e2
  obtain ⟨l1, l2, l3⟩ := e1
  obtain ⟨_, _, m3⟩ := e2
  show some (_, _, ob s) = _
  rw [l1, l2, ho, l3, m3, ← hv]
end My
set_option maxHeartbeats 0
/-! law_k00: the text by places, the head's run. Made by a script from the law's text. -/
namespace K00
open PySem PySem.W PySem.Spec PyProof.Rows L2 He My
def top (i : Nat) : Stmt := PySem.Challenge.pw_twoslots_k00_errors_made.main.body.getD i (.Pass ⟨0, 0, 0, 0⟩)
def eS (i : Nat) : Stmt := (C8.clsBody (top i)).getD 0 (.Pass ⟨0, 0, 0, 0⟩)
def eD (x qual : Str) (i : Nat) (fs : List Str) : ErrD := ⟨x, qual, C8.fnArgs (eS i), C8.fnBody (eS i), C8.fnScope (eS i), fs⟩
def dD (x : Str) (i : Nat) : DefD := ⟨(x, none), x, x, C8.fnArgs (top i), C8.fnBody (top i), C8.fnScope (top i), [], []⟩
def es : List ErrD := [
  eD "BadBegun" "BadBegun.__init__" 2 ["thing"],
  eD "BadBox" "BadBox.__init__" 3 ["thing"],
  eD "BadCells" "BadCells.__init__" 4 ["thing"],
  eD "BadChain" "BadChain.__init__" 5 ["thing"],
  eD "BadCount" "BadCount.__init__" 6 ["thing"],
  eD "BadDeed" "BadDeed.__init__" 7 ["thing"],
  eD "BadHeld" "BadHeld.__init__" 8 ["index"],
  eD "BadHours" "BadHours.__init__" 9 ["index"],
  eD "BadLine" "BadLine.__init__" 10 ["thing"],
  eD "BadLines" "BadLines.__init__" 11 ["index"],
  eD "BadListing" "BadListing.__init__" 12 ["index"],
  eD "BadMany" "BadMany.__init__" 13 ["thing"],
  eD "BadNumber" "BadNumber.__init__" 14 ["thing"],
  eD "BadOrder" "BadOrder.__init__" 15 ["thing"],
  eD "BadPairs" "BadPairs.__init__" 16 ["index"],
  eD "BadPlace" "BadPlace.__init__" 17 ["thing"],
  eD "BadPlan" "BadPlan.__init__" 18 ["thing"],
  eD "BadProgram" "BadProgram.__init__" 19 ["thing"],
  eD "BadQuestion" "BadQuestion.__init__" 20 ["thing"],
  eD "BadReads" "BadReads.__init__" 21 ["index"],
  eD "BadRow" "BadRow.__init__" 22 ["index"],
  eD "BadRows" "BadRows.__init__" 23 ["index"],
  eD "BadSeen" "BadSeen.__init__" 24 ["index"],
  eD "BadSession" "BadSession.__init__" 25 ["thing"],
  eD "BadSome" "BadSome.__init__" 26 ["index"],
  eD "BadSource" "BadSource.__init__" 27 ["thing"],
  eD "BadSpots" "BadSpots.__init__" 28 ["index"],
  eD "BadTeller" "BadTeller.__init__" 29 ["thing"],
  eD "BadTells" "BadTells.__init__" 30 ["index"],
  eD "BadText" "BadText.__init__" 31 ["line", "sign"],
  eD "InUse" "InUse.__init__" 32 ["question"],
  eD "IsWatched" "IsWatched.__init__" 33 ["question"],
  eD "NoCell" "NoCell.__init__" 34 ["thing"],
  eD "NoCount" "NoCount.__init__" 35 ["thing"],
  eD "NoHour" "NoHour.__init__" 36 ["hour"],
  eD "NoLine" "NoLine.__init__" 37 ["thing"],
  eD "NoSpot" "NoSpot.__init__" 38 ["hour", "slot"],
  eD "NoText" "NoText.__init__" 39 ["index"],
  eD "NoThing" "NoThing.__init__" 40 ["thing"],
  eD "NoTold" "NoTold.__init__" 41 ["thing"],
  eD "NotSound" "NotSound.__init__" 42 ["fault"],
  eD "NotWatched" "NotWatched.__init__" 43 ["question"],
  eD "WouldChange" "WouldChange.__init__" 44 ["question", "why"]]
def fn : List DefD := [dD "_law_start" 46, dD "_law_draw" 47, dD "_law_mixed" 48, dD "_law_made_a" 49, dD "_law_made_b" 50, dD "_law_made_c" 51, dD "_law_kinds_a" 52, dD "_law_kinds_b" 53, dD "_law_kinds_c" 54, dD "_law_kinds" 55, dD "_law_is_own" 56, dD "_law_are_these" 57, dD "law" 58]
def fa : List Fa := [.glo "_law_start", .glo "_law_draw", .glo "_law_mixed", .glo "_law_made_a", .glo "_law_made_b", .glo "_law_made_c", .glo "_law_kinds_a", .glo "_law_kinds_b", .glo "_law_kinds_c", .glo "_law_kinds", .glo "_law_is_own", .glo "_law_are_these", .glo "law", .free "len", .free "list", .free "range", .free "int", .free "isinstance", .free "repr", .free "enumerate", .free "super", .free "ValueError", .free "LookupError", .glo "SlotError"]
def tf : List Defn := [("_law_made_a", none), ("_law_made_b", none), ("_law_made_c", none)]
def S (K : Frag) : Addr := ga K "SlotError"
/-- which kinds an error is of -/
def mroB (K : Frag) (d : ErrD) : Bool := match clsIn K (d.C K) with
  | some cd => cd.mro == [.ref (d.C K), .ref (S K), .type "ValueError", .type "Exception", .type "BaseException", .type "object"]
  | none => false
def ndB : List Nat → Bool
  | [] => true
  | a :: r => r.all (fun b => !Nat.beq a b) && ndB r
def kindB (K : Frag) : Bool := es.all (fun d => mroB K d) && (ndB (S K :: es.map fun d => d.C K) && (decide (subIn K (.ref (S K)) (.type "ValueError") = some true) && match clsIn K (S K) with
  | some cd => cd.mro == [.ref (S K), .type "ValueError", .type "Exception", .type "BaseException", .type "object"]
  | none => false))
def baseB (K : Frag) : Bool := shapeB K (S K) && (xfB K (S K) && (eqO (findIn K (.ref (S K)) "__class__") (some (some (.builtin "object.__class__"))) && (decide (mroIn K (S K) (.type "object") = some true) && (keepIn K (.ref (S K)) && (excIn K (S K) veBase "ValueError.__new__" && (decide (typeIn K (.ref (S K)) = some (.type "type")) && eqO (findIn K (.ref (S K)) "__init__") (some (some (.builtin "ValueError.__init__")))))))))
def es1 : List ErrD := es.take 20
def es2 : List ErrD := es.drop 20
def x1 (K : Frag) : Bool := baseB K && ndB (tf.map fun p => (cT K p).2)
def x2 (K : Frag) : Bool := kindB K
def ex (K : Frag) : Bool := x1 K && x2 K
abbrev R : OpenRow := OpenLaw.row PySem.Challenge.rw_twoslots_k00_errors_made
def file : Str := R.prog.main.file
abbrev hk1 : Hook := hookY 4 file fa fn tf es1 x1
abbrev hk2 : Hook := hookY 4 file [] [] [] es2 x2
abbrev hk : Hook := hookYY 4 file fa fn tf es1 es2 x1 x2
def ob1 (s : SharedT) : AlY := obsY 4 file fa fn tf es1 x1 (HandSHeadRun.getT s)
def ob2 (s : SharedT) : AlY := obsY 4 file [] [] [] es2 x2 (HandSHeadRun.getT s)
def ob (s : SharedT) : AlY × AlY := (ob1 s, ob2 s)
theorem ob_eq (s : SharedT) : ob s = hk.obs s.abs := by
  have a : ob1 s = hk1.obs s.abs := obsY_eq (HandSHeadRun.getT_eq s)
  have b : ob2 s = hk2.obs s.abs := obsY_eq (HandSHeadRun.getT_eq s)
  exact Prod.ext a b
def loose0 : List Str := ["SlotError", "BadBegun", "BadBox", "BadCells", "BadChain", "BadCount", "BadDeed", "BadHeld", "BadHours", "BadLine", "BadLines", "BadListing", "BadMany", "BadNumber", "BadOrder", "BadPairs", "BadPlace", "BadPlan", "BadProgram", "BadQuestion", "BadReads", "BadRow", "BadRows", "BadSeen", "BadSession", "BadSome", "BadSource", "BadSpots", "BadTeller", "BadTells"]
def loose1 : List Str := ["BadText", "InUse", "IsWatched", "NoCell", "NoCount", "NoHour", "NoLine", "NoSpot", "NoText", "NoThing", "NoTold", "NotSound", "NotWatched", "WouldChange", "_law_start", "_law_draw", "_law_mixed", "_law_made_a", "_law_made_b", "_law_made_c", "_law_kinds_a", "_law_kinds_b", "_law_kinds_c", "_law_kinds", "_law_is_own", "_law_are_these"]
def loose : List Str := loose0 ++ loose1
def lawAt : Nat := 58
end K00
set_option maxHeartbeats 0
namespace K00
open PySem PySem.W PySem.Spec PyProof.Rows L2 He My
theorem runA (w : World) : HandSHeadRun.RunEq R (view R.prog [lawAt]) hk1 ob1 12500 loose w := by
  intro os
  kernel_rfl
theorem runB (w : World) : HandSHeadRun.RunEq R (view R.prog [lawAt]) hk2 ob2 12500 loose w := by
  intro os
  kernel_rfl
theorem run (w : World) : HandSHeadRun.RunEq R (view R.prog [lawAt]) hk ob 12500 loose w := run_two Prod.mk (fun _ => rfl) rfl (runA w) (runB w)
end K00
set_option maxHeartbeats 4000000
/-! One entry of what law_k00 makes: an error by place, one by keyword, a lambda, a list. -/
namespace My
open PySem PySem.W PySem.Calls PySem.Spec PyProof.Rows L2 He LamX
/-! ### heaps in which all but the tables stays -/
theorem extN_upd {H : Hp} {a : Addr} {o : HO} (h : H a = none) : ExtN H (upd H a o) := ExtN.of fun b u e => by rw [upd_ne (ne_of_none e h)]; exact e
theorem ErrO.ext {H H' : Hp} {a C : Addr} {fs : List (Str × V)} (h : ErrO H a C fs) (e : ExtN H H') : ErrO H' a C fs := by
  obtain ⟨d, h1, h2⟩ := h
  exact ⟨d, e _ _ h1 (fun ps z => by cases z), e _ _ h2 (fun ps z => by cases z)⟩
/-- the lambda's text does what is asked: of an error of class C with these fields it tells a new list of values -/
structure LamGood (P : Program) (w : World) (K : Frag) (mg : Str → Option Value) (base : Heap) (q : Str) (params : Arguments) (body : Expr) (scope : Scope) (C : Addr) (fs : List (Str × V)) (xs : List V) : Prop where
  sc : LamScope ["e"] scope
  bind : ∀ c' pm ctv (us : List Value), us.length = 1 → bindArgs (kla_fn "<lambda>" q params body scope [] pm (.ref c') ctv) ⟨us, []⟩ = pure ([("e" : Str)].zip us)
  run : ∀ (X : Cx), X.prog = P → X.w = w → X.K = K → X.mg = mg → X.base = base → ∀ (f c' : Addr) (A : Around) (outer : List Env) (s : Shared) (H : Hp), ∃ tb, PE (cxL X ["e"] q scope f c' A outer s H C8.E0) body tb ∧
    ∀ (a : Addr) (Q : VK), ErrO H a C fs → (∀ p, H p = none → Q (.ref p) (upd H p (.lst xs))) → tb [some (.ref a)] H Q
/-- one entry: at v a tuple of two errors, a lambda, a list; the list is not at l -/
structure Entry (P : Program) (w : World) (K : Frag) (mg : Str → Option Value) (base : Heap) (H0 H : Hp) (l : Addr) (C : Addr) (fs : List (Str × V)) (xs : List V) (v : V) : Prop where
  ex : ∃ (t m n f u c' : Addr) (q : Str) (params : Arguments) (body : Expr) (scope : Scope), v = .ref t ∧ H t = some (.tup [.ref m, .ref n, .ref f, .ref u]) ∧ ErrO H m C fs ∧ ErrO H n C fs ∧ H f = some (LamO f q params body scope c') ∧
    H c' = some (CodeO c' q) ∧ H u = some (.lst xs) ∧ (u ≠ l ∧ ∀ o, H0 u = some o → ∃ ps, o = .tbl ps) ∧ LamGood P w K mg base q params body scope C fs xs
section
variable {P : Program} {w : World} {K : Frag} {mg : Str → Option Value} {base : Heap} {H0 H H' : Hp} {l C : Addr} {fs : List (Str × V)} {xs : List V} {v : V}
theorem Entry.ext (h : Entry P w K mg base H0 H l C fs xs v) (e : ExtN H H') : Entry P w K mg base H0 H' l C fs xs v := by
  obtain ⟨t, m, n, f, u, c', q, params, body, scope, h1, h2, h3, h4, h5, h6, h7, h8, h9⟩ := h.ex
  exact ⟨t, m, n, f, u, c', q, params, body, scope, h1, e _ _ h2 (fun ps z => by cases z), h3.ext e, h4.ext e, e _ _ h5 (fun ps z => by cases z), e _ _ h6 codeO_ne, e _ _ h7 (fun ps z => by cases z), h8, h9⟩
/-- the list at l is written -/
theorem Entry.put (h : Entry P w K mg base H0 H l C fs xs v) {ys zs : List V} (hl : H l = some (.lst ys)) : Entry P w K mg base H0 (upd H l (.lst zs)) l C fs xs v := by
  obtain ⟨t, m, n, f, u, c', q, params, body, scope, h1, h2, h3, h4, h5, h6, h7, h8, h9⟩ := h.ex
  have ne : ∀ {b : Addr} {o : HO}, H b = some o → o ≠ .lst ys → b ≠ l := fun {b o} e n z => by
    rw [z, hl] at e
    exact n (Option.some.inj e).symm
  have err : ∀ {a : Addr}, ErrO H a C fs → ErrO (upd H l (.lst zs)) a C fs := fun {a} ⟨d, e1, e2⟩ => ⟨d, by rw [upd_ne (ne e1 fun z => by cases z)]; exact e1, by rw [upd_ne (ne e2 fun z => by cases z)]; exact e2⟩
  exact ⟨t, m, n, f, u, c', q, params, body, scope, h1, by rw [upd_ne (ne h2 fun z => by cases z)]; exact h2, err h3, err h4, by rw [upd_ne (ne h5 fun z => by cases z)]; exact h5,
    by rw [upd_ne (ne h6 fun z => by unfold CodeO at z; cases z)]; exact h6, by rw [upd_ne h8.1]; exact h7, h8, h9⟩
end
/-! ### the lambdas' bodies -/
section
variable {P : Program} {w : World} {K : Frag} {mg : Str → Option Value} {base : Heap} {q : Str} {params : Arguments} {scope : Scope} {C : Addr} {x y : V} {f1 f2 : Str} {p1 p2 p3 p4 p5 : Pos}
theorem lam1 (sc : LamScope ["e"] scope) (bind : ∀ c' pm ctv (us : List Value), us.length = 1 → bindArgs (kla_fn "<lambda>" q params (.List [.Attribute (.Name "e" p1) f1 p2] p3) scope [] pm (.ref c') ctv) ⟨us, []⟩ = pure ([("e" : Str)].zip us))
    (T : XfC K C) (h1 : PySem.W.findIn K (.ref C) f1 = some none) : LamGood P w K mg base q params (.List [.Attribute (.Name "e" p1) f1 p2] p3) scope C [(f1, x)] [x] where
  sc := sc
  bind := bind
  run := fun X e1 e2 e3 e4 e5 f c' A outer s H => by
    refine ⟨_, pe_lst (pa_cons (pe_ofld (pe_var (i := 0) rfl (.inl (sc.par _ (by simp))))) pa_nil), fun a Q he h => ?_⟩
    subst e3
    exact ⟨_, rfl, a, C, [(f1, x)], x, rfl, he, T, h1, by simp [List.lookup], (by show 1 ≤ sizeLine; decide), h⟩
theorem lam2 (sc : LamScope ["e"] scope) (bind : ∀ c' pm ctv (us : List Value), us.length = 1 → bindArgs (kla_fn "<lambda>" q params (.List [.Attribute (.Name "e" p1) f1 p2, .Attribute (.Name "e" p3) f2 p4] p5) scope [] pm (.ref c') ctv) ⟨us, []⟩ = pure ([("e" : Str)].zip us))
    (T : XfC K C) (h1 : PySem.W.findIn K (.ref C) f1 = some none) (h2 : PySem.W.findIn K (.ref C) f2 = some none) (hf : (f1 == f2) = false) : LamGood P w K mg base q params (.List [.Attribute (.Name "e" p1) f1 p2, .Attribute (.Name "e" p3) f2 p4] p5) scope C [(f2, y), (f1, x)] [x, y] where
  sc := sc
  bind := bind
  run := fun X e1 e2 e3 e4 e5 f c' A outer s H => by
    refine ⟨_, pe_lst (pa_cons (pe_ofld (pe_var (i := 0) rfl (.inl (sc.par _ (by simp))))) (pa_cons (pe_ofld (pe_var (i := 0) rfl (.inl (sc.par _ (by simp))))) pa_nil)), fun a Q he h => ?_⟩
    subst e3
    exact ⟨_, rfl, a, C, _, x, rfl, he, T, h1, by simp [List.lookup, hf], _, rfl, a, C, _, y, rfl, he, T, h2, by simp [List.lookup], (by show 2 ≤ sizeLine; decide), h⟩
end
end My
set_option maxHeartbeats 4000000
namespace My
open PySem PySem.W PySem.Calls PySem.Spec PyProof.Rows L2 He LamX
theorem pe_mono {X : Cx} {e : Expr} {t t' : TE} (p : PE X e t) (h : ∀ σ H Q, t' σ H Q → t σ H Q) : PE X e t' := ⟨fun pins s σ H Q I k => p.run pins s σ H Q I (h _ _ _ k)⟩
theorem ps_mono {X : Cx} {e : Stmt} {t t' : TS} (p : PS X e t) (h : ∀ D σ H, t' D σ H → t D σ H) : PS X e t' := ⟨fun pins s σ H D I k => p.run pins s σ H D I (h _ _ _ k)⟩
def Kept (H H' : Hp) : Prop := ∀ b o, H b = some o → H' b = some o
theorem Kept.n {H H' : Hp} (h : Kept H H') : ExtN H H' := ExtN.of h
/-- how an own error with one field is made -/
structure Mk1 (P : Program) (w : World) (K : Frag) (mg : Str → Option Value) (base : Heap) (x : Str) (C : Addr) (f1 : Str) : Prop where
  oex : OexC K C
  xf : XfC K C
  h1 : PySem.W.findIn K (.ref C) f1 = some none
  hm : mg x = some (.ref C)
  fn : ∃ fI fd, PySem.W.findIn K (.ref C) "__init__" = some (some (.ref fI)) ∧ PySem.W.typeIn K (.ref fI) = some (.type "function") ∧ FnOk P w K mg base C8.CX0 1 fI fd ["self", f1] (spE1 C f1) ∧
    KBn K fd ["self", f1] 2 [] (fun us _ => us) (fun vs _ => vs) ∧ KBn K fd ["self", f1] 1 [f1] (fun us ws => us ++ ws) (fun vs zs => vs ++ zs)
/-- with two -/
structure Mk2 (P : Program) (w : World) (K : Frag) (mg : Str → Option Value) (base : Heap) (x : Str) (C : Addr) (f1 f2 : Str) : Prop where
  oex : OexC K C
  xf : XfC K C
  h1 : PySem.W.findIn K (.ref C) f1 = some none
  h2 : PySem.W.findIn K (.ref C) f2 = some none
  hm : mg x = some (.ref C)
  fn : ∃ fI fd, PySem.W.findIn K (.ref C) "__init__" = some (some (.ref fI)) ∧ PySem.W.typeIn K (.ref fI) = some (.type "function") ∧ FnOk P w K mg base C8.CX0 1 fI fd ["self", f1, f2] (spE2 C f1 f2) ∧
    KBn K fd ["self", f1, f2] 3 [] (fun us _ => us) (fun vs _ => vs) ∧ KBn K fd ["self", f1, f2] 1 [f2, f1] (fun us ws => us ++ ws.reverse) (fun vs zs => vs ++ zs.reverse)
theorem errO_new {H : Hp} {a dx C : Addr} {fs : List (Str × V)} (ha : H a = none) (hd : upd H a (exo a C none) dx = none) (hne : dx ≠ a) :
    ErrO (upd (upd (upd H a (exo a C none)) dx (exd dx fs)) a (exo a C (some dx))) a C fs ∧ Kept H (upd (upd (upd H a (exo a C none)) dx (exd dx fs)) a (exo a C (some dx))) := by
  have hd' : H dx = none := by rw [upd_ne hne] at hd; exact hd
  refine ⟨⟨dx, upd_same, by rw [upd_ne hne, upd_same]⟩, fun b o e => ?_⟩
  have n1 : b ≠ a := ne_of_none e ha
  have n2 : b ≠ dx := ne_of_none e hd'
  rw [upd_ne n1, upd_ne n2, upd_ne n1]
  exact e
theorem errO_new2 {H : Hp} {a dx C : Addr} {f1 f2 : List (Str × V)} (ha : H a = none) (hd : upd H a (exo a C none) dx = none) (hne : dx ≠ a) :
    ErrO (upd (upd (upd (upd H a (exo a C none)) dx (exd dx f1)) a (exo a C (some dx))) dx (exd dx f2)) a C f2 ∧ Kept H (upd (upd (upd (upd H a (exo a C none)) dx (exd dx f1)) a (exo a C (some dx))) dx (exd dx f2)) := by
  have hd' : H dx = none := by rw [upd_ne hne] at hd; exact hd
  refine ⟨⟨dx, by rw [upd_ne (Ne.symm hne), upd_same], upd_same⟩, fun b o e => ?_⟩
  have n1 : b ≠ a := ne_of_none e ha
  have n2 : b ≠ dx := ne_of_none e hd'
  rw [upd_ne n2, upd_ne n1, upd_ne n2, upd_ne n1]
  exact e
def tErr1 (C : Addr) (f1 : Str) (i : Nat) : TE := fun σ H Q => ∃ v, σ[i]? = some (some v) ∧ ∀ a H2, ErrO H2 a C [(f1, v)] → Kept H H2 → Q (.ref a) H2
def tErr2 (C : Addr) (f1 f2 : Str) (i j : Nat) : TE := fun σ H Q => ∃ v u, σ[i]? = some (some v) ∧ σ[j]? = some (some u) ∧ ∀ a H2, ErrO H2 a C [(f2, u), (f1, v)] → Kept H H2 → Q (.ref a) H2
section
variable {X : Cx} {x y z : Str} {C : Addr} {f1 f2 : Str} {i j : Nat} {p pos p1 p2 kp kp2 : Pos}
theorem pe_mk1 (M : Mk1 X.prog X.w X.K X.mg X.base x C f1) (hr : Room 2 X.A) (hg : Gl X x) (hN : X.N[i]? = some y) (hv : Vis X.env.scope y) (hd : (y == ("__debug__" : Str)) = false := by decide) (hcd : (y == ("__classdict__" : Str)) = false := by decide) (hdb : (x == ("__debug__" : Str)) = false := by decide) :
    PE X (.Call (.Name x p) [.Name y p1] [] pos) (tErr1 C f1 i) := by
  obtain ⟨fI, fd, iC, tI, F, bP, bK⟩ := M.fn
  refine pe_mono (pe_oexV (n := 1) M.oex iC tI F hr bP (C8.pass0 (E := fun _ _ _ => False)) hg M.hm (pa_cons (pe_var hN hv hd hcd) pa_nil) hdb) fun σ H Q ⟨v, hσ, h⟩ => ?_
  refine ⟨v, hσ, rfl, rfl, (by show 1 ≤ 1000; decide), fun a ha => ⟨a, v, rfl, upd_same, fun dx hn hne => ⟨rfl, ?_⟩⟩⟩
  obtain ⟨k1, k2⟩ := errO_new (C := C) (fs := [(f1, v)]) ha hn hne
  exact h a _ k1 k2
theorem pe_mk1K (M : Mk1 X.prog X.w X.K X.mg X.base x C f1) (hr : Room 2 X.A) (hg : Gl X x) (hN : X.N[i]? = some y) (hv : Vis X.env.scope y) (hd : (y == ("__debug__" : Str)) = false := by decide) (hcd : (y == ("__classdict__" : Str)) = false := by decide) (hdb : (x == ("__debug__" : Str)) = false := by decide) :
    PE X (.Call (.Name x p) [] [⟨some f1, .Name y p1, kp⟩] pos) (tErr1 C f1 i) := by
  obtain ⟨fI, fd, iC, tI, F, bP, bK⟩ := M.fn
  refine pe_mono (pe_oexK M.oex iC tI F hr bK (C8.pass0 (E := fun _ _ _ => False)) hg M.hm (pk_cons (pe_var hN hv hd hcd) pk_nil) rfl rfl hdb) fun σ H Q ⟨v, hσ, h⟩ => ?_
  refine ⟨v, hσ, rfl, rfl, (Nat.zero_le _), fun a ha => ⟨a, v, rfl, upd_same, fun dx hn hne => ⟨rfl, ?_⟩⟩⟩
  obtain ⟨k1, k2⟩ := errO_new (C := C) (fs := [(f1, v)]) ha hn hne
  exact h a _ k1 k2
theorem pe_mk2 (M : Mk2 X.prog X.w X.K X.mg X.base x C f1 f2) (hr : Room 2 X.A) (hg : Gl X x) (hN : X.N[i]? = some y) (hv : Vis X.env.scope y) (hN2 : X.N[j]? = some z) (hv2 : Vis X.env.scope z) (hd : (y == ("__debug__" : Str)) = false := by decide) (hcd : (y == ("__classdict__" : Str)) = false := by decide)
    (hd2 : (z == ("__debug__" : Str)) = false := by decide) (hcd2 : (z == ("__classdict__" : Str)) = false := by decide) (hdb : (x == ("__debug__" : Str)) = false := by decide) : PE X (.Call (.Name x p) [.Name y p1, .Name z p2] [] pos) (tErr2 C f1 f2 i j) := by
  obtain ⟨fI, fd, iC, tI, F, bP, bK⟩ := M.fn
  refine pe_mono (pe_oexV (n := 2) M.oex iC tI F hr bP (C8.pass0 (E := fun _ _ _ => False)) hg M.hm (pa_cons (pe_var hN hv hd hcd) (pa_cons (pe_var hN2 hv2 hd2 hcd2) pa_nil)) hdb) fun σ H Q ⟨v, u, hσ, hσ2, h⟩ => ?_
  refine ⟨v, hσ, u, hσ2, rfl, rfl, (by show 2 ≤ 1000; decide), fun a ha => ⟨a, v, u, rfl, upd_same, fun dx hn hne => ⟨rfl, ?_⟩⟩⟩
  obtain ⟨k1, k2⟩ := errO_new2 (C := C) (f1 := [(f1, v)]) (f2 := [(f2, u), (f1, v)]) ha hn hne
  exact h a _ k1 k2
/-- C(f2 = z, f1 = y) -/
theorem pe_mk2K (M : Mk2 X.prog X.w X.K X.mg X.base x C f1 f2) (hr : Room 2 X.A) (hg : Gl X x) (hN : X.N[i]? = some y) (hv : Vis X.env.scope y) (hN2 : X.N[j]? = some z) (hv2 : Vis X.env.scope z) (hd : (y == ("__debug__" : Str)) = false := by decide) (hcd : (y == ("__classdict__" : Str)) = false := by decide)
    (hd2 : (z == ("__debug__" : Str)) = false := by decide) (hcd2 : (z == ("__classdict__" : Str)) = false := by decide) (hdb : (x == ("__debug__" : Str)) = false := by decide) : PE X (.Call (.Name x p) [] [⟨some f2, .Name z p2, kp2⟩, ⟨some f1, .Name y p1, kp⟩] pos) (tErr2 C f1 f2 i j) := by
  obtain ⟨fI, fd, iC, tI, F, bP, bK⟩ := M.fn
  refine pe_mono (pe_oexK M.oex iC tI F hr bK (C8.pass0 (E := fun _ _ _ => False)) hg M.hm (pk_cons (pe_var hN2 hv2 hd2 hcd2) (pk_cons (pe_var hN hv hd hcd) pk_nil)) rfl rfl hdb) fun σ H Q ⟨v, u, hσ, hσ2, h⟩ => ?_
  refine ⟨u, hσ2, v, hσ, rfl, rfl, by decide, fun a ha => ⟨a, v, u, rfl, upd_same, fun dx hn hne => ⟨rfl, ?_⟩⟩⟩
  obtain ⟨k1, k2⟩ := errO_new2 (C := C) (f1 := [(f1, v)]) (f2 := [(f2, u), (f1, v)]) ha hn hne
  exact h a _ k1 k2
end
end My
set_option maxHeartbeats 4000000
namespace My
open PySem PySem.W PySem.Calls PySem.Spec PyProof.Rows L2 He LamX
theorem kept_upd {H : Hp} {a : Addr} {o : HO} (h : H a = none) : Kept H (upd H a o) := fun b u e => by rw [upd_ne (ne_of_none e h)]; exact e
/-- found.append((..)): one entry more -/
def tEnt (P : Program) (w : World) (K : Frag) (mg : Str → Option Value) (base : Heap) (H0 : Hp) (T : List (Addr × Str)) (C : Addr) (jl : Nat) (ok : L2.St → List (Str × V) → List V → Prop) : TS := fun D σ H => ∃ l ys fs xs, σ[jl]? = some (some (V.ref l)) ∧ H l = some (.lst ys) ∧ ys.length < 1000 ∧ ok σ fs xs ∧ Tabs T H ∧ (∀ b o, b ≠ l → H0 b = some o → (∀ ps, o ≠ .tbl ps) → H b = some o) ∧
  ∀ H' u, ExtN H H' → Tabs T H' → H' l = some (.lst ys) → Entry P w K mg base H0 H' l C fs xs u → D.nx σ (upd H' l (.lst (ys ++ [u])))
section
variable {X : Cx} {x y z fo : Str} {C c Pt : Addr} {f1 f2 : Str} {i j jl : Nat} {T : List (Addr × Str)} {H0 : Hp} {params : Arguments} {body : Expr} {scope : Scope} {p1 ap cp ep tp c1 c2 x1 x2 x3 kp lp op q1 q2 q3 q4 q5 kp2 : Pos} {tk : Nat}
/-- what is said of the lambda behind the errors, the list -/
theorem ent_end {P : Program} {w : World} {K : Frag} {mg : Str → Option Value} {base : Heap} {q : Str} {H0 H H1 H2 H3 : Hp} {l m n f c' : Addr} {ys : List V} {fs : List (Str × V)} {xs : List V} (k1 : Kept H H1) (k2 : Kept H1 H2) (e3 : ExtN H2 H3) (hl : H l = some (.lst ys)) (em : ErrO H1 m C fs) (en : ErrO H2 n C fs)
    (t3 : Tabs T H3) (hf : H3 f = none) (hc : H3 c' = some (CodeO c' q)) (LG : LamGood P w K mg base q params body scope C fs xs) (h0 : ∀ b o, b ≠ l → H0 b = some o → (∀ ps, o ≠ .tbl ps) → H b = some o) {Q : V → Hp → Prop}
    (h : ∀ H' u, ExtN H H' → Tabs T H' → H' l = some (.lst ys) → Entry P w K mg base H0 H' l C fs xs u → Q u H') :
    ∀ u, (upd H3 f (LamO f q params body scope c')) u = none → ∀ t, (upd (upd H3 f (LamO f q params body scope c')) u (.lst xs)) t = none →
      Q (.ref t) (upd (upd (upd H3 f (LamO f q params body scope c')) u (.lst xs)) t (.tup [.ref m, .ref n, .ref f, .ref u])) := by
  intro u hu t ht
  have g1 : Kept H3 (upd H3 f (LamO f q params body scope c')) := kept_upd hf
  have g2 : Kept (upd H3 f (LamO f q params body scope c')) (upd (upd H3 f (LamO f q params body scope c')) u (.lst xs)) := kept_upd hu
  have g3 : Kept (upd (upd H3 f (LamO f q params body scope c')) u (.lst xs)) (upd (upd (upd H3 f (LamO f q params body scope c')) u (.lst xs)) t (.tup [.ref m, .ref n, .ref f, .ref u])) := kept_upd ht
  have a13 : ExtN H1 H3 := k2.n.trans e3
  have a3 : ExtN H3 (upd (upd (upd H3 f (LamO f q params body scope c')) u (.lst xs)) t (.tup [.ref m, .ref n, .ref f, .ref u])) := (g1.n.trans g2.n).trans g3.n
  have l3 : H3 l = some (.lst ys) := (k1.n.trans a13) _ _ hl fun ps z => by cases z
  have ul : u ≠ l := fun e => by
    rw [e, g1 _ _ l3] at hu
    cases hu
  refine h _ _ ((k1.n.trans a13).trans a3) (((t3.ext g1).ext g2).ext g3) (a3 _ _ l3 fun ps z => by cases z) ⟨t, m, n, f, u, c', q, params, body, scope, rfl, upd_same, em.ext (a13.trans a3), en.ext (e3.trans a3), ?_, a3 _ _ hc codeO_ne, g3 _ _ upd_same, ⟨ul, fun o e => ?_⟩, LG⟩
  · exact g3 _ _ (g2 _ _ upd_same)
  · by_cases ht : ∃ ps, o = .tbl ps
    · exact ht
    · have e1 := h0 u o ul e fun ps z => ht ⟨ps, z⟩
      have e2 := g1 _ _ ((k1.n.trans a13) u o e1 fun ps z => ht ⟨ps, z⟩)
      rw [hu] at e2
      cases e2
theorem ps_ent1 (M : Mk1 X.prog X.w X.K X.mg X.base x C f1) (hr : Room 2 X.A) (hg : Gl X x) (hN : X.N[i]? = some y) (hv : Vis X.env.scope y) (hNl : X.N[jl]? = some fo) (hvl : Vis X.env.scope fo)
    (TB : TabB X.base X.mg c Pt) (hcode : X.env.code = .ref c) (hm : (Pt, X.env.qual ++ "<lambda>") ∈ T) (hu : ∀ p ∈ T, p.1 = Pt → p.2 = X.env.qual ++ "<lambda>") (hfree : ∀ y ∈ scope.names, y.2 ≠ .free)
    (LG : ∀ v, LamGood X.prog X.w X.K X.mg X.base (X.env.qual ++ "<lambda>") params body scope C [(f1, v)] [v])
    (hline : (ap.endLine == cp.line) = true := by rfl) (hdef : defaultsOf params X.env = ([], []) := by rfl) (hclo : cloFrom X.env.cells scope.names [] = [] := by rfl)
    (hsw : swapsWith (.Call (.Attribute (.Name fo p1) "append" ap) [.Tuple [.Call (.Name x c1) [.Name y x1] [] q1, .Call (.Name x c2) [] [⟨some f1, .Name y x2, kp⟩] q2, .Lambda params body scope lp, .List [.Name y x3] op] tk tp] [] cp) none ep.line X.env = pure false := by rfl)
    (hd : (y == ("__debug__" : Str)) = false := by decide) (hcd : (y == ("__classdict__" : Str)) = false := by decide) (hdl : (fo == ("__debug__" : Str)) = false := by decide) (hcdl : (fo == ("__classdict__" : Str)) = false := by decide) (hdb : (x == ("__debug__" : Str)) = false := by decide)
    (hbase : attributeBase (.Name fo p1) "append" X.env (eval (.Name fo p1) X.env) = eval (.Name fo p1) X.env := by rfl) :
    PS X (.Expr (.Call (.Attribute (.Name fo p1) "append" ap) [.Tuple [.Call (.Name x c1) [.Name y x1] [] q1, .Call (.Name x c2) [] [⟨some f1, .Name y x2, kp⟩] q2, .Lambda params body scope lp, .List [.Name y x3] op] tk tp] [] cp) ep)
      (tEnt X.prog X.w X.K X.mg X.base H0 T C jl fun σ fs xs => ∃ v, σ[i]? = some (some v) ∧ fs = [(f1, v)] ∧ xs = [v]) := by
  refine ps_mono (ps_expr (pe_bm PySem.F.plainAttrs_list PySem.F.slot_list_append PySem.F.type_list_append mt_append (pe_var hNl hvl hdl hcdl)
    (pa_cons (pe_tup (pa_cons (pe_mk1 M hr hg hN hv hd hcd hdb) (pa_cons (pe_mk1K M hr hg hN hv hd hcd hdb) (pa_cons (pe_lamV TB hcode hm hu hfree hdef hclo) (pa_cons (pe_lst (pa_cons (pe_var hN hv hd hcd) pa_nil)) pa_nil))))) pa_nil) hbase rfl hline rfl rfl) hsw) fun D σ H ⟨l, ys, fs, xs, hl, hH, hz, ⟨v, hσ, ef, ex⟩, hT, h0, h⟩ => ?_
  subst ef ex
  refine ⟨_, hl, .inl ⟨rfl, _, SqL.of hH⟩, v, hσ, fun m H1 em k1 => ⟨v, hσ, fun n H2 en k2 => ⟨(hT.ext k1).ext k2, fun f c' H3 e3 t3 hf hc => ⟨v, hσ, (by show 1 ≤ sizeLine; decide), fun u hu => ⟨(by show 4 ≤ sizeLine; decide), fun t ht => ?_⟩⟩⟩⟩⟩
  exact ent_end (Q := fun w H' => rAppend (V.ref l) [w] H' fun _ H1 => D.nx σ H1) k1 k2 e3 hH em en t3 hf hc (LG v) h0 (fun H' w e1 e2 e3 e4 => ⟨l, ys, w, rfl, rfl, e3, Nat.lt_of_lt_of_le hz (by decide), h H' w e1 e2 e3 e4⟩) u hu t ht
theorem ps_ent2 (M : Mk2 X.prog X.w X.K X.mg X.base x C f1 f2) (hr : Room 2 X.A) (hg : Gl X x) (hN : X.N[i]? = some y) (hv : Vis X.env.scope y) (hN2 : X.N[j]? = some z) (hv2 : Vis X.env.scope z) (hNl : X.N[jl]? = some fo) (hvl : Vis X.env.scope fo)
    (TB : TabB X.base X.mg c Pt) (hcode : X.env.code = .ref c) (hm : (Pt, X.env.qual ++ "<lambda>") ∈ T) (hu : ∀ p ∈ T, p.1 = Pt → p.2 = X.env.qual ++ "<lambda>") (hfree : ∀ y ∈ scope.names, y.2 ≠ .free)
    (LG : ∀ v u, LamGood X.prog X.w X.K X.mg X.base (X.env.qual ++ "<lambda>") params body scope C [(f2, u), (f1, v)] [v, u])
    (hline : (ap.endLine == cp.line) = true := by rfl) (hdef : defaultsOf params X.env = ([], []) := by rfl) (hclo : cloFrom X.env.cells scope.names [] = [] := by rfl)
    (hsw : swapsWith (.Call (.Attribute (.Name fo p1) "append" ap) [.Tuple [.Call (.Name x c1) [.Name y x1, .Name z q3] [] q1, .Call (.Name x c2) [] [⟨some f2, .Name z q4, kp2⟩, ⟨some f1, .Name y x2, kp⟩] q2, .Lambda params body scope lp, .List [.Name y x3, .Name z q5] op] tk tp] [] cp) none ep.line X.env = pure false := by rfl)
    (hd2 : (z == ("__debug__" : Str)) = false := by decide) (hcd2 : (z == ("__classdict__" : Str)) = false := by decide) (hd : (y == ("__debug__" : Str)) = false := by decide) (hcd : (y == ("__classdict__" : Str)) = false := by decide) (hdl : (fo == ("__debug__" : Str)) = false := by decide) (hcdl : (fo == ("__classdict__" : Str)) = false := by decide) (hdb : (x == ("__debug__" : Str)) = false := by decide)
    (hbase : attributeBase (.Name fo p1) "append" X.env (eval (.Name fo p1) X.env) = eval (.Name fo p1) X.env := by rfl) :
    PS X (.Expr (.Call (.Attribute (.Name fo p1) "append" ap) [.Tuple [.Call (.Name x c1) [.Name y x1, .Name z q3] [] q1, .Call (.Name x c2) [] [⟨some f2, .Name z q4, kp2⟩, ⟨some f1, .Name y x2, kp⟩] q2, .Lambda params body scope lp, .List [.Name y x3, .Name z q5] op] tk tp] [] cp) ep)
      (tEnt X.prog X.w X.K X.mg X.base H0 T C jl fun σ fs xs => ∃ v u, σ[i]? = some (some v) ∧ σ[j]? = some (some u) ∧ fs = [(f2, u), (f1, v)] ∧ xs = [v, u]) := by
  refine ps_mono (ps_expr (pe_bm PySem.F.plainAttrs_list PySem.F.slot_list_append PySem.F.type_list_append mt_append (pe_var hNl hvl hdl hcdl)
    (pa_cons (pe_tup (pa_cons (pe_mk2 M hr hg hN hv hN2 hv2 hd hcd hd2 hcd2 hdb) (pa_cons (pe_mk2K M hr hg hN hv hN2 hv2 hd hcd hd2 hcd2 hdb) (pa_cons (pe_lamV TB hcode hm hu hfree hdef hclo) (pa_cons (pe_lst (pa_cons (pe_var hN hv hd hcd) (pa_cons (pe_var hN2 hv2 hd2 hcd2) pa_nil))) pa_nil))))) pa_nil) hbase rfl hline rfl rfl) hsw) fun D σ H ⟨l, ys, fs, xs, hl, hH, hz, ⟨v, u0, hσ, hσ2, ef, ex⟩, hT, h0, h⟩ => ?_
  subst ef ex
  refine ⟨_, hl, .inl ⟨rfl, _, SqL.of hH⟩, v, u0, hσ, hσ2, fun m H1 em k1 => ⟨v, u0, hσ, hσ2, fun n H2 en k2 => ⟨(hT.ext k1).ext k2, fun f c' H3 e3 t3 hf hc => ⟨v, hσ, u0, hσ2, (by show 2 ≤ sizeLine; decide), fun u hu => ⟨(by show 4 ≤ sizeLine; decide), fun t ht => ?_⟩⟩⟩⟩⟩
  exact ent_end (Q := fun w H' => rAppend (V.ref l) [w] H' fun _ H1 => D.nx σ H1) k1 k2 e3 hH em en t3 hf hc (LG v u0) h0 (fun H' w e1 e2 e3 e4 => ⟨l, ys, w, rfl, rfl, e3, Nat.lt_of_lt_of_le hz (by decide), h H' w e1 e2 e3 e4⟩) u hu t ht
end
end My
set_option maxHeartbeats 4000000
namespace My
open PySem PySem.W PySem.Calls PySem.Spec PyProof.Rows L2 He LamX
/-! ### many entries -/
def fsOf (d : ErrD) (x y : V) : List (Str × V) := match d.fs with
  | [f1] => [(f1, x)]
  | [f1, f2] => [(f2, y), (f1, x)]
  | _ => []
def xsOf (d : ErrD) (x y : V) : List V := match d.fs with
  | [_] => [x]
  | [_, _] => [x, y]
  | _ => []
def EntD (P : Program) (w : World) (K : Frag) (mg : Str → Option Value) (base : Heap) (H0 H : Hp) (l : Addr) (x y : V) (d : ErrD) (u : V) : Prop := Entry P w K mg base H0 H l (d.C K) (fsOf d x y) (xsOf d x y) u
def Ents (P : Program) (w : World) (K : Frag) (mg : Str → Option Value) (base : Heap) (H0 H : Hp) (l : Addr) (x y : V) : List ErrD → List V → Prop
  | [], [] => True
  | d :: ds, u :: us => EntD P w K mg base H0 H l x y d u ∧ Ents P w K mg base H0 H l x y ds us
  | _, _ => False
def ExtL (l : Addr) (H H' : Hp) : Prop := ∀ b o, b ≠ l → H b = some o → (∀ ps, o ≠ .tbl ps) → H' b = some o
theorem ExtL.trans {l : Addr} {H H1 H2 : Hp} (a : ExtL l H H1) (b : ExtL l H1 H2) : ExtL l H H2 := fun c o hc h n => b c o hc (a c o hc h n) n
theorem ExtL.refl (l : Addr) (H : Hp) : ExtL l H H := fun _ _ _ h _ => h
theorem extL_put {l : Addr} {H H' : Hp} {o : HO} (e : ExtN H H') : ExtL l H (upd H' l o) := fun b u hb h n => by
  rw [upd_ne hb]
  exact e b u h n
section
variable {P : Program} {w : World} {K : Frag} {mg : Str → Option Value} {base : Heap} {H0 H H' : Hp} {l : Addr} {x y : V}
/-- an entry stays where all but the list, the tables stays, the list being one before and behind -/
theorem Entry.extL {C : Addr} {fs : List (Str × V)} {xs : List V} {v : V} (h : Entry P w K mg base H0 H l C fs xs v) (e : ExtL l H H') {ys : List V} (hl : H l = some (.lst ys)) : Entry P w K mg base H0 H' l C fs xs v := by
  obtain ⟨t, m, n, f, u, c', q, params, body, scope, h1, h2, h3, h4, h5, h6, h7, h8, h9⟩ := h.ex
  have ne : ∀ {b : Addr} {o : HO}, H b = some o → o ≠ .lst ys → b ≠ l := fun {b o} e n z => by
    rw [z, hl] at e
    exact n (Option.some.inj e).symm
  have err : ∀ {a : Addr}, ErrO H a C fs → ErrO H' a C fs := fun {a} ⟨d, e1, e2⟩ => ⟨d, e _ _ (ne e1 fun z => by cases z) e1 (fun ps z => by cases z), e _ _ (ne e2 fun z => by cases z) e2 (fun ps z => by cases z)⟩
  exact ⟨t, m, n, f, u, c', q, params, body, scope, h1, e _ _ (ne h2 fun z => by cases z) h2 (fun ps z => by cases z), err h3, err h4, e _ _ (ne h5 fun z => by cases z) h5 (fun ps z => by cases z),
    e _ _ (ne h6 fun z => by unfold CodeO at z; cases z) h6 codeO_ne, e _ _ h8.1 h7 (fun ps z => by cases z), h8, h9⟩
theorem Ents.extL : ∀ {ds : List ErrD} {us : List V}, Ents P w K mg base H0 H l x y ds us → ExtL l H H' → ∀ {ys : List V}, H l = some (.lst ys) → Ents P w K mg base H0 H' l x y ds us
  | [], [], _, _, _, _ => True.intro
  | _ :: _, _ :: _, ⟨h1, h2⟩, e, _, hl => ⟨h1.extL e hl, h2.extL e hl⟩
  | [], _ :: _, h, _, _, _ => h.elim
  | _ :: _, [], h, _, _, _ => h.elim
theorem Ents.length : ∀ {ds : List ErrD} {us : List V}, Ents P w K mg base H0 H l x y ds us → us.length = ds.length
  | [], [], _ => rfl
  | _ :: _, _ :: _, ⟨_, h2⟩ => congrArg (· + 1) h2.length
  | [], _ :: _, h => h.elim
  | _ :: _, [], h => h.elim
theorem tabs_put {T : List (Addr × Str)} (t : Tabs T H) (hl : H l = some (.lst ys)) {o : HO} : Tabs T (upd H l o) := fun p hp => by
  obtain ⟨ps, h1, h2, h3⟩ := t p hp
  have ne : ∀ {b : Addr} {o : HO}, H b = some o → o ≠ .lst ys → b ≠ l := fun {b o} e n z => by
    rw [z, hl] at e
    exact n (Option.some.inj e).symm
  refine ⟨ps, by rw [upd_ne (ne h1 fun z => by cases z)]; exact h1, h2, fun pos cv hc => ?_⟩
  obtain ⟨c, e1, e2⟩ := h3 pos cv hc
  exact ⟨c, e1, by rw [upd_ne (ne e2 fun z => by unfold CodeO at z; cases z)]; exact e2⟩
end
/-- one entry more, the class being d's -/
def tEntU (P : Program) (w : World) (K : Frag) (mg : Str → Option Value) (base : Heap) (H0 : Hp) (T : List (Addr × Str)) (jl : Nat) (d : ErrD) : TS := fun D σ H => ∃ l ys x y, σ[jl]? = some (some (V.ref l)) ∧ H l = some (.lst ys) ∧ ys.length < 1000 ∧ σ[0]? = some (some x) ∧ σ[1]? = some (some y) ∧ Tabs T H ∧ ExtL l H0 H ∧
  ∀ H' u, ExtN H H' → Tabs T H' → H' l = some (.lst ys) → EntD P w K mg base H0 H' l x y d u → D.nx σ (upd H' l (.lst (ys ++ [u])))
theorem entU1 {X : Cx} {H0 : Hp} {T : List (Addr × Str)} {C : Addr} {jl : Nat} {d : ErrD} {st : Stmt} {f1 : Str} (hC : d.C X.K = C) (hf : d.fs = [f1]) (h : PS X st (tEnt X.prog X.w X.K X.mg X.base H0 T C jl fun σ fs xs => ∃ v, σ[0]? = some (some v) ∧ fs = [(f1, v)] ∧ xs = [v])) :
    PS X st (tEntU X.prog X.w X.K X.mg X.base H0 T jl d) := by
  subst hC
  refine ps_mono h fun D σ H ⟨l, ys, x, y, h1, h2, h3, h4, h5, h6, h0, h7⟩ => ⟨l, ys, [(f1, x)], [x], h1, h2, h3, ⟨x, h4, rfl, rfl⟩, h6, h0, fun H' u e t k en => h7 H' u e t k ?_⟩
  unfold EntD fsOf xsOf
  rw [hf]
  exact en
theorem entU2 {X : Cx} {H0 : Hp} {T : List (Addr × Str)} {C : Addr} {jl : Nat} {d : ErrD} {st : Stmt} {f1 f2 : Str} (hC : d.C X.K = C) (hf : d.fs = [f1, f2]) (h : PS X st (tEnt X.prog X.w X.K X.mg X.base H0 T C jl fun σ fs xs => ∃ v u, σ[0]? = some (some v) ∧ σ[1]? = some (some u) ∧ fs = [(f2, u), (f1, v)] ∧ xs = [v, u])) :
    PS X st (tEntU X.prog X.w X.K X.mg X.base H0 T jl d) := by
  subst hC
  refine ps_mono h fun D σ H ⟨l, ys, x, y, h1, h2, h3, h4, h5, h6, h0, h7⟩ => ⟨l, ys, [(f2, y), (f1, x)], [x, y], h1, h2, h3, ⟨x, y, h4, h5, rfl, rfl⟩, h6, h0, fun H' u e t k en => h7 H' u e t k ?_⟩
  unfold EntD fsOf xsOf
  rw [hf]
  exact en
/-- a run of such statements, what stands behind them read by t -/
inductive EntSts (X : Cx) (H0 : Hp) (T : List (Addr × Str)) (jl : Nat) (t : TS) : List Stmt → List ErrD → Prop
  | nil {rest : List Stmt} (h : PSs X rest t) : EntSts X H0 T jl t rest []
  | cons {s : Stmt} {d : ErrD} {ss : List Stmt} {ds : List ErrD} (h : PS X s (tEntU X.prog X.w X.K X.mg X.base H0 T jl d)) (r : EntSts X H0 T jl t ss ds) : EntSts X H0 T jl t (s :: ss) (d :: ds)
def tEnts (P : Program) (w : World) (K : Frag) (mg : Str → Option Value) (base : Heap) (H0 : Hp) (T : List (Addr × Str)) (jl : Nat) (ds : List ErrD) (t : TS) : TS := fun D σ H => ∃ l ys x y, σ[jl]? = some (some (V.ref l)) ∧ H l = some (.lst ys) ∧ ys.length + ds.length < 1000 ∧ σ[0]? = some (some x) ∧ σ[1]? = some (some y) ∧ Tabs T H ∧ ExtL l H0 H ∧
  ∀ H' us, ExtL l H H' → Tabs T H' → H' l = some (.lst (ys ++ us)) → Ents P w K mg base H0 H' l x y ds us → t D σ H'
theorem pss_ents {X : Cx} {H0 : Hp} {T : List (Addr × Str)} {jl : Nat} {t : TS} : ∀ {ss : List Stmt} {ds : List ErrD}, EntSts X H0 T jl t ss ds → PSs X ss (tEnts X.prog X.w X.K X.mg X.base H0 T jl ds t)
  | _, _, .nil hr => ⟨fun pins s σ H D I ⟨l, ys, x, y, h1, h2, h3, h4, h5, h6, h0, h7⟩ => hr.run pins s σ H D I (h7 H [] (ExtL.refl l H) h6 (by rw [List.append_nil]; exact h2) True.intro)⟩
  | _, _, .cons (s := s) (d := d) (ss := ss) (ds := ds) h r => by
    have ih := pss_ents r
    refine ⟨fun pins s0 σ H D I ⟨l, ys, x, y, h1, h2, h3, h4, h5, h6, h0, h7⟩ => ?_⟩
    have h3' : ys.length + (ds.length + 1) < 1000 := h3
    refine (pss_cons h ih).run pins s0 σ H D I ⟨l, ys, x, y, h1, h2, by omega, h4, h5, h6, h0, fun H1 u e1 t1 k1 en => ?_⟩
    have hl2 : (upd H1 l (HO.lst (ys ++ [u]))) l = some (.lst (ys ++ [u])) := upd_same
    refine ⟨l, ys ++ [u], x, y, h1, hl2, by rw [List.length_append]; show ys.length + 1 + ds.length < 1000; omega, h4, h5, tabs_put t1 k1, h0.trans (extL_put e1), fun H2 us e2 t2 k2 ens => ?_⟩
    have en2 : EntD X.prog X.w X.K X.mg X.base H0 H2 l x y d u := (Entry.put en k1).extL e2 hl2
    exact h7 H2 (u :: us) ((extL_put e1).trans e2) t2 (by rw [k2, List.append_assoc]; rfl) ⟨en2, ens⟩
/-! ### a class's making, from what the head tells -/
section
variable {P : Program} {w : World} {K : Frag} {mg : Str → Option Value} {base h : Heap} {d : ErrD} {f1 f2 z : Str} {j : Tok} {pa pb pc p0 p1 p2 p3 p4 p5 q1 q2 q3 q4 r1 r2 r3 r4 : Pos}
theorem mk1_of (E : ErrK P K d) (X : K.In h) (G : h.Ns mainGlobals mg) (hs : mg "super" = none) (ht : (P.main.scope.names.lookup ("super" : Str)).isSome = false) (e1 : d.params = eArgs [("self", pa), (f1, pb)]) (e2 : d.body = [eSup z j p0 p1 p2 p3 p4 p5, eSet f1 q1 q2 q3 q4])
    (e3 : d.scope = eScope [f1]) (e4 : d.fs = [f1]) (S : SupScope ["self", f1] (eScope [f1])) (he : ∃ pl : Sem Bool, ∀ f cda cc, SupCall z j p0 p1 p2 p3 p4 d.qual (eScope [f1]) f cda cc pl)
    (b1 : ∀ kV doc pm an cdv ct cc (u v : Value), bindArgs (ksFn "__init__" d.qual (eArgs [("self", pa), (f1, pb)]) [eSup z j p0 p1 p2 p3 p4 p5, eSet f1 q1 q2 q3 q4] (eScope [f1]) .none kV doc pm an cdv ct cc) ⟨[u, v], []⟩ = pure [(("self" : Str), u), (f1, v)])
    (b2 : ∀ kV doc pm an cdv ct cc (u v : Value), bindArgs (ksFn "__init__" d.qual (eArgs [("self", pa), (f1, pb)]) [eSup z j p0 p1 p2 p3 p4 p5, eSet f1 q1 q2 q3 q4] (eScope [f1]) .none kV doc pm an cdv ct cc) ⟨[u], [(f1, v)]⟩ = pure [(("self" : Str), u), (f1, v)])
    (hd1 : (f1 == ("__debug__" : Str)) = false := by decide) (hc1 : (f1 == ("__classdict__" : Str)) = false := by decide) : Mk1 P w K mg base d.x (d.C K) f1 := by
  have n1 : PySem.W.findIn K (.ref (d.C K)) f1 = some none := E.noF f1 (by rw [e4]; simp)
  obtain ⟨pl, he⟩ := he
  refine ⟨E.oex, E.xf, n1, glo_ok X G E.gl, ?_⟩
  obtain ⟨cc, cda, kV, doc, pm, an, ct, T, hcd⟩ := E.fn mg hs ht
  rw [e1, e2, e3] at T
  refine ⟨d.f K, _, E.iC, E.tI, init1 (k := 0) S T (he _ _ _) hcd n1 hd1 hc1, ⟨fun s us ws _ l1 l2 => ?_, fun r _ => r⟩, ⟨fun s us ws _ l1 l2 => ?_, fun r rz => r.append rz⟩⟩
  · match us, ws, l1, l2 with
    | [u, v], [], _, _ => exact BindsTo.of_eq (b1 _ _ _ _ _ _ _ u v)
  · match us, ws, l1, l2 with
    | [u], [v], _, _ => exact BindsTo.of_eq (b2 _ _ _ _ _ _ _ u v)
theorem mk2_of (E : ErrK P K d) (X : K.In h) (G : h.Ns mainGlobals mg) (hs : mg "super" = none) (ht : (P.main.scope.names.lookup ("super" : Str)).isSome = false) (e1 : d.params = eArgs [("self", pa), (f1, pb), (f2, pc)])
    (e2 : d.body = [eSup z j p0 p1 p2 p3 p4 p5, eSet f1 q1 q2 q3 q4, eSet f2 r1 r2 r3 r4]) (e3 : d.scope = eScope [f1, f2]) (e4 : d.fs = [f1, f2]) (S : SupScope ["self", f1, f2] (eScope [f1, f2])) (he : ∃ pl : Sem Bool, ∀ f cda cc, SupCall z j p0 p1 p2 p3 p4 d.qual (eScope [f1, f2]) f cda cc pl)
    (b1 : ∀ kV doc pm an cdv ct cc (u v t : Value), bindArgs (ksFn "__init__" d.qual (eArgs [("self", pa), (f1, pb), (f2, pc)]) [eSup z j p0 p1 p2 p3 p4 p5, eSet f1 q1 q2 q3 q4, eSet f2 r1 r2 r3 r4] (eScope [f1, f2]) .none kV doc pm an cdv ct cc) ⟨[u, v, t], []⟩ = pure [(("self" : Str), u), (f1, v), (f2, t)])
    (b2 : ∀ kV doc pm an cdv ct cc (u v t : Value), bindArgs (ksFn "__init__" d.qual (eArgs [("self", pa), (f1, pb), (f2, pc)]) [eSup z j p0 p1 p2 p3 p4 p5, eSet f1 q1 q2 q3 q4, eSet f2 r1 r2 r3 r4] (eScope [f1, f2]) .none kV doc pm an cdv ct cc) ⟨[u], [(f2, t), (f1, v)]⟩ = pure [(("self" : Str), u), (f1, v), (f2, t)])
    (hd1 : (f1 == ("__debug__" : Str)) = false := by decide) (hc1 : (f1 == ("__classdict__" : Str)) = false := by decide) (hd2 : (f2 == ("__debug__" : Str)) = false := by decide) (hc2 : (f2 == ("__classdict__" : Str)) = false := by decide) : Mk2 P w K mg base d.x (d.C K) f1 f2 := by
  have n1 : PySem.W.findIn K (.ref (d.C K)) f1 = some none := E.noF f1 (by rw [e4]; simp)
  have n2 : PySem.W.findIn K (.ref (d.C K)) f2 = some none := E.noF f2 (by rw [e4]; simp)
  obtain ⟨pl, he⟩ := he
  refine ⟨E.oex, E.xf, n1, n2, glo_ok X G E.gl, ?_⟩
  obtain ⟨cc, cda, kV, doc, pm, an, ct, T, hcd⟩ := E.fn mg hs ht
  rw [e1, e2, e3] at T
  refine ⟨d.f K, _, E.iC, E.tI, init2 (k := 0) S T (he _ _ _) hcd n1 n2 hd1 hc1 hd2 hc2, ⟨fun s us ws _ l1 l2 => ?_, fun r _ => r⟩, ⟨fun s us ws _ l1 l2 => ?_, fun r rz => ?_⟩⟩
  · match us, ws, l1, l2 with
    | [u, v, t], [], _, _ => exact BindsTo.of_eq (b1 _ _ _ _ _ _ _ u v t)
  · match us, ws, l1, l2 with
    | [u], [t, v], _, _ => exact BindsTo.of_eq (b2 _ _ _ _ _ _ _ u v t)
  · refine r.append ?_
    have rev : ∀ {vs : List V} {us : List Value}, Vals vs us → Vals vs.reverse us.reverse := fun {vs us} r => by
      induction r with
      | nil => exact .nil
      | cons h _ ih => rw [List.reverse_cons, List.reverse_cons]; exact ih.append (.cons h .nil)
    exact rev rz
end
end My
set_option maxHeartbeats 4000000
namespace My
open PySem PySem.W PySem.Calls PySem.Spec PyProof.Rows L2 He LamX
/-- a def that makes entries: of x, y, z a new list with an entry for each class -/
def spMade (P : Program) (w : World) (K : Frag) (mg : Str → Option Value) (base : Heap) (T : List (Addr × Str)) (ds : List ErrD) : Sp := fun vs H Q _ => ∃ x y z, vs = [x, y, z] ∧ Tabs T H ∧
  ∀ M us H', ExtN H H' → Tabs T H' → H M = none → H' M = some (.lst us) → Ents P w K mg base H H' M x y ds us → Q (.ref M) H'
def lamScope : Scope := { kind := .function, names := [(("e" : Str), NameKind.local)], isGenerator := false, isCoroutine := false, more := [] }
theorem lamSc : LamScope ["e"] lamScope := ⟨rfl, rfl, rfl, by decide +kernel, by decide +kernel, by decide +kernel⟩
theorem lamNoFree : ∀ y ∈ lamScope.names, y.2 ≠ .free := by decide +kernel
/-- its body: found = [], the entries, return found -/
theorem ok_made {P : Program} {w : World} {K : Frag} {mg : Str → Option Value} {base : Heap} {f : Addr} {x : Str} {params : Arguments} {body ss : List Stmt} {scope : Scope} {dV kV doc pm cdv ct oc : Value} {an od : Option Addr} {osl : Array (Option Value)} {T : List (Addr × Str)} {ds : List ErrD} {pa pl pb : Pos} {k : Nat}
    (lk : K.lookup f = some ⟨oc, od, .func (fnOf x x params body scope dV kV doc pm an cdv ct), osl⟩) (hcd : codeIn K cdv x = true) (S : FnScope ["x", "y", "z", "found"] ["x", "y", "z"] scope) (hb : body = .Assign [.Name "found" pa] (.List [] pl) pb :: ss) (hlen : ds.length < 900)
    (hx : scope.names.lookup ("found" : Str) = some .local)
    (hs : ∀ (A : Around) (outer : List Env) (s : Shared) (H : Hp) (E : XK), swapsWith (.List [] pl) (some (.Name "found" pa)) pb.line (cxOf C8.CX0 P w K mg base ["x", "y", "z", "found"] x scope f cdv A outer s H E).nox.env = pure false)
    (ents : ∀ (A : Around) (outer : List Env) (s : Shared) (H : Hp) (E : XK), Room k (A.deeper (envOfC x scope s.heap.objs.size f cdv)) →
      EntSts (cxOf C8.CX0 P w K mg base ["x", "y", "z", "found"] x scope f cdv A outer s H E).nox H T 3 (tRet (tVar 3)) ss ds) :
    FnOk P w K mg base C8.CX0 (k + 1) f (fnOf x x params body scope dV kV doc pm an cdv ct) ["x", "y", "z"] (spMade P w K mg base T ds) := by
  refine fn_of lk hcd S (fun vs H Q E ⟨a, b, c, e, _⟩ => by rw [e]; rfl) fun A outer s H vs Q E hr ⟨a, b, c, ev, hT, q⟩ => ?_
  subst ev hb
  refine ⟨_, PSs.nox (pss_cons (ps_set (i := 3) S.nd rfl (.inl hx) (pe_lst pa_nil) (hs _ _ _ _ _) (.inr hx)) (pss_ents (ents A outer s H E hr))), ?_⟩
  refine ⟨Nat.zero_le _, fun l hl => ?_⟩
  refine ⟨l, [], a, b, rfl, upd_same, by simpa using Nat.lt_trans hlen (by decide), rfl, rfl, hT.ext (kept_upd hl), fun b o hb h n => (by rw [upd_ne hb]; exact h), fun H' us e t k en => ⟨_, rfl, ?_⟩⟩
  refine q l us H' (fun b o h n => ?_) t hl (by simpa using k) en
  have nb : b ≠ l := ne_of_none h hl
  exact e b o nb (by rw [upd_ne nb]; exact h) n
end My
set_option maxHeartbeats 4000000
/-! Of which of many kinds an error is, told as a list. -/
namespace My
open PySem PySem.W PySem.Calls PySem.Spec PyProof.Rows L2 He LamX
/-- at a stands an own error of class C, with a dict or without -/
def AnyErr (H : Hp) (a C : Addr) : Prop := H a = some (exo a C none) ∨ ∃ fs, ErrO H a C fs
theorem AnyErr.kept {H H' : Hp} {a C : Addr} (h : AnyErr H a C) (e : ExtN H H') : AnyErr H' a C := by
  rcases h with h | ⟨fs, h⟩
  · exact .inl (e _ _ h fun ps z => by cases z)
  · exact .inr ⟨fs, h.ext e⟩
theorem AnyErr.put {H : Hp} {a C l : Addr} {ys zs : List V} (h : AnyErr H a C) (hl : H l = some (.lst ys)) : AnyErr (upd H l (.lst zs)) a C := by
  have ne : ∀ {b : Addr} {o : HO}, H b = some o → o ≠ .lst ys → b ≠ l := fun {b o} e n z => by
    rw [z, hl] at e
    exact n (Option.some.inj e).symm
  rcases h with h | ⟨fs, d, h1, h2⟩
  · exact .inl (by rw [upd_ne (ne h fun z => by cases z)]; exact h)
  · exact .inr ⟨fs, d, by rw [upd_ne (ne h1 fun z => by cases z)]; exact h1, by rw [upd_ne (ne h2 fun z => by cases z)]; exact h2⟩
theorem boot_isi : bootBuiltins "isinstance" = some (.builtin "isinstance") := by decide +kernel
def rIsA (K : Frag) : List V → Hp → VK → Prop := fun xs H Q => ∃ (a C : Addr) (c : V) (cv : Value) (b : Bool), xs = [.ref a, c] ∧ AnyErr H a C ∧ ExcC K C ∧ ClsV c cv ∧ kitOne K (.ref C) cv = some b ∧ Q (.bl b) H
theorem call_isA {X : Cx} : CallR X (.builtin "isinstance") (rIsA X.K) := by
  intro pins s σ H xs us Q I r h
  obtain ⟨a, C, c, cv, b, e, k, T, kc, kk, q⟩ := h
  rcases k with k | ⟨fs, k⟩
  · exact call_isN pins s σ H xs us Q I r ⟨a, C, c, cv, b, e, k, T, kc, kk, q⟩
  · exact call_isO pins s σ H xs us Q I r ⟨a, C, fs, c, cv, b, e, k, T, kc, kk, q⟩
/-- isinstance(e, C), e the i-th name, C the module's class at D -/
def tIsA (K : Frag) (i : Nat) (cv : V) : TE := fun σ H Q => ∃ a C u b, σ[i]? = some (some (V.ref a)) ∧ AnyErr H a C ∧ ExcC K C ∧ ClsV cv u ∧ kitOne K (.ref C) u = some b ∧ Q (.bl b) H
section
variable {X : Cx} {y cn : Str} {i : Nat} {D : Addr} {p p1 p2 pos : Pos}
theorem pe_isA (hg : Gl X "isinstance") (hmg : X.mg "isinstance" = none) (hN : X.N[i]? = some y) (hv : Vis X.env.scope y) (gc : Gl X cn) (mc : X.mg cn = some (.ref D)) (hd : (y == ("__debug__" : Str)) = false := by decide) (hcd : (y == ("__classdict__" : Str)) = false := by decide) (hdb : (cn == ("__debug__" : Str)) = false := by decide) :
    PE X (.Call (.Name "isinstance" p) [.Name y p1, .Name cn p2] [] pos) (tIsA X.K i (.ref D)) :=
  pe_mono (pe_callB call_isA hg hmg boot_isi (pa_cons (pe_var hN hv hd hcd) (pa_cons (pe_glob (v := .ref D) gc mc rfl hdb) pa_nil))) fun σ H Q ⟨a, C, u, b, hσ, h1, h2, h3, h4, q⟩ => ⟨_, hσ, a, C, .ref D, u, b, rfl, h1, h2, h3, h4, q⟩
/-- .. a built-in class -/
theorem pe_isAT {t : String} (hg : Gl X "isinstance") (hmg : X.mg "isinstance" = none) (hN : X.N[i]? = some y) (hv : Vis X.env.scope y) (gc : Gl X cn) (mc : X.mg cn = none) (vc : bootBuiltins cn = some (.type t)) (hn : cn ≠ "__name__" := by decide) (hd : (y == ("__debug__" : Str)) = false := by decide) (hcd : (y == ("__classdict__" : Str)) = false := by decide) (hdb : (cn == ("__debug__" : Str)) = false := by decide) :
    PE X (.Call (.Name "isinstance" p) [.Name y p1, .Name cn p2] [] pos) (tIsA X.K i (.ty t)) :=
  pe_mono (pe_callB call_isA hg hmg boot_isi (pa_cons (pe_var hN hv hd hcd) (pa_cons (pe_bltn (v := .ty t) gc mc vc rfl hn hdb) pa_nil))) fun σ H Q ⟨a, C, u, b, hσ, h1, h2, h3, h4, q⟩ => ⟨_, hσ, a, C, V.ty t, u, b, rfl, h1, h2, h3, h4, q⟩
end
/-- found.extend([isinstance(e, ..), ..]) -/
def tKnd (K : Frag) (ds : List ErrD) : TS := fun D σ H => ∃ a C l ys, ∃ b : ErrD → Bool, σ[0]? = some (some (V.ref a)) ∧ AnyErr H a C ∧ ExcC K C ∧ (∀ d ∈ ds, kitOne K (.ref C) (.ref (d.C K)) = some (b d)) ∧ σ[1]? = some (some (V.ref l)) ∧ H l = some (.lst ys) ∧ ys.length < 900 ∧
  ∀ p, H p = none → D.nx σ (upd (upd H p (.lst (ds.map fun d => V.bl (b d)))) l (.lst (ys ++ ds.map fun d => V.bl (b d))))
section
variable {X : Cx} {fo y : Str} {d1 d2 : ErrD} {p1 ap cp ep i1 i2 a1 a2 b1 b2 q1 q2 lp : Pos}
theorem ps_knd2 (hN : X.N[0]? = some y) (hv : Vis X.env.scope y) (hNl : X.N[1]? = some fo) (hvl : Vis X.env.scope fo) (hg : Gl X "isinstance") (hmg : X.mg "isinstance" = none) (g1 : Gl X d1.x) (m1 : X.mg d1.x = some (.ref (d1.C X.K))) (g2 : Gl X d2.x) (m2 : X.mg d2.x = some (.ref (d2.C X.K)))
    (hline : (ap.endLine == cp.line) = true := by rfl)
    (hsw : swapsWith (.Call (.Attribute (.Name fo p1) "extend" ap) [.List [.Call (.Name "isinstance" i1) [.Name y a1, .Name d1.x b1] [] q1, .Call (.Name "isinstance" i2) [.Name y a2, .Name d2.x b2] [] q2] lp] [] cp) none ep.line X.env = pure false := by rfl)
    (hd : (y == ("__debug__" : Str)) = false := by decide) (hcd : (y == ("__classdict__" : Str)) = false := by decide) (hdl : (fo == ("__debug__" : Str)) = false := by decide) (hcdl : (fo == ("__classdict__" : Str)) = false := by decide) (e1 : (d1.x == ("__debug__" : Str)) = false := by decide) (e2 : (d2.x == ("__debug__" : Str)) = false := by decide)
    (hbase : attributeBase (.Name fo p1) "extend" X.env (eval (.Name fo p1) X.env) = eval (.Name fo p1) X.env := by rfl) :
    PS X (.Expr (.Call (.Attribute (.Name fo p1) "extend" ap) [.List [.Call (.Name "isinstance" i1) [.Name y a1, .Name d1.x b1] [] q1, .Call (.Name "isinstance" i2) [.Name y a2, .Name d2.x b2] [] q2] lp] [] cp) ep) (tKnd X.K [d1, d2]) := by
  refine ps_mono (ps_expr (pe_bm PySem.F.plainAttrs_list PySem.F.slot_list_extend PySem.F.type_list_extend mt_extend (pe_var hNl hvl hdl hcdl)
    (pa_cons (pe_lst (pa_cons (pe_isA hg hmg hN hv g1 m1 hd hcd e1) (pa_cons (pe_isA hg hmg hN hv g2 m2 hd hcd e2) pa_nil))) pa_nil) hbase rfl hline rfl rfl) hsw) fun D σ H ⟨a, C, l, ys, b, h1, h2, h3, h4, h5, h6, h7, q⟩ => ?_
  refine ⟨_, h5, .inl ⟨rfl, _, SqL.of h6⟩, a, C, _, b d1, h1, h2, h3, .own _, h4 d1 (by simp), a, C, _, b d2, h1, h2, h3, .own _, h4 d2 (by simp), (by show 2 ≤ sizeLine; decide), fun p hp => ?_⟩
  exact ⟨l, p, ys, _, rfl, rfl, by rw [upd_ne (ne_of_none h6 hp)]; exact h6, upd_same, Nat.le_trans (show ys.length + 2 ≤ 1000 by omega) (by decide), q p hp⟩
theorem ps_knd1 (hN : X.N[0]? = some y) (hv : Vis X.env.scope y) (hNl : X.N[1]? = some fo) (hvl : Vis X.env.scope fo) (hg : Gl X "isinstance") (hmg : X.mg "isinstance" = none) (g1 : Gl X d1.x) (m1 : X.mg d1.x = some (.ref (d1.C X.K)))
    (hline : (ap.endLine == cp.line) = true := by rfl)
    (hsw : swapsWith (.Call (.Attribute (.Name fo p1) "extend" ap) [.List [.Call (.Name "isinstance" i1) [.Name y a1, .Name d1.x b1] [] q1] lp] [] cp) none ep.line X.env = pure false := by rfl)
    (hd : (y == ("__debug__" : Str)) = false := by decide) (hcd : (y == ("__classdict__" : Str)) = false := by decide) (hdl : (fo == ("__debug__" : Str)) = false := by decide) (hcdl : (fo == ("__classdict__" : Str)) = false := by decide) (e1 : (d1.x == ("__debug__" : Str)) = false := by decide)
    (hbase : attributeBase (.Name fo p1) "extend" X.env (eval (.Name fo p1) X.env) = eval (.Name fo p1) X.env := by rfl) :
    PS X (.Expr (.Call (.Attribute (.Name fo p1) "extend" ap) [.List [.Call (.Name "isinstance" i1) [.Name y a1, .Name d1.x b1] [] q1] lp] [] cp) ep) (tKnd X.K [d1]) := by
  refine ps_mono (ps_expr (pe_bm PySem.F.plainAttrs_list PySem.F.slot_list_extend PySem.F.type_list_extend mt_extend (pe_var hNl hvl hdl hcdl)
    (pa_cons (pe_lst (pa_cons (pe_isA hg hmg hN hv g1 m1 hd hcd e1) pa_nil)) pa_nil) hbase rfl hline rfl rfl) hsw) fun D σ H ⟨a, C, l, ys, b, h1, h2, h3, h4, h5, h6, h7, q⟩ => ?_
  refine ⟨_, h5, .inl ⟨rfl, _, SqL.of h6⟩, a, C, _, b d1, h1, h2, h3, .own _, h4 d1 (by simp), (by show 1 ≤ sizeLine; decide), fun p hp => ?_⟩
  exact ⟨l, p, ys, _, rfl, rfl, by rw [upd_ne (ne_of_none h6 hp)]; exact h6, upd_same, Nat.le_trans (show ys.length + 1 ≤ 1000 by omega) (by decide), q p hp⟩
end
inductive KndSts (X : Cx) (t : TS) : List Stmt → List (List ErrD) → Prop
  | nil {rest : List Stmt} (h : PSs X rest t) : KndSts X t rest []
  | cons {s : Stmt} {d : List ErrD} {ss : List Stmt} {ds : List (List ErrD)} (h : PS X s (tKnd X.K d)) (r : KndSts X t ss ds) : KndSts X t (s :: ss) (d :: ds)
def KeptL (l : Addr) (H H' : Hp) : Prop := ∀ b o, b ≠ l → H b = some o → H' b = some o
theorem KeptL.refl (l : Addr) (H : Hp) : KeptL l H H := fun _ _ _ h => h
theorem keptL_put {l : Addr} {H H' : Hp} {o : HO} (e : Kept H H') : KeptL l H (upd H' l o) := fun b u hb h => by
  rw [upd_ne hb]
  exact e b u h
theorem Kept.trans {H H1 H2 : Hp} (a : Kept H H1) (b : Kept H1 H2) : Kept H H2 := fun c o h => b c o (a c o h)
theorem Kept.none {H H' : Hp} (e : Kept H H') {a : Addr} (h : H' a = none) : H a = none := by
  cases q : H a with
  | none => rfl
  | some o => rw [e a o q] at h; cases h
def tKnds (K : Frag) (ds : List ErrD) (t : TS) : TS := fun D σ H => ∃ a C l ys, ∃ b : ErrD → Bool, σ[0]? = some (some (V.ref a)) ∧ AnyErr H a C ∧ ExcC K C ∧ (∀ d ∈ ds, kitOne K (.ref C) (.ref (d.C K)) = some (b d)) ∧ σ[1]? = some (some (V.ref l)) ∧ H l = some (.lst ys) ∧ ys.length + ds.length < 900 ∧
  ∀ H', KeptL l H H' → H' l = some (.lst (ys ++ ds.map fun d => V.bl (b d))) → t D σ H'
theorem pss_knds {X : Cx} {t : TS} : ∀ {ss : List Stmt} {ds : List (List ErrD)}, KndSts X t ss ds → PSs X ss (tKnds X.K ds.flatten t)
  | _, _, .nil hr => ⟨fun pins s σ H D I ⟨a, C, l, ys, b, h1, h2, h3, h4, h5, h6, h7, q⟩ => hr.run pins s σ H D I (q H (KeptL.refl l H) (by simpa using h6))⟩
  | _, _, .cons (s := s) (d := d) (ss := ss) (ds := ds) h r => by
    have ih := pss_knds r
    refine ⟨fun pins s0 σ H D I ⟨a, C, l, ys, b, h1, h2, h3, h4, h5, h6, h7, q⟩ => ?_⟩
    have h7' : ys.length + (d.length + ds.flatten.length) < 900 := by simpa using h7
    refine (pss_cons h ih).run pins s0 σ H D I ⟨a, C, l, ys, b, h1, h2, h3, fun e he => h4 e (by simp [he]), h5, h6, by omega, fun p hp => ?_⟩
    have k1 := kept_upd (o := .lst (d.map fun d => V.bl (b d))) hp
    have hl1 := k1 _ _ h6
    refine ⟨a, C, l, _, b, h1, (h2.kept k1.n).put hl1, h3, fun e he => h4 e (by rw [List.flatten_cons]; exact List.mem_append_right _ he), h5, upd_same, by rw [List.length_append, List.length_map]; omega, fun H2 e2 k2 => ?_⟩
    refine q H2 (fun c o hc h => e2 c o hc (keptL_put k1 c o hc h)) ?_
    rw [k2, List.flatten_cons, List.map_append, List.append_assoc]
/-- told as a new list -/
def spKinds (K : Frag) (ds : List ErrD) : Sp := fun vs H Q _ => ∃ a C, ∃ b : ErrD → Bool, vs = [.ref a] ∧ AnyErr H a C ∧ ExcC K C ∧ (∀ d ∈ ds, kitOne K (.ref C) (.ref (d.C K)) = some (b d)) ∧
  ∀ l H', Kept H H' → H l = none → H' l = some (.lst (ds.map fun d => V.bl (b d))) → Q (.ref l) H'
theorem ok_kinds {P : Program} {w : World} {K : Frag} {mg : Str → Option Value} {base : Heap} {f : Addr} {fd : FuncData} {x : Str} {st : Stmt} {ss : List Stmt} {ds : List (List ErrD)} {pa pl pb : Pos} {k : Nat} (F : C8.Fun K x x st f fd) (S : FnScope ["e", "found"] ["e"] (C8.fnScope st))
    (hb : C8.fnBody st = .Assign [.Name "found" pa] (.List [] pl) pb :: ss) (hlen : ds.flatten.length < 900) (hx : (C8.fnScope st).names.lookup ("found" : Str) = some .local)
    (hs : ∀ (cdv : Value) (A : Around) (outer : List Env) (s : Shared) (H : Hp) (E : XK), swapsWith (.List [] pl) (some (.Name "found" pa)) pb.line (cxOf C8.CX0 P w K mg base ["e", "found"] x (C8.fnScope st) f cdv A outer s H E).nox.env = pure false)
    (knds : ∀ (cdv : Value) (A : Around) (outer : List Env) (s : Shared) (H : Hp) (E : XK), KndSts (cxOf C8.CX0 P w K mg base ["e", "found"] x (C8.fnScope st) f cdv A outer s H E).nox (tRet (tVar 1)) ss ds) :
    FnOk P w K mg base C8.CX0 (k + 1) f fd ["e"] (spKinds K ds.flatten) := by
  refine C8.fn0 F S (fun vs H Q E ⟨a, C, b, e, _⟩ => by rw [e]; rfl) fun cdv A outer s H vs Q E hr ⟨a, C, b, ev, h2, h3, h4, q⟩ => ?_
  subst ev
  rw [hb]
  refine ⟨_, pss_cons (ps_set (i := 1) S.nd rfl (.inl hx) (pe_lst pa_nil) (hs _ _ _ _ _ _) (.inr hx)) (pss_knds (knds cdv A outer s H E)), ?_⟩
  refine ⟨Nat.zero_le _, fun l hl => ?_⟩
  refine ⟨a, C, l, [], b, rfl, h2.kept (kept_upd hl).n, h3, h4, rfl, upd_same, by simpa using hlen, fun H' e k => ⟨_, rfl, ?_⟩⟩
  refine q l H' (fun c o h => ?_) hl (by simpa using k)
  have nb : c ≠ l := ne_of_none h hl
  exact e c o nb (by rw [upd_ne nb]; exact h)
end My
set_option maxHeartbeats 4000000
/-! A calculus over data: what a def does to values read as data, the heap hidden. -/
namespace Dw
open PySem PySem.Spec PyProof.Rows L2

/-! ### weakest readings by syntax -/
def wE (X : Cx) (e : Expr) : TE := fun σ H Q => ∃ t, PE X e t ∧ t σ H Q
def wT (X : Cx) (e : Expr) : TT := fun σ H Q => ∃ t, PT X e t ∧ t σ H Q
def wA (X : Cx) (es : List Expr) : TA := fun σ H Q => ∃ t, PA X es t ∧ t σ H Q
def wS (X : Cx) (s : Stmt) : TS := fun D σ H => ∃ t, PS X s t ∧ t D σ H
def wSs (X : Cx) (s : List Stmt) : TS := fun D σ H => ∃ t, PSs X s t ∧ t D σ H
def wG (X : Cx) (e : Expr) : TG := fun v σ H Q => ∃ t, PG X e t ∧ t v σ H Q
def wGs (X : Cx) (es : List Expr) : TGs := fun v σ H Q => ∃ t, PGs X es t ∧ t v σ H Q
section
variable {X : Cx}
theorem pe_w (e : Expr) : PE X e (wE X e) := ⟨fun pins s σ H Q I ⟨_, p, h⟩ => p.run pins s σ H Q I h⟩
theorem pt_w (e : Expr) : PT X e (wT X e) := ⟨fun pins s σ H Q I ⟨_, p, h⟩ => p.run pins s σ H Q I h⟩
theorem pa_w (e : List Expr) : PA X e (wA X e) := ⟨fun pos pins s σ H Q I ⟨_, p, h⟩ => p.run pos pins s σ H Q I h⟩
theorem ps_w (e : Stmt) : PS X e (wS X e) := ⟨fun pins s σ H Q I ⟨_, p, h⟩ => p.run pins s σ H Q I h⟩
theorem pss_w (e : List Stmt) : PSs X e (wSs X e) := ⟨fun pins s σ H Q I ⟨_, p, h⟩ => p.run pins s σ H Q I h⟩
theorem pg_w (e : Expr) : PG X e (wG X e) := ⟨fun pins s σ H v u Q I r ⟨_, p, h⟩ => p.run pins s σ H v u Q I r h⟩
theorem pgs_w (e : List Expr) : PGs X e (wGs X e) := ⟨fun pins s σ H v u Q I r ⟨_, p, h⟩ => p.run pins s σ H v u Q I r h⟩
end

/-! ### heaps that grow -/
def Ex (H H' : Hp) : Prop := ∀ a o, H a = some o → H' a = some o
theorem Ex.refl (H : Hp) : Ex H H := fun _ _ h => h
theorem Ex.trans {H H1 H2 : Hp} (a : Ex H H1) (b : Ex H1 H2) : Ex H H2 := fun x o h => b x o (a x o h)
theorem Ex.new {H : Hp} {p : Addr} {o : HO} (h : H p = none) : Ex H (upd H p o) := fun a u e => by
  rw [upd_ne (ne_of_none e h)]
  exact e
theorem Ex.none {H H' : Hp} (e : Ex H H') {p : Addr} (h : H' p = none) : H p = none := by
  cases q : H p with
  | none => rfl
  | some o => rw [e p o q] at h; cases h
theorem Ex.rd {H H' : Hp} {a : Addr} {u : HO} (e : Ex H H') (h : Rd H a u) : Rd H' a u := by
  rcases h with h | ⟨o, h⟩
  · exact .inl (e a _ h)
  · exact .inr ⟨o, e a _ h⟩
theorem Ex.l {K : PySem.W.Frag} {H H' : Hp} {a : Addr} {xs : List V} (e : Ex H H') (h : SqL K H a xs) : SqL K H' a xs := by
  rcases h with h | h
  · exact .inl (e.rd h)
  · exact .inr h
theorem Ex.t {K : PySem.W.Frag} {H H' : Hp} {a : Addr} {xs : List V} (e : Ex H H') (h : SqT K H a xs) : SqT K H' a xs := by
  rcases h with h | h
  · exact .inl (e.rd h)
  · exact .inr h

/-! ### values read as data -/
def keyD : Key → PyData
  | .inl i => .int i
  | .inr x => .str x
mutual
inductive Dq (H : Hp) : V → PyData → Prop
  | non : Dq H .non .none
  | bl (b : Bool) : Dq H (.bl b) (.bool b)
  | int (i : Int) : Dq H (.int i) (.int i)
  | str (x : Str) : Dq H (.str x) (.str x)
  | lst {a : Addr} {xs : List V} {ds : List PyData} : H a = some (.lst xs) → DqA H xs ds → Dq H (.ref a) (.list ds)
  | tup {a : Addr} {xs : List V} {ds : List PyData} : H a = some (.tup xs) → DqA H xs ds → Dq H (.ref a) (.tuple ds)
  | dic {a : Addr} {kvs : List (Key × V)} {ds : List (PyData × PyData)} : H a = some (.dK kvs) → DqK H kvs ds → Dq H (.ref a) (.dict ds)
inductive DqA (H : Hp) : List V → List PyData → Prop
  | nil : DqA H [] []
  | cons {v : V} {vs : List V} {d : PyData} {ds : List PyData} : Dq H v d → DqA H vs ds → DqA H (v :: vs) (d :: ds)
inductive DqK (H : Hp) : List (Key × V) → List (PyData × PyData) → Prop
  | nil : DqK H [] []
  | cons {k : Key} {v : V} {vs : List (Key × V)} {d : PyData} {ds : List (PyData × PyData)} : Dq H v d → DqK H vs ds → DqK H ((k, v) :: vs) ((keyD k, d) :: ds)
end
mutual
theorem Dq.mono {H H' : Hp} (e : Ex H H') : ∀ {v d}, Dq H v d → Dq H' v d
  | _, _, .non => .non
  | _, _, .bl b => .bl b
  | _, _, .int i => .int i
  | _, _, .str x => .str x
  | _, _, .lst h a => .lst (e _ _ h) (DqA.mono e a)
  | _, _, .tup h a => .tup (e _ _ h) (DqA.mono e a)
  | _, _, .dic h a => .dic (e _ _ h) (DqK.mono e a)
theorem DqA.mono {H H' : Hp} (e : Ex H H') : ∀ {v d}, DqA H v d → DqA H' v d
  | _, _, .nil => .nil
  | _, _, .cons h a => .cons (Dq.mono e h) (DqA.mono e a)
theorem DqK.mono {H H' : Hp} (e : Ex H H') : ∀ {v d}, DqK H v d → DqK H' v d
  | _, _, .nil => .nil
  | _, _, .cons h a => .cons (Dq.mono e h) (DqK.mono e a)
end
theorem DqA.length {H : Hp} : ∀ {vs : List V} {ds : List PyData}, DqA H vs ds → vs.length = ds.length
  | _, _, .nil => rfl
  | _, _, .cons _ a => congrArg (· + 1) a.length
theorem DqA.get {H : Hp} : ∀ {vs : List V} {ds : List PyData} {i : Nat} {d : PyData}, DqA H vs ds → ds[i]? = some d → ∃ v, vs[i]? = some v ∧ Dq H v d
  | _, _, i, _, .nil, h => by simp at h
  | _, _, 0, _, .cons h a, e => by
    simp at e
    subst e
    exact ⟨_, rfl, h⟩
  | _, _, i + 1, _, .cons h a, e => by
    obtain ⟨v, h1, h2⟩ := DqA.get (i := i) a (by simpa using e)
    exact ⟨v, by simpa using h1, h2⟩
theorem DqA.get' {H : Hp} : ∀ {vs : List V} {ds : List PyData} {i : Nat} {v : V}, DqA H vs ds → vs[i]? = some v → ∃ d, ds[i]? = some d ∧ Dq H v d
  | _, _, i, _, .nil, h => by simp at h
  | _, _, 0, _, .cons h a, e => by
    simp at e
    subst e
    exact ⟨_, rfl, h⟩
  | _, _, i + 1, _, .cons h a, e => by
    obtain ⟨v, h1, h2⟩ := DqA.get' (i := i) a (by simpa using e)
    exact ⟨v, by simpa using h1, h2⟩
theorem DqA.append {H : Hp} : ∀ {vs ws : List V} {ds es : List PyData}, DqA H vs ds → DqA H ws es → DqA H (vs ++ ws) (ds ++ es)
  | _, _, _, _, .nil, b => b
  | _, _, _, _, .cons h a, b => .cons h (DqA.append a b)
theorem DqA.take {H : Hp} : ∀ (n : Nat) {vs : List V} {ds : List PyData}, DqA H vs ds → DqA H (vs.take n) (ds.take n)
  | 0, _, _, _ => by simpa using .nil
  | n + 1, _, _, .nil => by simpa using .nil
  | n + 1, _, _, .cons h a => by simpa using .cons h (DqA.take n a)
theorem DqA.drop {H : Hp} : ∀ (n : Nat) {vs : List V} {ds : List PyData}, DqA H vs ds → DqA H (vs.drop n) (ds.drop n)
  | 0, _, _, a => by simpa using a
  | n + 1, _, _, .nil => by simpa using .nil
  | n + 1, _, _, .cons h a => by simpa using DqA.drop n a

/-! ### the state of a def -/
/-- what is fixed: the written part, the addresses of what changes outside, what holds there behind n draws, the heaps at the entry -/
structure Env where
  K : PySem.W.Frag
  ws : List Addr
  I : Nat → Hp → Prop
  stay : ∀ n H H', I n H → (∀ a ∈ ws, ∀ o, H a = some o → H' a = some o) → I n H'
  here : ∀ n H, I n H → ∀ a ∈ ws, ∃ o, H a = some o
  C0 : Hp
  H0 : Hp
/-- what a name may hold -/
inductive Sl where
  | no
  | dat (d : PyData)
  | raw (v : V)
  | own (ds : List PyData)
  | owd (ds : List (PyData × PyData))
  | per (P : V → Hp → Prop) (h : ∀ v C C', Ex C C' → P v C → P v C')
/-- a value outside of names -/
inductive Rv where
  | dat (d : PyData)
  | raw (v : V)
  | per (P : V → Hp → Prop) (h : ∀ v C C', Ex C C' → P v C → P v C')
  /-- a new object that no name has yet: it is the k-th of all slots, those behind the names being for such -/
  | tmp (k : Nat)
def Rvl (ρ : L2.St) (C : Hp) (v : V) : Rv → Prop
  | .dat d => Dq C v d
  | .raw u => v = u
  | .per P _ => P v C
  | .tmp k => ρ[k]? = some (some v)
theorem Rvl.mono {C C' : Hp} (e : Ex C C') {ρ ρ' : L2.St} (p : ρ <+: ρ') {v : V} : ∀ {r : Rv}, Rvl ρ C v r → Rvl ρ' C' v r
  | .dat _, h => Dq.mono e h
  | .raw _, h => h
  | .per _ m, h => m _ _ _ e h
  | .tmp k, h => by
    obtain ⟨z, rfl⟩ := p
    show (ρ ++ z)[k]? = some (some v)
    rw [List.getElem?_append_left (List.getElem?_eq_some_iff.mp h).1]
    exact h
structure Stat where
  sl : List Sl
  n : Nat
  m : Nat
def Rv.sl (S : Stat) : Rv → Sl
  | .dat d => .dat d
  | .raw v => .raw v
  | .per P h => .per P h
  | .tmp k => S.sl.getD k .no
/-- one name: o is what the slot holds -/
def SlOk (H0 C H : Hp) (o : Option V) : Sl → Prop
  | .no => True
  | .dat d => ∃ v, o = some v ∧ Dq C v d
  | .raw u => o = some u
  | .own ds => ∃ l xs, o = some (.ref l) ∧ H l = some (.lst xs) ∧ C l = none ∧ H0 l = none ∧ DqA C xs ds
  | .owd ds => ∃ l xs, o = some (.ref l) ∧ H l = some (.dK xs) ∧ C l = none ∧ H0 l = none ∧ DqK C xs ds
  | .per P _ => ∃ v, o = some v ∧ P v C
def owns : Sl → Bool
  | .own _ => true
  | .owd _ => true
  | _ => false
structure Stp (ws : List Addr) (C H C' H' : Hp) : Prop where
  core : Ex C C'
  keep : ∀ a o, H a = some o → a ∉ ws → H' a = some o
  sub : Ex C' H'
  new : ∀ a o, C' a = some o → C a = some o ∨ H a = none
  wso : ∀ a ∈ ws, (∃ o, H a = some o) → ∃ o, H' a = some o
theorem Stp.trans {ws : List Addr} {C H C1 H1 C2 H2 : Hp} (a : Stp ws C H C1 H1) (b : Stp ws C1 H1 C2 H2) : Stp ws C H C2 H2 where
  core := a.core.trans b.core
  keep := fun x o h hw => b.keep x o (a.keep x o h hw) hw
  sub := b.sub
  new := fun x o h => by
    rcases b.new x o h with h1 | h1
    · exact a.new x o h1
    · by_cases hw : x ∈ ws
      · cases e : H x with
        | none => exact .inr rfl
        | some u =>
          obtain ⟨u', e'⟩ := a.wso x hw ⟨u, e⟩
          rw [e'] at h1
          cases h1
      · cases e : H x with
        | none => exact .inr rfl
        | some u =>
          rw [a.keep x u e hw] at h1
          cases h1
  wso := fun x hw h => b.wso x hw (a.wso x hw h)
theorem Stp.refl {ws : List Addr} {C H : Hp} (e : Ex C H) : Stp ws C H C H := ⟨Ex.refl C, fun _ _ h _ => h, e, fun _ _ h => .inl h, fun _ _ h => h⟩
/-- a def that touches nothing outside -/
theorem Stp.pure {ws : List Addr} {C H C' H' : Hp} (a : Stp [] C H C' H') : Stp ws C H C' H' where
  core := a.core
  keep := fun x o h _ => a.keep x o h (by simp)
  sub := a.sub
  new := a.new
  wso := fun x _ ⟨o, h⟩ => ⟨o, a.keep x o h (by simp)⟩
structure Stt (Γ : Env) (C H : Hp) (σ : L2.St) (S : Stat) : Prop where
  stp : Stp Γ.ws Γ.C0 Γ.H0 C H
  len : σ.length = S.sl.length
  all : ∀ (i : Nat) (s : Sl), S.sl[i]? = some s → ∃ o, σ[i]? = some o ∧ SlOk Γ.H0 C H o s
  ap : ∀ (i j : Nat) (s t : Sl) (l : Addr), i ≠ j → S.sl[i]? = some s → S.sl[j]? = some t → owns s = true → owns t = true → σ[i]? = some (some (V.ref l)) → σ[j]? ≠ some (some (V.ref l))
  wI : Γ.I S.n H
  wC : ∀ a ∈ Γ.ws, C a = none
  wO : ∀ (i : Nat) (s : Sl) (l : Addr), S.sl[i]? = some s → owns s = true → σ[i]? = some (some (V.ref l)) → l ∉ Γ.ws
theorem Stt.sub {Γ : Env} {C H : Hp} {σ : L2.St} {S : Stat} (h : Stt Γ C H σ S) : Ex C H := h.stp.sub
theorem SlOk.own_at {H0 C H : Hp} {o : Option V} {s : Sl} (h : SlOk H0 C H o s) (ho : owns s = true) : ∃ l u, o = some (.ref l) ∧ H l = some u ∧ C l = none ∧ H0 l = none := by
  cases s with
  | own ds =>
    obtain ⟨l, xs, h1, h2, h3, h4, h5⟩ := h
    exact ⟨l, _, h1, h2, h3, h4⟩
  | owd ds =>
    obtain ⟨l, xs, h1, h2, h3, h4, h5⟩ := h
    exact ⟨l, _, h1, h2, h3, h4⟩
  | no => cases ho
  | dat d => cases ho
  | raw d => cases ho
  | per P h => cases ho
section
variable {Γ : Env} {C H C' H' : Hp} {σ : L2.St} {S : Stat}
/-- what stands grows, the world goes on -/
theorem Stt.step (h : Stt Γ C H σ S) {n' : Nat} (g : Stp Γ.ws C H C' H') (hI : Γ.I n' H') (hw : ∀ a ∈ Γ.ws, C' a = none) : Stt Γ C' H' σ { S with n := n' } where
  stp := h.stp.trans g
  len := h.len
  all := fun i s hs => by
    obtain ⟨o, ho, k⟩ := h.all i s hs
    have kn : ∀ {l : Addr} {u : HO}, H l = some u → C l = none → C' l = none := fun {l u} h1 h2 => by
      cases e : C' l with
      | none => rfl
      | some w =>
        rcases g.new l w e with z | z
        · rw [h2] at z; cases z
        · rw [h1] at z; cases z
    refine ⟨o, ho, ?_⟩
    cases s with
    | no => trivial
    | dat d =>
      obtain ⟨v, e, q⟩ := k
      exact ⟨v, e, Dq.mono g.core q⟩
    | raw u => exact k
    | own ds =>
      obtain ⟨l, xs, e, h1, h2, h3, h4⟩ := k
      have lw := h.wO i _ l hs rfl (by rw [ho, e])
      exact ⟨l, xs, e, g.keep l _ h1 lw, kn h1 h2, h3, DqA.mono g.core h4⟩
    | owd ds =>
      obtain ⟨l, xs, e, h1, h2, h3, h4⟩ := k
      have lw := h.wO i _ l hs rfl (by rw [ho, e])
      exact ⟨l, xs, e, g.keep l _ h1 lw, kn h1 h2, h3, DqK.mono g.core h4⟩
    | per P m =>
      obtain ⟨v, e, q⟩ := k
      exact ⟨v, e, m _ _ _ g.core q⟩
  ap := h.ap
  wI := hI
  wC := hw
  wO := h.wO
/-- nothing of the world is touched -/
theorem Stt.grow (h : Stt Γ C H σ S) (g : Stp [] C H C' H') : Stt Γ C' H' σ S := by
  refine h.step (n' := S.n) g.pure (Γ.stay _ _ _ h.wI fun a ha o e => g.keep a o e (by simp)) fun a ha => ?_
  cases e : C' a with
  | none => rfl
  | some o =>
    rcases g.new a o e with z | z
    · rw [h.wC a ha] at z; cases z
    · obtain ⟨u, hu⟩ := Γ.here _ _ h.wI a ha
      rw [hu] at z; cases z
theorem stp_new {p : Addr} {o : HO} (e : Ex C H) (hp : H p = none) : Stp [] C H (upd C p o) (upd H p o) where
  core := Ex.new (e.none hp)
  keep := fun a u h _ => Ex.new hp a u h
  sub := fun a u h => by
    by_cases q : a = p
    · subst q
      rw [upd_same] at h ⊢
      exact h
    · rw [upd_ne q] at h ⊢
      exact e a u h
  new := fun a u h => by
    by_cases q : a = p
    · subst q
      exact .inr hp
    · rw [upd_ne q] at h
      exact .inl h
  wso := fun a ha => by simp at ha
theorem stp_own {p : Addr} {o : HO} (e : Ex C H) (hp : H p = none) : Stp [] C H C (upd H p o) where
  core := Ex.refl C
  keep := fun a u h _ => Ex.new hp a u h
  sub := fun a u h => Ex.new hp a u (e a u h)
  new := fun a u h => .inl h
  wso := fun a ha => by simp at ha
/-- a new object of the core -/
theorem Stt.new (h : Stt Γ C H σ S) {p : Addr} {o : HO} (hp : H p = none) : Stt Γ (upd C p o) (upd H p o) σ S := h.grow (stp_new h.sub hp)
theorem Stt.forget (h : Stt Γ C H σ S) (i : Nat) (o : Option V) : Stt Γ C H (σ.set i o) { S with sl := S.sl.set i .no } where
  stp := h.stp
  len := by simp [h.len]
  all := fun j s hs => by
    by_cases e : i = j
    · subst e
      have hi : i < S.sl.length := by
        have := (List.getElem?_eq_some_iff.mp hs).1
        simpa using this
      rw [List.getElem?_set_self (by simpa using hi)] at hs
      cases hs
      exact ⟨o, by rw [List.getElem?_set_self (by rw [h.len]; exact hi)], trivial⟩
    · rw [List.getElem?_set_ne e] at hs
      obtain ⟨o', ho, k⟩ := h.all j s hs
      exact ⟨o', by rw [List.getElem?_set_ne e]; exact ho, k⟩
  ap := fun j k s t l hjk hs ht os ot hj hk => by
    by_cases e : i = j
    · subst e
      have hi : i < S.sl.length := by
        have := (List.getElem?_eq_some_iff.mp hs).1
        simpa using this
      rw [List.getElem?_set_self (by simpa using hi)] at hs
      cases hs
      cases os
    · by_cases e2 : i = k
      · subst e2
        have hi : i < S.sl.length := by
          have := (List.getElem?_eq_some_iff.mp ht).1
          simpa using this
        rw [List.getElem?_set_self (by simpa using hi)] at ht
        cases ht
        cases ot
      · rw [List.getElem?_set_ne e] at hs hj
        rw [List.getElem?_set_ne e2] at ht hk
        exact h.ap j k s t l hjk hs ht os ot hj hk
  wI := h.wI
  wC := h.wC
  wO := fun j s l hs os hj => by
    by_cases e : i = j
    · subst e
      have hi : i < S.sl.length := by
        have := (List.getElem?_eq_some_iff.mp hs).1
        simpa using this
      rw [List.getElem?_set_self (by simpa using hi)] at hs
      cases hs
      cases os
    · rw [List.getElem?_set_ne e] at hs hj
      exact h.wO j s l hs os hj
/-- a name gets what is there, o; the slot's word s -/
theorem Stt.put (h : Stt Γ C H σ S) {i : Nat} {o : Option V} {s : Sl} (kk : SlOk Γ.H0 C H o s)
    (hw : owns s = true → ∀ l, o = some (V.ref l) → l ∉ Γ.ws ∧ ∀ (j : Nat) (t : Sl), j ≠ i → S.sl[j]? = some t → owns t = true → σ[j]? ≠ some (some (V.ref l))) :
    Stt Γ C H (σ.set i o) { S with sl := S.sl.set i s } where
  stp := h.stp
  len := by simp [h.len]
  all := fun j t ht => by
    by_cases e : i = j
    · subst e
      have hi : i < S.sl.length := by
        have := (List.getElem?_eq_some_iff.mp ht).1
        simpa using this
      rw [List.getElem?_set_self (by simpa using hi)] at ht
      cases ht
      exact ⟨o, by rw [List.getElem?_set_self (by rw [h.len]; exact hi)], kk⟩
    · rw [List.getElem?_set_ne e] at ht
      obtain ⟨o', ho, k⟩ := h.all j t ht
      exact ⟨o', by rw [List.getElem?_set_ne e]; exact ho, k⟩
  ap := fun j k s' t l hjk hs ht os ot hj hk => by
    have at_ : ∀ {j : Nat} {s' : Sl}, i = j → (S.sl.set i s)[j]? = some s' → (σ.set i o)[j]? = some (some (V.ref l)) → s' = s ∧ o = some (V.ref l) := by
      intro j s' e hs hj
      subst e
      have hi : i < S.sl.length := by
        have := (List.getElem?_eq_some_iff.mp hs).1
        simpa using this
      rw [List.getElem?_set_self (by simpa using hi)] at hs
      rw [List.getElem?_set_self (by rw [h.len]; exact hi)] at hj
      cases hs
      cases hj
      exact ⟨rfl, rfl⟩
    by_cases e : i = j
    · obtain ⟨rfl, eo⟩ := at_ e hs hj
      by_cases e2 : i = k
      · exact hjk (e.symm.trans e2)
      · rw [List.getElem?_set_ne e2] at ht hk
        exact (hw os l eo).2 k t (fun z => e2 z.symm) ht ot hk
    · by_cases e2 : i = k
      · obtain ⟨rfl, eo⟩ := at_ e2 ht hk
        rw [List.getElem?_set_ne e] at hs hj
        exact (hw ot l eo).2 j s' (fun z => e z.symm) hs os hj
      · rw [List.getElem?_set_ne e] at hs hj
        rw [List.getElem?_set_ne e2] at ht hk
        exact h.ap j k s' t l hjk hs ht os ot hj hk
  wI := h.wI
  wC := h.wC
  wO := fun j t l hs os hj => by
    by_cases e : i = j
    · subst e
      have hi : i < S.sl.length := by
        have := (List.getElem?_eq_some_iff.mp hs).1
        simpa using this
      rw [List.getElem?_set_self (by simpa using hi)] at hs
      rw [List.getElem?_set_self (by rw [h.len]; exact hi)] at hj
      cases hs
      cases hj
      exact (hw os l rfl).1
    · rw [List.getElem?_set_ne e] at hs hj
      exact h.wO j t l hs os hj
/-- a new list is a name's own -/
theorem Stt.setNew (h : Stt Γ C H σ S) {i : Nat} {p : Addr} {xs : List V} {ds : List PyData} (hp : H p = none) (q : DqA C xs ds) :
    Stt Γ C (upd H p (.lst xs)) (σ.set i (some (.ref p))) { S with sl := S.sl.set i (.own ds) } := by
  have h' : Stt Γ C (upd H p (.lst xs)) σ S := h.grow (stp_own h.sub hp)
  have h0 : Γ.H0 p = none := by
    cases e : Γ.H0 p with
    | none => rfl
    | some o =>
      by_cases hw : p ∈ Γ.ws
      · obtain ⟨u, hu⟩ := Γ.here _ _ h.wI p hw
        rw [hu] at hp; cases hp
      · rw [h.stp.keep p o e hw] at hp; cases hp
  refine h'.put ⟨p, xs, rfl, upd_same, h.sub.none hp, h0, q⟩ fun _ l e => ?_
  cases e
  refine ⟨fun hw => ?_, fun j t hj ht ot hs => ?_⟩
  · obtain ⟨u, hu⟩ := Γ.here _ _ h.wI p hw
    rw [hu] at hp; cases hp
  · obtain ⟨o, ho, k⟩ := h.all j t ht
    obtain ⟨l, u, e1, e2, _, _⟩ := k.own_at ot
    rw [ho, e1] at hs
    cases hs
    rw [e2] at hp; cases hp
theorem Stt.setNewD (h : Stt Γ C H σ S) {i : Nat} {p : Addr} {xs : List (Key × V)} {ds : List (PyData × PyData)} (hp : H p = none) (q : DqK C xs ds) :
    Stt Γ C (upd H p (.dK xs)) (σ.set i (some (.ref p))) { S with sl := S.sl.set i (.owd ds) } := by
  have h' : Stt Γ C (upd H p (.dK xs)) σ S := h.grow (stp_own h.sub hp)
  have h0 : Γ.H0 p = none := by
    cases e : Γ.H0 p with
    | none => rfl
    | some o =>
      by_cases hw : p ∈ Γ.ws
      · obtain ⟨u, hu⟩ := Γ.here _ _ h.wI p hw
        rw [hu] at hp; cases hp
      · rw [h.stp.keep p o e hw] at hp; cases hp
  refine h'.put ⟨p, xs, rfl, upd_same, h.sub.none hp, h0, q⟩ fun _ l e => ?_
  cases e
  refine ⟨fun hw => ?_, fun j t hj ht ot hs => ?_⟩
  · obtain ⟨u, hu⟩ := Γ.here _ _ h.wI p hw
    rw [hu] at hp; cases hp
  · obtain ⟨o, ho, k⟩ := h.all j t ht
    obtain ⟨l, u, e1, e2, _, _⟩ := k.own_at ot
    rw [ho, e1] at hs
    cases hs
    rw [e2] at hp; cases hp
/-- a name's own object is changed -/
theorem Stt.mutO (h : Stt Γ C H σ S) {i : Nat} {l : Addr} {s : Sl} {o : HO} (hs : S.sl[i]? = some s) (os : owns s = true) (hσ : σ[i]? = some (some (V.ref l)))
    {s' : Sl} (k : SlOk Γ.H0 C (upd H l o) (some (.ref l)) s') (os' : owns s' = true) : Stt Γ C (upd H l o) σ { S with sl := S.sl.set i s' } := by
  obtain ⟨o0, ho0, k0⟩ := h.all i s hs
  obtain ⟨l', u, e1, e2, e3, e4⟩ := k0.own_at os
  rw [hσ] at ho0
  cases ho0
  cases e1
  have lw := h.wO i s l hs os hσ
  have hi : i < S.sl.length := (List.getElem?_eq_some_iff.mp hs).1
  refine ⟨⟨h.stp.core, fun a w ha hw => ?_, fun a w ha => ?_, h.stp.new, fun a ha ⟨w, hw⟩ => ?_⟩, by simp [h.len], fun j t ht => ?_, fun j k' s1 t1 l1 hjk h1 h2 o1 o2 h3 h4 => ?_, ?_, h.wC, fun j t l1 ht ot hj => ?_⟩
  · rw [upd_ne (fun z => by rw [z, e4] at ha; cases ha)]
    exact h.stp.keep a w ha hw
  · rw [upd_ne (fun z => by rw [z, e3] at ha; cases ha)]
    exact h.stp.sub a w ha
  · by_cases z : a = l
    · exact absurd (z ▸ ha) lw
    · rw [upd_ne z]
      exact h.stp.wso a ha ⟨w, hw⟩
  · by_cases e : i = j
    · subst e
      rw [List.getElem?_set_self hi] at ht
      cases ht
      exact ⟨_, hσ, k⟩
    · rw [List.getElem?_set_ne e] at ht
      obtain ⟨w, hw, kj⟩ := h.all j t ht
      refine ⟨w, hw, ?_⟩
      cases t with
      | no => trivial
      | dat d => exact kj
      | raw u => exact kj
      | per P m => exact kj
      | own ds =>
        obtain ⟨l2, xs, q1, q2, q3, q4, q5⟩ := kj
        have ne : l2 ≠ l := fun z => h.ap i j s _ l e hs ht os rfl hσ (by rw [hw, q1, z])
        exact ⟨l2, xs, q1, by rw [upd_ne ne]; exact q2, q3, q4, q5⟩
      | owd ds =>
        obtain ⟨l2, xs, q1, q2, q3, q4, q5⟩ := kj
        have ne : l2 ≠ l := fun z => h.ap i j s _ l e hs ht os rfl hσ (by rw [hw, q1, z])
        exact ⟨l2, xs, q1, by rw [upd_ne ne]; exact q2, q3, q4, q5⟩
  · have old : ∀ {m : Nat} {t : Sl}, (S.sl.set i s')[m]? = some t → owns t = true → ∃ t0, S.sl[m]? = some t0 ∧ owns t0 = true := by
      intro m t hm ot
      by_cases e : i = m
      · subst e
        exact ⟨s, hs, os⟩
      · rw [List.getElem?_set_ne e] at hm
        exact ⟨t, hm, ot⟩
    obtain ⟨t0, z1, z2⟩ := old h1 o1
    obtain ⟨t2, z3, z4⟩ := old h2 o2
    exact h.ap j k' t0 t2 l1 hjk z1 z3 z2 z4 h3 h4
  · exact Γ.stay _ _ _ h.wI fun a ha w hw => by
      have ne : a ≠ l := fun z => lw (by rw [← z]; exact ha)
      rw [upd_ne ne]
      exact hw
  · by_cases e : i = j
    · subst e
      rw [hσ] at hj
      cases hj
      exact lw
    · rw [List.getElem?_set_ne e] at ht
      exact h.wO j t l1 ht ot hj
/-- a name's own object is given away: from here on it stands -/
theorem Stt.give (h : Stt Γ C H σ S) {i : Nat} {ds : List PyData} (hs : S.sl[i]? = some (.own ds)) :
    ∃ C' l, σ[i]? = some (some (V.ref l)) ∧ Ex C C' ∧ Dq C' (.ref l) (.list ds) ∧ Stt Γ C' H σ { S with sl := S.sl.set i (.dat (.list ds)) } := by
  obtain ⟨o0, ho0, l, xs, e1, e2, e3, e4, e5⟩ := h.all i _ hs
  subst e1
  have lw := h.wO i _ l hs rfl ho0
  have hi : i < S.sl.length := (List.getElem?_eq_some_iff.mp hs).1
  have ec : Ex C (upd C l (.lst xs)) := Ex.new e3
  have dl : Dq (upd C l (.lst xs)) (.ref l) (.list ds) := .lst upd_same (DqA.mono ec e5)
  have other : ∀ {j : Nat} {t : Sl} {l2 : Addr}, i ≠ j → S.sl[j]? = some t → owns t = true → σ[j]? = some (some (V.ref l2)) → l2 ≠ l := fun {j t l2} hij ht ot hj z =>
    h.ap i j _ t l hij hs ht rfl ot ho0 (by rw [hj, z])
  refine ⟨_, l, ho0, ec, dl, ⟨h.stp.core.trans ec, h.stp.keep, fun a w ha => ?_, fun a w ha => ?_, h.stp.wso⟩, by simp [h.len], fun j t ht => ?_, fun j k' s1 t1 l1 hjk h1 h2 o1 o2 h3 h4 => ?_, h.wI, fun a ha => ?_, fun j t l1 ht ot hj => ?_⟩
  · by_cases z : a = l
    · subst z
      rw [upd_same] at ha
      rw [← ha]
      exact e2
    · rw [upd_ne z] at ha
      exact h.stp.sub a w ha
  · by_cases z : a = l
    · subst z
      exact .inr e4
    · rw [upd_ne z] at ha
      exact h.stp.new a w ha
  · by_cases e : i = j
    · subst e
      rw [List.getElem?_set_self hi] at ht
      cases ht
      exact ⟨_, ho0, _, rfl, dl⟩
    · rw [List.getElem?_set_ne e] at ht
      obtain ⟨w, hw, kj⟩ := h.all j t ht
      refine ⟨w, hw, ?_⟩
      cases t with
      | no => trivial
      | dat d =>
        obtain ⟨v, q1, q2⟩ := kj
        exact ⟨v, q1, Dq.mono ec q2⟩
      | raw u => exact kj
      | per P m =>
        obtain ⟨v, q1, q2⟩ := kj
        exact ⟨v, q1, m _ _ _ ec q2⟩
      | own ds =>
        obtain ⟨l2, ys, q1, q2, q3, q4, q5⟩ := kj
        have ne := other e ht rfl (by rw [hw, q1])
        exact ⟨l2, ys, q1, q2, by rw [upd_ne ne]; exact q3, q4, DqA.mono ec q5⟩
      | owd ds =>
        obtain ⟨l2, ys, q1, q2, q3, q4, q5⟩ := kj
        have ne := other e ht rfl (by rw [hw, q1])
        exact ⟨l2, ys, q1, q2, by rw [upd_ne ne]; exact q3, q4, DqK.mono ec q5⟩
  · by_cases e : i = j
    · subst e
      rw [List.getElem?_set_self hi] at h1
      cases h1
      cases o1
    · by_cases e2 : i = k'
      · subst e2
        rw [List.getElem?_set_self hi] at h2
        cases h2
        cases o2
      · rw [List.getElem?_set_ne e] at h1
        rw [List.getElem?_set_ne e2] at h2
        exact h.ap j k' s1 t1 l1 hjk h1 h2 o1 o2 h3 h4
  · have ne : a ≠ l := fun z => lw (by rw [← z]; exact ha)
    rw [upd_ne ne]
    exact h.wC a ha
  · by_cases e : i = j
    · subst e
      rw [List.getElem?_set_self hi] at ht
      cases ht
      cases ot
    · rw [List.getElem?_set_ne e] at ht
      exact h.wO j t l1 ht ot hj
end

/-! ### names and what stands behind them -/
section
variable {Γ : Env} {C H : Hp} {σ τ : L2.St} {S : Stat}
theorem Stt.at_ (h : Stt Γ C H (σ ++ τ) S) (hm : σ.length = S.m) {i : Nat} {s : Sl} (hs : S.sl[i]? = some s) (hi : i < S.m) : ∃ o, σ[i]? = some o ∧ SlOk Γ.H0 C H o s := by
  obtain ⟨o, ho, k⟩ := h.all i s hs
  rw [List.getElem?_append_left (by rw [hm]; exact hi)] at ho
  exact ⟨o, ho, k⟩
/-- what no name has is dropped -/
theorem Stt.drop (h : Stt Γ C H (σ ++ τ) S) (hm : σ.length = S.m) : Stt Γ C H σ { S with sl := S.sl.take S.m } := by
  have le : σ.length ≤ S.sl.length := by
    rw [← h.len, List.length_append]
    omega
  have at1 : ∀ {i : Nat} {s : Sl}, (S.sl.take S.m)[i]? = some s → S.sl[i]? = some s ∧ i < σ.length := by
    intro i s hs
    have hi := (List.getElem?_eq_some_iff.mp hs).1
    rw [List.length_take] at hi
    rw [List.getElem?_take_of_lt (by omega)] at hs
    exact ⟨hs, by omega⟩
  refine ⟨h.stp, by rw [List.length_take]; omega, fun i s hs => ?_, fun i j s t l hij hs ht os ot h1 h2 => ?_, h.wI, h.wC, fun i s l hs os h1 => ?_⟩
  · obtain ⟨h1, h2⟩ := at1 hs
    obtain ⟨o, ho, k⟩ := h.all i s h1
    rw [List.getElem?_append_left h2] at ho
    exact ⟨o, ho, k⟩
  · obtain ⟨q1, q2⟩ := at1 hs
    obtain ⟨q3, q4⟩ := at1 ht
    exact h.ap i j s t l hij q1 q3 os ot (by rw [List.getElem?_append_left q2]; exact h1) (by rw [List.getElem?_append_left q4]; exact h2)
  · obtain ⟨q1, q2⟩ := at1 hs
    exact h.wO i s l q1 os (by rw [List.getElem?_append_left q2]; exact h1)
end
/-- name i gets a value; what no name has is dropped -/
def Stat.asg (S : Stat) (i : Nat) (r : Rv) : Stat := { S with sl := (S.sl.set i (r.sl S)).take S.m }
theorem Stt.asgU {Γ : Env} {C H : Hp} {σ τ : L2.St} {S : Stat} (h : Stt Γ C H (σ ++ τ) S) (hm : σ.length = S.m) {i : Nat} {v : V} {r : Rv} (hv : Rvl (σ ++ τ) C v r) (hr : ∀ k, r = .tmp k → S.m ≤ k) (hi : i < S.m) :
    ∃ S2 : Stat, Stt Γ C H (σ.set i (some v) ++ τ) S2 ∧ S2.m = S.m ∧ S2.n = S.n ∧ S2.sl.take S.m = (S.sl.set i (r.sl S)).take S.m ∧ ∀ k, S.m ≤ k → (∀ k', r = .tmp k' → k' ≠ k) → S2.sl[k]? = S.sl[k]? := by
  have hi' : i < σ.length := by rw [hm]; exact hi
  have es : (σ ++ τ).set i (some v) = σ.set i (some v) ++ τ := List.set_append_left _ _ hi'
  have ne : ∀ k, S.m ≤ k → i ≠ k := fun k hk => by omega
  cases r with
  | dat d =>
    refine ⟨{ S with sl := S.sl.set i (.dat d) }, ?_, rfl, rfl, rfl, fun k hk _ => ?_⟩
    · rw [← es]
      exact h.put (i := i) (o := some v) (s := .dat d) ⟨v, rfl, hv⟩ (fun z => by cases z)
    exact List.getElem?_set_ne (ne k hk)
  | raw u =>
    refine ⟨{ S with sl := S.sl.set i (.raw u) }, ?_, rfl, rfl, rfl, fun k hk _ => ?_⟩
    · rw [← es]
      exact h.put (i := i) (o := some v) (s := .raw u) (congrArg some hv) (fun z => by cases z)
    exact List.getElem?_set_ne (ne k hk)
  | per P m =>
    refine ⟨{ S with sl := S.sl.set i (.per P m) }, ?_, rfl, rfl, rfl, fun k hk _ => ?_⟩
    · rw [← es]
      exact h.put (i := i) (o := some v) (s := .per P m) ⟨v, rfl, hv⟩ (fun z => by cases z)
    exact List.getElem?_set_ne (ne k hk)
  | tmp k =>
    have hk := hr k rfl
    have hv' : (σ ++ τ)[k]? = some (some v) := hv
    have hkl : k < (σ ++ τ).length := (List.getElem?_eq_some_iff.mp hv').1
    have hks : k < S.sl.length := by rw [← h.len]; exact hkl
    have ik : i ≠ k := by omega
    have hs : S.sl[k]? = some (S.sl.getD k .no) := by
      rw [List.getD_eq_getElem?_getD, List.getElem?_eq_getElem hks]
      rfl
    have h1 := h.forget k (some v)
    have e0 : (σ ++ τ).set k (some v) = σ ++ τ := by
      apply List.ext_getElem?
      intro j
      by_cases e : k = j
      · subst e
        rw [List.getElem?_set_self hkl, hv']
      · rw [List.getElem?_set_ne e]
    rw [e0] at h1
    obtain ⟨o, ho, kk⟩ := h.all k _ hs
    rw [hv'] at ho
    cases ho
    have h2 := h1.put (i := i) (o := some v) (s := S.sl.getD k .no) kk (fun os l e => by
      cases e
      refine ⟨h.wO k _ l hs os hv', fun j t hj ht ot => ?_⟩
      by_cases e : k = j
      · subst e
        rw [show ({ S with sl := S.sl.set k .no } : Stat).sl = S.sl.set k .no from rfl, List.getElem?_set_self hks] at ht
        cases ht
        cases ot
      · rw [show ({ S with sl := S.sl.set k .no } : Stat).sl = S.sl.set k .no from rfl, List.getElem?_set_ne e] at ht
        exact h.ap k j _ t l e hs ht os ot hv')
    refine ⟨{ S with sl := (S.sl.set k .no).set i (S.sl.getD k .no) }, by rw [← es]; exact h2, rfl, rfl, ?_, fun k2 hk2 hne => ?_⟩
    · show ((S.sl.set k .no).set i (S.sl.getD k .no)).take S.m = (S.sl.set i (S.sl.getD k .no)).take S.m
      rw [List.set_comm _ _ (Ne.symm ik), List.take_set_of_le hk]
    · show ((S.sl.set k .no).set i (S.sl.getD k .no))[k2]? = S.sl[k2]?
      rw [List.getElem?_set_ne (ne k2 hk2), List.getElem?_set_ne (hne k rfl)]
theorem stat_eq {S2 : Stat} {l : List Sl} {n m : Nat} (e1 : S2.m = m) (e2 : S2.n = n) (e3 : S2.sl.take m = l) : ({ S2 with sl := S2.sl.take S2.m } : Stat) = { sl := l, n := n, m := m } := by
  cases S2
  cases e1
  cases e2
  cases e3
  rfl
theorem Stt.asg {Γ : Env} {C H : Hp} {σ τ : L2.St} {S : Stat} (h : Stt Γ C H (σ ++ τ) S) (hm : σ.length = S.m) {i : Nat} {v : V} {r : Rv} (hv : Rvl (σ ++ τ) C v r) (hr : ∀ k, r = .tmp k → S.m ≤ k) :
    Stt Γ C H (σ.set i (some v)) (S.asg i r) := by
  by_cases hi : i < σ.length
  case neg =>
    have e1 : σ.set i (some v) = σ := List.set_eq_of_length_le (by omega)
    have e2 : (S.sl.set i (r.sl S)).take S.m = S.sl.take S.m := by
      rw [List.take_set_of_le (by omega)]
    unfold Stat.asg
    rw [e1, e2]
    exact h.drop hm
  obtain ⟨S2, st2, e1, e2, e3, _⟩ := h.asgU hm (i := i) hv hr (by rw [← hm]; exact hi)
  have := st2.drop (by rw [List.length_set, e1]; exact hm)
  rw [stat_eq e1 e2 e3] at this
  exact this
theorem Stt.asg2 {Γ : Env} {C H : Hp} {σ τ : L2.St} {S : Stat} (h : Stt Γ C H (σ ++ τ) S) (hm : σ.length = S.m) {i j : Nat} {v u : V} {r1 r2 : Rv} (hv : Rvl (σ ++ τ) C v r1) (hu : Rvl (σ ++ τ) C u r2) (hr1 : ∀ k, r1 = .tmp k → S.m ≤ k)
    (hr2 : ∀ k, r2 = .tmp k → S.m ≤ k) (hd : ∀ k, r1 = .tmp k → r2 ≠ .tmp k) (hi : i < S.m) (hj : j < S.m) :
    Stt Γ C H ((σ.set i (some v)).set j (some u)) { S with sl := ((S.sl.set i (r1.sl S)).set j (r2.sl S)).take S.m } := by
  obtain ⟨S2, st2, e1, e2, e3, e4⟩ := h.asgU hm (i := i) hv hr1 hi
  have hu2 : Rvl (σ.set i (some v) ++ τ) C u r2 := by
    cases r2 with
    | dat d => exact hu
    | raw w => exact hu
    | per P m => exact hu
    | tmp k =>
      have hk := hr2 k rfl
      have hu' : (σ ++ τ)[k]? = some (some u) := hu
      show (σ.set i (some v) ++ τ)[k]? = some (some u)
      rw [List.getElem?_append_right (by rw [List.length_set]; omega), List.length_set]
      rw [List.getElem?_append_right (by omega)] at hu'
      exact hu'
  obtain ⟨S3, st3, f1, f2, f3, _⟩ := st2.asgU (by rw [List.length_set, e1]; exact hm) (i := j) hu2 (fun k z => by rw [e1]; exact hr2 k z) (by rw [e1]; exact hj)
  have := st3.drop (by rw [List.length_set, List.length_set, f1, e1]; exact hm)
  have e5 : r2.sl S2 = r2.sl S := by
    cases r2 with
    | dat d => rfl
    | raw w => rfl
    | per P m => rfl
    | tmp k =>
      show S2.sl.getD k .no = S.sl.getD k .no
      rw [List.getD_eq_getElem?_getD, List.getD_eq_getElem?_getD, e4 k (hr2 k rfl) fun k' z q => hd k' z (by rw [q])]
  have e6 : S3.sl.take S.m = ((S.sl.set i (r1.sl S)).set j (r2.sl S)).take S.m := by
    rw [e1] at f3
    rw [f3, e5, List.take_set, List.take_set, e3]
  rw [stat_eq (f1.trans e1) (f2.trans e2) e6] at this
  exact this

/-! ### what a piece of the text does, the heap hidden -/
def dE (Γ : Env) (X : Cx) (e : Expr) (S : Stat) (κ : Rv → Stat → Prop) : Prop :=
  ∀ C H σ τ, Stt Γ C H (σ ++ τ) S → σ.length = S.m → ∀ Q : VK, (∀ r S' v C' H' τ', κ r S' → Stt Γ C' H' (σ ++ τ') S' → S'.m = S.m → τ <+: τ' → Ex C C' → Rvl (σ ++ τ') C' v r → (∀ k, r = .tmp k → S.m ≤ k) → Q v H') → wE X e σ H Q
def dT (Γ : Env) (X : Cx) (e : Expr) (S : Stat) (κ : Bool → Stat → Prop) : Prop :=
  ∀ C H σ τ, Stt Γ C H (σ ++ τ) S → σ.length = S.m → ∀ Q : Bool → Hp → Prop, (∀ b S' C' H' τ', κ b S' → Stt Γ C' H' (σ ++ τ') S' → S'.m = S.m → τ <+: τ' → Ex C C' → Q b H') → wT X e σ H Q
inductive RvA (ρ : L2.St) (C : Hp) : List V → List Rv → Prop
  | nil : RvA ρ C [] []
  | cons {v : V} {r : Rv} {vs : List V} {rs : List Rv} : Rvl ρ C v r → RvA ρ C vs rs → RvA ρ C (v :: vs) (r :: rs)
theorem RvA.mono {C C' : Hp} (e : Ex C C') {ρ ρ' : L2.St} (p : ρ <+: ρ') : ∀ {vs rs}, RvA ρ C vs rs → RvA ρ' C' vs rs
  | _, _, .nil => .nil
  | _, _, .cons h a => .cons (h.mono e p) (RvA.mono e p a)
def noTmp : List Rv → Prop := fun rs => ∀ k, Rv.tmp k ∉ rs
def dA (Γ : Env) (X : Cx) (es : List Expr) (S : Stat) (κ : List Rv → Stat → Prop) : Prop :=
  ∀ C H σ τ, Stt Γ C H (σ ++ τ) S → σ.length = S.m → ∀ Q : List V → Hp → Prop, (∀ rs S' vs C' H' τ', κ rs S' → Stt Γ C' H' (σ ++ τ') S' → S'.m = S.m → τ <+: τ' → Ex C C' → RvA (σ ++ τ') C' vs rs → (∀ k, Rv.tmp k ∈ rs → S.m ≤ k) → Q vs H') → wA X es σ H Q
/-- the ends of a statement -/
structure Dn where
  nx : Stat → Prop
  rt : Rv → Stat → Prop
  bk : Stat → Prop := fun _ => False
  ct : Stat → Prop := fun _ => False
structure EndsOk (Γ : Env) (C0 : Hp) (m : Nat) (D : Dn) (E : Ends) : Prop where
  nx : ∀ S C H σ, D.nx S → Stt Γ C H σ S → S.m = m → σ.length = m → Ex C0 C → E.nx σ H
  rt : ∀ d S v C H σ, D.rt (.dat d) S → Stt Γ C H σ S → Dq C v d → E.rt v H
  bk : ∀ S C H σ, D.bk S → Stt Γ C H σ S → S.m = m → σ.length = m → Ex C0 C → E.bk σ H
  ct : ∀ S C H σ, D.ct S → Stt Γ C H σ S → S.m = m → σ.length = m → Ex C0 C → E.ct σ H
def dS (Γ : Env) (X : Cx) (s : Stmt) (S : Stat) (D : Dn) : Prop := ∀ C H σ, Stt Γ C H σ S → σ.length = S.m → ∀ E : Ends, EndsOk Γ C S.m D E → wS X s E σ H
def dSs (Γ : Env) (X : Cx) (s : List Stmt) (S : Stat) (D : Dn) : Prop := ∀ C H σ, Stt Γ C H σ S → σ.length = S.m → ∀ E : Ends, EndsOk Γ C S.m D E → wSs X s E σ H
/-- a value to a target -/
def dG (Γ : Env) (X : Cx) (t : Expr) (d : PyData) (S : Stat) (κ : Stat → Prop) : Prop :=
  ∀ C H σ τ v, Stt Γ C H (σ ++ τ) S → σ.length = S.m → Dq C v d → ∀ Q : L2.St → Hp → Prop, (∀ S' C' H' σ', κ S' → Stt Γ C' H' (σ' ++ τ) S' → S'.m = S.m → σ'.length = S.m → Ex C C' → Q σ' H') → wG X t v σ H Q
def dGs (Γ : Env) (X : Cx) (t : List Expr) (ds : List PyData) (S : Stat) (κ : Stat → Prop) : Prop :=
  ∀ C H σ τ vs, Stt Γ C H (σ ++ τ) S → σ.length = S.m → DqA C vs ds → ∀ Q : L2.St → Hp → Prop, (∀ S' C' H' σ', κ S' → Stt Γ C' H' (σ' ++ τ) S' → S'.m = S.m → σ'.length = S.m → Ex C C' → Q σ' H') → wGs X t vs σ H Q

section
variable {Γ : Env} {X : Cx} {S : Stat} {κ : Rv → Stat → Prop} {κt : Bool → Stat → Prop} {pos : Pos}
theorem dE.mono {e : Expr} {κ' : Rv → Stat → Prop} (h : dE Γ X e S κ) (k : ∀ r S', κ r S' → κ' r S') : dE Γ X e S κ' := fun C H σ τ st hm Q q => h C H σ τ st hm Q fun r S' v C' H' τ' a => q r S' v C' H' τ' (k r S' a)
theorem dT.mono {e : Expr} {κ' : Bool → Stat → Prop} (h : dT Γ X e S κt) (k : ∀ r S', κt r S' → κ' r S') : dT Γ X e S κ' := fun C H σ τ st hm Q q => h C H σ τ st hm Q fun r S' C' H' τ' a => q r S' C' H' τ' (k r S' a)

/-! ### names, constants -/
theorem d_dat {x : Str} {i : Nat} {d : PyData} (hN : X.N[i]? = some x) (hs : S.sl[i]? = some (.dat d)) (hi : i < S.m) (h : κ (.dat d) S) (hv : Vis X.env.scope x := by first | exact .inl rfl | exact .inr (.inl rfl) | exact .inr (.inr rfl))
    (hd : (x == ("__debug__" : Str)) = false := by decide) (hcd : (x == ("__classdict__" : Str)) = false := by decide) : dE Γ X (.Name x pos) S κ := fun C H σ τ st hm Q q => by
  obtain ⟨o, ho, v, rfl, k⟩ := st.at_ hm hs hi
  exact ⟨_, pe_var (i := i) hN hv hd hcd, v, ho, q _ _ v C H τ h st rfl List.prefix_rfl (Ex.refl C) k (fun k z => by cases z)⟩
theorem d_raw {x : Str} {i : Nat} {u : V} (hN : X.N[i]? = some x) (hs : S.sl[i]? = some (.raw u)) (hi : i < S.m) (h : κ (.raw u) S) (hv : Vis X.env.scope x := by first | exact .inl rfl | exact .inr (.inl rfl) | exact .inr (.inr rfl))
    (hd : (x == ("__debug__" : Str)) = false := by decide) (hcd : (x == ("__classdict__" : Str)) = false := by decide) : dE Γ X (.Name x pos) S κ := fun C H σ τ st hm Q q => by
  obtain ⟨o, ho, k⟩ := st.at_ hm hs hi
  have k' : o = some u := k
  subst k'
  exact ⟨_, pe_var (i := i) hN hv hd hcd, u, ho, q _ _ u C H τ h st rfl List.prefix_rfl (Ex.refl C) rfl (fun k z => by cases z)⟩
theorem d_per {x : Str} {i : Nat} {P : V → Hp → Prop} {m} (hN : X.N[i]? = some x) (hs : S.sl[i]? = some (.per P m)) (hi : i < S.m) (h : κ (.per P m) S) (hv : Vis X.env.scope x := by first | exact .inl rfl | exact .inr (.inl rfl) | exact .inr (.inr rfl))
    (hd : (x == ("__debug__" : Str)) = false := by decide) (hcd : (x == ("__classdict__" : Str)) = false := by decide) : dE Γ X (.Name x pos) S κ := fun C H σ τ st hm Q q => by
  obtain ⟨o, ho, v, rfl, k⟩ := st.at_ hm hs hi
  exact ⟨_, pe_var (i := i) hN hv hd hcd, v, ho, q _ _ v C H τ h st rfl List.prefix_rfl (Ex.refl C) k (fun k z => by cases z)⟩
/-- a name's own list, given away -/
theorem d_give {x : Str} {i : Nat} {ds : List PyData} (hN : X.N[i]? = some x) (hs : S.sl[i]? = some (.own ds)) (hi : i < S.m) (h : κ (.dat (.list ds)) { S with sl := S.sl.set i (.dat (.list ds)) })
    (hv : Vis X.env.scope x := by first | exact .inl rfl | exact .inr (.inl rfl) | exact .inr (.inr rfl)) (hd : (x == ("__debug__" : Str)) = false := by decide) (hcd : (x == ("__classdict__" : Str)) = false := by decide) : dE Γ X (.Name x pos) S κ := fun C H σ τ st hm Q q => by
  obtain ⟨C', l, ho, ec, dl, st'⟩ := st.give hs
  rw [List.getElem?_append_left (by rw [hm]; exact hi)] at ho
  exact ⟨_, pe_var (i := i) hN hv hd hcd, _, ho, q _ _ _ C' H τ h st' rfl List.prefix_rfl ec dl (fun k z => by cases z)⟩
theorem d_int {i j} (h : κ (.dat (.int i)) S) : dE Γ X (.Constant (.int i) j pos) S κ := fun C H σ τ st hm Q q => ⟨_, pe_int, q _ _ _ C H τ h st rfl List.prefix_rfl (Ex.refl C) (.int i) (fun k z => by cases z)⟩
theorem d_bl {i j} (h : κ (.dat (.bool i)) S) : dE Γ X (.Constant (.bool i) j pos) S κ := fun C H σ τ st hm Q q => ⟨_, pe_bl, q _ _ _ C H τ h st rfl List.prefix_rfl (Ex.refl C) (.bl i) (fun k z => by cases z)⟩
theorem d_str {i j} (h : κ (.dat (.str i)) S) : dE Γ X (.Constant (.str i) j pos) S κ := fun C H σ τ st hm Q q => ⟨_, pe_str, q _ _ _ C H τ h st rfl List.prefix_rfl (Ex.refl C) (.str i) (fun k z => by cases z)⟩
theorem d_non {j} (h : κ (.dat .none) S) : dE Γ X (.Constant .none j pos) S κ := fun C H σ τ st hm Q q => ⟨_, pe_non, q _ _ _ C H τ h st rfl List.prefix_rfl (Ex.refl C) .non (fun k z => by cases z)⟩
/-- a module's constant -/
theorem d_glob {x : Str} {v : V} {u : Value} {d : PyData} (hg : Gl X x) (hm' : X.mg x = some u) (r : RelV v u) (k : ∀ C, Dq C v d) (h : κ (.dat d) S) (hd : (x == ("__debug__" : Str)) = false := by decide) : dE Γ X (.Name x pos) S κ :=
  fun C H σ τ st hm Q q => ⟨_, pe_glob hg hm' r hd, q _ _ v C H τ h st rfl List.prefix_rfl (Ex.refl C) (k C) (fun k z => by cases z)⟩

/-! ### argument lists, displays -/
theorem pre {σ τ τ' : L2.St} (h : τ <+: τ') : (σ ++ τ) <+: (σ ++ τ') := by
  obtain ⟨z, rfl⟩ := h
  exact ⟨z, by rw [List.append_assoc]⟩
theorem d_nil {κ : List Rv → Stat → Prop} (h : κ [] S) : dA Γ X [] S κ := fun C H σ τ st hm Q q => ⟨_, pa_nil, q _ _ _ C H τ h st rfl List.prefix_rfl (Ex.refl C) .nil (fun k z => by cases z)⟩
theorem d_cons {κ : List Rv → Stat → Prop} {e : Expr} {es : List Expr} (h : dE Γ X e S fun r S1 => dA Γ X es S1 fun rs S2 => κ (r :: rs) S2)
    (hs : starEach (e :: es) X.env = (false, eval e X.env) :: starEach es X.env := by rfl) : dA Γ X (e :: es) S κ := fun C H σ τ st hm Q q => by
  refine ⟨_, pa_cons (pe_w e) (pa_w es) hs, h C H σ τ st hm _ fun r S1 v C1 H1 τ1 k1 st1 m1 p1 e1 a1 t1 => k1 C1 H1 σ τ1 st1 (hm.trans m1.symm) _ fun rs S2 vs C2 H2 τ2 k2 st2 m2 p2 e2 a2 t2 => ?_⟩
  refine q _ S2 _ C2 H2 τ2 k2 st2 (m2.trans m1) (p1.trans p2) (e1.trans e2) (.cons (a1.mono e2 (pre p2)) a2) fun k hk => ?_
  rcases List.mem_cons.mp hk with z | z
  · exact t1 k z.symm
  · rw [← m1]
    exact t2 k z
/-- all of them data -/
def allD : List Rv → Option (List PyData)
  | [] => some []
  | .dat d :: r => (allD r).map (d :: ·)
  | _ :: _ => none
theorem allD_ok {ρ : L2.St} {C : Hp} : ∀ {vs : List V} {rs : List Rv} {ds : List PyData}, RvA ρ C vs rs → allD rs = some ds → DqA C vs ds
  | _, _, _, .nil, h => by
    cases h
    exact .nil
  | _, .dat d :: r, ds, .cons h a, e => by
    unfold allD at e
    cases q : allD r with
    | none => rw [q] at e; cases e
    | some es =>
      rw [q] at e
      cases e
      exact .cons h (allD_ok a q)
theorem d_tup {es : List Expr} {k : Nat} (h : dA Γ X es S fun rs S1 => ∃ ds, allD rs = some ds ∧ ds.length ≤ 100000 ∧ κ (.dat (.tuple ds)) S1) : dE Γ X (.Tuple es k pos) S κ := fun C H σ τ st hm Q q => by
  refine ⟨_, pe_tup (pa_w es), h C H σ τ st hm _ fun rs S1 vs C1 H1 τ1 ⟨ds, k1, k2, k3⟩ st1 m1 p1 e1 a1 _ => ?_⟩
  have a2 := allD_ok a1 k1
  refine ⟨Nat.le_trans (by rw [a2.length]; exact k2) (by decide), fun p hp => ?_⟩
  have st2 := st1.new (o := .tup vs) hp
  have en : Ex C1 (upd C1 p (.tup vs)) := Ex.new (st1.sub.none hp)
  exact q _ _ _ _ _ τ1 k3 st2 m1 p1 (e1.trans en) (.tup upd_same (DqA.mono en a2)) (fun k z => by cases z)
theorem d_lst {es : List Expr} (h : dA Γ X es S fun rs S1 => ∃ ds, allD rs = some ds ∧ ds.length ≤ 100000 ∧ κ (.dat (.list ds)) S1) : dE Γ X (.List es pos) S κ := fun C H σ τ st hm Q q => by
  refine ⟨_, pe_lst (pa_w es), h C H σ τ st hm _ fun rs S1 vs C1 H1 τ1 ⟨ds, k1, k2, k3⟩ st1 m1 p1 e1 a1 _ => ?_⟩
  have a2 := allD_ok a1 k1
  refine ⟨Nat.le_trans (by rw [a2.length]; exact k2) (by decide), fun p hp => ?_⟩
  have st2 := st1.new (o := .lst vs) hp
  have en : Ex C1 (upd C1 p (.lst vs)) := Ex.new (st1.sub.none hp)
  exact q _ _ _ _ _ τ1 k3 st2 m1 p1 (e1.trans en) (.lst upd_same (DqA.mono en a2)) (fun k z => by cases z)
/-- a new list that goes to a name -/
theorem Stt.tmpL {C H : Hp} {σ τ : L2.St} (st : Stt Γ C H (σ ++ τ) S) {p : Addr} {xs : List V} {ds : List PyData} (hp : H p = none) (q : DqA C xs ds) :
    Stt Γ C (upd H p (.lst xs)) (σ ++ (τ ++ [some (.ref p)])) { S with sl := S.sl ++ [.own ds] } ∧ (σ ++ (τ ++ [some (V.ref p)]))[S.sl.length]? = some (some (.ref p)) := by
  have h0 := st
  have e : σ ++ (τ ++ [some (V.ref p)]) = (σ ++ τ) ++ [some (V.ref p)] := by rw [List.append_assoc]
  have hl := st.len
  have st1 : Stt Γ C H ((σ ++ τ) ++ [none]) { S with sl := S.sl ++ [.no] } := by
    have at1 : ∀ {i : Nat} {s : Sl}, (S.sl ++ [Sl.no])[i]? = some s → (S.sl[i]? = some s ∧ i < (σ ++ τ).length) ∨ (i = S.sl.length ∧ s = .no) := by
      intro i s hs
      by_cases hi : i < S.sl.length
      · rw [List.getElem?_append_left hi] at hs
        exact .inl ⟨hs, by rw [hl]; exact hi⟩
      · have h2 := (List.getElem?_eq_some_iff.mp hs).1
        rw [List.length_append] at h2
        have e3 : i = S.sl.length := by
          have : [Sl.no].length = 1 := rfl
          omega
        subst e3
        rw [List.getElem?_append_right (Nat.le_refl _)] at hs
        simp at hs
        exact .inr ⟨rfl, hs.symm⟩
    refine ⟨st.stp, by
      show ((σ ++ τ) ++ [none]).length = (S.sl ++ [Sl.no]).length
      rw [List.length_append (as := σ ++ τ), List.length_append (as := S.sl), hl]
      rfl, fun i s hs => ?_, fun i j s t l hij hs ht os ot h1 h2 => ?_, st.wI, st.wC, fun i s l hs os h1 => ?_⟩
    · rcases at1 hs with ⟨h1, h2⟩ | ⟨rfl, rfl⟩
      · obtain ⟨o, ho, k⟩ := st.all i s h1
        exact ⟨o, by rw [List.getElem?_append_left h2]; exact ho, k⟩
      · exact ⟨none, by rw [List.getElem?_append_right (by omega), hl]; simp, trivial⟩
    · rcases at1 hs with ⟨q1, q2⟩ | ⟨rfl, rfl⟩
      · rcases at1 ht with ⟨q3, q4⟩ | ⟨rfl, rfl⟩
        · rw [List.getElem?_append_left q2] at h1
          rw [List.getElem?_append_left q4] at h2
          exact st.ap i j s t l hij q1 q3 os ot h1 h2
        · cases ot
      · cases os
    · rcases at1 hs with ⟨q1, q2⟩ | ⟨rfl, rfl⟩
      · rw [List.getElem?_append_left q2] at h1
        exact st.wO i s l q1 os h1
      · cases os
  have st2 := st1.setNew (i := S.sl.length) (xs := xs) hp q
  have e1 : ((σ ++ τ) ++ [none]).set S.sl.length (some (V.ref p)) = σ ++ (τ ++ [some (V.ref p)]) := by
    rw [e, List.set_append_right _ _ (by omega), hl]
    simp
  have e2 : (S.sl ++ [Sl.no]).set S.sl.length (.own ds) = S.sl ++ [.own ds] := by
    rw [List.set_append_right _ _ (Nat.le_refl _)]
    simp
  have st3 : Stt Γ C (upd H p (.lst xs)) (((σ ++ τ) ++ [none]).set S.sl.length (some (V.ref p))) { S with sl := (S.sl ++ [Sl.no]).set S.sl.length (.own ds) } := st2
  rw [e1, e2] at st3
  refine ⟨st3, ?_⟩
  rw [e, List.getElem?_append_right (by omega), hl]
  simp
theorem d_lstN {es : List Expr} (h : dA Γ X es S fun rs S1 => ∃ ds, allD rs = some ds ∧ ds.length ≤ 100000 ∧ κ (.tmp S1.sl.length) { S1 with sl := S1.sl ++ [.own ds] }) : dE Γ X (.List es pos) S κ := fun C H σ τ st hm Q q => by
  refine ⟨_, pe_lst (pa_w es), h C H σ τ st hm _ fun rs S1 vs C1 H1 τ1 ⟨ds, k1, k2, k3⟩ st1 m1 p1 e1 a1 _ => ?_⟩
  have a2 := allD_ok a1 k1
  refine ⟨Nat.le_trans (by rw [a2.length]; exact k2) (by decide), fun p hp => ?_⟩
  obtain ⟨st2, ht⟩ := st1.tmpL hp a2
  refine q _ _ _ _ _ _ k3 st2 m1 (p1.trans (List.prefix_append _ _)) e1 ht fun k z => ?_
  cases z
  rw [← st1.len, List.length_append, hm]
  omega
end
end Dw
set_option maxHeartbeats 4000000
namespace Dw
open PySem PySem.Spec PyProof.Rows L2
theorem opr_w {X : Cx} {f : Value → Value → Sem Value} : OpR X f (fun x y H Q => ∃ r, OpR X f r ∧ r x y H Q) := fun pins s σ H x y v u Q I rx ry ⟨r, o, h⟩ => o pins s σ H x y v u Q I rx ry h

/-! ### operators on data -/
def binD (op : Operator) (a b : PyData) : Option PyData :=
  match op, a, b with
  | .Add, .int i, .int j => some (.int (i + j))
  | .Add, .str x, .str y => if x.length + y.length ≤ 100000 then some (.str (x ++ y)) else none
  | .Add, .list xs, .list ys => if xs.length + ys.length ≤ 100000 then some (.list (xs ++ ys)) else none
  | .Add, .tuple xs, .tuple ys => if xs.length + ys.length ≤ 100000 then some (.tuple (xs ++ ys)) else none
  | .Sub, .int i, .int j => some (.int (i - j))
  | .Mult, .int i, .int j => if (-(2 ^ 64) < i ∧ i < 2 ^ 64) ∨ (-(2 ^ 64) < j ∧ j < 2 ^ 64) then some (.int (i * j)) else none
  | .Mult, .list xs, .int k => if k < 100000 ∧ -100000 < k ∧ xs.length * k.toNat ≤ 100000 then some (.list (List.replicate k.toNat xs).flatten) else none
  | .Mod, .int i, .int j => if j ≠ 0 then some (.int (i.fmod j)) else none
  | .FloorDiv, .int i, .int j => if j ≠ 0 ∧ j.natAbs < 1073741824 then some (.int (i.fdiv j)) else none
  | .Pow, .int i, .int j => if 0 ≤ j ∧ j ≤ 1000000 ∧ i.natAbs < 2 ^ 64 then some (.int (i ^ j.toNat)) else none
  | _, _, _ => none
theorem sz {n : Nat} (h : n ≤ 100000) : n ≤ sizeLine := Nat.le_trans h (by decide)
theorem DqA.flat {H : Hp} {xs : List V} {ds : List PyData} (h : DqA H xs ds) : ∀ k, DqA H (List.replicate k xs).flatten (List.replicate k ds).flatten
  | 0 => .nil
  | k + 1 => by
    rw [List.replicate_succ, List.replicate_succ, List.flatten_cons, List.flatten_cons]
    exact h.append (DqA.flat h k)
section
variable {Γ : Env} {X : Cx} {S : Stat} {C H : Hp} {σ : L2.St} {Q : VK} {x y : V} {d1 d2 d : PyData}
theorem new_tup (st : Stt Γ C H σ S) {vs : List V} {ds : List PyData} (a : DqA C vs ds) (q : ∀ v C' H', Stt Γ C' H' σ S → Ex C C' → Dq C' v (.tuple ds) → Q v H') {p : Addr} (hp : H p = none) : Q (.ref p) (upd H p (.tup vs)) := by
  have en : Ex C (upd C p (.tup vs)) := Ex.new (st.sub.none hp)
  exact q _ _ _ (st.new hp) en (.tup upd_same (DqA.mono en a))
theorem new_lst (st : Stt Γ C H σ S) {vs : List V} {ds : List PyData} (a : DqA C vs ds) (q : ∀ v C' H', Stt Γ C' H' σ S → Ex C C' → Dq C' v (.list ds) → Q v H') {p : Addr} (hp : H p = none) : Q (.ref p) (upd H p (.lst vs)) := by
  have en : Ex C (upd C p (.lst vs)) := Ex.new (st.sub.none hp)
  exact q _ _ _ (st.new hp) en (.lst upd_same (DqA.mono en a))
theorem binD_ok {op : Operator} (hb : binD op d1 d2 = some d) (h1 : Dq C x d1) (h2 : Dq C y d2) (st : Stt Γ C H σ S) (q : ∀ v C' H', Stt Γ C' H' σ S → Ex C C' → Dq C' v d → Q v H') :
    ∃ r, OpR X (binaryOp op) r ∧ r x y H Q := by
  have same : ∀ {v : V}, Dq C v d → Q v H := fun k => q _ C H st (Ex.refl C) k
  unfold binD at hb
  split at hb
  · cases h1; cases h2; cases hb
    exact ⟨_, op_add, _, _, rfl, rfl, same (.int _)⟩
  · cases h1; cases h2
    split at hb
    · rename_i hz
      cases hb
      exact ⟨_, op_add_str, _, _, rfl, rfl, sz hz, same (.str _)⟩
    · cases hb
  · cases h1 with
    | lst e1 a1 =>
      cases h2 with
      | lst e2 a2 =>
        split at hb
        · rename_i hz
          cases hb
          refine ⟨_, op_cat, _, _, _, _, rfl, rfl, st.sub _ _ e1, st.sub _ _ e2, sz (by rw [a1.length, a2.length]; exact hz), fun p hp => new_lst st (a1.append a2) q hp⟩
        · cases hb
  · cases h1 with
    | tup e1 a1 =>
      cases h2 with
      | tup e2 a2 =>
        split at hb
        · rename_i hz
          cases hb
          have l1 := a1.length
          have l2 := a2.length
          refine ⟨_, op_catA, _, _, _, _, rfl, rfl, SqT.of (st.sub _ _ e1), SqT.of (st.sub _ _ e2), sz (by omega), fun e => ?_, fun _ e => ?_, fun _ _ p hp => new_tup st (a1.append a2) q hp⟩
          · subst e
            cases a1
            exact same (.tup e2 a2)
          · subst e
            cases a2
            rw [List.append_nil] at same
            exact same (.tup e1 a1)
        · cases hb
  · cases h1; cases h2; cases hb
    exact ⟨_, op_sub, _, _, rfl, rfl, same (.int _)⟩
  · cases h1; cases h2
    split at hb
    · rename_i hz
      cases hb
      exact ⟨_, op_mul, _, _, rfl, rfl, hz, same (.int _)⟩
    · cases hb
  · cases h1 with
    | lst e1 a1 =>
      cases h2
      split at hb
      · rename_i hz
        cases hb
        exact ⟨_, op_rep, _, _, _, rfl, rfl, st.sub _ _ e1, by omega, by omega, sz (by rw [a1.length]; exact hz.2.2), fun p hp => new_lst st (a1.flat _) q hp⟩
      · cases hb
  · cases h1; cases h2
    split at hb
    · rename_i hz
      cases hb
      exact ⟨_, op_modN, _, _, rfl, rfl, hz, same (.int _)⟩
    · cases hb
  · cases h1; cases h2
    split at hb
    · rename_i hz
      cases hb
      exact ⟨_, op_fdivN, _, _, rfl, rfl, hz, same (.int _)⟩
    · cases hb
  · cases h1; cases h2
    split at hb
    · rename_i hz
      cases hb
      exact ⟨_, op_pow, _, _, rfl, rfl, hz, same (.int _)⟩
    · cases hb
  · cases hb
end

/-! ### comparisons on data -/
def flatD : PyData → Bool
  | .none => true
  | .bool _ => true
  | .int _ => true
  | .str _ => true
  | _ => false
def eqF : PyData → PyData → Bool
  | .none, .none => true
  | .bool a, .bool b => a == b
  | .int a, .int b => a == b
  | .str a, .str b => decide (a = b)
  | .bool a, .int b => (if a then 1 else 0) == b
  | .int a, .bool b => a == (if b then 1 else 0)
  | _, _ => false
mutual
theorem Dq.dp {K : PySem.W.Frag} {H : Hp} : ∀ {v : V} {d : PyData}, Dq H v d → d.canLay0 = true → Dp K H v d
  | _, _, .non, _ => .non
  | _, _, .bl b, _ => .bl b
  | _, _, .int i, _ => .int i
  | _, _, .str x, _ => .str x
  | _, _, .lst h a, c => .lst (.inl (.inl h)) (DqA.dp a (by simpa [PyData.canLay0] using c))
  | _, _, .tup h a, c => .tup (.inl (.inl h)) (DqA.dp a (by simpa [PyData.canLay0] using c))
  | _, _, .dic h a, c => by simp [PyData.canLay0] at c
theorem DqA.dp {K : PySem.W.Frag} {H : Hp} : ∀ {v : List V} {d : List PyData}, DqA H v d → PyData.canLayAll0 d = true → DpAll K H v d
  | _, _, .nil, _ => .nil
  | _, d :: ds, .cons h a, c => by
    have c' : (PyData.canLay0 d && PyData.canLayAll0 ds) = true := by simpa [PyData.canLayAll0] using c
    obtain ⟨c1, c2⟩ := Bool.and_eq_true_iff.mp c'
    exact .cons (Dq.dp h c1) (DqA.dp a c2)
end
/-- .. of two data by a comparison; in, not in: of flat things in a list or tuple of flat things, or of shaped data -/
def cmpD (op : CmpOp) (a b : PyData) : Option Bool :=
  match op with
  | .Eq => if SeqAt.shaped a && SeqAt.shaped b then some (PyData.eqv a b) else none
  | .NotEq => if SeqAt.shaped a && SeqAt.shaped b then some (!PyData.eqv a b) else none
  | .Is => (match b with | .none => some (match a with | .none => true | _ => false) | _ => none)
  | .IsNot => (match b with | .none => some (match a with | .none => false | _ => true) | _ => none)
  | .Lt => (match a, b with | .int i, .int j => some (decide (i < j)) | _, _ => none)
  | .LtE => (match a, b with | .int i, .int j => some (decide (i ≤ j)) | _, _ => none)
  | .Gt => (match a, b with | .int i, .int j => some (decide (j < i)) | _, _ => none)
  | .GtE => (match a, b with | .int i, .int j => some (decide (j ≤ i)) | _, _ => none)
  | .In => (match b with
    | .list ds => if SeqAt.shaped a && SeqAt.shaped (.list ds) then some (ds.any fun z => PyData.eqv z a) else none
    | _ => none)
  | .NotIn => (match b with
    | .list ds => if SeqAt.shaped a && SeqAt.shaped (.list ds) then some (!ds.any fun z => PyData.eqv z a) else none
    | _ => none)
section
variable {Γ : Env} {X : Cx} {S : Stat} {C H : Hp} {σ : L2.St} {Q : VK} {x y : V} {d1 d2 : PyData} {b : Bool}
theorem cmpD_ok {op : CmpOp} (hu : X.A.units + 65 < cLine) (hb : cmpD op d1 d2 = some b) (h1 : Dq H x d1) (h2 : Dq H y d2) (q : Q (.bl b) H) : ∃ r, OpR X (compareOp op) r ∧ r x y H Q := by
  have sh : ∀ {d : PyData} {v : V}, SeqAt.shaped d = true → Dq H v d → Dp X.K H v d := fun h k => k.dp (SeqAt.canLay_of_shaped h)
  cases op with
  | Eq =>
    simp only [cmpD] at hb
    split at hb
    · rename_i hz
      obtain ⟨z1, z2⟩ := Bool.and_eq_true_iff.mp hz
      cases hb
      exact ⟨_, op_eqD (by omega), _, _, sh z1 h1, sh z2 h2, z1, z2, q⟩
    · cases hb
  | NotEq =>
    simp only [cmpD] at hb
    split at hb
    · rename_i hz
      obtain ⟨z1, z2⟩ := Bool.and_eq_true_iff.mp hz
      cases hb
      exact ⟨_, op_neD (by omega), _, _, sh z1 h1, sh z2 h2, z1, z2, q⟩
    · cases hb
  | Is =>
    simp only [cmpD] at hb
    split at hb
    · cases h2
      have e : b = decide (x = .non) := by
        cases hb
        cases h1 <;> simp
      exact ⟨_, op_isN, rfl, by rw [← e]; exact q⟩
    · cases hb
  | IsNot =>
    simp only [cmpD] at hb
    split at hb
    · cases h2
      have e : b = !decide (x = .non) := by
        cases hb
        cases h1 <;> simp
      exact ⟨_, op_notN, rfl, by rw [← e]; exact q⟩
    · cases hb
  | Lt =>
    simp only [cmpD] at hb
    split at hb
    · cases h1; cases h2; cases hb
      exact ⟨_, op_lt, _, _, rfl, rfl, q⟩
    · cases hb
  | LtE =>
    simp only [cmpD] at hb
    split at hb
    · cases h1; cases h2; cases hb
      exact ⟨_, op_le, _, _, rfl, rfl, q⟩
    · cases hb
  | Gt =>
    simp only [cmpD] at hb
    split at hb
    · cases h1; cases h2; cases hb
      exact ⟨_, op_gt, _, _, rfl, rfl, q⟩
    · cases hb
  | GtE =>
    simp only [cmpD] at hb
    split at hb
    · cases h1; cases h2; cases hb
      exact ⟨_, op_ge, _, _, rfl, rfl, q⟩
    · cases hb
  | In =>
    simp only [cmpD] at hb
    split at hb
    · split at hb
      · rename_i hz
        obtain ⟨z1, z2⟩ := Bool.and_eq_true_iff.mp hz
        cases hb
        exact ⟨_, op_inD hu, _, _, sh z1 h1, sh z2 h2, z1, z2, q⟩
      · cases hb
    · cases hb
  | NotIn =>
    simp only [cmpD] at hb
    split at hb
    · split at hb
      · rename_i hz
        obtain ⟨z1, z2⟩ := Bool.and_eq_true_iff.mp hz
        cases hb
        exact ⟨_, op_notInD hu, _, _, sh z1 h1, sh z2 h2, z1, z2, q⟩
      · cases hb
    · cases hb
end
section
variable {Γ : Env} {X : Cx} {S : Stat} {κ : Rv → Stat → Prop} {κt : Bool → Stat → Prop} {pos : Pos} {a b : Expr}
theorem d_op {op : Operator} (h : dE Γ X a S fun r1 S1 => dE Γ X b S1 fun r2 S2 => ∃ d1 d2 d, r1 = .dat d1 ∧ r2 = .dat d2 ∧ binD op d1 d2 = some d ∧ κ (.dat d) S2) : dE Γ X (.BinOp a op b pos) S κ := fun C H σ τ st hm Q q => by
  refine ⟨_, pe_op opr_w (pe_w a) (pe_w b), h C H σ τ st hm _ fun r1 S1 v1 C1 H1 τ1 k1 st1 m1 p1 e1 a1 _ => k1 C1 H1 σ τ1 st1 (hm.trans m1.symm) _ fun r2 S2 v2 C2 H2 τ2 ⟨d1, d2, d, z1, z2, hb, k⟩ st2 m2 p2 e2 a2 _ => ?_⟩
  subst z1 z2
  exact binD_ok hb (Dq.mono e2 a1) a2 st2 fun v C' H' st' e' dv => q _ _ v C' H' τ2 k st' (m2.trans m1) (p1.trans p2) ((e1.trans e2).trans e') dv (fun k z => by cases z)
theorem d_cmp {op : CmpOp} (hu : X.A.units + 65 < cLine) (h : dE Γ X a S fun r1 S1 => dE Γ X b S1 fun r2 S2 => ∃ d1 d2 c, r1 = .dat d1 ∧ r2 = .dat d2 ∧ cmpD op d1 d2 = some c ∧ κ (.dat (.bool c)) S2)
    (hbm : behindInMarks op b = false := by first | exact nomark _ | rfl) : dE Γ X (.Compare a [op] [b] pos) S κ := fun C H σ τ st hm Q q => by
  refine ⟨_, pe_cmpR opr_w (pe_w a) (pe_w b) hbm, h C H σ τ st hm _ fun r1 S1 v1 C1 H1 τ1 k1 st1 m1 p1 e1 a1 _ => k1 C1 H1 σ τ1 st1 (hm.trans m1.symm) _ fun r2 S2 v2 C2 H2 τ2 ⟨d1, d2, c, z1, z2, hb, k⟩ st2 m2 p2 e2 a2 _ => ?_⟩
  subst z1 z2
  exact cmpD_ok hu hb (Dq.mono (e2.trans st2.sub) a1) (Dq.mono st2.sub a2) (q _ _ _ C2 H2 τ2 k st2 (m2.trans m1) (p1.trans p2) (e1.trans e2) (.bl c) (fun k z => by cases z))
theorem t_cmp {op : CmpOp} (hu : X.A.units + 65 < cLine) (h : dE Γ X a S fun r1 S1 => dE Γ X b S1 fun r2 S2 => ∃ d1 d2 c, r1 = .dat d1 ∧ r2 = .dat d2 ∧ cmpD op d1 d2 = some c ∧ κt c S2)
    (hbm : behindInMarks op b = false := by first | exact nomark _ | rfl) : dT Γ X (.Compare a [op] [b] pos) S κt := fun C H σ τ st hm Q q => by
  refine ⟨_, pt_cmpR opr_w (pe_w a) (pe_w b) hbm, h C H σ τ st hm _ fun r1 S1 v1 C1 H1 τ1 k1 st1 m1 p1 e1 a1 _ => k1 C1 H1 σ τ1 st1 (hm.trans m1.symm) _ fun r2 S2 v2 C2 H2 τ2 ⟨d1, d2, c, z1, z2, hb, k⟩ st2 m2 p2 e2 a2 _ => ?_⟩
  subst z1 z2
  exact cmpD_ok hu hb (Dq.mono (e2.trans st2.sub) a1) (Dq.mono st2.sub a2) ⟨c, rfl, q _ _ C2 H2 τ2 k st2 (m2.trans m1) (p1.trans p2) (e1.trans e2)⟩
/-- a chain of two -/
theorem d_chain {c : Expr} {op op' : CmpOp} (hu : X.A.units + 65 < cLine) (h : dE Γ X a S fun r1 S1 => dE Γ X b S1 fun r2 S2 => ∃ d1 d2 k, r1 = .dat d1 ∧ r2 = .dat d2 ∧ cmpD op d1 d2 = some k ∧
      (if k = true then dE Γ X c S2 fun r3 S3 => ∃ d3 k', r3 = .dat d3 ∧ cmpD op' d2 d3 = some k' ∧ κ (.dat (.bool k')) S3 else κ (.dat (.bool false)) S2))
    (hbm : lastMarks [op, op'] [b, c] = false := by with_unfolding_all rfl) : dE Γ X (.Compare a [op, op'] [b, c] pos) S κ := fun C H σ τ st hm Q q => by
  refine ⟨_, pe_chain opr_w opr_w (pe_w a) (pe_w b) (pe_w c) hbm, h C H σ τ st hm _ fun r1 S1 v1 C1 H1 τ1 k1 st1 m1 p1 e1 a1 _ => k1 C1 H1 σ τ1 st1 (hm.trans m1.symm) _ fun r2 S2 v2 C2 H2 τ2 ⟨d1, d2, k, z1, z2, hb, kk⟩ st2 m2 p2 e2 a2 _ => ?_⟩
  subst z1 z2
  refine cmpD_ok hu hb (Dq.mono (e2.trans st2.sub) a1) (Dq.mono st2.sub a2) ⟨k, rfl, ?_⟩
  cases k with
  | true =>
    rw [if_pos rfl] at kk ⊢
    refine kk C2 H2 σ τ2 st2 (hm.trans (m2.trans m1).symm) _ fun r3 S3 v3 C3 H3 τ3 ⟨d3, k', z3, hb', k3⟩ st3 m3 p3 e3 a3 _ => ?_
    subst z3
    exact cmpD_ok hu hb' (Dq.mono (e3.trans st3.sub) a2) (Dq.mono st3.sub a3) (q _ _ _ C3 H3 τ3 k3 st3 (m3.trans (m2.trans m1)) ((p1.trans p2).trans p3) ((e1.trans e2).trans e3) (.bl k') (fun k z => by cases z))
  | false =>
    rw [if_neg Bool.false_ne_true] at kk ⊢
    exact q _ _ _ C2 H2 τ2 kk st2 (m2.trans m1) (p1.trans p2) (e1.trans e2) (.bl false) (fun k z => by cases z)
theorem t_chain {c : Expr} {op op' : CmpOp} (hu : X.A.units + 65 < cLine) (h : dE Γ X a S fun r1 S1 => dE Γ X b S1 fun r2 S2 => ∃ d1 d2 k, r1 = .dat d1 ∧ r2 = .dat d2 ∧ cmpD op d1 d2 = some k ∧
      (if k = true then dE Γ X c S2 fun r3 S3 => ∃ d3 k', r3 = .dat d3 ∧ cmpD op' d2 d3 = some k' ∧ κt k' S3 else κt false S2))
    (hbm : lastMarks [op, op'] [b, c] = false := by with_unfolding_all rfl) : dT Γ X (.Compare a [op, op'] [b, c] pos) S κt := fun C H σ τ st hm Q q => by
  refine ⟨_, pt_chain opr_w opr_w (pe_w a) (pe_w b) (pe_w c) hbm, h C H σ τ st hm _ fun r1 S1 v1 C1 H1 τ1 k1 st1 m1 p1 e1 a1 _ => k1 C1 H1 σ τ1 st1 (hm.trans m1.symm) _ fun r2 S2 v2 C2 H2 τ2 ⟨d1, d2, k, z1, z2, hb, kk⟩ st2 m2 p2 e2 a2 _ => ?_⟩
  subst z1 z2
  refine cmpD_ok hu hb (Dq.mono (e2.trans st2.sub) a1) (Dq.mono st2.sub a2) ⟨k, rfl, ?_⟩
  cases k with
  | true =>
    rw [if_pos rfl] at kk ⊢
    refine kk C2 H2 σ τ2 st2 (hm.trans (m2.trans m1).symm) _ fun r3 S3 v3 C3 H3 τ3 ⟨d3, k', z3, hb', k3⟩ st3 m3 p3 e3 a3 _ => ?_
    subst z3
    exact cmpD_ok hu hb' (Dq.mono (e3.trans st3.sub) a2) (Dq.mono st3.sub a3) ⟨k', rfl, q _ _ C3 H3 τ3 k3 st3 (m3.trans (m2.trans m1)) ((p1.trans p2).trans p3) ((e1.trans e2).trans e3)⟩
  | false =>
    rw [if_neg Bool.false_ne_true] at kk ⊢
    exact ⟨false, rfl, q _ _ C2 H2 τ2 kk st2 (m2.trans m1) (p1.trans p2) (e1.trans e2)⟩

/-! ### tests -/
theorem t_val {e : Expr} (h : dE Γ X e S fun r S1 => ∃ c, r = .dat (.bool c) ∧ κt c S1) (he : ∀ whole, isTrue e X.env whole = (do let v ← whole; standAt e.pos; holding [v] (truthy v)) := by intro _; rfl) : dT Γ X e S κt := fun C H σ τ st hm Q q => by
  refine ⟨_, pt_val (pe_w e) he, h C H σ τ st hm _ fun r S1 v C1 H1 τ1 ⟨c, z, k⟩ st1 m1 p1 e1 a1 _ => ?_⟩
  subst z
  cases a1
  exact ⟨c, rfl, q _ _ C1 H1 τ1 k st1 m1 p1 e1⟩
/-- the truth of data -/
def truD : PyData → Option Bool
  | .none => some false
  | .bool b => some b
  | .int i => some (i != 0)
  | .str s => if s.length ≤ 100000 then some (s.length != 0) else none
  | .list xs => some (!xs.isEmpty)
  | .tuple xs => some (!xs.isEmpty)
  | .dict xs => some (!xs.isEmpty)
end

/-! ### and, or, not, if -/
def wW (X : Cx) (e : Expr) : TT := fun σ H Q => ∃ t, PW X e t ∧ t σ H Q
theorem pw_w {X : Cx} (e : Expr) : PW X e (wW X e) := ⟨fun wh pins s σ H Q I ⟨_, p, h⟩ => p.run wh pins s σ H Q I h⟩
def dW (Γ : Env) (X : Cx) (e : Expr) (S : Stat) (κ : Bool → Stat → Prop) : Prop :=
  ∀ C H σ τ, Stt Γ C H (σ ++ τ) S → σ.length = S.m → ∀ Q : Bool → Hp → Prop, (∀ b S' C' H' τ', κ b S' → Stt Γ C' H' (σ ++ τ') S' → S'.m = S.m → τ <+: τ' → Ex C C' → Q b H') → wW X e σ H Q
section
variable {Γ : Env} {X : Cx} {S : Stat} {κ : Rv → Stat → Prop} {κt : Bool → Stat → Prop} {pos : Pos} {a b c : Expr} {rest : List Expr}
theorem t_w {e : Expr} (h : dW Γ X e S κt) : dT Γ X e S κt := fun C H σ τ st hm Q q => by
  obtain ⟨t, p, hh⟩ := h C H σ τ st hm Q q
  exact ⟨t, p.pt, hh⟩
theorem w_and1 (h : dT Γ X a S κt) : dW Γ X (.BoolOp .And [a] pos) S κt := fun C H σ τ st hm Q q => by
  obtain ⟨t, p, hh⟩ := h C H σ τ st hm Q q
  exact ⟨t, pw_and1 p, hh⟩
theorem w_or1 (h : dT Γ X a S κt) : dW Γ X (.BoolOp .Or [a] pos) S κt := fun C H σ τ st hm Q q => by
  obtain ⟨t, p, hh⟩ := h C H σ τ st hm Q q
  exact ⟨t, pw_or1 p, hh⟩
theorem w_and (h : dT Γ X a S fun k S1 => if k = true then dW Γ X (.BoolOp .And (b :: rest) pos) S1 κt else κt false S1) : dW Γ X (.BoolOp .And (a :: b :: rest) pos) S κt := fun C H σ τ st hm Q q => by
  refine ⟨_, pw_and (pt_w a) (pw_w _), h C H σ τ st hm _ fun k S1 C1 H1 τ1 k1 st1 m1 p1 e1 => ?_⟩
  cases k with
  | true => exact k1 C1 H1 σ τ1 st1 (hm.trans m1.symm) Q fun b S2 C2 H2 τ2 k2 st2 m2 p2 e2 => q b S2 C2 H2 τ2 k2 st2 (m2.trans m1) (p1.trans p2) (e1.trans e2)
  | false => exact q _ _ C1 H1 τ1 k1 st1 m1 p1 e1
theorem w_or (h : dT Γ X a S fun k S1 => if k = true then κt true S1 else dW Γ X (.BoolOp .Or (b :: rest) pos) S1 κt) : dW Γ X (.BoolOp .Or (a :: b :: rest) pos) S κt := fun C H σ τ st hm Q q => by
  refine ⟨_, pw_or (pt_w a) (pw_w _), h C H σ τ st hm _ fun k S1 C1 H1 τ1 k1 st1 m1 p1 e1 => ?_⟩
  cases k with
  | false => exact k1 C1 H1 σ τ1 st1 (hm.trans m1.symm) Q fun b S2 C2 H2 τ2 k2 st2 m2 p2 e2 => q b S2 C2 H2 τ2 k2 st2 (m2.trans m1) (p1.trans p2) (e1.trans e2)
  | true => exact q _ _ C1 H1 τ1 k1 st1 m1 p1 e1
theorem t_not (h : dT Γ X a S fun k S1 => κt (!k) S1) : dT Γ X (.UnaryOp .Not a pos) S κt := fun C H σ τ st hm Q q =>
  ⟨_, pt_not (pt_w a), h C H σ τ st hm _ fun k S1 C1 H1 τ1 k1 st1 m1 p1 e1 => q _ _ C1 H1 τ1 k1 st1 m1 p1 e1⟩
/-- as values -/
theorem d_one {op} (h : dE Γ X a S κ) : dE Γ X (.BoolOp op [a] pos) S κ := fun C H σ τ st hm Q q => by
  obtain ⟨t, p, hh⟩ := h C H σ τ st hm Q q
  exact ⟨t, pe_one p, hh⟩
theorem d_and (h : dE Γ X a S fun r S1 => ∃ k, r = .dat (.bool k) ∧ if k = true then dE Γ X (.BoolOp .And (b :: rest) pos) S1 κ else κ (.dat (.bool false)) S1) : dE Γ X (.BoolOp .And (a :: b :: rest) pos) S κ := fun C H σ τ st hm Q q => by
  refine ⟨_, pe_and (pe_w a) (pe_w _), h C H σ τ st hm _ fun r S1 v1 C1 H1 τ1 ⟨k, z, k1⟩ st1 m1 p1 e1 a1 _ => ?_⟩
  subst z
  cases a1
  refine ⟨k, rfl, ?_⟩
  cases k with
  | true => exact k1 C1 H1 σ τ1 st1 (hm.trans m1.symm) Q fun b S2 v C2 H2 τ2 k2 st2 m2 p2 e2 a2 t2 => q b S2 v C2 H2 τ2 k2 st2 (m2.trans m1) (p1.trans p2) (e1.trans e2) a2 (fun k z => by rw [← m1]; exact t2 k z)
  | false => exact q _ _ _ C1 H1 τ1 k1 st1 m1 p1 e1 (.bl false) (fun k z => by cases z)
theorem d_or (h : dE Γ X a S fun r S1 => ∃ k, r = .dat (.bool k) ∧ if k = true then κ (.dat (.bool true)) S1 else dE Γ X (.BoolOp .Or (b :: rest) pos) S1 κ) : dE Γ X (.BoolOp .Or (a :: b :: rest) pos) S κ := fun C H σ τ st hm Q q => by
  refine ⟨_, pe_or (pe_w a) (pe_w _), h C H σ τ st hm _ fun r S1 v1 C1 H1 τ1 ⟨k, z, k1⟩ st1 m1 p1 e1 a1 _ => ?_⟩
  subst z
  cases a1
  refine ⟨k, rfl, ?_⟩
  cases k with
  | false => exact k1 C1 H1 σ τ1 st1 (hm.trans m1.symm) Q fun b S2 v C2 H2 τ2 k2 st2 m2 p2 e2 a2 t2 => q b S2 v C2 H2 τ2 k2 st2 (m2.trans m1) (p1.trans p2) (e1.trans e2) a2 (fun k z => by rw [← m1]; exact t2 k z)
  | true => exact q _ _ _ C1 H1 τ1 k1 st1 m1 p1 e1 (.bl true) (fun k z => by cases z)
theorem d_not (h : dE Γ X a S fun r S1 => ∃ k, r = .dat (.bool k) ∧ κ (.dat (.bool !k)) S1) : dE Γ X (.UnaryOp .Not a pos) S κ := fun C H σ τ st hm Q q => by
  refine ⟨_, pe_not (pe_w a), h C H σ τ st hm _ fun r S1 v1 C1 H1 τ1 ⟨k, z, k1⟩ st1 m1 p1 e1 a1 _ => ?_⟩
  subst z
  cases a1
  exact ⟨k, rfl, q _ _ _ C1 H1 τ1 k1 st1 m1 p1 e1 (.bl _) (fun k z => by cases z)⟩
theorem d_neg (h : dE Γ X a S fun r S1 => ∃ i, r = .dat (.int i) ∧ κ (.dat (.int (-i))) S1) : dE Γ X (.UnaryOp .USub a pos) S κ := fun C H σ τ st hm Q q => by
  refine ⟨_, pe_un un_neg (pe_w a), h C H σ τ st hm _ fun r S1 v1 C1 H1 τ1 ⟨k, z, k1⟩ st1 m1 p1 e1 a1 _ => ?_⟩
  subst z
  cases a1
  exact ⟨k, rfl, q _ _ _ C1 H1 τ1 k1 st1 m1 p1 e1 (.int _) (fun k z => by cases z)⟩
theorem d_ifE (h : dT Γ X c S fun k S1 => if k = true then dE Γ X a S1 κ else dE Γ X b S1 κ) : dE Γ X (.IfExp c a b pos) S κ := fun C H σ τ st hm Q q => by
  refine ⟨_, pe_ifExp (pt_w c) (pe_w a) (pe_w b), h C H σ τ st hm _ fun k S1 C1 H1 τ1 k1 st1 m1 p1 e1 => ?_⟩
  cases k with
  | true => exact k1 C1 H1 σ τ1 st1 (hm.trans m1.symm) Q fun r S2 v C2 H2 τ2 k2 st2 m2 p2 e2 a2 t2 => q r S2 v C2 H2 τ2 k2 st2 (m2.trans m1) (p1.trans p2) (e1.trans e2) a2 (fun k z => by rw [← m1]; exact t2 k z)
  | false => exact k1 C1 H1 σ τ1 st1 (hm.trans m1.symm) Q fun r S2 v C2 H2 τ2 k2 st2 m2 p2 e2 a2 t2 => q r S2 v C2 H2 τ2 k2 st2 (m2.trans m1) (p1.trans p2) (e1.trans e2) a2 (fun k z => by rw [← m1]; exact t2 k z)
/-- the truth of any data -/
theorem t_truth {e : Expr} (h : dE Γ X e S fun r S1 => ∃ d k, r = .dat d ∧ truD d = some k ∧ κt k S1) (he : ∀ whole, isTrue e X.env whole = (do let v ← whole; standAt e.pos; holding [v] (truthy v)) := by intro _; rfl) : dT Γ X e S κt := fun C H σ τ st hm Q q => by
  refine ⟨_, pt_truth (pe_w e) he, h C H σ τ st hm _ fun r S1 v C1 H1 τ1 ⟨d, k, z, hk, kk⟩ st1 m1 p1 e1 a1 _ => ?_⟩
  subst z
  have fin := q _ _ C1 H1 τ1 kk st1 m1 p1 e1
  refine ⟨k, ?_, fin⟩
  have a2 := Dq.mono st1.sub (show Dq C1 v d from a1)
  cases a2 with
  | non => cases hk; rfl
  | bl b => cases hk; rfl
  | int i => cases hk; rfl
  | str x =>
    simp only [truD] at hk
    split at hk
    · rename_i hz
      cases hk
      refine ⟨sz hz, ?_⟩
      cases e : x.length with
      | zero => simp
      | succ n =>
        simp
        omega
    · cases hk
  | lst hh aa =>
    cases hk
    refine .inl ⟨_, SqL.of hh, ?_⟩
    cases aa <;> rfl
  | tup hh aa =>
    cases hk
    refine .inr (.inl ⟨_, SqT.of hh, ?_⟩)
    cases aa <;> rfl
  | dic hh aa =>
    cases hk
    refine .inr (.inr ⟨_, hh, ?_⟩)
    cases aa <;> rfl

/-! ### subscripts, slices -/
def ixD (a b : PyData) : Option PyData :=
  match a, b with
  | .list xs, .int i => atI xs i
  | .tuple xs, .int i => atI xs i
  | .str s, .int i => if s.length ≤ 100000 then (atI s.cps.toList i).map fun c => .str ⟨#[c]⟩ else none
  | _, _ => none
theorem DqA.atI {H : Hp} {xs : List V} {ds : List PyData} {i : Int} {d : PyData} (a : DqA H xs ds) (h : L2.atI ds i = some d) : ∃ v, L2.atI xs i = some v ∧ Dq H v d := by
  unfold L2.atI at h ⊢
  rw [a.length]
  cases e : ixN ds.length i with
  | none => rw [e] at h; cases h
  | some j =>
    rw [e] at h
    exact a.get h
theorem d_ix (h : dE Γ X a S fun r1 S1 => dE Γ X b S1 fun r2 S2 => ∃ d1 d2 d, r1 = .dat d1 ∧ r2 = .dat d2 ∧ ixD d1 d2 = some d ∧ κ (.dat d) S2) (hs : PlainIx b := by intro _ _; rfl) : dE Γ X (.Subscript a b pos) S κ := fun C H σ τ st hm Q q => by
  refine ⟨_, pe_ix ix_seq (pe_w a) (pe_w b) hs, h C H σ τ st hm _ fun r1 S1 v1 C1 H1 τ1 k1 st1 m1 p1 e1 a1 _ => k1 C1 H1 σ τ1 st1 (hm.trans m1.symm) _ fun r2 S2 v2 C2 H2 τ2 ⟨d1, d2, d, z1, z2, hb, k⟩ st2 m2 p2 e2 a2 _ => ?_⟩
  subst z1 z2
  have a1' := Dq.mono e2 (show Dq C1 v1 d1 from a1)
  have fin : ∀ {v : V}, Dq C2 v d → Q v H2 := fun dv => q _ _ _ C2 H2 τ2 k st2 (m2.trans m1) (p1.trans p2) (e1.trans e2) dv (fun k z => by cases z)
  unfold ixD at hb
  split at hb
  · cases a1' with
    | lst hh aa =>
      cases a2
      obtain ⟨v, ev, dv⟩ := aa.atI hb
      exact .inl ⟨_, _, _, v, rfl, rfl, SqL.of (st2.sub _ _ hh), ev, fin dv⟩
  · cases a1' with
    | tup hh aa =>
      cases a2
      obtain ⟨v, ev, dv⟩ := aa.atI hb
      exact .inr (.inl ⟨_, _, _, v, rfl, rfl, SqT.of (st2.sub _ _ hh), ev, fin dv⟩)
  · cases a1'
    cases a2
    split at hb
    · rename_i hz
      cases e : L2.atI _ _ with
      | none => rw [e] at hb; cases hb
      | some c =>
        rw [e] at hb
        cases hb
        exact .inr (.inr ⟨_, _, c, rfl, rfl, sz hz, e, fin (.str _)⟩)
    · cases hb
  · cases hb

/-! ### slices -/
def wO (X : Cx) (e : Option Expr) : TO := fun σ H Q => ∃ t, PO X e t ∧ t σ H Q
theorem po_w (e : Option Expr) : PO X e (wO X e) := ⟨fun pins s σ H Q I ⟨_, p, h⟩ => p.run pins s σ H Q I h⟩
def dO (Γ : Env) (X : Cx) (e : Option Expr) (S : Stat) (κ : Option Int → Stat → Prop) : Prop :=
  ∀ C H σ τ, Stt Γ C H (σ ++ τ) S → σ.length = S.m → ∀ Q : Option Int → Hp → Prop, (∀ r S' C' H' τ', κ r S' → Stt Γ C' H' (σ ++ τ') S' → S'.m = S.m → τ <+: τ' → Ex C C' → Q r H') → wO X e σ H Q
theorem o_none {κ : Option Int → Stat → Prop} (h : κ none S) : dO Γ X none S κ := fun C H σ τ st hm Q q => ⟨_, po_none, q _ _ C H τ h st rfl List.prefix_rfl (Ex.refl C)⟩
theorem o_some {κ : Option Int → Stat → Prop} {e : Expr} (h : dE Γ X e S fun r S1 => ∃ i, r = .dat (.int i) ∧ κ (some i) S1) : dO Γ X (some e) S κ := fun C H σ τ st hm Q q => by
  refine ⟨_, po_some (pe_w e), h C H σ τ st hm _ fun r S1 v C1 H1 τ1 ⟨i, z, k⟩ st1 m1 p1 e1 a1 _ => ?_⟩
  subst z
  cases a1
  exact ⟨i, rfl, q _ _ C1 H1 τ1 k st1 m1 p1 e1⟩
def cutP {α : Type} (xs : List α) (lo hi : Option Int) : List α := (xs.drop (HT.sIx xs.length 0 lo)).take (HT.sIx xs.length xs.length hi - HT.sIx xs.length 0 lo)
def slD (a : PyData) (lo hi : Option Int) : Option PyData :=
  match a with
  | .list xs => some (.list (cutP xs lo hi))
  | .tuple xs => some (.tuple (cutP xs lo hi))
  | .str s => if s.length ≤ 100000 then some (.str (cutS s lo hi)) else none
  | _ => none
theorem slr_w : SlR X (fun x l u H Q => ∃ r, SlR X r ∧ r x l u H Q) := fun pins s σ H x v vl vu lo hi sl Q I rx hs pl pu ⟨r, o, h⟩ => o pins s σ H x v vl vu lo hi sl Q I rx hs pl pu h
theorem cut_dq {H : Hp} {xs : List V} {ds : List PyData} (a : DqA H xs ds) (lo hi : Option Int) : DqA H (cutV xs lo hi) (cutP ds lo hi) := by
  unfold cutV cutP
  rw [a.length]
  exact DqA.take _ (DqA.drop _ a)
theorem cut_whole {H : Hp} {xs : List V} {ds : List PyData} {l u : Option Int} (a : DqA H xs ds) (hw : HT.sIx xs.length 0 l = 0 ∧ HT.sIx xs.length xs.length u = xs.length) : cutP ds l u = ds := by
  unfold cutP
  rw [← a.length, hw.1, hw.2, a.length, List.drop_zero, Nat.sub_zero, List.take_length]
theorem d_slice {lo hi : Option Expr} {p2 : Pos} (h : dE Γ X a S fun r S1 => dO Γ X lo S1 fun l S2 => dO Γ X hi S2 fun u S3 => ∃ d1 d, r = .dat d1 ∧ slD d1 l u = some d ∧ κ (.dat d) S3) : dE Γ X (.Subscript a (.Slice lo hi none p2) pos) S κ := fun C H σ τ st hm Q q => by
  refine ⟨_, pe_slice slr_w (pe_w a) (po_w lo) (po_w hi), h C H σ τ st hm _ fun r S1 v C1 H1 τ1 k1 st1 m1 p1 e1 a1 _ => k1 C1 H1 σ τ1 st1 (hm.trans m1.symm) _ fun l S2 C2 H2 τ2 k2 st2 m2 p2 e2 =>
    k2 C2 H2 σ τ2 st2 (hm.trans (m2.trans m1).symm) _ fun u S3 C3 H3 τ3 ⟨d1, d, z, hb, k⟩ st3 m3 p3 e3 => ?_⟩
  subst z
  have a2 := Dq.mono (e2.trans e3) (show Dq C1 v d1 from a1)
  have fin : ∀ v C' H', Stt Γ C' H' (σ ++ τ3) S3 → Ex C3 C' → Dq C' v d → Q v H' := fun v C' H' st' e' dv => q _ _ v C' H' τ3 k st' (m3.trans (m2.trans m1)) ((p1.trans p2).trans p3) (((e1.trans e2).trans e3).trans e') dv (fun k z => by cases z)
  unfold slD at hb
  split at hb
  · cases a2 with
    | lst hh aa =>
      cases hb
      exact ⟨_, sl_list, _, _, rfl, SqL.of (st3.sub _ _ hh), fun p hp => new_lst st3 (cut_dq aa l u) fin hp⟩
  · cases a2 with
    | tup hh aa =>
      cases hb
      refine ⟨_, sl_tupA, _, _, rfl, SqT.of (st3.sub _ _ hh), fun hw => ?_, fun _ p hp => new_tup st3 (cut_dq aa l u) fin hp⟩
      refine fin _ C3 H3 st3 (Ex.refl C3) ?_
      rw [cut_whole aa hw]
      exact .tup hh aa
  · cases a2
    split at hb
    · rename_i hz
      cases hb
      exact ⟨_, sl_str, _, rfl, sz hz, fin _ C3 H3 st3 (Ex.refl C3) (.str _)⟩
    · cases hb
  · cases hb

/-! ### calls of built-ins on data -/
theorem callr_w {f : Value} : CallR X f (fun xs H Q => ∃ r, CallR X f r ∧ r xs H Q) := fun pins s σ H xs us Q I rv ⟨r, o, h⟩ => o pins s σ H xs us Q I rv h
def bltD (f : Value) (ds : List PyData) : Option PyData :=
  match f, ds with
  | .builtin "len", [.list xs] => some (.int xs.length)
  | .builtin "len", [.tuple xs] => some (.int xs.length)
  | .builtin "len", [.str s] => if s.length ≤ 100000 then some (.int s.length) else none
  | .type "int", [.int i] => some (.int i)
  | .type "int", [.bool b] => some (.int (if b then 1 else 0))
  | .type "str", [.int i] => if i.natAbs.log2 < 1920 then some (.str (toString i)) else none
  | .type "list", [.list xs] => some (.list xs)
  | .type "list", [.tuple xs] => some (.list xs)
  | .type "tuple", [.list xs] => some (.tuple xs)
  | .type "tuple", [.tuple xs] => some (.tuple xs)
  | .builtin "max", [.int i, .int j] => some (.int (if j > i then j else i))
  | .builtin "min", [.int i, .int j] => some (.int (if j < i then j else i))
  | _, _ => none
theorem bltD_ok {f : Value} {C H : Hp} {ρ : L2.St} {S : Stat} {ds : List PyData} {vs : List V} {d : PyData} {Q : VK} (hc : X.calm = true) (hb : bltD f ds = some d) (a : DqA C vs ds) (st : Stt Γ C H ρ S)
    (q : ∀ v C' H', Stt Γ C' H' ρ S → Ex C C' → Dq C' v d → Q v H') : ∃ r, CallR X f r ∧ r vs H Q := by
  have same : ∀ {v : V}, Dq C v d → Q v H := fun k => q _ C H st (Ex.refl C) k
  unfold bltD at hb
  split at hb
  · obtain _ | ⟨h1, h2⟩ := a; cases h2
    cases h1 with
    | lst e aa =>
      cases hb
      refine ⟨_, call_len_seq, _, _, rfl, .inl (SqL.of (st.sub _ _ e)), ?_⟩
      rw [aa.length]
      exact same (.int _)
  · obtain _ | ⟨h1, h2⟩ := a; cases h2
    cases h1 with
    | tup e aa =>
      cases hb
      refine ⟨_, call_len_seq, _, _, rfl, .inr (SqT.of (st.sub _ _ e)), ?_⟩
      rw [aa.length]
      exact same (.int _)
  · obtain _ | ⟨h1, h2⟩ := a; cases h2
    cases h1
    split at hb
    · rename_i hz
      cases hb
      exact ⟨_, call_len_str, _, rfl, sz hz, same (.int _)⟩
    · cases hb
  · obtain _ | ⟨h1, h2⟩ := a; cases h2
    cases h1; cases hb
    exact ⟨_, call_int1, .inl ⟨_, rfl, same (.int _)⟩⟩
  · obtain _ | ⟨h1, h2⟩ := a; cases h2
    cases h1; cases hb
    exact ⟨_, call_int1, .inr ⟨_, rfl, same (.int _)⟩⟩
  · obtain _ | ⟨h1, h2⟩ := a; cases h2
    cases h1
    split at hb
    · rename_i hz
      cases hb
      exact ⟨_, call_str_int, _, rfl, hz, same (.str _)⟩
    · cases hb
  · obtain _ | ⟨h1, h2⟩ := a; cases h2
    cases h1 with
    | lst e aa =>
      cases hb
      exact ⟨_, call_list_of, _, _, rfl, .inl (SqL.of (st.sub _ _ e)), fun l hl => new_lst st aa q hl⟩
  · obtain _ | ⟨h1, h2⟩ := a; cases h2
    cases h1 with
    | tup e aa =>
      cases hb
      exact ⟨_, call_list_of, _, _, rfl, .inr (SqT.of (st.sub _ _ e)), fun l hl => new_lst st aa q hl⟩
  · obtain _ | ⟨h1, h2⟩ := a; cases h2
    cases h1 with
    | lst e aa =>
      cases hb
      exact ⟨_, call_tuple_of, _, _, rfl, .inl ⟨SqL.of (st.sub _ _ e), fun l hl => new_tup st aa q hl⟩⟩
  · obtain _ | ⟨h1, h2⟩ := a; cases h2
    cases h1 with
    | tup e aa =>
      cases hb
      exact ⟨_, call_tuple_of, _, _, rfl, .inr ⟨SqT.of (st.sub _ _ e), same (.tup e aa)⟩⟩
  · obtain _ | ⟨h1, h2⟩ := a; obtain _ | ⟨h3, h4⟩ := h2; cases h4
    cases h1; cases h3; cases hb
    exact ⟨_, call_max2 hc, _, _, rfl, same (.int _)⟩
  · obtain _ | ⟨h1, h2⟩ := a; obtain _ | ⟨h3, h4⟩ := h2; cases h4
    cases h1; cases h3; cases hb
    exact ⟨_, call_min2 hc, _, _, rfl, same (.int _)⟩
  · cases hb
theorem d_blt {x : Str} {id : String} {e : Expr} {es : List Expr} {p : Pos} (hg : Gl X x) (hmg : X.mg x = none) (hv : bootBuiltins x = some (.builtin id)) (hc : X.calm = true)
    (h : dA Γ X (e :: es) S fun rs S1 => ∃ ds d, allD rs = some ds ∧ bltD (.builtin id) ds = some d ∧ κ (.dat d) S1) (hn : x ≠ "__name__" := by decide) (hdb : (x == ("__debug__" : Str)) = false := by decide)
    (he : starEach (e :: es) X.env = (false, eval e X.env) :: starEach es X.env := by rfl) (hpl : (backTo pos (starEach es X.env)).any (·.1) = false := by rfl) : dE Γ X (.Call (.Name x p) (e :: es) [] pos) S κ := fun C H σ τ st hm Q q => by
  refine ⟨_, pe_callB callr_w hg hmg hv (pa_w _) hn hdb he hpl, h C H σ τ st hm _ fun rs S1 vs C1 H1 τ1 ⟨ds, d, k1, k2, k3⟩ st1 m1 p1 e1 a1 _ => ?_⟩
  exact bltD_ok hc k2 (allD_ok a1 k1) st1 fun v C' H' st' e' dv => q _ _ v C' H' τ1 k3 st' m1 p1 (e1.trans e') dv (fun k z => by cases z)
theorem d_bltT {x : Str} {id : String} {e : Expr} {es : List Expr} {p : Pos} (hg : Gl X x) (hmg : X.mg x = none) (hv : bootBuiltins x = some (.type id)) (hc : X.calm = true)
    (h : dA Γ X (e :: es) S fun rs S1 => ∃ ds d, allD rs = some ds ∧ bltD (.type id) ds = some d ∧ κ (.dat d) S1) (hn : x ≠ "__name__" := by decide) (hdb : (x == ("__debug__" : Str)) = false := by decide)
    (he : starEach (e :: es) X.env = (false, eval e X.env) :: starEach es X.env := by rfl) (hpl : (backTo pos (starEach es X.env)).any (·.1) = false := by rfl) : dE Γ X (.Call (.Name x p) (e :: es) [] pos) S κ := fun C H σ τ st hm Q q => by
  refine ⟨_, pe_callTy callr_w hg hmg hv (pa_w _) hn hdb he hpl, h C H σ τ st hm _ fun rs S1 vs C1 H1 τ1 ⟨ds, d, k1, k2, k3⟩ st1 m1 p1 e1 a1 _ => ?_⟩
  exact bltD_ok hc k2 (allD_ok a1 k1) st1 fun v C' H' st' e' dv => q _ _ v C' H' τ1 k3 st' m1 p1 (e1.trans e') dv (fun k z => by cases z)
/-- len of a name's own list -/
theorem d_lenO {x y : Str} {i : Nat} {ds : List PyData} {p p2 : Pos} (hg : Gl X x) (hmg : X.mg x = none) (hv : bootBuiltins x = some (.builtin "len")) (hN : X.N[i]? = some y) (hs : S.sl[i]? = some (.own ds)) (hi : i < S.m) (h : κ (.dat (.int ds.length)) S)
    (hvis : Vis X.env.scope y := by first | exact .inl rfl | exact .inr (.inl rfl) | exact .inr (.inr rfl)) (hd : (y == ("__debug__" : Str)) = false := by decide) (hcd : (y == ("__classdict__" : Str)) = false := by decide)
    (hn : x ≠ "__name__" := by decide) (hdb : (x == ("__debug__" : Str)) = false := by decide)
    (he : starEach [.Name y p2] X.env = (false, eval (.Name y p2) X.env) :: starEach [] X.env := by rfl) (hpl : (backTo pos (starEach [] X.env)).any (·.1) = false := by rfl) : dE Γ X (.Call (.Name x p) [.Name y p2] [] pos) S κ := fun C H σ τ st hm Q q => by
  obtain ⟨o, ho, l, xs, rfl, hl, cl, h0, aa⟩ := st.at_ hm hs hi
  refine ⟨_, pe_callB call_len_seq hg hmg hv (pa_cons (pe_var (i := i) hN hvis hd hcd) pa_nil he) hn hdb he hpl, _, ho, _, _, rfl, .inl (SqL.of hl), ?_⟩
  rw [aa.length]
  exact q _ _ _ C H τ h st rfl List.prefix_rfl (Ex.refl C) (.int _) (fun k z => by cases z)

/-! ### isinstance -/
def tyD : PyData → String
  | .none => "NoneType"
  | .bool _ => "bool"
  | .int _ => "int"
  | .str _ => "str"
  | .list _ => "list"
  | .tuple _ => "tuple"
  | .dict _ => "dict"
theorem tyX_of {K : PySem.W.Frag} {H : Hp} {v : V} {d : PyData} (h : Dq H v d) : TyX K H v (.type (tyD d)) := by
  cases h with
  | non => exact .base .non
  | bl b => exact .base (.bl b)
  | int i => exact .base (.int i)
  | str x => exact .base (.str x)
  | lst e a => exact .base (.lst e)
  | tup e a => exact .base (.tup e)
  | dic e a => exact .base (.dK e)
def isB (a b : String) : Bool := a == b || (a == "bool" && b == "int")
/-- the classes that are asked here -/
def known (b : String) : Bool := ["int", "bool", "str", "list", "tuple", "dict"].contains b
theorem isB_ok {K : PySem.W.Frag} {d : PyData} {b : String} (hb : known b = true) : PySem.W.kitOne K (.type (tyD d)) (.type b) = some (isB (tyD d) b) := by
  apply kit_ty
  have hb' : b = "int" ∨ b = "bool" ∨ b = "str" ∨ b = "list" ∨ b = "tuple" ∨ b = "dict" := by
    simpa [known] using hb
  have hd : tyD d = "NoneType" ∨ tyD d = "bool" ∨ tyD d = "int" ∨ tyD d = "str" ∨ tyD d = "list" ∨ tyD d = "tuple" ∨ tyD d = "dict" := by
    cases d <;> simp [tyD]
  generalize tyD d = c at hd ⊢
  rcases hb' with rfl | rfl | rfl | rfl | rfl | rfl <;> rcases hd with rfl | rfl | rfl | rfl | rfl | rfl | rfl <;> decide +kernel
theorem d_isi {x T : Str} {t : String} {e : Expr} {p p2 : Pos} (hg : Gl X x) (hmg : X.mg x = none) (hv : bootBuiltins x = some (.builtin "isinstance")) (gT : Gl X T) (mT : X.mg T = none) (vT : bootBuiltins T = some (.type t)) (kn : known t = true)
    (h : dE Γ X e S fun r S1 => ∃ d, r = .dat d ∧ κ (.dat (.bool (isB (tyD d) t))) S1) (hn : x ≠ "__name__" := by decide) (hdb : (x == ("__debug__" : Str)) = false := by decide) (hnT : T ≠ "__name__" := by decide) (hdT : (T == ("__debug__" : Str)) = false := by decide)
    (he : starEach [e, .Name T p2] X.env = (false, eval e X.env) :: starEach [.Name T p2] X.env := by rfl) (he2 : starEach [.Name T p2] X.env = (false, eval (.Name T p2) X.env) :: starEach [] X.env := by rfl)
    (hpl : (backTo pos (starEach [.Name T p2] X.env)).any (·.1) = false := by rfl) : dE Γ X (.Call (.Name x p) [e, .Name T p2] [] pos) S κ := fun C H σ τ st hm Q q => by
  refine ⟨_, pe_callB call_isi hg hmg hv (pa_cons (pe_w e) (pa_cons (pe_bltn (v := .ty t) gT mT vT rfl hnT hdT) pa_nil he2) he) hn hdb he hpl, h C H σ τ st hm _ fun r S1 v C1 H1 τ1 ⟨d, z, k⟩ st1 m1 p1 e1 a1 _ => ?_⟩
  subst z
  exact ⟨v, .ty t, _, _, _, rfl, .ty t, tyX_of (Dq.mono st1.sub a1), isB_ok kn, q _ _ _ C1 H1 τ1 k st1 m1 p1 e1 (.bl _) (fun k z => by cases z)⟩
def anyB (a : String) : List String → Bool
  | [] => false
  | b :: r => isB a b || anyB a r
theorem anyB_ok {K : PySem.W.Frag} {d : PyData} : ∀ {ts : List String}, ts.all known = true → PySem.W.kitAny K (.type (tyD d)) (ts.map Value.type) = some (anyB (tyD d) ts)
  | [], _ => kitAny_nil
  | b :: r, h => by
    have h' : (known b && r.all known) = true := h
    obtain ⟨h1, h2⟩ := Bool.and_eq_true_iff.mp h'
    refine kitAny_cons (isB_ok h1) (fun e => ?_) (fun e => ?_)
    · rw [anyB_ok h2]
      show _ = some (isB (tyD d) b || anyB (tyD d) r)
      rw [e]
      rfl
    · show (isB (tyD d) b || anyB (tyD d) r) = true
      rw [e]
      rfl
def vTys (ts : List String) : List V := ts.map V.ty
theorem pair_tys : ∀ ts : List String, Paired ClsV (vTys ts) (ts.map Value.type)
  | [] => .nil
  | t :: r => .cons (.ty t) (pair_tys r)
theorem d_isiT {x : Str} {ts : List String} {e : Expr} {Ts : List Expr} {p p2 : Pos} {k : Nat} (hg : Gl X x) (hmg : X.mg x = none) (hv : bootBuiltins x = some (.builtin "isinstance")) (kn : ts.all known = true) (hT : PA X Ts (fun σ H Q => Q (vTys ts) H))
    (hlen : ts.length ≤ 100000) (h : dE Γ X e S fun r S1 => ∃ d, r = .dat d ∧ κ (.dat (.bool (anyB (tyD d) ts))) S1) (hn : x ≠ "__name__" := by decide) (hdb : (x == ("__debug__" : Str)) = false := by decide)
    (he : starEach [e, .Tuple Ts k p2] X.env = (false, eval e X.env) :: starEach [.Tuple Ts k p2] X.env := by rfl) (he2 : starEach [.Tuple Ts k p2] X.env = (false, eval (.Tuple Ts k p2) X.env) :: starEach [] X.env := by rfl)
    (hpl : (backTo pos (starEach [.Tuple Ts k p2] X.env)).any (·.1) = false := by rfl) : dE Γ X (.Call (.Name x p) [e, .Tuple Ts k p2] [] pos) S κ := fun C H σ τ st hm Q q => by
  refine ⟨_, pe_callB call_isiT hg hmg hv (pa_cons (pe_w e) (pa_cons (pe_tup hT) pa_nil he2) he) hn hdb he hpl, h C H σ τ st hm _ fun r S1 v C1 H1 τ1 ⟨d, z, kk⟩ st1 m1 p1 e1 a1 _ => ?_⟩
  subst z
  refine ⟨sz (by unfold vTys; rw [List.length_map]; exact hlen), fun tp hp => ?_⟩
  have st2 : Stt Γ C1 (upd H1 tp (.tup (vTys ts))) (σ ++ τ1) S1 := st1.grow (stp_own st1.sub hp)
  exact ⟨v, tp, _, _, _, _, rfl, upd_same, pair_tys ts, tyX_of (Dq.mono st2.sub a1), anyB_ok kn, q _ _ _ C1 _ τ1 kk st2 m1 p1 e1 (.bl _) (fun k z => by cases z)⟩
end
end Dw
set_option maxHeartbeats 4000000
namespace Dw
open PySem PySem.Spec PyProof.Rows L2
/-! ### own defs called -/
/-- a def of the module under its name, what it promises, by level k -/
structure PFn (P : Program) (w : World) (K : PySem.W.Frag) (mg : Str → Option Value) (base : Heap) (x : Str) (k : Nat) (sp : Sp) : Prop where
  ex : ∃ f fd ps, FnOk P w K mg base C8.CX0 k f fd ps sp ∧ mg x = some (.ref f) ∧ PySem.W.keepIn K (.ref f) = true ∧ Binds K fd ps []
/-- data in, data out, nothing else touched -/
def spP (n : Nat) (g : List PyData → Option PyData) : Sp := fun vs H Q _ => ∃ C ds d, Ex C H ∧ DqA C vs ds ∧ ds.length = n ∧ g ds = some d ∧ ∀ v C' H', Stp [] C H C' H' → Dq C' v d → Q v H'
section
variable {Γ : Env} {X : Cx} {S : Stat} {κ : Rv → Stat → Prop} {κt : Bool → Stat → Prop} {pos p : Pos} {e : Expr} {es : List Expr} {x : Str} {k j : Nat}
theorem d_call {n : Nat} {g : List PyData → Option PyData} (F : PFn X.prog X.w X.K X.mg X.base x k (spP n g)) (hr : Room k X.A) (hg : Gl X x)
    (h : dA Γ X (e :: es) S fun rs S1 => ∃ ds d, allD rs = some ds ∧ ds.length = n ∧ g ds = some d ∧ κ (.dat d) S1) (hdb : (x == ("__debug__" : Str)) = false := by decide)
    (he : starEach (e :: es) X.env = (false, eval e X.env) :: starEach es X.env := by rfl) (hpl : (backTo pos (starEach es X.env)).any (·.1) = false := by rfl) : dE Γ X (.Call (.Name x p) (e :: es) [] pos) S κ := fun C H σ τ st hm Q q => by
  obtain ⟨f, fd, ps, F1, hmg, hk, hb⟩ := F.ex
  refine ⟨_, pe_call F1 hr hg hmg hk hb .nil (C8.pass0 (E := C8.E0)) (pa_w _) hdb he hpl, h C H σ τ st hm _ fun rs S1 vs C1 H1 τ1 ⟨ds, d, k1, k2, k3, k4⟩ st1 m1 p1 e1 a1 _ => ?_⟩
  rw [List.append_nil]
  refine ⟨C1, ds, d, st1.sub, allD_ok a1 k1, k2, k3, fun v C' H' g' dv => ?_⟩
  exact q _ _ v C' H' τ1 k4 (st1.grow g') m1 p1 (e1.trans g'.core) dv (fun k z => by cases z)

/-! ### statements -/
theorem EndsOk.up {C C1 : Hp} {m : Nat} {D : Dn} {E : Ends} (h : EndsOk Γ C m D E) (e : Ex C C1) : EndsOk Γ C1 m D E :=
  ⟨fun S C H σ a b c d f => h.nx S C H σ a b c d (e.trans f), h.rt, fun S C H σ a b c d f => h.bk S C H σ a b c d (e.trans f), fun S C H σ a b c d f => h.ct S C H σ a b c d (e.trans f)⟩
theorem EndsOk.m {C : Hp} {m m' : Nat} {D : Dn} {E : Ends} (h : EndsOk Γ C m D E) (e : m' = m) : EndsOk Γ C m' D E := by rw [e]; exact h
variable {D : Dn} {s : Stmt} {rest : List Stmt}
theorem s_nil (h : D.nx S) : dSs Γ X [] S D := fun C H σ st hm E ok => ⟨_, pss_nil, ok.nx S C H σ h st rfl hm (Ex.refl C)⟩
theorem s_cons (h : dS Γ X s S { D with nx := fun S1 => dSs Γ X rest S1 D }) : dSs Γ X (s :: rest) S D := fun C H σ st hm E ok => by
  refine ⟨_, pss_cons (ps_w s) (pss_w rest), h C H σ st hm { E with nx := wSs X rest E } ⟨fun S1 C1 H1 σ1 k st1 m1 l1 e1 => ?_, ok.rt, ok.bk, ok.ct⟩⟩
  exact k C1 H1 σ1 st1 (l1.trans m1.symm) E ((ok.up e1).m m1)
theorem s_one (h : dS Γ X s S D) : dSs Γ X [s] S D := fun C H σ st hm E ok => ⟨_, pss_one (ps_w s), h C H σ st hm E ok⟩
theorem s_pass (h : D.nx S) : dS Γ X (.Pass pos) S D := fun C H σ st hm E ok => ⟨_, ps_pass, ok.nx S C H σ h st rfl hm (Ex.refl C)⟩
theorem s_brk (h : D.bk S) : dS Γ X (.Break pos) S D := fun C H σ st hm E ok => ⟨_, ps_break, ok.bk S C H σ h st rfl hm (Ex.refl C)⟩
theorem s_cnt (h : D.ct S) : dS Γ X (.Continue pos) S D := fun C H σ st hm E ok => ⟨_, ps_continue, ok.ct S C H σ h st rfl hm (Ex.refl C)⟩
theorem s_ret (h : dE Γ X e S fun r S1 => ∃ d, r = .dat d ∧ D.rt r { S1 with sl := S1.sl.take S1.m }) : dS Γ X (.Return (some e) pos) S D := fun C H σ st hm E ok => by
  refine ⟨_, ps_ret (pe_w e), h C H σ [] (by rw [List.append_nil]; exact st) hm _ fun r S1 v C1 H1 τ1 ⟨d, z, k⟩ st1 m1 p1 e1 a1 _ => ?_⟩
  subst z
  exact ok.rt d _ v C1 H1 σ k (st1.drop (hm.trans m1.symm)) a1
theorem s_retN (h : D.rt (.dat .none) S) : dS Γ X (.Return none pos) S D := fun C H σ st hm E ok => ⟨_, ps_retN, ok.rt _ S _ C H σ h st .non⟩
theorem s_expr (h : dE Γ X e S fun _ S1 => D.nx { S1 with sl := S1.sl.take S1.m }) (hs : swapsWith e none pos.line X.env = pure false := by rfl) : dS Γ X (.Expr e pos) S D := fun C H σ st hm E ok => by
  refine ⟨_, ps_expr (pe_w e) hs, h C H σ [] (by rw [List.append_nil]; exact st) hm _ fun r S1 v C1 H1 τ1 k st1 m1 p1 e1 a1 _ => ?_⟩
  exact ok.nx _ C1 H1 σ k (st1.drop (hm.trans m1.symm)) m1 hm e1
theorem s_if {c : Expr} {a b : List Stmt} (h : dT Γ X c S fun k S1 => if k = true then dSs Γ X a { S1 with sl := S1.sl.take S1.m } D else dSs Γ X b { S1 with sl := S1.sl.take S1.m } D) : dS Γ X (.If c a b pos) S D := fun C H σ st hm E ok => by
  refine ⟨_, ps_if (pt_w c) (pss_w a) (pss_w b), h C H σ [] (by rw [List.append_nil]; exact st) hm _ fun k S1 C1 H1 τ1 k1 st1 m1 p1 e1 => ?_⟩
  have st2 := st1.drop (hm.trans m1.symm)
  cases k with
  | true => exact k1 C1 H1 σ st2 (hm.trans m1.symm) E ((ok.up e1).m m1)
  | false => exact k1 C1 H1 σ st2 (hm.trans m1.symm) E ((ok.up e1).m m1)
theorem s_set {i : Nat} {y : Str} {p' : Pos} (hN : X.N.Nodup) (hi : X.N[i]? = some y) (h : dE Γ X e S fun r S1 => D.nx (S1.asg i r)) (hx : Loc X.env.scope y := by first | exact .inl rfl | exact .inr rfl)
    (hs : swapsWith e (some (.Name y p')) pos.line X.env = pure false := by rfl) (hf : X.fn y = true ∨ X.env.scope.names.lookup y = some .local := by first | exact .inl rfl | exact .inr rfl | assumption) : dS Γ X (.Assign [.Name y p'] e pos) S D := fun C H σ st hm E ok => by
  refine ⟨_, ps_set hN hi hx (pe_w e) hs hf, h C H σ [] (by rw [List.append_nil]; exact st) hm _ fun r S1 v C1 H1 τ1 k st1 m1 p1 e1 a1 t1 => ?_⟩
  exact ok.nx _ C1 H1 _ k (st1.asg (hm.trans m1.symm) a1 (fun k z => by rw [m1]; exact t1 k z)) m1 (by rw [List.length_set]; exact hm) e1

/-! ### targets -/
theorem g_name {i : Nat} {y : Str} {d : PyData} {κs : Stat → Prop} (hN : X.N.Nodup) (hi : X.N[i]? = some y) (him : i < S.m) (h : κs { S with sl := S.sl.set i (.dat d) }) (hx : Loc X.env.scope y := by first | exact .inl rfl | exact .inr rfl)
    (hf : X.fn y = true ∨ X.env.scope.names.lookup y = some .local := by first | exact .inl rfl | exact .inr rfl | assumption) : dG Γ X (.Name y pos) d S κs := fun C H σ τ v st hm hv Q q => by
  refine ⟨_, pg_name hN hi hx hf, ?_⟩
  have st1 := st.put (i := i) (o := some v) (s := .dat d) ⟨v, rfl, hv⟩ (fun z => by cases z)
  rw [List.set_append_left _ _ (by rw [hm]; exact him)] at st1
  exact q _ C H _ h st1 rfl (by rw [List.length_set]; exact hm) (Ex.refl C)
theorem gs_nil {κs : Stat → Prop} (h : κs S) : dGs Γ X [] [] S κs := fun C H σ τ vs st hm hv Q q => by
  cases hv
  exact ⟨_, pgs_nil, rfl, q _ C H σ h st rfl hm (Ex.refl C)⟩
theorem gs_cons {d : PyData} {ds : List PyData} {κs : Stat → Prop} (h : dG Γ X e d S fun S1 => dGs Γ X es ds S1 κs)
    (hs : (assignEach (e :: es) X.env).map (·.2) = assign e X.env :: (assignEach es X.env).map (·.2) := by rfl) : dGs Γ X (e :: es) (d :: ds) S κs := fun C H σ τ vs st hm hv Q q => by
  cases hv with
  | cons h1 h2 =>
    refine ⟨_, pgs_cons (pg_w e) (pgs_w es) hs, _, _, rfl, h C H σ τ _ st hm h1 _ fun S1 C1 H1 σ1 k st1 m1 l1 e1 => ?_⟩
    exact k C1 H1 σ1 τ _ st1 (l1.trans m1.symm) (DqA.mono e1 h2) Q fun S2 C2 H2 σ2 k2 st2 m2 l2 e2 => q S2 C2 H2 σ2 k2 st2 (m2.trans m1) (l2.trans m1) (e1.trans e2)
theorem g_tup {k : Nat} {ds : List PyData} {κs : Stat → Prop} (hc : X.calm = true) (h : dGs Γ X es ds S κs) (hl : ds.length = (assignEach es X.env).length := by rfl)
    (hst : (assignEach es X.env).findIdx? (·.1) = none := by rfl) : dG Γ X (.Tuple es k pos) (.tuple ds) S κs := fun C H σ τ v st hm hv Q q => by
  cases hv with
  | tup hh aa =>
    exact ⟨_, pg_tup hc (pgs_w es) rfl hst, _, _, rfl, SqT.of (st.sub _ _ hh), by rw [aa.length]; exact hl, h C H σ τ _ st hm aa Q q⟩
/-- target = value, the target a tuple of names -/
theorem s_asg {tg : Expr} (h : dE Γ X e S fun r S1 => ∃ d, r = .dat d ∧ dG Γ X tg d { S1 with sl := S1.sl.take S1.m } D.nx) (hs : swapsWithSole [tg] e pos.line X.env = pure false := by rfl) (hw : swappedStores [tg] e X.env = pure none := by rfl)
    (h1 : (assignEach [tg] X.env).map (·.2) = [assign tg X.env] := by rfl) : dS Γ X (.Assign [tg] e pos) S D := fun C H σ st hm E ok => by
  refine ⟨_, ps_asg (pe_w e) (pg_w tg) hs hw h1, h C H σ [] (by rw [List.append_nil]; exact st) hm _ fun r S1 v C1 H1 τ1 ⟨d, z, k⟩ st1 m1 p1 e1 a1 _ => ?_⟩
  subst z
  have st2 := st1.drop (hm.trans m1.symm)
  exact k C1 H1 σ [] v (by rw [List.append_nil]; exact st2) (hm.trans m1.symm) a1 _ fun S2 C2 H2 σ2 k2 st3 m2 l2 e2 => ok.nx S2 C2 H2 σ2 k2 (by rw [List.append_nil] at st3; exact st3) (m2.trans m1) (l2.trans m1) (e1.trans e2)
/-- a, b = x, y with plain local names -/
theorem s_par {i j : Nat} {y z : Str} {a b : Expr} {px py pt : Pos} {kt k2 pt2} (hc : X.calm = true) (hN : X.N.Nodup) (hi : X.N[i]? = some y) (hj : X.N[j]? = some z) (hij : i ≠ j) (him : i < S.m) (hjm : j < S.m)
    (h : dA Γ X [a, b] S fun rs S1 => ∃ r1 r2, rs = [r1, r2] ∧ D.nx { S1 with sl := ((S1.sl.set i (r1.sl S1)).set j (r2.sl S1)).take S1.m } ∧ (∀ k, r1 = .tmp k → r2 ≠ .tmp k))
    (hw : swappedStores [.Tuple [.Name y px, .Name z py] kt pt] (.Tuple [a, b] k2 pt2) X.env = pure (some [y, z]))
    (hx : X.env.scope.names.lookup y = some .local := by rfl) (hy : X.env.scope.names.lookup z = some .local := by rfl)
    (hs : swapsWithSole [.Tuple [.Name y px, .Name z py] kt pt] (.Tuple [a, b] k2 pt2) pos.line X.env = pure false := by rfl) :
    dS Γ X (.Assign [.Tuple [.Name y px, .Name z py] kt pt] (.Tuple [a, b] k2 pt2) pos) S D := fun C H σ st hm E ok => by
  refine ⟨_, ps_par hc hN hi hj hij hx hy (pa_w _) hw hs, h C H σ [] (by rw [List.append_nil]; exact st) hm _ fun rs S1 vs C1 H1 τ1 ⟨r1, r2, z1, k, kd⟩ st1 m1 p1 e1 a1 t1 => ?_⟩
  subst z1
  cases a1 with
  | cons h1 hr =>
    cases hr with
    | cons h2 hn =>
      cases hn
      exact ⟨_, _, rfl, ok.nx _ C1 H1 _ k (st1.asg2 (hm.trans m1.symm) h1 h2 (fun k z => by rw [m1]; exact t1 k (by rw [z]; exact List.mem_cons_self ..)) (fun k z => by rw [m1]; exact t1 k (by rw [z]; simp)) kd (by rw [m1]; exact him) (by rw [m1]; exact hjm)) m1
        (by rw [List.length_set, List.length_set]; exact hm) e1⟩
end

/-! ### what is walked -/
structure Walks (J : It) (C1 : Hp) (ds : List PyData) : Prop where
  stop : ∀ H, Ex C1 H → J.stop ds.length H
  go : ∀ i H, i < ds.length → Ex C1 H → J.go i H
  yld : ∀ i d H x H', ds[i]? = some d → Ex C1 H → J.yld i H x H' → ∀ C, Ex C1 C → Ex C H → ∃ C', Stp [] C H C' H' ∧ Dq C' x d
def wI (X : Cx) (tg e : Expr) : TI := fun σ H R => ∃ t, PI X tg e t ∧ t σ H R
theorem pi_w {X : Cx} (tg e : Expr) : PI X tg e (wI X tg e) := ⟨fun pins s σ H R I ⟨_, p, h⟩ => p.run pins s σ H R I h⟩
def dI (Γ : Env) (X : Cx) (tg e : Expr) (S : Stat) (κ : List PyData → Stat → Prop) : Prop :=
  ∀ C H σ τ, Stt Γ C H (σ ++ τ) S → σ.length = S.m → ∀ R : It → Hp → Prop, (∀ ds S' J C' H' τ', κ ds S' → Walks J C' ds → Stt Γ C' H' (σ ++ τ') S' → S'.m = S.m → τ <+: τ' → Ex C C' → R J H') → wI X tg e σ H R
section
variable {Γ : Env} {X : Cx} {S : Stat} {κ : Rv → Stat → Prop} {κi : List PyData → Stat → Prop} {pos p : Pos} {e tg : Expr} {es : List Expr} {x : Str} {k j : Nat} {D : Dn}
theorem sqL_at {K : PySem.W.Frag} {C1 H : Hp} {a : Addr} {xs : List V} (e : Ex C1 H) (h : C1 a = some (.lst xs)) : SqL K H a xs := SqL.of (e _ _ h)
theorem walks_list {K : PySem.W.Frag} {C1 : Hp} {a : Addr} {xs : List V} {ds : List PyData} (h : C1 a = some (.lst xs)) (aa : DqA C1 xs ds) : Walks (Itl K a) C1 ds where
  stop := fun H e => ⟨xs, sqL_at e h, by rw [aa.length]; exact Nat.le_refl _⟩
  go := fun i H hi e => by
    have hx : i < xs.length := by rw [aa.length]; exact hi
    exact ⟨xs, xs[i], sqL_at e h, List.getElem?_eq_getElem hx⟩
  yld := fun i d H x H' hd e ⟨z, hx⟩ C ec eh => by
    subst z
    obtain ⟨v, hv, dv⟩ := aa.get hd
    have := hx xs (sqL_at e h)
    rw [hv] at this
    cases this
    exact ⟨C, Stp.refl eh, Dq.mono ec dv⟩
theorem walks_tup {K : PySem.W.Frag} {C1 : Hp} {a : Addr} {xs : List V} {ds : List PyData} (h : C1 a = some (.tup xs)) (aa : DqA C1 xs ds) : Walks (Itt K a) C1 ds where
  stop := fun H e => ⟨xs, SqT.of (e _ _ h), by rw [aa.length]; exact Nat.le_refl _⟩
  go := fun i H hi e => by
    have hx : i < xs.length := by rw [aa.length]; exact hi
    exact ⟨xs, xs[i], SqT.of (e _ _ h), List.getElem?_eq_getElem hx⟩
  yld := fun i d H x H' hd e ⟨z, hx⟩ C ec eh => by
    subst z
    obtain ⟨v, hv, dv⟩ := aa.get hd
    have := hx xs (SqT.of (e _ _ h))
    rw [hv] at this
    cases this
    exact ⟨C, Stp.refl eh, Dq.mono ec dv⟩
def rngD (lo : Int) (n : Nat) : List PyData := (List.range n).map fun (k : Nat) => PyData.int (lo + (k : Int))
theorem rngD_len (lo : Int) (n : Nat) : (rngD lo n).length = n := by simp [rngD]
theorem walks_rng {C1 : Hp} (lo : Int) (n : Nat) : Walks (Itr lo n) C1 (rngD lo n) where
  stop := fun H e => by
    rw [rngD_len]
    exact Nat.le_refl n
  go := fun i H hi e => by
    rw [rngD_len] at hi
    exact hi
  yld := fun i d H x H' hd e ⟨z, hx⟩ C ec eh => by
    subst z hx
    have hi := (List.getElem?_eq_some_iff.mp hd).1
    rw [rngD_len] at hi
    unfold rngD at hd
    rw [List.getElem?_map, List.getElem?_range hi] at hd
    cases hd
    exact ⟨C, Stp.refl eh, .int _⟩
def signs (s : Str) : List PyData := s.cps.toList.map fun c => .str ⟨#[c]⟩
theorem walks_str {C1 : Hp} (s : Str) : Walks (Its s) C1 (signs s) where
  stop := fun H e => by
    show s.cps.size ≤ (signs s).length
    simp [signs]
  go := fun i H hi e => by
    show i < s.cps.size
    simpa [signs] using hi
  yld := fun i d H x H' hd e ⟨z, c, hc, hx⟩ C ec eh => by
    subst z hx
    unfold signs at hd
    rw [List.getElem?_map] at hd
    have : s.cps.toList[i]? = some c := by simpa using hc
    rw [this] at hd
    cases hd
    exact ⟨C, Stp.refl eh, .str _⟩
theorem i_lst (h : dE Γ X e S fun r S1 => ∃ ds, r = .dat (.list ds) ∧ κi ds S1) : dI Γ X tg e S κi := fun C H σ τ st hm R q => by
  refine ⟨_, pi_list (pe_w e), h C H σ τ st hm _ fun r S1 v C1 H1 τ1 ⟨ds, z, k⟩ st1 m1 p1 e1 a1 _ => ?_⟩
  subst z
  have a2 : Dq C1 v (.list ds) := a1
  cases a2 with
  | lst hh aa => exact ⟨_, rfl, ⟨_, SqL.of (st1.sub _ _ hh)⟩, q ds S1 _ C1 H1 τ1 k (walks_list hh aa) st1 m1 p1 e1⟩
theorem i_tup (h : dE Γ X e S fun r S1 => ∃ ds, r = .dat (.tuple ds) ∧ κi ds S1) : dI Γ X tg e S κi := fun C H σ τ st hm R q => by
  refine ⟨_, pi_tup (pe_w e), h C H σ τ st hm _ fun r S1 v C1 H1 τ1 ⟨ds, z, k⟩ st1 m1 p1 e1 a1 _ => ?_⟩
  subst z
  have a2 : Dq C1 v (.tuple ds) := a1
  cases a2 with
  | tup hh aa => exact ⟨_, rfl, ⟨_, SqT.of (st1.sub _ _ hh)⟩, q ds S1 _ C1 H1 τ1 k (walks_tup hh aa) st1 m1 p1 e1⟩
theorem i_str (h : dE Γ X e S fun r S1 => ∃ s, r = .dat (.str s) ∧ κi (signs s) S1) : dI Γ X tg e S κi := fun C H σ τ st hm R q => by
  refine ⟨_, pi_str (pe_w e), h C H σ τ st hm _ fun r S1 v C1 H1 τ1 ⟨s, z, k⟩ st1 m1 p1 e1 a1 _ => ?_⟩
  subst z
  have a2 : Dq C1 v (.str s) := a1
  cases a2
  exact ⟨_, rfl, q _ S1 _ C1 H1 τ1 k (walks_str s) st1 m1 p1 e1⟩
theorem i_rng1 {a : Expr} {p pos : Pos} (hg : Gl X "range") (hmg : X.mg "range" = none) (h : dA Γ X [a] S fun rs S1 => ∃ n : Int, rs = [.dat (.int n)] ∧ -(2 ^ 62) ≤ n ∧ n < 2 ^ 62 ∧ κi (rngD 0 n.toNat) S1) (hs : starEach [a] X.env = [(false, eval a X.env)] := by rfl) :
    dI Γ X tg (.Call (.Name "range" p) [a] [] pos) S κi := fun C H σ τ st hm R q => by
  refine ⟨_, pi_range1 hg hmg (pa_w _) hs, h C H σ τ st hm _ fun rs S1 vs C1 H1 τ1 ⟨n, z, b1, b2, k⟩ st1 m1 p1 e1 a1 _ => ?_⟩
  subst z
  cases a1 with
  | cons h1 hr =>
    cases hr
    have h2 : Dq C1 _ (.int n) := h1
    cases h2
    exact ⟨n, rfl, b1, b2, q _ S1 _ C1 H1 τ1 k (walks_rng 0 n.toNat) st1 m1 p1 e1⟩
theorem i_rng2 {a b : Expr} {p pos : Pos} (hg : Gl X "range") (hmg : X.mg "range" = none) (h : dA Γ X [a, b] S fun rs S1 => ∃ lo n : Int, rs = [.dat (.int lo), .dat (.int n)] ∧ -(2 ^ 62) ≤ lo ∧ lo < 2 ^ 62 ∧ -(2 ^ 62) ≤ n ∧ n < 2 ^ 62 ∧ κi (rngD lo (n - lo).toNat) S1)
    (hs : starEach [a, b] X.env = [(false, eval a X.env), (false, eval b X.env)] := by rfl) (hs2 : starEach [b] X.env = [(false, eval b X.env)] := by rfl) : dI Γ X tg (.Call (.Name "range" p) [a, b] [] pos) S κi := fun C H σ τ st hm R q => by
  refine ⟨_, pi_range2 hg hmg (pa_w _) hs hs2, h C H σ τ st hm _ fun rs S1 vs C1 H1 τ1 ⟨lo, n, z, b1, b2, b3, b4, k⟩ st1 m1 p1 e1 a1 _ => ?_⟩
  subst z
  cases a1 with
  | cons h1 hr =>
    cases hr with
    | cons h3 hr =>
      cases hr
      have h2 : Dq C1 _ (.int lo) := h1
      have h4 : Dq C1 _ (.int n) := h3
      cases h2
      cases h4
      exact ⟨lo, n, rfl, ⟨b1, b2, b3, b4⟩, q _ S1 _ C1 H1 τ1 k (walks_rng lo (n - lo).toNat) st1 m1 p1 e1⟩
/-- for target in what is walked: body; inv: what holds of the names ahead of turn i -/
theorem s_for {body : List Stmt} (hp : PassesOwn (model X.prog X.w) X.A X.env X.xe) (hc : X.calm = true)
    (h : dI Γ X tg e S fun ds S1 => ∃ inv : Nat → Stat → Prop, inv 0 { S1 with sl := S1.sl.take S1.m } ∧
      (∀ i d S2, ds[i]? = some d → inv i S2 → S2.m = S.m → dG Γ X tg d S2 fun S3 => dSs Γ X body S3 { D with nx := inv (i + 1), ct := inv (i + 1), bk := D.nx }) ∧ ∀ S2, inv ds.length S2 → D.nx S2)
    (hs : ∀ y, foldedSetIterable e X.env y = pure y := by intro _; rfl) : dS Γ X (.For tg e body [] pos) S D := fun C H σ st hm E ok => by
  refine ⟨_, ps_for hp hc (pi_w tg e) (pg_w tg) (pss_w body) hs, h C H σ [] (by rw [List.append_nil]; exact st) hm _ fun ds S1 J C1 H1 τ1 ⟨inv, h0, hturn, hend⟩ wk st1 m1 p1 e1 => ?_⟩
  have st2 := st1.drop (hm.trans m1.symm)
  refine ⟨fun i m σ' H' => m = ds.length - i ∧ i ≤ ds.length ∧ ∃ C' S', Stt Γ C' H' σ' S' ∧ S'.m = S.m ∧ σ'.length = S.m ∧ Ex C1 C' ∧ inv i S', ⟨_, rfl, Nat.zero_le _, C1, _, st2, m1, hm, Ex.refl C1, h0⟩, ?_⟩
  rintro i m σ' H' ⟨rfl, hi, C', S', st', ms, ls, ec, hv⟩
  by_cases hlt : i < ds.length
  · refine .inr ⟨wk.go i H' hlt (ec.trans st'.sub), fun σ2 H2 => ∃ C2 S2, Stt Γ C2 H2 σ2 S2 ∧ S2.m = S.m ∧ σ2.length = S.m ∧ Ex C1 C2 ∧ inv (i + 1) S2, fun σ2 H2 ⟨C2, S2, q⟩ => ⟨ds.length - (i + 1), by omega, rfl, hlt, C2, S2, q⟩, fun x H2 hy => ?_⟩
    have hd : ds[i]? = some ds[i] := List.getElem?_eq_getElem hlt
    obtain ⟨C2, g, dv⟩ := wk.yld i ds[i] H' x H2 hd (ec.trans st'.sub) hy C' ec st'.sub
    have st3 := st'.grow g
    refine hturn i ds[i] S' hd hv ms C2 H2 σ' [] x (by rw [List.append_nil]; exact st3) (ls.trans ms.symm) dv _ fun S3 C3 H3 σ3 k3 st4 m4 l4 e4 => ?_
    rw [List.append_nil] at st4
    have c3 : Ex C1 C3 := (ec.trans g.core).trans e4
    refine k3 C3 H3 σ3 st4 (l4.trans m4.symm) _ ⟨fun S5 C5 H5 σ5 k5 st5 m5 l5 e5 => ?_, ok.rt, fun S5 C5 H5 σ5 k5 st5 m5 l5 e5 => ?_, fun S5 C5 H5 σ5 k5 st5 m5 l5 e5 => ?_⟩
    · exact ⟨C5, S5, st5, m5.trans (m4.trans ms), l5.trans (m4.trans ms), c3.trans e5, k5⟩
    · exact ok.nx S5 C5 H5 σ5 k5 st5 (m5.trans (m4.trans ms)) (l5.trans (m4.trans ms)) (e1.trans (c3.trans e5))
    · exact ⟨C5, S5, st5, m5.trans (m4.trans ms), l5.trans (m4.trans ms), c3.trans e5, k5⟩
  · have ei : i = ds.length := by omega
    subst ei
    exact .inl ⟨wk.stop H' (ec.trans st'.sub), ok.nx S' C' H' σ' (hend S' hv) st' ms ls (e1.trans ec)⟩
/-- while test: body -/
theorem s_while {c : Expr} {body : List Stmt} (hp : PassesOwn (model X.prog X.w) X.A X.env X.xe) (inv : Nat → Stat → Prop) (m0 : Nat) (h0 : inv m0 S)
    (h : ∀ n S1, inv n S1 → S1.m = S.m → dT Γ X c S1 fun k S2 => if k = true then dSs Γ X body { S2 with sl := S2.sl.take S2.m } { D with nx := fun S3 => ∃ n', n' < n ∧ inv n' S3, ct := fun S3 => ∃ n', n' < n ∧ inv n' S3, bk := D.nx } else D.nx { S2 with sl := S2.sl.take S2.m }) :
    dS Γ X (.While c body [] pos) S D := fun C H σ st hm E ok => by
  refine ⟨_, ps_while hp (pt_w c) (pss_w body), fun n σ' H' => ∃ C' S', Stt Γ C' H' σ' S' ∧ S'.m = S.m ∧ σ'.length = S.m ∧ Ex C C' ∧ inv n S', ⟨m0, C, S, st, rfl, hm, Ex.refl C, h0⟩, ?_⟩
  rintro n σ' H' ⟨C', S', st', ms, ls, ec, hv⟩
  refine h n S' hv ms C' H' σ' [] (by rw [List.append_nil]; exact st') (ls.trans ms.symm) _ fun k S2 C2 H2 τ2 k2 st2 m2 p2 e2 => ?_
  have st3 := st2.drop ((ls.trans ms.symm).trans m2.symm)
  cases k with
  | true =>
    rw [if_pos rfl] at k2 ⊢
    refine ⟨fun σ5 H5 => ∃ n', n' < n ∧ ∃ C5 S5, Stt Γ C5 H5 σ5 S5 ∧ S5.m = S.m ∧ σ5.length = S.m ∧ Ex C C5 ∧ inv n' S5, fun σ5 H5 ⟨n', hn, q⟩ => ⟨n', hn, q⟩, ?_⟩
    refine k2 C2 H2 σ' st3 ((ls.trans ms.symm).trans m2.symm) _ ⟨fun S5 C5 H5 σ5 ⟨n', hn, k5⟩ st5 m5 l5 e5 => ?_, ok.rt, fun S5 C5 H5 σ5 k5 st5 m5 l5 e5 => ?_, fun S5 C5 H5 σ5 ⟨n', hn, k5⟩ st5 m5 l5 e5 => ?_⟩
    · exact ⟨n', hn, C5, S5, st5, m5.trans (m2.trans ms), l5.trans (m2.trans ms), (ec.trans e2).trans e5, k5⟩
    · exact ok.nx S5 C5 H5 σ5 k5 st5 (m5.trans (m2.trans ms)) (l5.trans (m2.trans ms)) ((ec.trans e2).trans e5)
    · exact ⟨n', hn, C5, S5, st5, m5.trans (m2.trans ms), l5.trans (m2.trans ms), (ec.trans e2).trans e5, k5⟩
  | false =>
    rw [if_neg Bool.false_ne_true] at k2 ⊢
    exact ok.nx _ C2 H2 σ' k2 st3 (m2.trans ms) ls (ec.trans e2)
end
end Dw
set_option maxHeartbeats 4000000
namespace Dw
open PySem PySem.Spec PyProof.Rows L2
/-! ### a name's own list is changed -/
section
variable {Γ : Env} {X : Cx} {S : Stat} {κ : Rv → Stat → Prop} {pos p p2 ap cp : Pos} {e : Expr} {y : Str} {i : Nat}
theorem own_get {C H : Hp} {σ τ : L2.St} (st : Stt Γ C H (σ ++ τ) S) (hm : σ.length = S.m) {ds : List PyData} (hs : S.sl[i]? = some (.own ds)) (hi : i < S.m) :
    ∃ l xs, σ[i]? = some (some (V.ref l)) ∧ H l = some (.lst xs) ∧ C l = none ∧ Γ.H0 l = none ∧ DqA C xs ds := by
  obtain ⟨o, ho, l, xs, rfl, h1, h2, h3, h4⟩ := st.at_ hm hs hi
  exact ⟨l, xs, ho, h1, h2, h3, h4⟩
/-- x.append(e) -/
theorem d_append (hN : X.N[i]? = some y) {ds : List PyData} (hs : S.sl[i]? = some (.own ds)) (hi : i < S.m)
    (h : dE Γ X e S fun r S1 => ∃ d ds1, r = .dat d ∧ S1.sl[i]? = some (.own ds1) ∧ ds1.length < 100000 ∧ κ (.dat .none) { S1 with sl := S1.sl.set i (.own (ds1 ++ [d])) })
    (hv : Vis X.env.scope y := by first | exact .inl rfl | exact .inr (.inl rfl) | exact .inr (.inr rfl)) (hd : (y == ("__debug__" : Str)) = false := by decide) (hcd : (y == ("__classdict__" : Str)) = false := by decide)
    (hbase : attributeBase (.Name y p) "append" X.env (eval (.Name y p) X.env) = eval (.Name y p) X.env := by rfl)
    (hfew : ((backTo cp (starEach [e] X.env)).all (fun x => !x.1) && (backToKw cp (keywordEach [] X.env)).all (fun x => x.1.isSome)
      && decide (([e]).length + ([] : List Keyword).length + (if ([] : List Keyword).isEmpty then 0 else 1) < 30)) = true := by rfl)
    (hline : (ap.endLine == cp.line) = true := by rfl) (hse : starEach [e] X.env = (false, eval e X.env) :: starEach [] X.env := by rfl) (hplain : (backTo cp (starEach [] X.env)).any (·.1) = false := by rfl) :
    dE Γ X (.Call (.Attribute (.Name y p) "append" ap) [e] [] cp) S κ := fun C H σ τ st hm Q q => by
  obtain ⟨l, xs, hl, hH, _, _, aa⟩ := own_get st hm hs hi
  refine ⟨_, pe_bm PySem.F.plainAttrs_list PySem.F.slot_list_append PySem.F.type_list_append mt_append (pe_var (i := i) hN hv hd hcd) (pa_cons (pe_w e) pa_nil hse) hbase hfew hline hse hplain, _, hl, .inl ⟨rfl, _, SqL.of hH⟩, ?_⟩
  refine h C H σ τ st hm _ fun r S1 v C1 H1 τ1 ⟨d, ds1, z, hs1, hz, k⟩ st1 m1 p1 e1 a1 _ => ?_
  subst z
  obtain ⟨l', xs', hl', hH', c', h0', aa'⟩ := own_get st1 (hm.trans m1.symm) hs1 (by rw [m1]; exact hi)
  rw [hl] at hl'
  cases hl'
  refine ⟨l, xs', v, rfl, rfl, hH', Nat.lt_of_lt_of_le (by rw [aa'.length]; exact hz) (by decide), ?_⟩
  have hσ : (σ ++ τ1)[i]? = some (some (V.ref l)) := by rw [List.getElem?_append_left (by rw [hm]; exact hi)]; exact hl
  have st2 := st1.mutO hs1 rfl hσ (o := .lst (xs' ++ [v])) (s' := .own (ds1 ++ [d])) ⟨l, _, rfl, upd_same, c', h0', aa'.append (.cons a1 .nil)⟩ rfl
  exact q _ _ _ C1 _ τ1 k st2 m1 p1 e1 .non (fun k z => by cases z)
/-- x.extend(e), e a list -/
theorem d_extend (hN : X.N[i]? = some y) {ds : List PyData} (hs : S.sl[i]? = some (.own ds)) (hi : i < S.m)
    (h : dE Γ X e S fun r S1 => ∃ es ds1, r = .dat (.list es) ∧ S1.sl[i]? = some (.own ds1) ∧ ds1.length + es.length ≤ 100000 ∧ κ (.dat .none) { S1 with sl := S1.sl.set i (.own (ds1 ++ es)) })
    (hv : Vis X.env.scope y := by first | exact .inl rfl | exact .inr (.inl rfl) | exact .inr (.inr rfl)) (hd : (y == ("__debug__" : Str)) = false := by decide) (hcd : (y == ("__classdict__" : Str)) = false := by decide)
    (hbase : attributeBase (.Name y p) "extend" X.env (eval (.Name y p) X.env) = eval (.Name y p) X.env := by rfl)
    (hfew : ((backTo cp (starEach [e] X.env)).all (fun x => !x.1) && (backToKw cp (keywordEach [] X.env)).all (fun x => x.1.isSome)
      && decide (([e]).length + ([] : List Keyword).length + (if ([] : List Keyword).isEmpty then 0 else 1) < 30)) = true := by rfl)
    (hline : (ap.endLine == cp.line) = true := by rfl) (hse : starEach [e] X.env = (false, eval e X.env) :: starEach [] X.env := by rfl) (hplain : (backTo cp (starEach [] X.env)).any (·.1) = false := by rfl) :
    dE Γ X (.Call (.Attribute (.Name y p) "extend" ap) [e] [] cp) S κ := fun C H σ τ st hm Q q => by
  obtain ⟨l, xs, hl, hH, _, _, aa⟩ := own_get st hm hs hi
  refine ⟨_, pe_bm PySem.F.plainAttrs_list PySem.F.slot_list_extend PySem.F.type_list_extend mt_extend (pe_var (i := i) hN hv hd hcd) (pa_cons (pe_w e) pa_nil hse) hbase hfew hline hse hplain, _, hl, .inl ⟨rfl, _, SqL.of hH⟩, ?_⟩
  refine h C H σ τ st hm _ fun r S1 v C1 H1 τ1 ⟨es, ds1, z, hs1, hz, k⟩ st1 m1 p1 e1 a1 _ => ?_
  subst z
  obtain ⟨l', xs', hl', hH', c', h0', aa'⟩ := own_get st1 (hm.trans m1.symm) hs1 (by rw [m1]; exact hi)
  rw [hl] at hl'
  cases hl'
  have a2 : Dq C1 v (.list es) := a1
  cases a2 with
  | @lst b ys _ hb ab =>
    refine ⟨l, b, xs', ys, rfl, rfl, hH', st1.sub _ _ hb, sz (by rw [aa'.length, ab.length]; exact hz), ?_⟩
    have hσ : (σ ++ τ1)[i]? = some (some (V.ref l)) := by rw [List.getElem?_append_left (by rw [hm]; exact hi)]; exact hl
    have st2 := st1.mutO hs1 rfl hσ (o := .lst (xs' ++ ys)) (s' := .own (ds1 ++ es)) ⟨l, _, rfl, upd_same, c', h0', aa'.append ab⟩ rfl
    exact q _ _ _ C1 _ τ1 k st2 m1 p1 e1 .non (fun k z => by cases z)
theorem DqA.erase {H : Hp} : ∀ (n : Nat) {vs : List V} {ds : List PyData}, DqA H vs ds → DqA H (vs.eraseIdx n) (ds.eraseIdx n)
  | _, _, _, .nil => by simpa using .nil
  | 0, _, _, .cons _ a => by simpa using a
  | n + 1, _, _, .cons h a => by simpa using .cons h (DqA.erase n a)
/-- x.pop(e) -/
theorem d_popAt (hN : X.N[i]? = some y) {ds : List PyData} (hs : S.sl[i]? = some (.own ds)) (hi : i < S.m)
    (h : dE Γ X e S fun r S1 => ∃ (j : Nat) (d : PyData) (ds1 : List PyData), r = .dat (.int j) ∧ S1.sl[i]? = some (.own ds1) ∧ ds1[j]? = some d ∧ ds1.length ≤ 100000 ∧ κ (.dat d) { S1 with sl := S1.sl.set i (.own (ds1.eraseIdx j)) })
    (hv : Vis X.env.scope y := by first | exact .inl rfl | exact .inr (.inl rfl) | exact .inr (.inr rfl)) (hd : (y == ("__debug__" : Str)) = false := by decide) (hcd : (y == ("__classdict__" : Str)) = false := by decide)
    (hbase : attributeBase (.Name y p) "pop" X.env (eval (.Name y p) X.env) = eval (.Name y p) X.env := by rfl)
    (hfew : ((backTo cp (starEach [e] X.env)).all (fun x => !x.1) && (backToKw cp (keywordEach [] X.env)).all (fun x => x.1.isSome)
      && decide (([e]).length + ([] : List Keyword).length + (if ([] : List Keyword).isEmpty then 0 else 1) < 30)) = true := by rfl)
    (hline : (ap.endLine == cp.line) = true := by rfl) (hse : starEach [e] X.env = (false, eval e X.env) :: starEach [] X.env := by rfl) (hplain : (backTo cp (starEach [] X.env)).any (·.1) = false := by rfl) :
    dE Γ X (.Call (.Attribute (.Name y p) "pop" ap) [e] [] cp) S κ := fun C H σ τ st hm Q q => by
  obtain ⟨l, xs, hl, hH, _, _, aa⟩ := own_get st hm hs hi
  refine ⟨_, pe_bm PySem.F.plainAttrs_list PySem.F.slot_list_pop PySem.F.type_list_pop mt_popAt (pe_var (i := i) hN hv hd hcd) (pa_cons (pe_w e) pa_nil hse) hbase hfew hline hse hplain, _, hl, .inl ⟨rfl, _, SqL.of hH⟩, ?_⟩
  refine h C H σ τ st hm _ fun r S1 v C1 H1 τ1 ⟨j, d, ds1, z, hs1, hj, hz, k⟩ st1 m1 p1 e1 a1 _ => ?_
  subst z
  obtain ⟨l', xs', hl', hH', c', h0', aa'⟩ := own_get st1 (hm.trans m1.symm) hs1 (by rw [m1]; exact hi)
  rw [hl] at hl'
  cases hl'
  have a2 : Dq C1 v (.int j) := a1
  cases a2
  obtain ⟨w, hw, dw⟩ := aa'.get hj
  have hjl : j < xs'.length := (List.getElem?_eq_some_iff.mp hw).1
  refine ⟨l, xs', j, j, w, rfl, rfl, hH', by omega, by have := aa'.length; omega, ?_, hw, ?_⟩
  · have : ixN xs'.length (j : Int) = some j := by
      unfold ixN
      rw [if_pos (by omega), if_pos (by omega)]
      simp
    exact (ixN_seq this).1
  · have hσ : (σ ++ τ1)[i]? = some (some (V.ref l)) := by rw [List.getElem?_append_left (by rw [hm]; exact hi)]; exact hl
    have st2 := st1.mutO hs1 rfl hσ (o := .lst (xs'.eraseIdx j)) (s' := .own (ds1.eraseIdx j)) ⟨l, _, rfl, upd_same, c', h0', aa'.erase j⟩ rfl
    exact q _ _ _ C1 _ τ1 k st2 m1 p1 e1 dw (fun k z => by cases z)
end
end Dw
set_option maxHeartbeats 4000000
namespace Dw
open PySem PySem.Spec PyProof.Rows L2
/-! ### lists by comprehension -/
def wl (sl : List Sl) : List Nat → List Sl
  | [] => sl
  | v :: vs => (wl sl vs).set v .no
theorem wl_len (sl : List Sl) : ∀ vs : List Nat, (wl sl vs).length = sl.length
  | [] => rfl
  | v :: vs => by unfold wl; rw [List.length_set, wl_len sl vs]
theorem wl_out {sl : List Sl} {i : Nat} : ∀ {vs : List Nat}, i ∉ vs → (wl sl vs)[i]? = sl[i]?
  | [], _ => rfl
  | v :: vs, h => by
    unfold wl
    rw [List.getElem?_set_ne (fun e => h (by rw [e]; exact List.mem_cons_self ..)), wl_out fun z => h (List.mem_cons_of_mem _ z)]
theorem wl_in {sl : List Sl} {i : Nat} : ∀ {vs : List Nat}, i ∈ vs → i < sl.length → (wl sl vs)[i]? = some .no
  | v :: vs, h, hi => by
    unfold wl
    by_cases e : v = i
    · subst e
      rw [List.getElem?_set_self (by rw [wl_len]; exact hi)]
    · rw [List.getElem?_set_ne e]
      rcases List.mem_cons.mp h with z | z
      · exact absurd z.symm e
      · exact wl_in z hi
theorem wl_app (sl τ : List Sl) : ∀ {vs : List Nat}, (∀ v ∈ vs, v < sl.length) → wl (sl ++ τ) vs = wl sl vs ++ τ
  | [], _ => rfl
  | v :: vs, h => by
    unfold wl
    rw [wl_app sl τ fun z hz => h z (List.mem_cons_of_mem _ hz), List.set_append_left _ _ (by rw [wl_len]; exact h v (List.mem_cons_self ..))]
theorem wipe_in {σ : L2.St} {i : Nat} : ∀ {vs : List Nat}, i ∈ vs → i < σ.length → (wipe σ vs)[i]? = some none
  | v :: vs, h, hi => by
    unfold wipe
    by_cases e : v = i
    · subst e
      rw [List.getElem?_set_self (by rw [wipe_length]; exact hi)]
    · rw [List.getElem?_set_ne e]
      rcases List.mem_cons.mp h with z | z
      · exact absurd z.symm e
      · exact wipe_in z hi
theorem wipe_app (σ τ : L2.St) : ∀ {vs : List Nat}, (∀ v ∈ vs, v < σ.length) → wipe (σ ++ τ) vs = wipe σ vs ++ τ
  | [], _ => rfl
  | v :: vs, h => by
    unfold wipe
    rw [wipe_app σ τ fun z hz => h z (List.mem_cons_of_mem _ hz), List.set_append_left _ _ (by rw [wipe_length]; exact h v (List.mem_cons_self ..))]
theorem wipe_eq {σ σ' : L2.St} {vs : List Nat} (hl : σ'.length = σ.length) (h : ∀ j, j ∉ vs → σ'[j]? = (wipe σ vs)[j]?) : wipe σ' vs = wipe σ vs := by
  refine List.ext_getElem? fun j => ?_
  by_cases hj : j ∈ vs
  · by_cases hlt : j < σ.length
    · rw [wipe_in hj hlt, wipe_in hj (by rw [hl]; exact hlt)]
    · rw [List.getElem?_eq_none (by rw [wipe_length, hl]; omega), List.getElem?_eq_none (by rw [wipe_length]; omega)]
  · rw [wipe_out hj]
    exact h j hj
def wipeS (S : Stat) (vs : List Nat) : Stat := { S with sl := wl S.sl vs }
def acs (S : Stat) (acc : List PyData) : Stat := { S with sl := S.sl ++ [.own acc] }
section
variable {Γ : Env} {C H : Hp} {σ τ : L2.St} {S : Stat}
theorem Stt.wipes (h : Stt Γ C H σ S) : ∀ vs : List Nat, Stt Γ C H (wipe σ vs) (wipeS S vs)
  | [] => h
  | v :: vs => (h.wipes vs).forget v none
theorem Stt.unwipe {vs : List Nat} (h : Stt Γ C H (wipe σ vs ++ τ) S) (hl : ∀ v ∈ vs, v < σ.length) (hn : ∀ v ∈ vs, S.sl[v]? = some .no) : Stt Γ C H (σ ++ τ) S := by
  rw [← wipe_app σ τ hl] at h
  have out : ∀ {i : Nat} {s : Sl}, S.sl[i]? = some s → s ≠ .no → (wipe (σ ++ τ) vs)[i]? = (σ ++ τ)[i]? := fun {i s} hs ne => by
    refine wipe_out fun z => ne ?_
    rw [hn i z] at hs
    cases hs
    rfl
  have own : ∀ {s : Sl}, owns s = true → s ≠ .no := fun {s} o e => by subst e; cases o
  refine ⟨h.stp, by rw [← h.len, wipe_length], fun i s hs => ?_, fun i j s t l hij hs ht os ot h1 h2 => ?_, h.wI, h.wC, fun i s l hs os h1 => ?_⟩
  · by_cases e : s = .no
    · subst e
      have hi : i < (σ ++ τ).length := by
        have := (List.getElem?_eq_some_iff.mp hs).1
        rw [← h.len, wipe_length] at this
        exact this
      exact ⟨_, List.getElem?_eq_getElem hi, trivial⟩
    · obtain ⟨o, ho, k⟩ := h.all i s hs
      exact ⟨o, by rw [← out hs e]; exact ho, k⟩
  · exact h.ap i j s t l hij hs ht os ot (by rw [out hs (own os)]; exact h1) (by rw [out ht (own ot)]; exact h2)
  · exact h.wO i s l hs os (by rw [out hs (own os)]; exact h1)
theorem Stt.mAs (h : Stt Γ C H σ S) (m : Nat) : Stt Γ C H σ { S with m := m } := ⟨h.stp, h.len, h.all, h.ap, h.wI, h.wC, h.wO⟩
theorem Stt.cut (h : Stt Γ C H (σ ++ τ) S) : Stt Γ C H σ { S with sl := S.sl.take σ.length } := ((h.mAs σ.length).drop rfl).mAs S.m
/-- a turn's end -/
theorem Stt.turn {σ2 τ1 τ5 : L2.St} {x : Option V} {vs : List Nat} {acc : List PyData} (h : Stt Γ C H (σ2 ++ τ5) S) (hp : (τ1 ++ [x]) <+: τ5) (hw : wipe σ2 vs = wipe σ vs) (hl : ∀ v ∈ vs, v < σ.length)
    {k0 : Nat} (hk : k0 = σ.length + τ1.length) (hs : S.sl[k0]? = some (.own acc)) :
    Stt Γ C H (wipe σ vs ++ (τ1 ++ [x])) (acs (wipeS { S with sl := S.sl.take k0 } vs) acc) ∧ (∀ v ∈ vs, (wipeS { S with sl := S.sl.take k0 } vs).sl[v]? = some .no) ∧ (wipeS { S with sl := S.sl.take k0 } vs).sl.length = k0 := by
  obtain ⟨z, rfl⟩ := hp
  have l2 : σ2.length = σ.length := by
    have := congrArg List.length hw
    rw [wipe_length, wipe_length] at this
    exact this
  have hlt : k0 < S.sl.length := (List.getElem?_eq_some_iff.mp hs).1
  have h1 : Stt Γ C H ((σ2 ++ (τ1 ++ [x])) ++ z) S := by rw [List.append_assoc]; exact h
  have h2 := h1.cut
  have l3 : (σ2 ++ (τ1 ++ [x])).length = k0 + 1 := by
    rw [List.length_append, List.length_append, l2, hk]
    simp
    omega
  rw [l3] at h2
  have h3 := h2.wipes vs
  rw [wipe_app _ _ (by rw [l2]; exact hl), hw] at h3
  have tk : S.sl.take (k0 + 1) = S.sl.take k0 ++ [.own acc] := by
    rw [List.take_add_one, hs]
    rfl
  have lt : (S.sl.take k0).length = k0 := by rw [List.length_take]; omega
  have hv : ∀ v ∈ vs, v < (S.sl.take k0).length := fun v z => by
    rw [lt, hk]
    have := hl v z
    omega
  have e : wipeS { S with sl := S.sl.take (k0 + 1) } vs = acs (wipeS { S with sl := S.sl.take k0 } vs) acc := by
    unfold wipeS acs
    rw [tk, wl_app _ _ hv]
  rw [e] at h3
  exact ⟨h3, fun v hz => wl_in hz (hv v hz), by
    show (wl (S.sl.take k0) vs).length = k0
    rw [wl_len, lt]⟩
end
/-- the context of a block's turn -/
structure Bk where
  s : Shared
  H : Hp
  C : Addr
  cl : List (Str × Addr)
  fp : List Addr
abbrev blkX (X : Cx) (scope : Scope) (b : Bk) : Cx := X.blk b.s b.H scope (compEnvC scope b.cl b.C X.env) b.fp
/-- a value to a target of names vs -/
def dV (Γ : Env) (X : Cx) (vs : List Nat) (t : Expr) (d : PyData) (S : Stat) (κ : Stat → Prop) : Prop :=
  ∀ C H σ τ v, Stt Γ C H (σ ++ τ) S → σ.length = S.m → Dq C v d → ∀ Q : L2.St → Hp → Prop, (∀ S' σ', κ S' → Stt Γ C H (σ' ++ τ) S' → S'.m = S.m → σ'.length = S.m → (∀ j, j ∉ vs → σ'[j]? = σ[j]?) → Q σ' H) → wG X t v σ H Q
def dVs (Γ : Env) (X : Cx) (vs : List Nat) (t : List Expr) (ds : List PyData) (S : Stat) (κ : Stat → Prop) : Prop :=
  ∀ C H σ τ us, Stt Γ C H (σ ++ τ) S → σ.length = S.m → DqA C us ds → ∀ Q : L2.St → Hp → Prop, (∀ S' σ', κ S' → Stt Γ C H (σ' ++ τ) S' → S'.m = S.m → σ'.length = S.m → (∀ j, j ∉ vs → σ'[j]? = σ[j]?) → Q σ' H) → wGs X t us σ H Q
def wF (X : Cx) (es : List Expr) : TT := fun σ H Q => ∃ t, PTs X es t ∧ t σ H Q
theorem pts_w {X : Cx} (es : List Expr) : PTs X es (wF X es) := ⟨fun pins s σ H Q I ⟨_, p, h⟩ => p.run pins s σ H Q I h⟩
/-- the tests of a comprehension -/
def dF (Γ : Env) (X : Cx) (es : List Expr) (S : Stat) (κ : Bool → Stat → Prop) : Prop :=
  ∀ C H σ τ, Stt Γ C H (σ ++ τ) S → σ.length = S.m → ∀ Q : Bool → Hp → Prop, (∀ b S' C' H' τ', κ b S' → Stt Γ C' H' (σ ++ τ') S' → S'.m = S.m → τ <+: τ' → Ex C C' → Q b H') → wF X es σ H Q
section
variable {Γ : Env} {X : Cx} {S : Stat} {κ : Rv → Stat → Prop} {κs : Stat → Prop} {κt : Bool → Stat → Prop} {pos : Pos} {vs : List Nat}
theorem f_nil (h : κt true S) : dF Γ X [] S κt := fun C H σ τ st hm Q q => ⟨_, pts_nil, q true S C H τ h st rfl List.prefix_rfl (Ex.refl C)⟩
theorem f_one {c : Expr} (h : dT Γ X c S κt) : dF Γ X [c] S κt := fun C H σ τ st hm Q q => by
  obtain ⟨t, p, k⟩ := h C H σ τ st hm Q q
  exact ⟨t, pts_one p, k⟩
theorem v_name {i : Nat} {y : Str} {d : PyData} (hN : X.N.Nodup) (hi : X.N[i]? = some y) (him : i < S.m) (hv : i ∈ vs) (h : κs { S with sl := S.sl.set i (.dat d) }) (hx : Loc X.env.scope y := by first | exact .inl rfl | exact .inr rfl)
    (hf : X.fn y = true ∨ X.env.scope.names.lookup y = some .local := by first | exact .inl rfl | exact .inr rfl | assumption) : dV Γ X vs (.Name y pos) d S κs := fun C H σ τ v st hm dv Q q => by
  refine ⟨_, pg_name hN hi hx hf, ?_⟩
  have st1 := st.put (i := i) (o := some v) (s := .dat d) ⟨v, rfl, dv⟩ (fun z => by cases z)
  rw [List.set_append_left _ _ (by rw [hm]; exact him)] at st1
  exact q _ _ h st1 rfl (by rw [List.length_set]; exact hm) fun j hj => List.getElem?_set_ne fun e => hj (by rw [← e]; exact hv)
theorem vs_nil (h : κs S) : dVs Γ X vs [] [] S κs := fun C H σ τ us st hm hv Q q => by
  cases hv
  exact ⟨_, pgs_nil, rfl, q S σ h st rfl hm fun _ _ => rfl⟩
theorem vs_cons {e : Expr} {es : List Expr} {d : PyData} {ds : List PyData} (h : dV Γ X vs e d S fun S1 => dVs Γ X vs es ds S1 κs)
    (hs : (assignEach (e :: es) X.env).map (·.2) = assign e X.env :: (assignEach es X.env).map (·.2) := by rfl) : dVs Γ X vs (e :: es) (d :: ds) S κs := fun C H σ τ us st hm hv Q q => by
  cases hv with
  | cons h1 h2 =>
    refine ⟨_, pgs_cons (pg_w e) (pgs_w es) hs, _, _, rfl, h C H σ τ _ st hm h1 _ fun S1 σ1 k st1 m1 l1 o1 => ?_⟩
    exact k C H σ1 τ _ st1 (l1.trans m1.symm) h2 Q fun S2 σ2 k2 st2 m2 l2 o2 => q S2 σ2 k2 st2 (m2.trans m1) (l2.trans m1) fun j hj => (o2 j hj).trans (o1 j hj)
theorem v_tup {es : List Expr} {k : Nat} {ds : List PyData} (hc : X.calm = true) (h : dVs Γ X vs es ds S κs) (hl : ds.length = (assignEach es X.env).length := by rfl)
    (hst : (assignEach es X.env).findIdx? (·.1) = none := by rfl) : dV Γ X vs (.Tuple es k pos) (.tuple ds) S κs := fun C H σ τ v st hm hv Q q => by
  cases hv with
  | tup hh aa =>
    exact ⟨_, pg_tup hc (pgs_w es) rfl hst, _, _, rfl, SqT.of (st.sub _ _ hh), by rw [aa.length]; exact hl, h C H σ τ _ st hm aa Q q⟩
/-- [elt for tg in iter if ..], as a new list that no name has yet -/
theorem d_lcN {elt tg iter : Expr} {ifs : List Expr} {scope : Scope} {own : List (Str × Nat)} (hc : X.calm = true) (hN : X.N.Nodup) (ok : BlkOk X.N X.env.scope scope own) (hv : ∀ v ∈ own.map (·.2), v < S.m)
    (h : dI Γ X tg iter S fun ds S1 => ∃ inv : Nat → List PyData → Stat → Prop, inv 0 [] (wipeS S1 (own.map (·.2))) ∧
      (∀ i d acc S2, ds[i]? = some d → inv i acc S2 → S2.m = S.m → S2.sl.length = S1.sl.length → ∀ b, dV Γ (blkX X scope b) (own.map (·.2)) tg d (acs S2 acc) fun S3 =>
        ∀ b, dF Γ (blkX X scope b) ifs S3 fun t S4 => if t = true then ∀ b, dE Γ (blkX X scope b) elt S4 fun r S5 => ∃ d', r = .dat d' ∧ acc.length < 100000 ∧ S5.sl[S1.sl.length]? = some (.own acc) ∧ inv (i + 1) (acc ++ [d']) (wipeS { S5 with sl := S5.sl.take S1.sl.length } (own.map (·.2)))
          else S4.sl[S1.sl.length]? = some (.own acc) ∧ inv (i + 1) acc (wipeS { S4 with sl := S4.sl.take S1.sl.length } (own.map (·.2)))) ∧
      ∀ acc S2, inv ds.length acc S2 → κ (.tmp S1.sl.length) (acs S2 acc))
    (hs : ∀ x, foldedSetIterable iter X.env x = pure x := by intro _; rfl) : dE Γ X (.ListComp elt [⟨tg, iter, ifs, 0⟩] scope pos) S κ := fun C H σ τ st hm Q q => by
  generalize hvs : own.map (·.2) = vs at h hv
  refine ⟨_, pe_lc (g := fun v σ H Q => ∀ b, wG (blkX X scope b) tg v σ H Q) (tt := fun σ H Q => ∀ b, wF (blkX X scope b) ifs σ H Q) (te := fun σ H Q => ∀ b, wE (blkX X scope b) elt σ H Q) hc hN (pi_w tg iter) ok
    (fun s H C cl fp => ⟨fun pins s' σ H' v u Q I r h => (pg_w tg).run pins s' σ H' v u Q I r (h ⟨s, H, C, cl, fp⟩)⟩) (fun s H C cl fp => ⟨fun pins s' σ H' Q I h => (pts_w ifs).run pins s' σ H' Q I (h ⟨s, H, C, cl, fp⟩)⟩)
    (fun s H C cl fp => ⟨fun pins s' σ H' Q I h => (pe_w elt).run pins s' σ H' Q I (h ⟨s, H, C, cl, fp⟩)⟩) hs, ?_⟩
  rw [hvs]
  refine h C H σ τ st hm _ fun ds S1 J C1 H1 τ1 ⟨inv, h0, hturn, hend⟩ wk st1 m1 p1 e1 => ?_
  intro D hD
  have hl : ∀ v ∈ vs, v < σ.length := fun v z => by rw [hm]; exact hv v z
  have k0 : S1.sl.length = σ.length + τ1.length := by rw [← st1.len, List.length_append]
  obtain ⟨st2, _⟩ := st1.tmpL (xs := []) (ds := []) hD .nil
  have fx : ∀ {C H : Hp} {S : Stat} {σ2 τ5 : L2.St} {acc : List PyData}, Stt Γ C H (σ2 ++ τ5) S → (τ1 ++ [some (V.ref D)]) <+: τ5 → wipe σ2 vs = wipe σ vs → S.sl[S1.sl.length]? = some (.own acc) → _ := fun {C H S σ2 τ5 acc} a b c d => Stt.turn (σ := σ) a b c hl k0 d
  refine ⟨fun i m H' => m = ds.length - i ∧ i ≤ ds.length ∧ ∃ C' S' acc, Stt Γ C' H' (wipe σ vs ++ (τ1 ++ [some (V.ref D)])) (acs S' acc) ∧ S'.m = S.m ∧ S'.sl.length = S1.sl.length ∧ (∀ v ∈ vs, S'.sl[v]? = some .no) ∧ Ex C1 C' ∧ inv i acc S', ⟨_, rfl, Nat.zero_le _, C1, wipeS S1 vs, [], ?_⟩, ?_⟩
  · have hs0 : (S1.sl ++ [Sl.own []])[S1.sl.length]? = some (.own []) := by
      rw [List.getElem?_append_right (Nat.le_refl _)]
      simp
    obtain ⟨a, b, c⟩ := fx st2 List.prefix_rfl rfl hs0
    have e : ({ ({ S1 with sl := S1.sl ++ [Sl.own []] } : Stat) with sl := ({ S1 with sl := S1.sl ++ [Sl.own []] } : Stat).sl.take S1.sl.length } : Stat) = S1 := by
      show ({ S1 with sl := (S1.sl ++ [Sl.own []]).take S1.sl.length } : Stat) = S1
      rw [List.take_left]
    rw [e] at a b c
    exact ⟨a, m1, c, b, Ex.refl C1, h0⟩
  · rintro i m H' ⟨rfl, hi, C', S', acc, st', ms, ls, ns, ec, hinv⟩
    by_cases hlt : i < ds.length
    · refine .inr ⟨wk.go i H' hlt (ec.trans st'.sub), fun H2 => ∃ C2 S2 acc2, Stt Γ C2 H2 (wipe σ vs ++ (τ1 ++ [some (V.ref D)])) (acs S2 acc2) ∧ S2.m = S.m ∧ S2.sl.length = S1.sl.length ∧ (∀ v ∈ vs, S2.sl[v]? = some .no) ∧ Ex C1 C2 ∧ inv (i + 1) acc2 S2,
        fun H2 ⟨C2, S2, acc2, q⟩ => ⟨ds.length - (i + 1), by omega, rfl, hlt, C2, S2, acc2, q⟩, fun x H2 hy => ?_⟩
      have hd : ds[i]? = some ds[i] := List.getElem?_eq_getElem hlt
      obtain ⟨C2, g, dv⟩ := wk.yld i ds[i] H' x H2 hd (ec.trans st'.sub) hy C' ec st'.sub
      have st3 := st'.grow g
      have lw : (wipe σ vs).length = (acs S' acc).m := by rw [wipe_length, hm]; exact ms.symm
      intro b
      refine hturn i ds[i] acc S' hd hinv ms ls b C2 H2 (wipe σ vs) _ x st3 lw dv _ fun S3 σ3 k3 st4 m3 l3 o3 => ?_
      have hw : wipe σ3 vs = wipe σ vs := wipe_eq (by rw [l3, hm]; exact ms) o3
      refine ⟨hw, fun b => k3 b C2 H2 σ3 _ st4 (l3.trans m3.symm) _ fun t S4 C4 H4 τ4 k4 st5 m4 p4 e4 => ?_⟩
      cases t with
      | false =>
        rw [if_neg Bool.false_ne_true] at k4 ⊢
        obtain ⟨hs4, hi4⟩ := k4
        obtain ⟨a, b, c⟩ := fx st5 p4 hw hs4
        exact ⟨C4, _, acc, a, m4.trans (m3.trans ms), c, b, (ec.trans g.core).trans e4, hi4⟩
      | true =>
        rw [if_pos rfl] at k4 ⊢
        intro b
        refine k4 b C4 H4 σ3 τ4 st5 (l3.trans (m4.trans m3).symm) _ fun r S5 v5 C5 H5 τ5 ⟨d', z, hz, hs5, hi5⟩ st6 m5 p5 e5 a5 t5 => ?_
        subst z
        have a5' : Dq C5 v5 d' := a5
        have pp := p4.trans p5
        have hσ : (σ3 ++ τ5)[S1.sl.length]? = some (some (V.ref D)) := by
          obtain ⟨z, rfl⟩ := pp
          have l3' : σ3.length = σ.length := by rw [l3, hm]; exact ms
          rw [k0, List.getElem?_append_right (by omega), List.append_assoc, List.getElem?_append_right (by omega), l3']
          simp
        obtain ⟨o, ho, l, xs, e6, h6, c6, h06, aa6⟩ := st6.all _ _ hs5
        rw [hσ] at ho
        cases ho
        cases e6
        refine ⟨xs, h6, Nat.lt_of_lt_of_le (by rw [aa6.length]; exact hz) (by decide), ?_⟩
        have st7 := st6.mutO hs5 rfl hσ (o := .lst (xs ++ [v5])) (s' := .own (acc ++ [d'])) ⟨D, _, rfl, upd_same, c6, h06, aa6.append (.cons a5' .nil)⟩ rfl
        have hlt5 : S1.sl.length < S5.sl.length := (List.getElem?_eq_some_iff.mp hs5).1
        have hs7 : (S5.sl.set S1.sl.length (Sl.own (acc ++ [d'])))[S1.sl.length]? = some (.own (acc ++ [d'])) := List.getElem?_set_self hlt5
        obtain ⟨a, b, c⟩ := fx st7 pp hw hs7
        have e : ({ ({ S5 with sl := S5.sl.set S1.sl.length (Sl.own (acc ++ [d'])) } : Stat) with sl := (({ S5 with sl := S5.sl.set S1.sl.length (Sl.own (acc ++ [d'])) } : Stat)).sl.take S1.sl.length } : Stat) = { S5 with sl := S5.sl.take S1.sl.length } := by
          show ({ S5 with sl := (S5.sl.set S1.sl.length (Sl.own (acc ++ [d']))).take S1.sl.length } : Stat) = _
          rw [List.take_set, List.set_eq_of_length_le (by rw [List.length_take]; omega)]
        rw [e] at a b c
        exact ⟨C5, _, _, a, m5.trans (m4.trans (m3.trans ms)), c, b, ((ec.trans g.core).trans e4).trans e5, hi5⟩
    · have ei : i = ds.length := by omega
      subst ei
      refine .inl ⟨wk.stop H' (ec.trans st'.sub), ?_⟩
      have st3 := st'.unwipe hl fun v z => by
        show (S'.sl ++ [Sl.own acc])[v]? = some .no
        rw [List.getElem?_append_left (by rw [ls, k0]; exact Nat.lt_of_lt_of_le (hl v z) (Nat.le_add_right _ _))]
        exact ns v z
      refine q (.tmp S1.sl.length) (acs S' acc) _ C' H' _ (hend acc S' hinv) st3 ms (p1.trans (List.prefix_append _ _)) (e1.trans ec) ?_ fun k z => ?_
      · show (σ ++ (τ1 ++ [some (V.ref D)]))[S1.sl.length]? = _
        rw [k0, ← List.append_assoc, List.getElem?_append_right (by rw [List.length_append]; omega), List.length_append]
        simp
      · cases z
        rw [k0, ← hm]
        omega
/-- a new list given away -/
theorem d_datT {e : Expr} (h : dE Γ X e S fun r S1 => ∃ k ds, r = .tmp k ∧ S1.sl[k]? = some (.own ds) ∧ κ (.dat (.list ds)) { S1 with sl := S1.sl.set k (.dat (.list ds)) }) : dE Γ X e S κ := fun C H σ τ st hm Q q => by
  refine h C H σ τ st hm Q fun r S1 v C1 H1 τ1 ⟨k, ds, z, hk, kk⟩ st1 m1 p1 e1 a1 t1 => ?_
  subst z
  obtain ⟨C2, l, hl, ec, dl, st2⟩ := st1.give hk
  have a2 : (σ ++ τ1)[k]? = some (some v) := a1
  rw [hl] at a2
  cases a2
  exact q _ _ _ C2 H1 τ1 kk st2 m1 p1 (e1.trans ec) dl (fun k z => by cases z)
end
end Dw
set_option maxHeartbeats 4000000
namespace Dw
open PySem PySem.Spec PyProof.Rows L2 C8
/-! ### defs by their bodies -/
def pureEnv (K : PySem.W.Frag) (C H : Hp) : Env := ⟨K, [], fun _ _ => True, fun _ _ _ _ _ => trivial, fun _ _ _ a ha => by simp at ha, C, H⟩
def sl0 (ds : List PyData) (n : Nat) : List Sl := ds.map .dat ++ List.replicate (n - ds.length) .no
theorem sl0_len {ds : List PyData} {n : Nat} (h : ds.length ≤ n) : (sl0 ds n).length = n := by
  unfold sl0
  rw [List.length_append, List.length_map, List.length_replicate]
  omega
theorem sl0_at {ds : List PyData} {n i : Nat} {s : Sl} (h : (sl0 ds n)[i]? = some s) : (∃ d, ds[i]? = some d ∧ s = .dat d) ∨ s = .no := by
  unfold sl0 at h
  by_cases hi : i < ds.length
  · rw [List.getElem?_append_left (by simpa using hi), List.getElem?_map] at h
    rw [List.getElem?_eq_getElem hi] at h
    cases h
    exact .inl ⟨_, List.getElem?_eq_getElem hi, rfl⟩
  · rw [List.getElem?_append_right (by simpa using hi), List.getElem?_replicate] at h
    split at h
    · cases h
      exact .inr rfl
    · cases h
theorem start_len {N : List Str} {vs : List V} (h : vs.length ≤ N.length) : (L2.start N vs).length = N.length := by
  unfold L2.start
  rw [List.length_append, List.length_map, List.length_replicate]
  omega
theorem start_at {N : List Str} {vs : List V} {i : Nat} {v : V} (h : vs[i]? = some v) : (L2.start N vs)[i]? = some (some v) := by
  have hi := (List.getElem?_eq_some_iff.mp h).1
  unfold L2.start
  rw [List.getElem?_append_left (by simpa using hi), List.getElem?_map, h]
  rfl
theorem stt_pure {K : PySem.W.Frag} {C H : Hp} {N : List Str} {vs : List V} {ds : List PyData} (e : Ex C H) (a : DqA C vs ds) (hn : ds.length ≤ N.length) :
    Stt (pureEnv K C H) C H (L2.start N vs) ⟨sl0 ds N.length, 0, N.length⟩ := by
  have hl : vs.length ≤ N.length := by rw [a.length]; exact hn
  have no : ∀ {i : Nat} {s : Sl}, (sl0 ds N.length)[i]? = some s → owns s = true → False := fun {i s} h o => by
    rcases sl0_at h with ⟨d, _, rfl⟩ | rfl <;> cases o
  refine ⟨Stp.refl e, by
    show _ = (sl0 ds N.length).length
    rw [start_len hl, sl0_len hn], fun i s hs => ?_, fun i j s t l _ hs _ o => (no hs o).elim, trivial, fun a ha => by simp [pureEnv] at ha, fun i s l hs o => (no hs o).elim⟩
  rcases sl0_at hs with ⟨d, hd, rfl⟩ | rfl
  · obtain ⟨v, hv, dv⟩ := a.get hd
    exact ⟨_, start_at hv, v, rfl, dv⟩
  · have hi : i < (L2.start N vs).length := by
      have h2 : i < (sl0 ds N.length).length := (List.getElem?_eq_some_iff.mp hs).1
      rw [sl0_len hn] at h2
      rw [start_len hl]
      exact h2
    exact ⟨_, List.getElem?_eq_getElem hi, trivial⟩
section
variable {P : Program} {w : World} {K : PySem.W.Frag} {mg : Str → Option Value} {base : Heap}
/-- the context of a def's body -/
abbrev cxD (P : Program) (w : World) (K : PySem.W.Frag) (mg : Str → Option Value) (base : Heap) (N : List Str) (x : Str) (st : Stmt) (f : Addr) (cdv : Value) (A : Around) (outer : List PySem.Env) (s : Shared) (H : Hp) (E : XK) : Cx := (cxOf C8.CX0 P w K mg base N x (fnScope st) f cdv A outer s H E).nox
theorem pfn_pure {x : Str} {st : Stmt} {f : Addr} {fd : FuncData} {N ps : List Str} {k n : Nat} {g : List PyData → Option PyData} (F : Def K mg x st f fd) (b : Binds K fd ps []) (S : FnScope N ps (fnScope st)) (hn : ps.length = n) (hN : n ≤ N.length)
    (body : ∀ (Γ : Env) (cdv : Value) (A : Around) (outer : List PySem.Env) (s : Shared) (H : Hp) (E : XK) (ds : List PyData) (d : PyData), Room k (A.deeper (envOfC x (fnScope st) s.heap.objs.size f cdv)) → ds.length = n → g ds = some d →
      dSs Γ (cxD P w K mg base N x st f cdv A outer s H E) (fnBody st) ⟨sl0 ds N.length, 0, N.length⟩ { nx := fun _ => d = .none, rt := fun r _ => r = .dat d }) : PFn P w K mg base x (k + 1) (spP n g) := by
  refine ⟨f, fd, ps, fn0 F.fn S (fun vs H Q E ⟨C, ds, d, _, a, hl, _⟩ => by rw [a.length, hl, hn]) fun cdv A outer s H vs Q E hr ⟨C, ds, d, e, a, hl, hg, q⟩ => ⟨_, pss_w _, ?_⟩, F.mgf, F.kp, b⟩
  have st := stt_pure (K := K) (N := N) e a (by rw [hl]; exact hN)
  refine body (pureEnv K C H) cdv A outer s H E ds d hr hl hg C H _ st (start_len (by rw [a.length, hl]; exact hN)) _ ⟨fun S' C' H' σ' z st' _ _ _ => ?_, fun d' S' v C' H' σ' z st' dv => ?_, fun _ _ _ _ z => z.elim, fun _ _ _ _ z => z.elim⟩
  · have z : d = .none := z
    subst z
    exact q _ C' H' st'.stp .non
  · have z : Rv.dat d' = .dat d := z
    cases z
    exact q v C' H' st'.stp dv
/-! ### defs that draw -/
def StrI (a s : Addr) (n : Nat) (H : Hp) : Prop := a ≠ s ∧ ∃ (big mix : Int) (cells : List Int), H a = some (.lst [.ref s, .int big, .int n, .int mix]) ∧ H s = some (.lst (cells.map V.int)) ∧ 0 ≤ big ∧ 0 ≤ mix ∧ mix < 2147483647
theorem StrI.stay {a s : Addr} {n : Nat} {H H' : Hp} (h : StrI a s n H) (k : ∀ b ∈ [a, s], ∀ o, H b = some o → H' b = some o) : StrI a s n H' := by
  obtain ⟨h0, big, mix, cells, h1, h2, h3⟩ := h
  exact ⟨h0, big, mix, cells, k a (by simp) _ h1, k s (by simp) _ h2, h3⟩
theorem StrI.here {a s : Addr} {n : Nat} {H : Hp} (h : StrI a s n H) : ∀ b ∈ [a, s], ∃ o, H b = some o := by
  obtain ⟨h0, big, mix, cells, h1, h2, h3⟩ := h
  intro b hb
  simp at hb
  rcases hb with rfl | rfl
  · exact ⟨_, h1⟩
  · exact ⟨_, h2⟩
def strEnv (K : PySem.W.Frag) (a s : Addr) (C H : Hp) : Env := ⟨K, [a, s], StrI a s, fun _ _ _ h k => h.stay k, fun _ _ h => h.here, C, H⟩
/-- the stream and data in, data out, at most cost draws -/
def spS (n : Nat) (pre : List PyData → Prop) (post : List PyData → PyData → Prop) (cost : List PyData → Nat) : Sp := fun vs H Q _ => ∃ a s us C ds m, vs = .ref a :: us ∧ Ex C H ∧ C a = none ∧ C s = none ∧ StrI a s m H ∧ DqA C us ds ∧ ds.length = n ∧ pre ds ∧ m + cost ds ≤ 2 ^ 48 ∧
  ∀ v C' H' d m', post ds d → m' ≤ m + cost ds → Stp [a, s] C H C' H' → StrI a s m' H' → Dq C' v d → Q v H'
theorem stp_none {ws : List Addr} {C H C' H' : Hp} (g : Stp ws C H C' H') {a : Addr} (h : C a = none) (hh : ∃ o, H a = some o) : C' a = none := by
  cases e : C' a with
  | none => rfl
  | some o =>
    rcases g.new a o e with z | z
    · rw [h] at z; cases z
    · obtain ⟨u, hu⟩ := hh
      rw [hu] at z; cases z
theorem stt_str {a s : Addr} {C H : Hp} {N : List Str} {us : List V} {ds : List PyData} {m : Nat} (e : Ex C H) (ca : C a = none) (cs : C s = none) (si : StrI a s m H) (aa : DqA C us ds) (hn : ds.length + 1 ≤ N.length) :
    Stt (strEnv K a s C H) C H (L2.start N (.ref a :: us)) ⟨.raw (.ref a) :: sl0 ds (N.length - 1), m, N.length⟩ := by
  have hl : (V.ref a :: us).length ≤ N.length := by rw [List.length_cons, aa.length]; exact hn
  have no : ∀ {i : Nat} {t : Sl}, (Sl.raw (V.ref a) :: sl0 ds (N.length - 1))[i]? = some t → owns t = true → False := fun {i t} h o => by
    cases i with
    | zero =>
      rw [List.getElem?_cons_zero] at h
      cases h
      cases o
    | succ i =>
      rw [List.getElem?_cons_succ] at h
      rcases sl0_at h with ⟨d, _, rfl⟩ | rfl <;> cases o
  have len2 : (Sl.raw (V.ref a) :: sl0 ds (N.length - 1)).length = N.length := by
    rw [List.length_cons, sl0_len (by omega)]
    omega
  refine ⟨Stp.refl e, by rw [start_len hl]; exact len2.symm, fun i t hs => ?_, fun i j s t l _ hs _ o => (no hs o).elim, si, fun b hb => ?_, fun i s l hs o => (no hs o).elim⟩
  · cases i with
    | zero =>
      have hs : some (Sl.raw (V.ref a)) = some t := hs
      cases hs
      exact ⟨_, start_at (i := 0) rfl, rfl⟩
    | succ i =>
      have hs' : (sl0 ds (N.length - 1))[i]? = some t := hs
      rcases sl0_at hs' with ⟨d, hd, rfl⟩ | rfl
      · obtain ⟨v, hv, dv⟩ := aa.get hd
        exact ⟨_, start_at (i := i + 1) (by rw [List.getElem?_cons_succ]; exact hv), v, rfl, dv⟩
      · have hi : i + 1 < (L2.start N (V.ref a :: us)).length := by
          have h2 := (List.getElem?_eq_some_iff.mp hs).1
          rw [start_len hl, ← len2]
          exact h2
        exact ⟨_, List.getElem?_eq_getElem hi, trivial⟩
  · have hb : b ∈ [a, s] := hb
    simp at hb
    rcases hb with rfl | rfl
    · exact ca
    · exact cs
theorem pfn_str {x : Str} {st : Stmt} {f : Addr} {fd : FuncData} {N ps : List Str} {k n : Nat} {pre : List PyData → Prop} {post : List PyData → PyData → Prop} {cost : List PyData → Nat} (F : Def K mg x st f fd) (b : Binds K fd ps []) (S : FnScope N ps (fnScope st)) (hn : ps.length = n + 1) (hN : n + 1 ≤ N.length)
    (body : ∀ (a sa : Addr) (C0 H0 : Hp) (cdv : Value) (A : Around) (outer : List PySem.Env) (s : Shared) (H : Hp) (E : XK) (ds : List PyData) (m : Nat), Room k (A.deeper (envOfC x (fnScope st) s.heap.objs.size f cdv)) → ds.length = n → pre ds → m + cost ds ≤ 2 ^ 48 →
      dSs (strEnv K a sa C0 H0) (cxD P w K mg base N x st f cdv A outer s H E) (fnBody st) ⟨.raw (.ref a) :: sl0 ds (N.length - 1), m, N.length⟩
        { nx := fun S => post ds .none ∧ S.n ≤ m + cost ds, rt := fun r S => ∃ d, r = .dat d ∧ post ds d ∧ S.n ≤ m + cost ds }) : PFn P w K mg base x (k + 1) (spS n pre post cost) := by
  refine ⟨f, fd, ps, fn0 F.fn S (fun vs H Q E ⟨a, s, us, C, ds, m, e, _, _, _, _, aa, hl, _⟩ => by rw [e, List.length_cons, aa.length, hl, hn]) fun cdv A outer s H vs Q E hr ⟨a, sa, us, C, ds, m, ev, e, ca, cs, si, aa, hl, hp, hc, q⟩ => ⟨_, pss_w _, ?_⟩, F.mgf, F.kp, b⟩
  subst ev
  have st := stt_str (K := K) (N := N) e ca cs si aa (by rw [hl]; exact hN)
  refine body a sa C H cdv A outer s H E ds m hr hl hp hc C H _ st (start_len (by rw [List.length_cons, aa.length, hl]; exact hN)) _ ⟨fun S' C' H' σ' z st' _ _ _ => ?_, fun d' S' v C' H' σ' z st' dv => ?_, fun _ _ _ _ z => z.elim, fun _ _ _ _ z => z.elim⟩
  · exact q _ C' H' _ S'.n z.1 z.2 st'.stp st'.wI .non
  · obtain ⟨d, z, k1, k2⟩ := z
    cases z
    exact q v C' H' _ S'.n k1 k2 st'.stp st'.wI dv
end
section
variable {X : Cx} {S : Stat} {κ : Rv → Stat → Prop} {pos p : Pos} {e : Expr} {es : List Expr} {x : Str} {k j : Nat} {a sa : Addr} {C0 H0 : Hp} {K : PySem.W.Frag}
theorem d_callS {n : Nat} {pre : List PyData → Prop} {post : List PyData → PyData → Prop} {cost : List PyData → Nat} (F : PFn X.prog X.w X.K X.mg X.base x k (spS n pre post cost)) (hr : Room k X.A) (hg : Gl X x)
    (h : dA (strEnv K a sa C0 H0) X (e :: es) S fun rs S1 => ∃ rs' ds, rs = .raw (.ref a) :: rs' ∧ allD rs' = some ds ∧ ds.length = n ∧ pre ds ∧ S1.n + cost ds ≤ 2 ^ 48 ∧ ∀ d n', post ds d → n' ≤ S1.n + cost ds → κ (.dat d) { S1 with n := n' }) (hdb : (x == ("__debug__" : Str)) = false := by decide)
    (he : starEach (e :: es) X.env = (false, eval e X.env) :: starEach es X.env := by rfl) (hpl : (backTo pos (starEach es X.env)).any (·.1) = false := by rfl) : dE (strEnv K a sa C0 H0) X (.Call (.Name x p) (e :: es) [] pos) S κ := fun C H σ τ st hm Q q => by
  obtain ⟨f, fd, ps, F1, hmg, hk, hb⟩ := F.ex
  refine ⟨_, pe_call F1 hr hg hmg hk hb .nil (C8.pass0 (E := C8.E0)) (pa_w _) hdb he hpl, h C H σ τ st hm _ fun rs S1 vs C1 H1 τ1 ⟨rs', ds, er, k1, k2, k3, k4, k5⟩ st1 m1 p1 e1 a1 _ => ?_⟩
  subst er
  rw [List.append_nil]
  cases a1 with
  | @cons v _ us _ hv a2 =>
    have hv : v = .ref a := hv
    subst hv
    have ca : C1 a = none := st1.wC a (by simp [strEnv])
    have cs : C1 sa = none := st1.wC sa (by simp [strEnv])
    refine ⟨a, sa, us, C1, ds, S1.n, rfl, st1.sub, ca, cs, st1.wI, allD_ok a2 k1, k2, k3, k4, fun v C' H' d m' hp hm' g' si' dv => ?_⟩
    have hw : ∀ b ∈ (strEnv K a sa C0 H0).ws, C' b = none := fun b hb => stp_none g' (st1.wC b hb) ((strEnv K a sa C0 H0).here _ _ st1.wI b hb)
    exact q _ _ v C' H' τ1 (k5 d m' hp hm') (st1.step (n' := m') g' si' hw) m1 p1 (e1.trans g'.core) dv (fun k z => by cases z)
end
end Dw
set_option maxHeartbeats 4000000
/-! repr of data. -/
namespace My
open PySem PySem.W PySem.Calls PySem.Spec PyProof.Rows L2
open Dw (Dq DqA DqK keyD)
section
variable {X : Cx} {pins : List (Addr × Obj)} {σ : L2.St} {H : Hp} {s : Shared}
theorem lst_ne (hK : ∃ o, X.K.lookup sysModules = some o ∧ o.cls = .type "dict") (I : Inv X pins σ H s) {a : Addr} {o : Obj} (ho : s.heap.get? a = some o) (hc : o.cls = .type "list") : a ≠ sysModules := fun z => by
  obtain ⟨o2, h1, h2⟩ := hK
  rw [z, I.kIn _ _ h1] at ho
  cases ho
  rw [h2] at hc
  exact absurd (Value.type.inj hc) (by decide)
mutual
theorem dq_reads (hK : ∃ o, X.K.lookup sysModules = some o ∧ o.cls = .type "dict") (I : Inv X pins σ H s) : ∀ {v : V} {d : PyData} {u : Value}, Dq H v d → RelV v u → ∃ as, Reads s.heap u d as ∧ sysModules ∉ as
  | _, _, _, .non, r => by cases r; exact ⟨_, Reads.none, by simp⟩
  | _, _, _, .bl b, r => by cases r; exact ⟨_, Reads.bool b, by simp⟩
  | _, _, _, .int i, r => by obtain ⟨t, rfl⟩ := r; exact ⟨_, Reads.int i t, by simp⟩
  | _, _, _, .str x, r => by obtain ⟨t, rfl⟩ := r; exact ⟨_, Reads.str x t, by simp⟩
  | _, _, _, .lst (a := a) h ha, r => by
    cases r
    obtain ⟨its, rv, ⟨o, n, ho, hc, _, hd⟩, _⟩ := I.list (SqL.of h)
    obtain ⟨as, hr, hn⟩ := dqA_reads hK I ha rv
    refine ⟨_, Reads.list ho hc hd hr, fun z => ?_⟩
    rcases List.mem_cons.mp z with z | z
    · exact lst_ne hK I ho hc z.symm
    · exact hn z
  | _, _, _, .tup (a := a) h ha, r => by
    cases r
    obtain ⟨its, rv, ⟨o, ho, hc, n, hd⟩, _⟩ := I.tuple (SqT.of h)
    obtain ⟨as, hr, hn⟩ := dqA_reads hK I ha rv
    exact ⟨_, Reads.tuple ho hc hd hr, hn⟩
  | _, _, _, .dic (a := a) h ha, r => by
    cases r
    obtain ⟨_, hs, vs, kv, o, es, ep, h1, h2, h3, h4, h5, h6⟩ := I.hok a _ h
    obtain ⟨as, bs, q1, q2, q3⟩ := dqK_reads hK I ha kv h5
    refine ⟨_, Reads.dict h1 h2.1 h3 q1 q2, fun z => ?_⟩
    rcases List.mem_append.mp z with z | z
    · rcases List.mem_cons.mp z with z | z
      · rw [z] at hs
        simp at hs
      · exact q3.1 z
    · exact q3.2 z
theorem dqA_reads (hK : ∃ o, X.K.lookup sysModules = some o ∧ o.cls = .type "dict") (I : Inv X pins σ H s) : ∀ {vs : List V} {ds : List PyData} {us : List Value}, DqA H vs ds → Vals vs us → ∃ as, ReadsAll s.heap us ds as ∧ sysModules ∉ as
  | _, _, _, .nil, r => by cases r; exact ⟨_, ReadsAll.nil, by simp⟩
  | _, _, _, .cons h a, r => by
    cases r with
    | cons r1 r2 =>
      obtain ⟨as, q1, n1⟩ := dq_reads hK I h r1
      obtain ⟨bs, q2, n2⟩ := dqA_reads hK I a r2
      exact ⟨_, ReadsAll.cons q1 q2, fun z => (List.mem_append.mp z).elim n1 n2⟩
theorem dqK_reads (hK : ∃ o, X.K.lookup sysModules = some o ∧ o.cls = .type "dict") (I : Inv X pins σ H s) : ∀ {kvs : List (Key × V)} {ds : List (PyData × PyData)} {vs : List (Key × Value)} {es : List DictEntry}, DqK H kvs ds → KV kvs vs → Pairs (mixKind X.prog X.w) es vs →
    ∃ as bs, ReadsAll s.heap (es.map (·.key)) (ds.map (·.1)) as ∧ ReadsAll s.heap (es.map (·.val)) (ds.map (·.2)) bs ∧ sysModules ∉ as ∧ sysModules ∉ bs
  | _, _, _, _, .nil, k, p => by
    cases k
    cases p
    exact ⟨_, _, ReadsAll.nil, ReadsAll.nil, by simp, by simp⟩
  | _, _, _, _, .cons (k := ky) h a, k, p => by
    cases k with
    | @cons _ q _ qs hk k2 =>
      cases p with
      | @cons e _ es _ pk pv p2 =>
        obtain ⟨e1, rv⟩ := hk
        have e1 : ky = q.1 := e1
        obtain ⟨as, bs, q1, q2, n1, n2⟩ := dqK_reads hK I a k2 p2
        rw [← pv] at rv
        obtain ⟨cs, q3, n3⟩ := dq_reads hK I h rv
        have kk : ∃ ks, Reads s.heap e.key (keyD ky) ks ∧ sysModules ∉ ks := by
          rw [e1]
          have pk' : keyIs q.1 e.key = true := pk
          rcases keyIs_shape pk' with ⟨i, t, z1, z2⟩ | ⟨x, t, z1, z2⟩
          · rw [z1, z2]
            exact ⟨_, Reads.int i t, by simp⟩
          · rw [z1, z2]
            exact ⟨_, Reads.str x t, by simp⟩
        obtain ⟨ks, q4, n4⟩ := kk
        exact ⟨_, _, ReadsAll.cons q4 q1, ReadsAll.cons q3 q2, fun z => (List.mem_append.mp z).elim n4 n1, fun z => (List.mem_append.mp z).elim n3 n2⟩
end
/-- repr of a list of data, where nothing is being told -/
def rReprD (K : Frag) : List V → Hp → VK → Prop := fun xs H Q => ∃ a d, xs = [.ref a] ∧ Dq H (.ref a) d ∧ d.showable = true ∧ d.depth ≤ 60 ∧ d.shown.length ≤ sizeLine ∧ Q (.str d.shown) H
theorem call_reprD (hK : ∃ o, X.K.lookup sysModules = some o ∧ o.cls = .type "dict") (hg : X.A.guards = some []) (hu : X.A.units + 64 < cLine) : CallR X (.builtin "repr") (rReprD X.K) := by
  intro pins s σ H xs us Q I r h
  obtain ⟨a, d, rfl, hd, hs, hdep, hz, q⟩ := h
  obtain ⟨u, rfl, ru⟩ := r.one
  cases ru
  obtain ⟨as, rd, hn⟩ := dq_reads hK I hd rfl
  exact repr_of_reads' rd hs (fun _ => hn) hg (by omega) (fun _ _ e => e) (fun h' u tk hk => ⟨.str d.shown, H, I.kept (t' := tk) hk, ⟨u, rfl⟩, q⟩) hz
end
end My
set_option maxHeartbeats 4000000
/-! Promises of defs that are called where nothing is being told (repr). -/
namespace My
open PySem PySem.W PySem.Calls PySem.Spec PyProof.Rows L2
theorem guards_deeper {A : Around} {env : Env} (h : A.guards = some []) : (A.deeper env).guards = some [] := by
  first
    | exact h
    | (show _ = _; simp [Around.deeper, h])
structure FnG (P : Program) (w : World) (K : Frag) (mg : Str → Option Value) (base : Heap) (k : Nat) (f : Addr) (fd : FuncData) (ps : List Str) (sp : Sp) : Prop where
  len : ∀ vs H Q E, sp vs H Q E → vs.length = ps.length
  run : ∀ (A : Around) (outer : List Env) (s : Shared) (H : Hp) (args : Args) (us : List Value) (vs : List V) (Q : VK) (E : XK), Room k A → A.guards = some [] → Env0 P w K mg base A outer s H → BindsTo s fd args (ps.zip us) → Vals vs us → sp vs H Q E →
    codeAny (model P w) A (.call (.ref f) args) (CR C8.CX0 outer P w H s Q E) s
section
variable {P : Program} {w : World} {K : Frag} {mg : Str → Option Value} {base : Heap} {k : Nat} {f : Addr} {fd : FuncData}
/-- by its body -/
theorem fnG {x qual : Str} {st : Stmt} {N ps : List Str} {sp : Sp} (F : C8.Fun K x qual st f fd) (S : FnScope N ps (C8.fnScope st)) (len : ∀ vs H Q E, sp vs H Q E → vs.length = ps.length)
    (hbody : ∀ (cdv : Value) (A : Around) (outer : List Env) (s : Shared) (H : Hp) (vs : List V) (Q : VK) (E : XK), Room k (A.deeper (envOfC qual (C8.fnScope st) s.heap.objs.size f cdv)) → A.guards = some [] → sp vs H Q E →
      ∃ t, PSs (cxOf C8.CX0 P w K mg base N qual (C8.fnScope st) f cdv A outer s H E).nox (C8.fnBody st) t ∧ t { nx := fun _ H' => Q .non H', rt := Q } (start N vs) H) : FnG P w K mg base (k + 1) f fd ps sp := by
  obtain ⟨oc, od, dV, kV, doc, pm, an, cdv, ct, osl, rfl, lk, hcd⟩ := F.ex
  refine ⟨len, fun A outer s H args us vs Q E hr hg e0 hb r hsp => ?_⟩
  have KX : K.In s.heap := e0.mod.kin.keeps fun b o e => (e0.bs b o e).1
  have hkind : ∀ y ∈ ps.zip us, (C8.fnScope st).names.lookup y.1 = some .local ∨ ((C8.fnScope st).names.lookup y.1 = some .cell ∧ ((cellsFrom (s.heap.objs.size + 1) (C8.fnScope st).names []).lookup y.1).isSome = true) := fun ⟨n, v⟩ hy =>
    (S.par n (List.of_mem_zip hy).1).imp (fun q => q) fun q => ⟨q, PySem.W.cellsFrom_some _ _ _ (.inl q)⟩
  refine codeAny_call_function hr.depth (KX _ _ lk) rfl S.co S.gen rfl (PySem.W.codeRec_of KX hcd) (hb _ _ _ _ (wpAny_newFunctionEnv_cells S.kind hkind fun env he s1 x => ?_))
  subst he
  refine ⟨(e0.mod.nolimit.keeps fun b o e => (e0.bs b o e).1).keeps x.toInCall.keep, codeAny_func ?_⟩
  obtain ⟨t, ht, hq⟩ := hbody cdv A outer s H vs Q E (hr.deeper _) hg hsp
  refine wpAny_mono (ht.nox.run [] s1 (start N vs) H _ (inv_start S hr.hd e0 (len _ _ _ _ hsp) r x) hq) (fun fl s' hs => ?_) fun e s' hs => hs
  cases fl with
  | ret u =>
    obtain ⟨v, σ', H', J, rv, q⟩ := hs
    exact ⟨v, H', J.os, J.bare, J.base, J.hok, rv, q⟩
  | next =>
    obtain ⟨σ', H', J, q⟩ := hs
    exact ⟨V.non, H', J.os, J.bare, J.base, J.hok, (rfl : RelV V.non Value.none), q⟩
  | brk => exact hs.elim fun _ z => z.elim fun _ z => z.2.elim
  | cont => exact hs.elim fun _ z => z.elim fun _ z => z.2.elim
/-- a def that may be called by its name -/
structure CalG (P : Program) (w : World) (K : Frag) (mg : Str → Option Value) (base : Heap) (k : Nat) (x : Str) (sp : Sp) : Prop where
  ex : ∃ (f : Addr) (fd : FuncData) (ps : List Str), FnG P w K mg base k f fd ps sp ∧ mg x = some (.ref f) ∧ keepIn K (.ref f) = true ∧ Binds K fd ps []
end
theorem pe_cG {X : Cx} {k j : Nat} {x : Str} {sp : Sp} {p pos : Pos} {e : Expr} {es : List Expr} {t : TA} (c : CalG X.prog X.w X.K X.mg X.base k x sp) (hr : Room j X.A) (hk : k ≤ j) (hgd : X.A.guards = some []) (hg : Gl X x) (ha : PA X (e :: es) t)
    (hdb : (x == ("__debug__" : Str)) = false := by decide) (he : starEach (e :: es) X.env = (false, eval e X.env) :: starEach es X.env := by rfl) (hpl : (backTo pos (starEach es X.env)).any (·.1) = false := by rfl) :
    PE X (.Call (.Name x p) (e :: es) [] pos) (tCall sp [] C8.E0 t) := by
  obtain ⟨f, fd, ps, F, hm, kp, hb⟩ := c.ex
  refine ⟨fun pins s σ H Q I h => ?_⟩
  refine wpAny_Call_Name_kw (ld_glob I hg hm ?_ hdb)
  refine PySem.W.callWith_K (h₀ := X.base) I.ok.mod.kin kp (thn (ha.run pos pins s σ H _ I h) fun us s1 ⟨vs, H1, I1, r, q⟩ => ⟨I1.kIn, ?_⟩) he hpl
  have q : sp vs H1 Q C8.E0 := by
    have q' : sp (vs ++ []) H1 Q C8.E0 := q
    rw [List.append_nil] at q'
    exact q'
  have hl : (us ++ []).length = ps.length := by rw [List.append_nil, ← r.length]; exact F.len _ _ _ _ q
  have hb' := hb s1 us I1.kIn hl
  rw [List.append_nil] at hb'
  refine wpAny_call (codeAny_mono (F.run X.A X.stack s1 H1 ⟨us, []⟩ us vs Q C8.E0 (hr.mono hk) hgd I1.env0 hb' r q) fun r s' hq => ?_)
  cases r with
  | error e => exact False.elim hq
  | ok fl =>
    cases fl with
    | ret u => exact I1.after hq
    | next => exact False.elim hq
    | brk => exact False.elim hq
    | cont => exact False.elim hq
end My
set_option maxHeartbeats 4000000
/-! The end of a law whose promise holds where nothing is being told. -/
namespace My
open PySem PySem.W PySem.Calls PySem.Spec PyProof.Rows L2 LamX
section
variable {P : Program} {w : World} {K : Frag} {mg mb : Str → Option Value} {k : Nat} {fa a : Addr} {cs : List (Addr × Addr)} {fd : FuncData} {x : Str} {sp : Sp} {t : Shared} {vs : List Value} {ns : List Int}
/-- the object of the script -/
abbrev scrO (vs : List Value) : Obj := { cls := .type "list", data := .seq vs.toArray }
abbrev tabO : Obj := { cls := .none, data := .fields #[] }
/-- what is watched at the law's begin: the tables, and the script where the written part does not hold it -/
def beginH (K : Frag) (cs : List (Addr × Addr)) (a : Addr) (vs : List Value) (ns : List Int) : Hp := fun b =>
  if b ∈ cs.map (·.2) then some (.tbl #[]) else if b = a ∧ K.lookup a = none then some (.frz (scrO vs) (.lst (ns.map V.int))) else none
theorem begin_tab {p : Addr × Addr} (hp : p ∈ cs) : beginH K cs a vs ns p.2 = some (.tbl #[]) := if_pos (List.mem_map.mpr ⟨p, hp, rfl⟩)
theorem begin_cases (b : Addr) : (b ∈ cs.map (·.2) ∧ beginH K cs a vs ns b = some (.tbl #[])) ∨ (b = a ∧ K.lookup a = none ∧ beginH K cs a vs ns b = some (.frz (scrO vs) (.lst (ns.map V.int)))) ∨ beginH K cs a vs ns b = none := by
  unfold beginH
  by_cases h1 : b ∈ cs.map (·.2)
  · rw [if_pos h1]
    exact .inl ⟨h1, rfl⟩
  · rw [if_neg h1]
    by_cases h2 : b = a ∧ K.lookup a = none
    · rw [if_pos h2]
      exact .inr (.inl ⟨h2.1, h2.2, rfl⟩)
    · rw [if_neg h2]
      exact .inr (.inr rfl)
theorem law_callG (KX : K.In t.heap) (hns : t.heap.Ns mainGlobals mg) (hb : t.heap.Ns builtinsNs mb) (hbb : ∀ x : Str, x ≠ "__name__" → mb x = bootBuiltins x) (hlim : t.heap.NoLimit) (hg : t.gens = #[])
    (hT : ∀ p ∈ cs, t.heap.get? p.2 = some tabO) (nT : ∀ p ∈ cs, K.lookup p.2 = none) (C : ∀ p ∈ cs, PySem.W.CodeHd t.heap p.1 p.2)
    (hbm : ∃ (bm : Addr) (ob : Obj), mg "__builtins__" = some (.ref bm) ∧ bm ≠ builtinsNs ∧ t.heap.get? bm = some ob ∧ ob.cls = .type "module" ∧ ob.dict = some builtinsNs ∧ ob.data = .plain)
    (ha : t.heap.get? a = some (scrO vs)) (hi : IntsAre vs ns) (hl : ns.length ≤ sizeLine) (hr : Room k callerA) (hcg : callerA.guards = some [])
    (F : ∀ base : Heap, K.In base → base.Ns mainGlobals mg → (∀ p ∈ cs, TabB base mg p.1 p.2) → FnG P w K mg base k fa fd [x] sp) (hbind : ∀ (s : Shared) (u : Value), BindsTo s fd ⟨[u], []⟩ [(x, u)])
    (hsp : ∀ H : Hp, (∀ p ∈ cs, H p.2 = some (.tbl #[])) → SqL K H a (ns.map V.int) → sp [.ref a] H (fun v _ => v = .bl true) fun _ _ _ => False) :
    codeAny (model P w) callerA (.call (.ref fa) ⟨[.ref a], []⟩) (fun r s' => r = .ok (.ret (.bool true)) ∧ OldK t.heap s'.heap ∧ s'.os = t.os ∧ AllBare s'.gens) t := by
  have tabAt : ∀ {b : Addr}, b ∈ cs.map (·.2) → t.heap.get? b = some tabO := fun {b} m => by
    obtain ⟨p, hp, rfl⟩ := List.mem_map.mp m
    exact hT p hp
  have naT : a ∉ cs.map (·.2) := fun m => by
    have e := (tabAt m).symm.trans ha
    exact Data.noConfusion (congrArg Obj.data (Option.some.inj e))
  have lenV : vs.length ≤ sizeLine := by rw [hi.length]; exact hl
  obtain ⟨H, hH⟩ : ∃ H, H = beginH K cs a vs ns := ⟨_, rfl⟩
  have cases_ : ∀ b : Addr, (b ∈ cs.map (·.2) ∧ H b = some (.tbl #[])) ∨ (b = a ∧ K.lookup a = none ∧ H b = some (.frz (scrO vs) (.lst (ns.map V.int)))) ∨ H b = none := by
    rw [hH]
    exact begin_cases
  have hTab : ∀ p ∈ cs, H p.2 = some (.tbl #[]) := by
    rw [hH]
    exact fun p hp => begin_tab hp
  -- what is watched is there
  have hok : HOk P w H t.heap := fun b u hu => by
    rcases cases_ b with ⟨m, e⟩ | ⟨rfl, _, e⟩ | e
    · rw [e] at hu
      cases hu
      exact tabAt m
    · rw [e] at hu
      cases hu
      exact ⟨ha, by rw [List.length_map]; exact hl, vs, _, vals_ints hi, ha⟩
    · rw [e] at hu
      cases hu
  -- any other thing is not watched
  have free : ∀ {b : Addr} {o : Obj}, t.heap.get? b = some o → (∀ z n, o.data ≠ .seq z n) → o.data ≠ .fields #[] → H b = none := fun {b o} e n1 n2 => by
    rcases cases_ b with ⟨m, _⟩ | ⟨rfl, _, _⟩ | q
    · rw [tabAt m] at e
      cases e
      exact absurd rfl n2
    · rw [ha] at e
      cases e
      exact absurd rfl (n1 _ _)
    · exact q
  have inB : ∀ {b : Addr} {o : Obj}, t.heap.get? b = some o → H b = none → (hidT t.heap H).get? b = some o := fun e n => hidT_get e n
  have inNs : ∀ {b : Addr} {m : Str → Option Value}, t.heap.Ns b m → (hidT t.heap H).Ns b m := fun {b m} ⟨o, es, ep, e, d, r⟩ =>
    ⟨o, es, ep, inB e (free e (fun z n q => by rw [d] at q; cases q) fun q => by rw [d] at q; cases q), d, r⟩
  have KB : K.In (hidT t.heap H) := fun b o e => by
    refine inB (KX b o e) ?_
    rcases cases_ b with ⟨m, _⟩ | ⟨rfl, q, _⟩ | q
    · obtain ⟨p, hp, rfl⟩ := List.mem_map.mp m
      rw [nT p hp] at e
      cases e
    · rw [q] at e
      cases e
    · exact q
  have hS : SqL K H a (ns.map V.int) := by
    rcases cases_ a with ⟨m, _⟩ | ⟨_, _, e⟩ | e
    · exact absurd m naT
    · exact .inl (.inr ⟨_, e⟩)
    · cases q : K.lookup a with
      | none =>
        have z : H a = some (.frz (scrO vs) (.lst (ns.map V.int))) := by
          rw [hH]
          unfold beginH
          rw [if_neg naT, if_pos ⟨rfl, q⟩]
        rw [e] at z
        cases z
      | some o =>
        have e2 := KX a o q
        rw [ha] at e2
        cases e2
        exact .inr ⟨_, vs.toArray, _, q, rfl, rfl, rfl, by rw [List.size_toArray]; exact lenV, by simpa using vals_ints hi⟩
  have TB : ∀ p ∈ cs, TabB (hidT t.heap H) mg p.1 p.2 := fun p hp => by
    refine ⟨?_, ?_, fun z => ?_⟩
    · obtain ⟨o, us, file, tf, flags, tg, inF, text, tt, e1, r1, r2, r3, rest⟩ := C p hp
      refine ⟨o, us, file, tf, flags, tg, inF, text, tt, inB e1 (free e1 (fun z n q => by rw [r2] at q; cases q) fun q => ?_), r1, r2, r3, rest⟩
      rw [r2] at q
      cases q
      simp at r3
    · obtain ⟨bm, ob, b1, b2, b3, b4, b5, b6⟩ := hbm
      refine ⟨bm, ob, b1, b2, fun q => ?_, fun q => ?_, inB b3 (free b3 (fun z n q => by rw [b6] at q; cases q) fun q => by rw [b6] at q; cases q), b4, b5, b6⟩
      · obtain ⟨o, es, ep, e, hd, _⟩ := hns
        rw [q, e] at b3
        cases b3
        rw [hd] at b6
        cases b6
      · rw [q, hT p hp] at b3
        cases b3
        cases b6
    · obtain ⟨o, es, ep, e, hd, _⟩ := hns
      rw [z, hT p hp] at e
      cases e
      cases hd
  have e0 : Env0 P w K mg (hidT t.heap H) callerA [] t H := ⟨rfl, ⟨KB, inNs hns, ⟨mb, inNs hb, hbb⟩, let ⟨m, h1, h2⟩ := hlim; ⟨m, inNs h1, h2⟩⟩, fun b o e => of_hidT e, Nat.le_of_eq (hidT_size _ _), trivial,
    fun b m => absurd (show b ∈ ([] : List Addr) from m) (by simp), hok, .of_eq hg⟩
  have run := (F _ KB (inNs hns) TB).run callerA [] t H ⟨[.ref a], []⟩ [.ref a] [.ref a] (fun v _ => v = .bl true) (fun _ _ _ => False) hr hcg e0 (hbind t (.ref a)) (.cons rfl .nil) (hsp H hTab hS)
  refine codeAny_mono run fun r s' h => ?_
  match r, h with
  | .error e, h => exact False.elim h
  | .ok .next, h => exact False.elim h
  | .ok .brk, h => exact False.elim h
  | .ok .cont, h => exact False.elim h
  | .ok (.ret u), ⟨v, H', os, bare, un, hok', rv, qv⟩ =>
    have qv : v = .bl true := qv
    subst qv
    have rv : u = Value.bool true := rv
    subst rv
    -- what stood stands
    have old : ∀ b o, b ∉ cs.map (·.2) → t.heap.get? b = some o → s'.heap.get? b = some o := fun b o nb e => by
      rcases cases_ b with ⟨m, _⟩ | ⟨rfl, _, q⟩ | q
      · exact absurd m nb
      · have z : ObjOk P w H' s'.heap b (.frz (scrO vs) (.lst (ns.map V.int))) := hok' b _ (un.frzs b _ _ q)
        rw [ha] at e
        cases e
        exact z.1
      · exact un.keep b o e q (fun z => absurd (show b ∈ ([] : List Addr) from z) (by simp)) (by simp)
    have tabs : ∀ p ∈ cs, ∃ more : Array Value, s'.heap.get? p.2 = some { cls := .none, data := .fields more } := fun p hp => by
      obtain ⟨more, z⟩ := un.tbls p.2 #[] (hTab p hp)
      exact ⟨_, hok' p.2 _ z⟩
    refine ⟨rfl, ⟨fun b o e => ?_, fun b o e => ?_⟩, os, bare⟩
    · by_cases m : b ∈ cs.map (·.2)
      · obtain ⟨p, hp, rfl⟩ := List.mem_map.mp m
        obtain ⟨more, hm⟩ := tabs p hp
        rw [hT p hp] at e
        cases e
        exact .inr (.inl ⟨((C p hp).tab (hT p hp)).isCodeTable, rfl, #[], more, rfl, by rw [Array.empty_append]; exact hm⟩)
      · exact .inl (old b o m e)
    · by_cases m : b ∈ cs.map (·.2)
      · obtain ⟨p, hp, rfl⟩ := List.mem_map.mp m
        obtain ⟨more, hm⟩ := tabs p hp
        exact ⟨_, hm⟩
      · exact ⟨o, old b o m e⟩
end
/-- what is known of the law's promise at the head's heap -/
def LawAtG (l : PySem.W.OpenLaw) (w : World) (K : Frag) (k n : Nat) (x : Str) (mg : Str → Option Value) (fa : Addr) (h : Heap) : Prop :=
  ∃ (fd : FuncData) (cs : List (Addr × Addr)) (sp : Sp), (∀ p ∈ cs, h.get? p.2 = some tabO) ∧ (∀ p ∈ cs, K.lookup p.2 = none) ∧ (∀ p ∈ cs, PySem.W.CodeHd h p.1 p.2) ∧ (∀ (s : Shared) (u : Value), BindsTo s fd ⟨[u], []⟩ [(x, u)]) ∧
    (∀ (H : Hp) (a : Addr) (ns : List Int), ns.length ≤ n → (∀ z ∈ ns, Builtin.Int.intBits z ≤ 1048576) → (∀ p ∈ cs, H p.2 = some (.tbl #[])) → SqL K H a (ns.map V.int) → sp [.ref a] H (fun v _ => v = .bl true) fun _ _ _ => False) ∧
    ∀ base : Heap, K.In base → base.Ns mainGlobals mg → (∀ p ∈ cs, TabB base mg p.1 p.2) → FnG l.prog w K mg base k fa fd [x] sp
theorem walk_ofG {l : PySem.W.OpenLaw} {n k : Nat} {q : Program} {loose : List Str} {XP : (Str → Option Value) → Heap → Prop} {YP : World → Heap → Prop} {d : DefRec} {x : Str} (hn : l.most = some n) (hn2 : n ≤ sizeLine) (hdf : d.params.defaults = []) (hr : Room k callerA) (hcg : callerA.guards = some [])
    (F : ∀ (w : World) (mg : Str → Option Value) (fa : Addr) (h : Heap), YP w h → h.Ns mainGlobals mg → mg d.name = some (.ref fa) → ∃ K : Frag, K.In h ∧ LawAtG l w K k n x mg fa h) :
    PySem.W.WalkO q loose XP YP l.row.toRowW d [] (fun f vs => PySem.call f vs) :=
  Att.attach_callB hn hdf fun w s0 s1 mg mb fa o pm cd doc a vs ns G Y ho hd hcd hmg hobj hints hlen hbits hg => by
    obtain ⟨K, KX, fd, cs, sp, hT, nT, C, hb, hsp, hF⟩ := F w mg fa _ Y G.T.g hmg
    exact law_callG KX G.T.g G.T.b G.T.builtins G.T.nolimit hg hT nT C G.T.bmain hobj hints (Nat.le_trans hlen hn2) hr hcg hF hb fun H hH hS => hsp H a ns hlen hbits hH hS
end My
set_option maxHeartbeats 0
/-! law_k00: how each error is made. Made by a script from the law's text. -/
namespace K00
open PySem PySem.W PySem.Calls PySem.Spec PyProof.Rows L2 He My LamX
theorem sup_thing : SupScope ["self", "thing"] (eScope ["thing"]) := ⟨rfl, rfl, rfl, by decide +kernel, by decide +kernel, by decide +kernel, by decide +kernel, rfl, rfl⟩
theorem sup_index : SupScope ["self", "index"] (eScope ["index"]) := ⟨rfl, rfl, rfl, by decide +kernel, by decide +kernel, by decide +kernel, by decide +kernel, rfl, rfl⟩
theorem sup_line_sign : SupScope ["self", "line", "sign"] (eScope ["line", "sign"]) := ⟨rfl, rfl, rfl, by decide +kernel, by decide +kernel, by decide +kernel, by decide +kernel, rfl, rfl⟩
theorem sup_question : SupScope ["self", "question"] (eScope ["question"]) := ⟨rfl, rfl, rfl, by decide +kernel, by decide +kernel, by decide +kernel, by decide +kernel, rfl, rfl⟩
theorem sup_hour : SupScope ["self", "hour"] (eScope ["hour"]) := ⟨rfl, rfl, rfl, by decide +kernel, by decide +kernel, by decide +kernel, by decide +kernel, rfl, rfl⟩
theorem sup_hour_slot : SupScope ["self", "hour", "slot"] (eScope ["hour", "slot"]) := ⟨rfl, rfl, rfl, by decide +kernel, by decide +kernel, by decide +kernel, by decide +kernel, rfl, rfl⟩
theorem sup_fault : SupScope ["self", "fault"] (eScope ["fault"]) := ⟨rfl, rfl, rfl, by decide +kernel, by decide +kernel, by decide +kernel, by decide +kernel, rfl, rfl⟩
theorem sup_question_why : SupScope ["self", "question", "why"] (eScope ["question", "why"]) := ⟨rfl, rfl, rfl, by decide +kernel, by decide +kernel, by decide +kernel, by decide +kernel, rfl, rfl⟩
section
variable {P : Program} {w : World} {K : Frag} {mg : Str → Option Value} {base h : Heap}
theorem mk_BadBegun (E : ErrK P K (eD "BadBegun" "BadBegun.__init__" 2 ["thing"])) (X : K.In h) (G : h.Ns mainGlobals mg) (hs : mg "super" = none) (ht : (P.main.scope.names.lookup ("super" : Str)).isSome = false) : Mk1 P w K mg base "BadBegun" ((eD "BadBegun" "BadBegun.__init__" 2 ["thing"]).C K) "thing" :=
  mk1_of E X G hs ht rfl rfl rfl rfl sup_thing ⟨_, fun _ _ _ _ => rfl⟩ (fun _ _ _ _ _ _ _ _ _ => rfl) (fun _ _ _ _ _ _ _ _ _ => rfl)
theorem mk_BadBox (E : ErrK P K (eD "BadBox" "BadBox.__init__" 3 ["thing"])) (X : K.In h) (G : h.Ns mainGlobals mg) (hs : mg "super" = none) (ht : (P.main.scope.names.lookup ("super" : Str)).isSome = false) : Mk1 P w K mg base "BadBox" ((eD "BadBox" "BadBox.__init__" 3 ["thing"]).C K) "thing" :=
  mk1_of E X G hs ht rfl rfl rfl rfl sup_thing ⟨_, fun _ _ _ _ => rfl⟩ (fun _ _ _ _ _ _ _ _ _ => rfl) (fun _ _ _ _ _ _ _ _ _ => rfl)
theorem mk_BadCells (E : ErrK P K (eD "BadCells" "BadCells.__init__" 4 ["thing"])) (X : K.In h) (G : h.Ns mainGlobals mg) (hs : mg "super" = none) (ht : (P.main.scope.names.lookup ("super" : Str)).isSome = false) : Mk1 P w K mg base "BadCells" ((eD "BadCells" "BadCells.__init__" 4 ["thing"]).C K) "thing" :=
  mk1_of E X G hs ht rfl rfl rfl rfl sup_thing ⟨_, fun _ _ _ _ => rfl⟩ (fun _ _ _ _ _ _ _ _ _ => rfl) (fun _ _ _ _ _ _ _ _ _ => rfl)
theorem mk_BadChain (E : ErrK P K (eD "BadChain" "BadChain.__init__" 5 ["thing"])) (X : K.In h) (G : h.Ns mainGlobals mg) (hs : mg "super" = none) (ht : (P.main.scope.names.lookup ("super" : Str)).isSome = false) : Mk1 P w K mg base "BadChain" ((eD "BadChain" "BadChain.__init__" 5 ["thing"]).C K) "thing" :=
  mk1_of E X G hs ht rfl rfl rfl rfl sup_thing ⟨_, fun _ _ _ _ => rfl⟩ (fun _ _ _ _ _ _ _ _ _ => rfl) (fun _ _ _ _ _ _ _ _ _ => rfl)
theorem mk_BadCount (E : ErrK P K (eD "BadCount" "BadCount.__init__" 6 ["thing"])) (X : K.In h) (G : h.Ns mainGlobals mg) (hs : mg "super" = none) (ht : (P.main.scope.names.lookup ("super" : Str)).isSome = false) : Mk1 P w K mg base "BadCount" ((eD "BadCount" "BadCount.__init__" 6 ["thing"]).C K) "thing" :=
  mk1_of E X G hs ht rfl rfl rfl rfl sup_thing ⟨_, fun _ _ _ _ => rfl⟩ (fun _ _ _ _ _ _ _ _ _ => rfl) (fun _ _ _ _ _ _ _ _ _ => rfl)
theorem mk_BadDeed (E : ErrK P K (eD "BadDeed" "BadDeed.__init__" 7 ["thing"])) (X : K.In h) (G : h.Ns mainGlobals mg) (hs : mg "super" = none) (ht : (P.main.scope.names.lookup ("super" : Str)).isSome = false) : Mk1 P w K mg base "BadDeed" ((eD "BadDeed" "BadDeed.__init__" 7 ["thing"]).C K) "thing" :=
  mk1_of E X G hs ht rfl rfl rfl rfl sup_thing ⟨_, fun _ _ _ _ => rfl⟩ (fun _ _ _ _ _ _ _ _ _ => rfl) (fun _ _ _ _ _ _ _ _ _ => rfl)
theorem mk_BadHeld (E : ErrK P K (eD "BadHeld" "BadHeld.__init__" 8 ["index"])) (X : K.In h) (G : h.Ns mainGlobals mg) (hs : mg "super" = none) (ht : (P.main.scope.names.lookup ("super" : Str)).isSome = false) : Mk1 P w K mg base "BadHeld" ((eD "BadHeld" "BadHeld.__init__" 8 ["index"]).C K) "index" :=
  mk1_of E X G hs ht rfl rfl rfl rfl sup_index ⟨_, fun _ _ _ _ => rfl⟩ (fun _ _ _ _ _ _ _ _ _ => rfl) (fun _ _ _ _ _ _ _ _ _ => rfl)
theorem mk_BadHours (E : ErrK P K (eD "BadHours" "BadHours.__init__" 9 ["index"])) (X : K.In h) (G : h.Ns mainGlobals mg) (hs : mg "super" = none) (ht : (P.main.scope.names.lookup ("super" : Str)).isSome = false) : Mk1 P w K mg base "BadHours" ((eD "BadHours" "BadHours.__init__" 9 ["index"]).C K) "index" :=
  mk1_of E X G hs ht rfl rfl rfl rfl sup_index ⟨_, fun _ _ _ _ => rfl⟩ (fun _ _ _ _ _ _ _ _ _ => rfl) (fun _ _ _ _ _ _ _ _ _ => rfl)
theorem mk_BadLine (E : ErrK P K (eD "BadLine" "BadLine.__init__" 10 ["thing"])) (X : K.In h) (G : h.Ns mainGlobals mg) (hs : mg "super" = none) (ht : (P.main.scope.names.lookup ("super" : Str)).isSome = false) : Mk1 P w K mg base "BadLine" ((eD "BadLine" "BadLine.__init__" 10 ["thing"]).C K) "thing" :=
  mk1_of E X G hs ht rfl rfl rfl rfl sup_thing ⟨_, fun _ _ _ _ => rfl⟩ (fun _ _ _ _ _ _ _ _ _ => rfl) (fun _ _ _ _ _ _ _ _ _ => rfl)
theorem mk_BadLines (E : ErrK P K (eD "BadLines" "BadLines.__init__" 11 ["index"])) (X : K.In h) (G : h.Ns mainGlobals mg) (hs : mg "super" = none) (ht : (P.main.scope.names.lookup ("super" : Str)).isSome = false) : Mk1 P w K mg base "BadLines" ((eD "BadLines" "BadLines.__init__" 11 ["index"]).C K) "index" :=
  mk1_of E X G hs ht rfl rfl rfl rfl sup_index ⟨_, fun _ _ _ _ => rfl⟩ (fun _ _ _ _ _ _ _ _ _ => rfl) (fun _ _ _ _ _ _ _ _ _ => rfl)
theorem mk_BadListing (E : ErrK P K (eD "BadListing" "BadListing.__init__" 12 ["index"])) (X : K.In h) (G : h.Ns mainGlobals mg) (hs : mg "super" = none) (ht : (P.main.scope.names.lookup ("super" : Str)).isSome = false) : Mk1 P w K mg base "BadListing" ((eD "BadListing" "BadListing.__init__" 12 ["index"]).C K) "index" :=
  mk1_of E X G hs ht rfl rfl rfl rfl sup_index ⟨_, fun _ _ _ _ => rfl⟩ (fun _ _ _ _ _ _ _ _ _ => rfl) (fun _ _ _ _ _ _ _ _ _ => rfl)
theorem mk_BadMany (E : ErrK P K (eD "BadMany" "BadMany.__init__" 13 ["thing"])) (X : K.In h) (G : h.Ns mainGlobals mg) (hs : mg "super" = none) (ht : (P.main.scope.names.lookup ("super" : Str)).isSome = false) : Mk1 P w K mg base "BadMany" ((eD "BadMany" "BadMany.__init__" 13 ["thing"]).C K) "thing" :=
  mk1_of E X G hs ht rfl rfl rfl rfl sup_thing ⟨_, fun _ _ _ _ => rfl⟩ (fun _ _ _ _ _ _ _ _ _ => rfl) (fun _ _ _ _ _ _ _ _ _ => rfl)
theorem mk_BadNumber (E : ErrK P K (eD "BadNumber" "BadNumber.__init__" 14 ["thing"])) (X : K.In h) (G : h.Ns mainGlobals mg) (hs : mg "super" = none) (ht : (P.main.scope.names.lookup ("super" : Str)).isSome = false) : Mk1 P w K mg base "BadNumber" ((eD "BadNumber" "BadNumber.__init__" 14 ["thing"]).C K) "thing" :=
  mk1_of E X G hs ht rfl rfl rfl rfl sup_thing ⟨_, fun _ _ _ _ => rfl⟩ (fun _ _ _ _ _ _ _ _ _ => rfl) (fun _ _ _ _ _ _ _ _ _ => rfl)
theorem mk_BadOrder (E : ErrK P K (eD "BadOrder" "BadOrder.__init__" 15 ["thing"])) (X : K.In h) (G : h.Ns mainGlobals mg) (hs : mg "super" = none) (ht : (P.main.scope.names.lookup ("super" : Str)).isSome = false) : Mk1 P w K mg base "BadOrder" ((eD "BadOrder" "BadOrder.__init__" 15 ["thing"]).C K) "thing" :=
  mk1_of E X G hs ht rfl rfl rfl rfl sup_thing ⟨_, fun _ _ _ _ => rfl⟩ (fun _ _ _ _ _ _ _ _ _ => rfl) (fun _ _ _ _ _ _ _ _ _ => rfl)
theorem mk_BadPairs (E : ErrK P K (eD "BadPairs" "BadPairs.__init__" 16 ["index"])) (X : K.In h) (G : h.Ns mainGlobals mg) (hs : mg "super" = none) (ht : (P.main.scope.names.lookup ("super" : Str)).isSome = false) : Mk1 P w K mg base "BadPairs" ((eD "BadPairs" "BadPairs.__init__" 16 ["index"]).C K) "index" :=
  mk1_of E X G hs ht rfl rfl rfl rfl sup_index ⟨_, fun _ _ _ _ => rfl⟩ (fun _ _ _ _ _ _ _ _ _ => rfl) (fun _ _ _ _ _ _ _ _ _ => rfl)
theorem mk_BadPlace (E : ErrK P K (eD "BadPlace" "BadPlace.__init__" 17 ["thing"])) (X : K.In h) (G : h.Ns mainGlobals mg) (hs : mg "super" = none) (ht : (P.main.scope.names.lookup ("super" : Str)).isSome = false) : Mk1 P w K mg base "BadPlace" ((eD "BadPlace" "BadPlace.__init__" 17 ["thing"]).C K) "thing" :=
  mk1_of E X G hs ht rfl rfl rfl rfl sup_thing ⟨_, fun _ _ _ _ => rfl⟩ (fun _ _ _ _ _ _ _ _ _ => rfl) (fun _ _ _ _ _ _ _ _ _ => rfl)
theorem mk_BadPlan (E : ErrK P K (eD "BadPlan" "BadPlan.__init__" 18 ["thing"])) (X : K.In h) (G : h.Ns mainGlobals mg) (hs : mg "super" = none) (ht : (P.main.scope.names.lookup ("super" : Str)).isSome = false) : Mk1 P w K mg base "BadPlan" ((eD "BadPlan" "BadPlan.__init__" 18 ["thing"]).C K) "thing" :=
  mk1_of E X G hs ht rfl rfl rfl rfl sup_thing ⟨_, fun _ _ _ _ => rfl⟩ (fun _ _ _ _ _ _ _ _ _ => rfl) (fun _ _ _ _ _ _ _ _ _ => rfl)
theorem mk_BadProgram (E : ErrK P K (eD "BadProgram" "BadProgram.__init__" 19 ["thing"])) (X : K.In h) (G : h.Ns mainGlobals mg) (hs : mg "super" = none) (ht : (P.main.scope.names.lookup ("super" : Str)).isSome = false) : Mk1 P w K mg base "BadProgram" ((eD "BadProgram" "BadProgram.__init__" 19 ["thing"]).C K) "thing" :=
  mk1_of E X G hs ht rfl rfl rfl rfl sup_thing ⟨_, fun _ _ _ _ => rfl⟩ (fun _ _ _ _ _ _ _ _ _ => rfl) (fun _ _ _ _ _ _ _ _ _ => rfl)
theorem mk_BadQuestion (E : ErrK P K (eD "BadQuestion" "BadQuestion.__init__" 20 ["thing"])) (X : K.In h) (G : h.Ns mainGlobals mg) (hs : mg "super" = none) (ht : (P.main.scope.names.lookup ("super" : Str)).isSome = false) : Mk1 P w K mg base "BadQuestion" ((eD "BadQuestion" "BadQuestion.__init__" 20 ["thing"]).C K) "thing" :=
  mk1_of E X G hs ht rfl rfl rfl rfl sup_thing ⟨_, fun _ _ _ _ => rfl⟩ (fun _ _ _ _ _ _ _ _ _ => rfl) (fun _ _ _ _ _ _ _ _ _ => rfl)
theorem mk_BadReads (E : ErrK P K (eD "BadReads" "BadReads.__init__" 21 ["index"])) (X : K.In h) (G : h.Ns mainGlobals mg) (hs : mg "super" = none) (ht : (P.main.scope.names.lookup ("super" : Str)).isSome = false) : Mk1 P w K mg base "BadReads" ((eD "BadReads" "BadReads.__init__" 21 ["index"]).C K) "index" :=
  mk1_of E X G hs ht rfl rfl rfl rfl sup_index ⟨_, fun _ _ _ _ => rfl⟩ (fun _ _ _ _ _ _ _ _ _ => rfl) (fun _ _ _ _ _ _ _ _ _ => rfl)
theorem mk_BadRow (E : ErrK P K (eD "BadRow" "BadRow.__init__" 22 ["index"])) (X : K.In h) (G : h.Ns mainGlobals mg) (hs : mg "super" = none) (ht : (P.main.scope.names.lookup ("super" : Str)).isSome = false) : Mk1 P w K mg base "BadRow" ((eD "BadRow" "BadRow.__init__" 22 ["index"]).C K) "index" :=
  mk1_of E X G hs ht rfl rfl rfl rfl sup_index ⟨_, fun _ _ _ _ => rfl⟩ (fun _ _ _ _ _ _ _ _ _ => rfl) (fun _ _ _ _ _ _ _ _ _ => rfl)
theorem mk_BadRows (E : ErrK P K (eD "BadRows" "BadRows.__init__" 23 ["index"])) (X : K.In h) (G : h.Ns mainGlobals mg) (hs : mg "super" = none) (ht : (P.main.scope.names.lookup ("super" : Str)).isSome = false) : Mk1 P w K mg base "BadRows" ((eD "BadRows" "BadRows.__init__" 23 ["index"]).C K) "index" :=
  mk1_of E X G hs ht rfl rfl rfl rfl sup_index ⟨_, fun _ _ _ _ => rfl⟩ (fun _ _ _ _ _ _ _ _ _ => rfl) (fun _ _ _ _ _ _ _ _ _ => rfl)
theorem mk_BadSeen (E : ErrK P K (eD "BadSeen" "BadSeen.__init__" 24 ["index"])) (X : K.In h) (G : h.Ns mainGlobals mg) (hs : mg "super" = none) (ht : (P.main.scope.names.lookup ("super" : Str)).isSome = false) : Mk1 P w K mg base "BadSeen" ((eD "BadSeen" "BadSeen.__init__" 24 ["index"]).C K) "index" :=
  mk1_of E X G hs ht rfl rfl rfl rfl sup_index ⟨_, fun _ _ _ _ => rfl⟩ (fun _ _ _ _ _ _ _ _ _ => rfl) (fun _ _ _ _ _ _ _ _ _ => rfl)
theorem mk_BadSession (E : ErrK P K (eD "BadSession" "BadSession.__init__" 25 ["thing"])) (X : K.In h) (G : h.Ns mainGlobals mg) (hs : mg "super" = none) (ht : (P.main.scope.names.lookup ("super" : Str)).isSome = false) : Mk1 P w K mg base "BadSession" ((eD "BadSession" "BadSession.__init__" 25 ["thing"]).C K) "thing" :=
  mk1_of E X G hs ht rfl rfl rfl rfl sup_thing ⟨_, fun _ _ _ _ => rfl⟩ (fun _ _ _ _ _ _ _ _ _ => rfl) (fun _ _ _ _ _ _ _ _ _ => rfl)
theorem mk_BadSome (E : ErrK P K (eD "BadSome" "BadSome.__init__" 26 ["index"])) (X : K.In h) (G : h.Ns mainGlobals mg) (hs : mg "super" = none) (ht : (P.main.scope.names.lookup ("super" : Str)).isSome = false) : Mk1 P w K mg base "BadSome" ((eD "BadSome" "BadSome.__init__" 26 ["index"]).C K) "index" :=
  mk1_of E X G hs ht rfl rfl rfl rfl sup_index ⟨_, fun _ _ _ _ => rfl⟩ (fun _ _ _ _ _ _ _ _ _ => rfl) (fun _ _ _ _ _ _ _ _ _ => rfl)
theorem mk_BadSource (E : ErrK P K (eD "BadSource" "BadSource.__init__" 27 ["thing"])) (X : K.In h) (G : h.Ns mainGlobals mg) (hs : mg "super" = none) (ht : (P.main.scope.names.lookup ("super" : Str)).isSome = false) : Mk1 P w K mg base "BadSource" ((eD "BadSource" "BadSource.__init__" 27 ["thing"]).C K) "thing" :=
  mk1_of E X G hs ht rfl rfl rfl rfl sup_thing ⟨_, fun _ _ _ _ => rfl⟩ (fun _ _ _ _ _ _ _ _ _ => rfl) (fun _ _ _ _ _ _ _ _ _ => rfl)
theorem mk_BadSpots (E : ErrK P K (eD "BadSpots" "BadSpots.__init__" 28 ["index"])) (X : K.In h) (G : h.Ns mainGlobals mg) (hs : mg "super" = none) (ht : (P.main.scope.names.lookup ("super" : Str)).isSome = false) : Mk1 P w K mg base "BadSpots" ((eD "BadSpots" "BadSpots.__init__" 28 ["index"]).C K) "index" :=
  mk1_of E X G hs ht rfl rfl rfl rfl sup_index ⟨_, fun _ _ _ _ => rfl⟩ (fun _ _ _ _ _ _ _ _ _ => rfl) (fun _ _ _ _ _ _ _ _ _ => rfl)
theorem mk_BadTeller (E : ErrK P K (eD "BadTeller" "BadTeller.__init__" 29 ["thing"])) (X : K.In h) (G : h.Ns mainGlobals mg) (hs : mg "super" = none) (ht : (P.main.scope.names.lookup ("super" : Str)).isSome = false) : Mk1 P w K mg base "BadTeller" ((eD "BadTeller" "BadTeller.__init__" 29 ["thing"]).C K) "thing" :=
  mk1_of E X G hs ht rfl rfl rfl rfl sup_thing ⟨_, fun _ _ _ _ => rfl⟩ (fun _ _ _ _ _ _ _ _ _ => rfl) (fun _ _ _ _ _ _ _ _ _ => rfl)
theorem mk_BadTells (E : ErrK P K (eD "BadTells" "BadTells.__init__" 30 ["index"])) (X : K.In h) (G : h.Ns mainGlobals mg) (hs : mg "super" = none) (ht : (P.main.scope.names.lookup ("super" : Str)).isSome = false) : Mk1 P w K mg base "BadTells" ((eD "BadTells" "BadTells.__init__" 30 ["index"]).C K) "index" :=
  mk1_of E X G hs ht rfl rfl rfl rfl sup_index ⟨_, fun _ _ _ _ => rfl⟩ (fun _ _ _ _ _ _ _ _ _ => rfl) (fun _ _ _ _ _ _ _ _ _ => rfl)
theorem mk_BadText (E : ErrK P K (eD "BadText" "BadText.__init__" 31 ["line", "sign"])) (X : K.In h) (G : h.Ns mainGlobals mg) (hs : mg "super" = none) (ht : (P.main.scope.names.lookup ("super" : Str)).isSome = false) : Mk2 P w K mg base "BadText" ((eD "BadText" "BadText.__init__" 31 ["line", "sign"]).C K) "line" "sign" :=
  mk2_of E X G hs ht rfl rfl rfl rfl sup_line_sign ⟨_, fun _ _ _ _ => rfl⟩ (fun _ _ _ _ _ _ _ _ _ _ => rfl) (fun _ _ _ _ _ _ _ _ _ _ => rfl)
theorem mk_InUse (E : ErrK P K (eD "InUse" "InUse.__init__" 32 ["question"])) (X : K.In h) (G : h.Ns mainGlobals mg) (hs : mg "super" = none) (ht : (P.main.scope.names.lookup ("super" : Str)).isSome = false) : Mk1 P w K mg base "InUse" ((eD "InUse" "InUse.__init__" 32 ["question"]).C K) "question" :=
  mk1_of E X G hs ht rfl rfl rfl rfl sup_question ⟨_, fun _ _ _ _ => rfl⟩ (fun _ _ _ _ _ _ _ _ _ => rfl) (fun _ _ _ _ _ _ _ _ _ => rfl)
theorem mk_IsWatched (E : ErrK P K (eD "IsWatched" "IsWatched.__init__" 33 ["question"])) (X : K.In h) (G : h.Ns mainGlobals mg) (hs : mg "super" = none) (ht : (P.main.scope.names.lookup ("super" : Str)).isSome = false) : Mk1 P w K mg base "IsWatched" ((eD "IsWatched" "IsWatched.__init__" 33 ["question"]).C K) "question" :=
  mk1_of E X G hs ht rfl rfl rfl rfl sup_question ⟨_, fun _ _ _ _ => rfl⟩ (fun _ _ _ _ _ _ _ _ _ => rfl) (fun _ _ _ _ _ _ _ _ _ => rfl)
theorem mk_NoCell (E : ErrK P K (eD "NoCell" "NoCell.__init__" 34 ["thing"])) (X : K.In h) (G : h.Ns mainGlobals mg) (hs : mg "super" = none) (ht : (P.main.scope.names.lookup ("super" : Str)).isSome = false) : Mk1 P w K mg base "NoCell" ((eD "NoCell" "NoCell.__init__" 34 ["thing"]).C K) "thing" :=
  mk1_of E X G hs ht rfl rfl rfl rfl sup_thing ⟨_, fun _ _ _ _ => rfl⟩ (fun _ _ _ _ _ _ _ _ _ => rfl) (fun _ _ _ _ _ _ _ _ _ => rfl)
theorem mk_NoCount (E : ErrK P K (eD "NoCount" "NoCount.__init__" 35 ["thing"])) (X : K.In h) (G : h.Ns mainGlobals mg) (hs : mg "super" = none) (ht : (P.main.scope.names.lookup ("super" : Str)).isSome = false) : Mk1 P w K mg base "NoCount" ((eD "NoCount" "NoCount.__init__" 35 ["thing"]).C K) "thing" :=
  mk1_of E X G hs ht rfl rfl rfl rfl sup_thing ⟨_, fun _ _ _ _ => rfl⟩ (fun _ _ _ _ _ _ _ _ _ => rfl) (fun _ _ _ _ _ _ _ _ _ => rfl)
theorem mk_NoHour (E : ErrK P K (eD "NoHour" "NoHour.__init__" 36 ["hour"])) (X : K.In h) (G : h.Ns mainGlobals mg) (hs : mg "super" = none) (ht : (P.main.scope.names.lookup ("super" : Str)).isSome = false) : Mk1 P w K mg base "NoHour" ((eD "NoHour" "NoHour.__init__" 36 ["hour"]).C K) "hour" :=
  mk1_of E X G hs ht rfl rfl rfl rfl sup_hour ⟨_, fun _ _ _ _ => rfl⟩ (fun _ _ _ _ _ _ _ _ _ => rfl) (fun _ _ _ _ _ _ _ _ _ => rfl)
theorem mk_NoLine (E : ErrK P K (eD "NoLine" "NoLine.__init__" 37 ["thing"])) (X : K.In h) (G : h.Ns mainGlobals mg) (hs : mg "super" = none) (ht : (P.main.scope.names.lookup ("super" : Str)).isSome = false) : Mk1 P w K mg base "NoLine" ((eD "NoLine" "NoLine.__init__" 37 ["thing"]).C K) "thing" :=
  mk1_of E X G hs ht rfl rfl rfl rfl sup_thing ⟨_, fun _ _ _ _ => rfl⟩ (fun _ _ _ _ _ _ _ _ _ => rfl) (fun _ _ _ _ _ _ _ _ _ => rfl)
theorem mk_NoSpot (E : ErrK P K (eD "NoSpot" "NoSpot.__init__" 38 ["hour", "slot"])) (X : K.In h) (G : h.Ns mainGlobals mg) (hs : mg "super" = none) (ht : (P.main.scope.names.lookup ("super" : Str)).isSome = false) : Mk2 P w K mg base "NoSpot" ((eD "NoSpot" "NoSpot.__init__" 38 ["hour", "slot"]).C K) "hour" "slot" :=
  mk2_of E X G hs ht rfl rfl rfl rfl sup_hour_slot ⟨_, fun _ _ _ _ => rfl⟩ (fun _ _ _ _ _ _ _ _ _ _ => rfl) (fun _ _ _ _ _ _ _ _ _ _ => rfl)
theorem mk_NoText (E : ErrK P K (eD "NoText" "NoText.__init__" 39 ["index"])) (X : K.In h) (G : h.Ns mainGlobals mg) (hs : mg "super" = none) (ht : (P.main.scope.names.lookup ("super" : Str)).isSome = false) : Mk1 P w K mg base "NoText" ((eD "NoText" "NoText.__init__" 39 ["index"]).C K) "index" :=
  mk1_of E X G hs ht rfl rfl rfl rfl sup_index ⟨_, fun _ _ _ _ => rfl⟩ (fun _ _ _ _ _ _ _ _ _ => rfl) (fun _ _ _ _ _ _ _ _ _ => rfl)
theorem mk_NoThing (E : ErrK P K (eD "NoThing" "NoThing.__init__" 40 ["thing"])) (X : K.In h) (G : h.Ns mainGlobals mg) (hs : mg "super" = none) (ht : (P.main.scope.names.lookup ("super" : Str)).isSome = false) : Mk1 P w K mg base "NoThing" ((eD "NoThing" "NoThing.__init__" 40 ["thing"]).C K) "thing" :=
  mk1_of E X G hs ht rfl rfl rfl rfl sup_thing ⟨_, fun _ _ _ _ => rfl⟩ (fun _ _ _ _ _ _ _ _ _ => rfl) (fun _ _ _ _ _ _ _ _ _ => rfl)
theorem mk_NoTold (E : ErrK P K (eD "NoTold" "NoTold.__init__" 41 ["thing"])) (X : K.In h) (G : h.Ns mainGlobals mg) (hs : mg "super" = none) (ht : (P.main.scope.names.lookup ("super" : Str)).isSome = false) : Mk1 P w K mg base "NoTold" ((eD "NoTold" "NoTold.__init__" 41 ["thing"]).C K) "thing" :=
  mk1_of E X G hs ht rfl rfl rfl rfl sup_thing ⟨_, fun _ _ _ _ => rfl⟩ (fun _ _ _ _ _ _ _ _ _ => rfl) (fun _ _ _ _ _ _ _ _ _ => rfl)
theorem mk_NotSound (E : ErrK P K (eD "NotSound" "NotSound.__init__" 42 ["fault"])) (X : K.In h) (G : h.Ns mainGlobals mg) (hs : mg "super" = none) (ht : (P.main.scope.names.lookup ("super" : Str)).isSome = false) : Mk1 P w K mg base "NotSound" ((eD "NotSound" "NotSound.__init__" 42 ["fault"]).C K) "fault" :=
  mk1_of E X G hs ht rfl rfl rfl rfl sup_fault ⟨_, fun _ _ _ _ => rfl⟩ (fun _ _ _ _ _ _ _ _ _ => rfl) (fun _ _ _ _ _ _ _ _ _ => rfl)
theorem mk_NotWatched (E : ErrK P K (eD "NotWatched" "NotWatched.__init__" 43 ["question"])) (X : K.In h) (G : h.Ns mainGlobals mg) (hs : mg "super" = none) (ht : (P.main.scope.names.lookup ("super" : Str)).isSome = false) : Mk1 P w K mg base "NotWatched" ((eD "NotWatched" "NotWatched.__init__" 43 ["question"]).C K) "question" :=
  mk1_of E X G hs ht rfl rfl rfl rfl sup_question ⟨_, fun _ _ _ _ => rfl⟩ (fun _ _ _ _ _ _ _ _ _ => rfl) (fun _ _ _ _ _ _ _ _ _ => rfl)
theorem mk_WouldChange (E : ErrK P K (eD "WouldChange" "WouldChange.__init__" 44 ["question", "why"])) (X : K.In h) (G : h.Ns mainGlobals mg) (hs : mg "super" = none) (ht : (P.main.scope.names.lookup ("super" : Str)).isSome = false) : Mk2 P w K mg base "WouldChange" ((eD "WouldChange" "WouldChange.__init__" 44 ["question", "why"]).C K) "question" "why" :=
  mk2_of E X G hs ht rfl rfl rfl rfl sup_question_why ⟨_, fun _ _ _ _ => rfl⟩ (fun _ _ _ _ _ _ _ _ _ _ => rfl) (fun _ _ _ _ _ _ _ _ _ _ => rfl)
end
end K00
set_option maxHeartbeats 0
/-! law_k00: the entries. Made by a script from the law's text. -/
namespace K00
open PySem PySem.W PySem.Calls PySem.Spec PyProof.Rows L2 He My LamX
/-- what the head told -/
structure Fx (P : Program) (K : Frag) (mg : Str → Option Value) (h : Heap) : Prop where
  X : K.In h
  G : h.Ns mainGlobals mg
  hs : mg "super" = none
  ht : (P.main.scope.names.lookup ("super" : Str)).isSome = false
  E : ∀ (i : Nat) (d : ErrD), es[i]? = some d → ErrK P K d
section
variable {P : Program} {w : World} {K : Frag} {mg : Str → Option Value} {base h : Heap} {A : Around} {outer : List Env} {s : Shared} {H : Hp} {E : XK} {f c Pt : Addr} {T : List (Addr × Str)}
abbrev cx_law_made_a (P : Program) (w : World) (K : Frag) (mg : Str → Option Value) (base : Heap) (f c : Addr) (A : Around) (outer : List Env) (s : Shared) (H : Hp) (E : XK) : Cx := (cxOf C8.CX0 P w K mg base ["x", "y", "z", "found"] "_law_made_a" (C8.fnScope (top 49)) f (.ref c) A outer s H E).nox
def qu_law_made_a : Str := ("_law_made_a" : Str) ++ ".<locals>." ++ "<lambda>"
theorem ents_law_made_a (F : Fx P K mg h) (hr : Room 2 (A.deeper (envOfC "_law_made_a" (C8.fnScope (top 49)) s.heap.objs.size f (.ref c)))) (TB : TabB base mg c Pt) (hm : (Pt, qu_law_made_a) ∈ T) (hu : ∀ p ∈ T, p.1 = Pt → p.2 = qu_law_made_a) :
    EntSts (cx_law_made_a P w K mg base f c A outer s H E) H T 3 (tRet (tVar 3)) ((C8.fnBody (top 49)).drop 1) ((es.drop 0).take 18) := by
  refine .cons (entU1 rfl rfl (ps_ent1 (i := 0) (jl := 3) (mk_BadBegun (F.E 0 _ rfl) F.X F.G F.hs F.ht) hr rfl rfl (.inl rfl) rfl (.inl rfl) TB rfl hm hu lamNoFree (fun v => lam1 lamSc (fun _ _ _ us h => match us, h with | [_], _ => rfl) (F.E 0 _ rfl).xf ((F.E 0 _ rfl).noF _ (List.mem_singleton.mpr rfl))))) ?_
  refine .cons (entU1 rfl rfl (ps_ent1 (i := 0) (jl := 3) (mk_BadBox (F.E 1 _ rfl) F.X F.G F.hs F.ht) hr rfl rfl (.inl rfl) rfl (.inl rfl) TB rfl hm hu lamNoFree (fun v => lam1 lamSc (fun _ _ _ us h => match us, h with | [_], _ => rfl) (F.E 1 _ rfl).xf ((F.E 1 _ rfl).noF _ (List.mem_singleton.mpr rfl))))) ?_
  refine .cons (entU1 rfl rfl (ps_ent1 (i := 0) (jl := 3) (mk_BadCells (F.E 2 _ rfl) F.X F.G F.hs F.ht) hr rfl rfl (.inl rfl) rfl (.inl rfl) TB rfl hm hu lamNoFree (fun v => lam1 lamSc (fun _ _ _ us h => match us, h with | [_], _ => rfl) (F.E 2 _ rfl).xf ((F.E 2 _ rfl).noF _ (List.mem_singleton.mpr rfl))))) ?_
  refine .cons (entU1 rfl rfl (ps_ent1 (i := 0) (jl := 3) (mk_BadChain (F.E 3 _ rfl) F.X F.G F.hs F.ht) hr rfl rfl (.inl rfl) rfl (.inl rfl) TB rfl hm hu lamNoFree (fun v => lam1 lamSc (fun _ _ _ us h => match us, h with | [_], _ => rfl) (F.E 3 _ rfl).xf ((F.E 3 _ rfl).noF _ (List.mem_singleton.mpr rfl))))) ?_
  refine .cons (entU1 rfl rfl (ps_ent1 (i := 0) (jl := 3) (mk_BadCount (F.E 4 _ rfl) F.X F.G F.hs F.ht) hr rfl rfl (.inl rfl) rfl (.inl rfl) TB rfl hm hu lamNoFree (fun v => lam1 lamSc (fun _ _ _ us h => match us, h with | [_], _ => rfl) (F.E 4 _ rfl).xf ((F.E 4 _ rfl).noF _ (List.mem_singleton.mpr rfl))))) ?_
  refine .cons (entU1 rfl rfl (ps_ent1 (i := 0) (jl := 3) (mk_BadDeed (F.E 5 _ rfl) F.X F.G F.hs F.ht) hr rfl rfl (.inl rfl) rfl (.inl rfl) TB rfl hm hu lamNoFree (fun v => lam1 lamSc (fun _ _ _ us h => match us, h with | [_], _ => rfl) (F.E 5 _ rfl).xf ((F.E 5 _ rfl).noF _ (List.mem_singleton.mpr rfl))))) ?_
  refine .cons (entU1 rfl rfl (ps_ent1 (i := 0) (jl := 3) (mk_BadHeld (F.E 6 _ rfl) F.X F.G F.hs F.ht) hr rfl rfl (.inl rfl) rfl (.inl rfl) TB rfl hm hu lamNoFree (fun v => lam1 lamSc (fun _ _ _ us h => match us, h with | [_], _ => rfl) (F.E 6 _ rfl).xf ((F.E 6 _ rfl).noF _ (List.mem_singleton.mpr rfl))))) ?_
  refine .cons (entU1 rfl rfl (ps_ent1 (i := 0) (jl := 3) (mk_BadHours (F.E 7 _ rfl) F.X F.G F.hs F.ht) hr rfl rfl (.inl rfl) rfl (.inl rfl) TB rfl hm hu lamNoFree (fun v => lam1 lamSc (fun _ _ _ us h => match us, h with | [_], _ => rfl) (F.E 7 _ rfl).xf ((F.E 7 _ rfl).noF _ (List.mem_singleton.mpr rfl))))) ?_
  refine .cons (entU1 rfl rfl (ps_ent1 (i := 0) (jl := 3) (mk_BadLine (F.E 8 _ rfl) F.X F.G F.hs F.ht) hr rfl rfl (.inl rfl) rfl (.inl rfl) TB rfl hm hu lamNoFree (fun v => lam1 lamSc (fun _ _ _ us h => match us, h with | [_], _ => rfl) (F.E 8 _ rfl).xf ((F.E 8 _ rfl).noF _ (List.mem_singleton.mpr rfl))))) ?_
  refine .cons (entU1 rfl rfl (ps_ent1 (i := 0) (jl := 3) (mk_BadLines (F.E 9 _ rfl) F.X F.G F.hs F.ht) hr rfl rfl (.inl rfl) rfl (.inl rfl) TB rfl hm hu lamNoFree (fun v => lam1 lamSc (fun _ _ _ us h => match us, h with | [_], _ => rfl) (F.E 9 _ rfl).xf ((F.E 9 _ rfl).noF _ (List.mem_singleton.mpr rfl))))) ?_
  refine .cons (entU1 rfl rfl (ps_ent1 (i := 0) (jl := 3) (mk_BadListing (F.E 10 _ rfl) F.X F.G F.hs F.ht) hr rfl rfl (.inl rfl) rfl (.inl rfl) TB rfl hm hu lamNoFree (fun v => lam1 lamSc (fun _ _ _ us h => match us, h with | [_], _ => rfl) (F.E 10 _ rfl).xf ((F.E 10 _ rfl).noF _ (List.mem_singleton.mpr rfl))))) ?_
  refine .cons (entU1 rfl rfl (ps_ent1 (i := 0) (jl := 3) (mk_BadMany (F.E 11 _ rfl) F.X F.G F.hs F.ht) hr rfl rfl (.inl rfl) rfl (.inl rfl) TB rfl hm hu lamNoFree (fun v => lam1 lamSc (fun _ _ _ us h => match us, h with | [_], _ => rfl) (F.E 11 _ rfl).xf ((F.E 11 _ rfl).noF _ (List.mem_singleton.mpr rfl))))) ?_
  refine .cons (entU1 rfl rfl (ps_ent1 (i := 0) (jl := 3) (mk_BadNumber (F.E 12 _ rfl) F.X F.G F.hs F.ht) hr rfl rfl (.inl rfl) rfl (.inl rfl) TB rfl hm hu lamNoFree (fun v => lam1 lamSc (fun _ _ _ us h => match us, h with | [_], _ => rfl) (F.E 12 _ rfl).xf ((F.E 12 _ rfl).noF _ (List.mem_singleton.mpr rfl))))) ?_
  refine .cons (entU1 rfl rfl (ps_ent1 (i := 0) (jl := 3) (mk_BadOrder (F.E 13 _ rfl) F.X F.G F.hs F.ht) hr rfl rfl (.inl rfl) rfl (.inl rfl) TB rfl hm hu lamNoFree (fun v => lam1 lamSc (fun _ _ _ us h => match us, h with | [_], _ => rfl) (F.E 13 _ rfl).xf ((F.E 13 _ rfl).noF _ (List.mem_singleton.mpr rfl))))) ?_
  refine .cons (entU1 rfl rfl (ps_ent1 (i := 0) (jl := 3) (mk_BadPairs (F.E 14 _ rfl) F.X F.G F.hs F.ht) hr rfl rfl (.inl rfl) rfl (.inl rfl) TB rfl hm hu lamNoFree (fun v => lam1 lamSc (fun _ _ _ us h => match us, h with | [_], _ => rfl) (F.E 14 _ rfl).xf ((F.E 14 _ rfl).noF _ (List.mem_singleton.mpr rfl))))) ?_
  refine .cons (entU1 rfl rfl (ps_ent1 (i := 0) (jl := 3) (mk_BadPlace (F.E 15 _ rfl) F.X F.G F.hs F.ht) hr rfl rfl (.inl rfl) rfl (.inl rfl) TB rfl hm hu lamNoFree (fun v => lam1 lamSc (fun _ _ _ us h => match us, h with | [_], _ => rfl) (F.E 15 _ rfl).xf ((F.E 15 _ rfl).noF _ (List.mem_singleton.mpr rfl))))) ?_
  refine .cons (entU1 rfl rfl (ps_ent1 (i := 0) (jl := 3) (mk_BadPlan (F.E 16 _ rfl) F.X F.G F.hs F.ht) hr rfl rfl (.inl rfl) rfl (.inl rfl) TB rfl hm hu lamNoFree (fun v => lam1 lamSc (fun _ _ _ us h => match us, h with | [_], _ => rfl) (F.E 16 _ rfl).xf ((F.E 16 _ rfl).noF _ (List.mem_singleton.mpr rfl))))) ?_
  refine .cons (entU1 rfl rfl (ps_ent1 (i := 0) (jl := 3) (mk_BadProgram (F.E 17 _ rfl) F.X F.G F.hs F.ht) hr rfl rfl (.inl rfl) rfl (.inl rfl) TB rfl hm hu lamNoFree (fun v => lam1 lamSc (fun _ _ _ us h => match us, h with | [_], _ => rfl) (F.E 17 _ rfl).xf ((F.E 17 _ rfl).noF _ (List.mem_singleton.mpr rfl))))) ?_
  exact .nil (pss_one (ps_ret (pe_var (i := 3) rfl (.inl rfl))))
abbrev cx_law_made_b (P : Program) (w : World) (K : Frag) (mg : Str → Option Value) (base : Heap) (f c : Addr) (A : Around) (outer : List Env) (s : Shared) (H : Hp) (E : XK) : Cx := (cxOf C8.CX0 P w K mg base ["x", "y", "z", "found"] "_law_made_b" (C8.fnScope (top 50)) f (.ref c) A outer s H E).nox
def qu_law_made_b : Str := ("_law_made_b" : Str) ++ ".<locals>." ++ "<lambda>"
theorem ents_law_made_b (F : Fx P K mg h) (hr : Room 2 (A.deeper (envOfC "_law_made_b" (C8.fnScope (top 50)) s.heap.objs.size f (.ref c)))) (TB : TabB base mg c Pt) (hm : (Pt, qu_law_made_b) ∈ T) (hu : ∀ p ∈ T, p.1 = Pt → p.2 = qu_law_made_b) :
    EntSts (cx_law_made_b P w K mg base f c A outer s H E) H T 3 (tRet (tVar 3)) ((C8.fnBody (top 50)).drop 1) ((es.drop 18).take 18) := by
  refine .cons (entU1 rfl rfl (ps_ent1 (i := 0) (jl := 3) (mk_BadQuestion (F.E 18 _ rfl) F.X F.G F.hs F.ht) hr rfl rfl (.inl rfl) rfl (.inl rfl) TB rfl hm hu lamNoFree (fun v => lam1 lamSc (fun _ _ _ us h => match us, h with | [_], _ => rfl) (F.E 18 _ rfl).xf ((F.E 18 _ rfl).noF _ (List.mem_singleton.mpr rfl))))) ?_
  refine .cons (entU1 rfl rfl (ps_ent1 (i := 0) (jl := 3) (mk_BadReads (F.E 19 _ rfl) F.X F.G F.hs F.ht) hr rfl rfl (.inl rfl) rfl (.inl rfl) TB rfl hm hu lamNoFree (fun v => lam1 lamSc (fun _ _ _ us h => match us, h with | [_], _ => rfl) (F.E 19 _ rfl).xf ((F.E 19 _ rfl).noF _ (List.mem_singleton.mpr rfl))))) ?_
  refine .cons (entU1 rfl rfl (ps_ent1 (i := 0) (jl := 3) (mk_BadRow (F.E 20 _ rfl) F.X F.G F.hs F.ht) hr rfl rfl (.inl rfl) rfl (.inl rfl) TB rfl hm hu lamNoFree (fun v => lam1 lamSc (fun _ _ _ us h => match us, h with | [_], _ => rfl) (F.E 20 _ rfl).xf ((F.E 20 _ rfl).noF _ (List.mem_singleton.mpr rfl))))) ?_
  refine .cons (entU1 rfl rfl (ps_ent1 (i := 0) (jl := 3) (mk_BadRows (F.E 21 _ rfl) F.X F.G F.hs F.ht) hr rfl rfl (.inl rfl) rfl (.inl rfl) TB rfl hm hu lamNoFree (fun v => lam1 lamSc (fun _ _ _ us h => match us, h with | [_], _ => rfl) (F.E 21 _ rfl).xf ((F.E 21 _ rfl).noF _ (List.mem_singleton.mpr rfl))))) ?_
  refine .cons (entU1 rfl rfl (ps_ent1 (i := 0) (jl := 3) (mk_BadSeen (F.E 22 _ rfl) F.X F.G F.hs F.ht) hr rfl rfl (.inl rfl) rfl (.inl rfl) TB rfl hm hu lamNoFree (fun v => lam1 lamSc (fun _ _ _ us h => match us, h with | [_], _ => rfl) (F.E 22 _ rfl).xf ((F.E 22 _ rfl).noF _ (List.mem_singleton.mpr rfl))))) ?_
  refine .cons (entU1 rfl rfl (ps_ent1 (i := 0) (jl := 3) (mk_BadSession (F.E 23 _ rfl) F.X F.G F.hs F.ht) hr rfl rfl (.inl rfl) rfl (.inl rfl) TB rfl hm hu lamNoFree (fun v => lam1 lamSc (fun _ _ _ us h => match us, h with | [_], _ => rfl) (F.E 23 _ rfl).xf ((F.E 23 _ rfl).noF _ (List.mem_singleton.mpr rfl))))) ?_
  refine .cons (entU1 rfl rfl (ps_ent1 (i := 0) (jl := 3) (mk_BadSome (F.E 24 _ rfl) F.X F.G F.hs F.ht) hr rfl rfl (.inl rfl) rfl (.inl rfl) TB rfl hm hu lamNoFree (fun v => lam1 lamSc (fun _ _ _ us h => match us, h with | [_], _ => rfl) (F.E 24 _ rfl).xf ((F.E 24 _ rfl).noF _ (List.mem_singleton.mpr rfl))))) ?_
  refine .cons (entU1 rfl rfl (ps_ent1 (i := 0) (jl := 3) (mk_BadSource (F.E 25 _ rfl) F.X F.G F.hs F.ht) hr rfl rfl (.inl rfl) rfl (.inl rfl) TB rfl hm hu lamNoFree (fun v => lam1 lamSc (fun _ _ _ us h => match us, h with | [_], _ => rfl) (F.E 25 _ rfl).xf ((F.E 25 _ rfl).noF _ (List.mem_singleton.mpr rfl))))) ?_
  refine .cons (entU1 rfl rfl (ps_ent1 (i := 0) (jl := 3) (mk_BadSpots (F.E 26 _ rfl) F.X F.G F.hs F.ht) hr rfl rfl (.inl rfl) rfl (.inl rfl) TB rfl hm hu lamNoFree (fun v => lam1 lamSc (fun _ _ _ us h => match us, h with | [_], _ => rfl) (F.E 26 _ rfl).xf ((F.E 26 _ rfl).noF _ (List.mem_singleton.mpr rfl))))) ?_
  refine .cons (entU1 rfl rfl (ps_ent1 (i := 0) (jl := 3) (mk_BadTeller (F.E 27 _ rfl) F.X F.G F.hs F.ht) hr rfl rfl (.inl rfl) rfl (.inl rfl) TB rfl hm hu lamNoFree (fun v => lam1 lamSc (fun _ _ _ us h => match us, h with | [_], _ => rfl) (F.E 27 _ rfl).xf ((F.E 27 _ rfl).noF _ (List.mem_singleton.mpr rfl))))) ?_
  refine .cons (entU1 rfl rfl (ps_ent1 (i := 0) (jl := 3) (mk_BadTells (F.E 28 _ rfl) F.X F.G F.hs F.ht) hr rfl rfl (.inl rfl) rfl (.inl rfl) TB rfl hm hu lamNoFree (fun v => lam1 lamSc (fun _ _ _ us h => match us, h with | [_], _ => rfl) (F.E 28 _ rfl).xf ((F.E 28 _ rfl).noF _ (List.mem_singleton.mpr rfl))))) ?_
  refine .cons (entU2 rfl rfl (ps_ent2 (i := 0) (j := 1) (jl := 3) (mk_BadText (F.E 29 _ rfl) F.X F.G F.hs F.ht) hr rfl rfl (.inl rfl) rfl (.inl rfl) rfl (.inl rfl) TB rfl hm hu lamNoFree (fun v u => lam2 lamSc (fun _ _ _ us h => match us, h with | [_], _ => rfl) (F.E 29 _ rfl).xf ((F.E 29 _ rfl).noF _ (List.mem_cons_self ..)) ((F.E 29 _ rfl).noF _ (List.mem_cons_of_mem _ (List.mem_singleton.mpr rfl))) (by decide)))) ?_
  refine .cons (entU1 rfl rfl (ps_ent1 (i := 0) (jl := 3) (mk_InUse (F.E 30 _ rfl) F.X F.G F.hs F.ht) hr rfl rfl (.inl rfl) rfl (.inl rfl) TB rfl hm hu lamNoFree (fun v => lam1 lamSc (fun _ _ _ us h => match us, h with | [_], _ => rfl) (F.E 30 _ rfl).xf ((F.E 30 _ rfl).noF _ (List.mem_singleton.mpr rfl))))) ?_
  refine .cons (entU1 rfl rfl (ps_ent1 (i := 0) (jl := 3) (mk_IsWatched (F.E 31 _ rfl) F.X F.G F.hs F.ht) hr rfl rfl (.inl rfl) rfl (.inl rfl) TB rfl hm hu lamNoFree (fun v => lam1 lamSc (fun _ _ _ us h => match us, h with | [_], _ => rfl) (F.E 31 _ rfl).xf ((F.E 31 _ rfl).noF _ (List.mem_singleton.mpr rfl))))) ?_
  refine .cons (entU1 rfl rfl (ps_ent1 (i := 0) (jl := 3) (mk_NoCell (F.E 32 _ rfl) F.X F.G F.hs F.ht) hr rfl rfl (.inl rfl) rfl (.inl rfl) TB rfl hm hu lamNoFree (fun v => lam1 lamSc (fun _ _ _ us h => match us, h with | [_], _ => rfl) (F.E 32 _ rfl).xf ((F.E 32 _ rfl).noF _ (List.mem_singleton.mpr rfl))))) ?_
  refine .cons (entU1 rfl rfl (ps_ent1 (i := 0) (jl := 3) (mk_NoCount (F.E 33 _ rfl) F.X F.G F.hs F.ht) hr rfl rfl (.inl rfl) rfl (.inl rfl) TB rfl hm hu lamNoFree (fun v => lam1 lamSc (fun _ _ _ us h => match us, h with | [_], _ => rfl) (F.E 33 _ rfl).xf ((F.E 33 _ rfl).noF _ (List.mem_singleton.mpr rfl))))) ?_
  refine .cons (entU1 rfl rfl (ps_ent1 (i := 0) (jl := 3) (mk_NoHour (F.E 34 _ rfl) F.X F.G F.hs F.ht) hr rfl rfl (.inl rfl) rfl (.inl rfl) TB rfl hm hu lamNoFree (fun v => lam1 lamSc (fun _ _ _ us h => match us, h with | [_], _ => rfl) (F.E 34 _ rfl).xf ((F.E 34 _ rfl).noF _ (List.mem_singleton.mpr rfl))))) ?_
  refine .cons (entU1 rfl rfl (ps_ent1 (i := 0) (jl := 3) (mk_NoLine (F.E 35 _ rfl) F.X F.G F.hs F.ht) hr rfl rfl (.inl rfl) rfl (.inl rfl) TB rfl hm hu lamNoFree (fun v => lam1 lamSc (fun _ _ _ us h => match us, h with | [_], _ => rfl) (F.E 35 _ rfl).xf ((F.E 35 _ rfl).noF _ (List.mem_singleton.mpr rfl))))) ?_
  exact .nil (pss_one (ps_ret (pe_var (i := 3) rfl (.inl rfl))))
abbrev cx_law_made_c (P : Program) (w : World) (K : Frag) (mg : Str → Option Value) (base : Heap) (f c : Addr) (A : Around) (outer : List Env) (s : Shared) (H : Hp) (E : XK) : Cx := (cxOf C8.CX0 P w K mg base ["x", "y", "z", "found"] "_law_made_c" (C8.fnScope (top 51)) f (.ref c) A outer s H E).nox
def qu_law_made_c : Str := ("_law_made_c" : Str) ++ ".<locals>." ++ "<lambda>"
theorem ents_law_made_c (F : Fx P K mg h) (hr : Room 2 (A.deeper (envOfC "_law_made_c" (C8.fnScope (top 51)) s.heap.objs.size f (.ref c)))) (TB : TabB base mg c Pt) (hm : (Pt, qu_law_made_c) ∈ T) (hu : ∀ p ∈ T, p.1 = Pt → p.2 = qu_law_made_c) :
    EntSts (cx_law_made_c P w K mg base f c A outer s H E) H T 3 (tRet (tVar 3)) ((C8.fnBody (top 51)).drop 1) ((es.drop 36).take 7) := by
  refine .cons (entU2 rfl rfl (ps_ent2 (i := 0) (j := 1) (jl := 3) (mk_NoSpot (F.E 36 _ rfl) F.X F.G F.hs F.ht) hr rfl rfl (.inl rfl) rfl (.inl rfl) rfl (.inl rfl) TB rfl hm hu lamNoFree (fun v u => lam2 lamSc (fun _ _ _ us h => match us, h with | [_], _ => rfl) (F.E 36 _ rfl).xf ((F.E 36 _ rfl).noF _ (List.mem_cons_self ..)) ((F.E 36 _ rfl).noF _ (List.mem_cons_of_mem _ (List.mem_singleton.mpr rfl))) (by decide)))) ?_
  refine .cons (entU1 rfl rfl (ps_ent1 (i := 0) (jl := 3) (mk_NoText (F.E 37 _ rfl) F.X F.G F.hs F.ht) hr rfl rfl (.inl rfl) rfl (.inl rfl) TB rfl hm hu lamNoFree (fun v => lam1 lamSc (fun _ _ _ us h => match us, h with | [_], _ => rfl) (F.E 37 _ rfl).xf ((F.E 37 _ rfl).noF _ (List.mem_singleton.mpr rfl))))) ?_
  refine .cons (entU1 rfl rfl (ps_ent1 (i := 0) (jl := 3) (mk_NoThing (F.E 38 _ rfl) F.X F.G F.hs F.ht) hr rfl rfl (.inl rfl) rfl (.inl rfl) TB rfl hm hu lamNoFree (fun v => lam1 lamSc (fun _ _ _ us h => match us, h with | [_], _ => rfl) (F.E 38 _ rfl).xf ((F.E 38 _ rfl).noF _ (List.mem_singleton.mpr rfl))))) ?_
  refine .cons (entU1 rfl rfl (ps_ent1 (i := 0) (jl := 3) (mk_NoTold (F.E 39 _ rfl) F.X F.G F.hs F.ht) hr rfl rfl (.inl rfl) rfl (.inl rfl) TB rfl hm hu lamNoFree (fun v => lam1 lamSc (fun _ _ _ us h => match us, h with | [_], _ => rfl) (F.E 39 _ rfl).xf ((F.E 39 _ rfl).noF _ (List.mem_singleton.mpr rfl))))) ?_
  refine .cons (entU1 rfl rfl (ps_ent1 (i := 0) (jl := 3) (mk_NotSound (F.E 40 _ rfl) F.X F.G F.hs F.ht) hr rfl rfl (.inl rfl) rfl (.inl rfl) TB rfl hm hu lamNoFree (fun v => lam1 lamSc (fun _ _ _ us h => match us, h with | [_], _ => rfl) (F.E 40 _ rfl).xf ((F.E 40 _ rfl).noF _ (List.mem_singleton.mpr rfl))))) ?_
  refine .cons (entU1 rfl rfl (ps_ent1 (i := 0) (jl := 3) (mk_NotWatched (F.E 41 _ rfl) F.X F.G F.hs F.ht) hr rfl rfl (.inl rfl) rfl (.inl rfl) TB rfl hm hu lamNoFree (fun v => lam1 lamSc (fun _ _ _ us h => match us, h with | [_], _ => rfl) (F.E 41 _ rfl).xf ((F.E 41 _ rfl).noF _ (List.mem_singleton.mpr rfl))))) ?_
  refine .cons (entU2 rfl rfl (ps_ent2 (i := 0) (j := 1) (jl := 3) (mk_WouldChange (F.E 42 _ rfl) F.X F.G F.hs F.ht) hr rfl rfl (.inl rfl) rfl (.inl rfl) rfl (.inl rfl) TB rfl hm hu lamNoFree (fun v u => lam2 lamSc (fun _ _ _ us h => match us, h with | [_], _ => rfl) (F.E 42 _ rfl).xf ((F.E 42 _ rfl).noF _ (List.mem_cons_self ..)) ((F.E 42 _ rfl).noF _ (List.mem_cons_of_mem _ (List.mem_singleton.mpr rfl))) (by decide)))) ?_
  exact .nil (pss_one (ps_ret (pe_var (i := 3) rfl (.inl rfl))))
end
end K00
set_option maxHeartbeats 0
/-! law_k00: the kinds. Made by a script from the law's text. -/
namespace K00
open PySem PySem.W PySem.Calls PySem.Spec PyProof.Rows L2 He My LamX
section
variable {P : Program} {w : World} {K : Frag} {mg : Str → Option Value} {base h : Heap} {f : Addr} {fd : FuncData} {k : Nat}
theorem sc_law_kinds_a : FnScope ["e", "found"] ["e"] (C8.fnScope (top 52)) := ⟨rfl, rfl, rfl, by decide +kernel, rfl, by decide +kernel, by decide +kernel⟩
theorem ok_law_kinds_a (F : Fx P K mg h) (mi : mg "isinstance" = none) (Fn : C8.Fun K "_law_kinds_a" "_law_kinds_a" (top 52) f fd) : FnOk P w K mg base C8.CX0 (k + 1) f fd ["e"] (spKinds K ((es.drop 0).take 18)) := by
  refine ok_kinds (ds := [[es.getD 0 (eD "" "" 0 []), es.getD 1 (eD "" "" 0 [])], [es.getD 2 (eD "" "" 0 []), es.getD 3 (eD "" "" 0 [])], [es.getD 4 (eD "" "" 0 []), es.getD 5 (eD "" "" 0 [])], [es.getD 6 (eD "" "" 0 []), es.getD 7 (eD "" "" 0 [])], [es.getD 8 (eD "" "" 0 []), es.getD 9 (eD "" "" 0 [])], [es.getD 10 (eD "" "" 0 []), es.getD 11 (eD "" "" 0 [])], [es.getD 12 (eD "" "" 0 []), es.getD 13 (eD "" "" 0 [])], [es.getD 14 (eD "" "" 0 []), es.getD 15 (eD "" "" 0 [])], [es.getD 16 (eD "" "" 0 []), es.getD 17 (eD "" "" 0 [])]]) Fn sc_law_kinds_a rfl (by decide) rfl (fun _ _ _ _ _ _ => rfl) fun cdv A outer s H E => ?_
  refine .cons (ps_knd2 (d1 := (eD "BadBegun" "BadBegun.__init__" 2 ["thing"])) (d2 := (eD "BadBox" "BadBox.__init__" 3 ["thing"])) rfl (.inl rfl) rfl (.inl rfl) rfl mi rfl (glo_ok F.X F.G (F.E 0 _ rfl).gl) rfl (glo_ok F.X F.G (F.E 1 _ rfl).gl)) ?_
  refine .cons (ps_knd2 (d1 := (eD "BadCells" "BadCells.__init__" 4 ["thing"])) (d2 := (eD "BadChain" "BadChain.__init__" 5 ["thing"])) rfl (.inl rfl) rfl (.inl rfl) rfl mi rfl (glo_ok F.X F.G (F.E 2 _ rfl).gl) rfl (glo_ok F.X F.G (F.E 3 _ rfl).gl)) ?_
  refine .cons (ps_knd2 (d1 := (eD "BadCount" "BadCount.__init__" 6 ["thing"])) (d2 := (eD "BadDeed" "BadDeed.__init__" 7 ["thing"])) rfl (.inl rfl) rfl (.inl rfl) rfl mi rfl (glo_ok F.X F.G (F.E 4 _ rfl).gl) rfl (glo_ok F.X F.G (F.E 5 _ rfl).gl)) ?_
  refine .cons (ps_knd2 (d1 := (eD "BadHeld" "BadHeld.__init__" 8 ["index"])) (d2 := (eD "BadHours" "BadHours.__init__" 9 ["index"])) rfl (.inl rfl) rfl (.inl rfl) rfl mi rfl (glo_ok F.X F.G (F.E 6 _ rfl).gl) rfl (glo_ok F.X F.G (F.E 7 _ rfl).gl)) ?_
  refine .cons (ps_knd2 (d1 := (eD "BadLine" "BadLine.__init__" 10 ["thing"])) (d2 := (eD "BadLines" "BadLines.__init__" 11 ["index"])) rfl (.inl rfl) rfl (.inl rfl) rfl mi rfl (glo_ok F.X F.G (F.E 8 _ rfl).gl) rfl (glo_ok F.X F.G (F.E 9 _ rfl).gl)) ?_
  refine .cons (ps_knd2 (d1 := (eD "BadListing" "BadListing.__init__" 12 ["index"])) (d2 := (eD "BadMany" "BadMany.__init__" 13 ["thing"])) rfl (.inl rfl) rfl (.inl rfl) rfl mi rfl (glo_ok F.X F.G (F.E 10 _ rfl).gl) rfl (glo_ok F.X F.G (F.E 11 _ rfl).gl)) ?_
  refine .cons (ps_knd2 (d1 := (eD "BadNumber" "BadNumber.__init__" 14 ["thing"])) (d2 := (eD "BadOrder" "BadOrder.__init__" 15 ["thing"])) rfl (.inl rfl) rfl (.inl rfl) rfl mi rfl (glo_ok F.X F.G (F.E 12 _ rfl).gl) rfl (glo_ok F.X F.G (F.E 13 _ rfl).gl)) ?_
  refine .cons (ps_knd2 (d1 := (eD "BadPairs" "BadPairs.__init__" 16 ["index"])) (d2 := (eD "BadPlace" "BadPlace.__init__" 17 ["thing"])) rfl (.inl rfl) rfl (.inl rfl) rfl mi rfl (glo_ok F.X F.G (F.E 14 _ rfl).gl) rfl (glo_ok F.X F.G (F.E 15 _ rfl).gl)) ?_
  refine .cons (ps_knd2 (d1 := (eD "BadPlan" "BadPlan.__init__" 18 ["thing"])) (d2 := (eD "BadProgram" "BadProgram.__init__" 19 ["thing"])) rfl (.inl rfl) rfl (.inl rfl) rfl mi rfl (glo_ok F.X F.G (F.E 16 _ rfl).gl) rfl (glo_ok F.X F.G (F.E 17 _ rfl).gl)) ?_
  exact .nil (pss_one (ps_ret (pe_var (i := 1) rfl (.inl rfl))))
theorem sc_law_kinds_b : FnScope ["e", "found"] ["e"] (C8.fnScope (top 53)) := ⟨rfl, rfl, rfl, by decide +kernel, rfl, by decide +kernel, by decide +kernel⟩
theorem ok_law_kinds_b (F : Fx P K mg h) (mi : mg "isinstance" = none) (Fn : C8.Fun K "_law_kinds_b" "_law_kinds_b" (top 53) f fd) : FnOk P w K mg base C8.CX0 (k + 1) f fd ["e"] (spKinds K ((es.drop 18).take 18)) := by
  refine ok_kinds (ds := [[es.getD 18 (eD "" "" 0 []), es.getD 19 (eD "" "" 0 [])], [es.getD 20 (eD "" "" 0 []), es.getD 21 (eD "" "" 0 [])], [es.getD 22 (eD "" "" 0 []), es.getD 23 (eD "" "" 0 [])], [es.getD 24 (eD "" "" 0 []), es.getD 25 (eD "" "" 0 [])], [es.getD 26 (eD "" "" 0 []), es.getD 27 (eD "" "" 0 [])], [es.getD 28 (eD "" "" 0 []), es.getD 29 (eD "" "" 0 [])], [es.getD 30 (eD "" "" 0 []), es.getD 31 (eD "" "" 0 [])], [es.getD 32 (eD "" "" 0 []), es.getD 33 (eD "" "" 0 [])], [es.getD 34 (eD "" "" 0 []), es.getD 35 (eD "" "" 0 [])]]) Fn sc_law_kinds_b rfl (by decide) rfl (fun _ _ _ _ _ _ => rfl) fun cdv A outer s H E => ?_
  refine .cons (ps_knd2 (d1 := (eD "BadQuestion" "BadQuestion.__init__" 20 ["thing"])) (d2 := (eD "BadReads" "BadReads.__init__" 21 ["index"])) rfl (.inl rfl) rfl (.inl rfl) rfl mi rfl (glo_ok F.X F.G (F.E 18 _ rfl).gl) rfl (glo_ok F.X F.G (F.E 19 _ rfl).gl)) ?_
  refine .cons (ps_knd2 (d1 := (eD "BadRow" "BadRow.__init__" 22 ["index"])) (d2 := (eD "BadRows" "BadRows.__init__" 23 ["index"])) rfl (.inl rfl) rfl (.inl rfl) rfl mi rfl (glo_ok F.X F.G (F.E 20 _ rfl).gl) rfl (glo_ok F.X F.G (F.E 21 _ rfl).gl)) ?_
  refine .cons (ps_knd2 (d1 := (eD "BadSeen" "BadSeen.__init__" 24 ["index"])) (d2 := (eD "BadSession" "BadSession.__init__" 25 ["thing"])) rfl (.inl rfl) rfl (.inl rfl) rfl mi rfl (glo_ok F.X F.G (F.E 22 _ rfl).gl) rfl (glo_ok F.X F.G (F.E 23 _ rfl).gl)) ?_
  refine .cons (ps_knd2 (d1 := (eD "BadSome" "BadSome.__init__" 26 ["index"])) (d2 := (eD "BadSource" "BadSource.__init__" 27 ["thing"])) rfl (.inl rfl) rfl (.inl rfl) rfl mi rfl (glo_ok F.X F.G (F.E 24 _ rfl).gl) rfl (glo_ok F.X F.G (F.E 25 _ rfl).gl)) ?_
  refine .cons (ps_knd2 (d1 := (eD "BadSpots" "BadSpots.__init__" 28 ["index"])) (d2 := (eD "BadTeller" "BadTeller.__init__" 29 ["thing"])) rfl (.inl rfl) rfl (.inl rfl) rfl mi rfl (glo_ok F.X F.G (F.E 26 _ rfl).gl) rfl (glo_ok F.X F.G (F.E 27 _ rfl).gl)) ?_
  refine .cons (ps_knd2 (d1 := (eD "BadTells" "BadTells.__init__" 30 ["index"])) (d2 := (eD "BadText" "BadText.__init__" 31 ["line", "sign"])) rfl (.inl rfl) rfl (.inl rfl) rfl mi rfl (glo_ok F.X F.G (F.E 28 _ rfl).gl) rfl (glo_ok F.X F.G (F.E 29 _ rfl).gl)) ?_
  refine .cons (ps_knd2 (d1 := (eD "InUse" "InUse.__init__" 32 ["question"])) (d2 := (eD "IsWatched" "IsWatched.__init__" 33 ["question"])) rfl (.inl rfl) rfl (.inl rfl) rfl mi rfl (glo_ok F.X F.G (F.E 30 _ rfl).gl) rfl (glo_ok F.X F.G (F.E 31 _ rfl).gl)) ?_
  refine .cons (ps_knd2 (d1 := (eD "NoCell" "NoCell.__init__" 34 ["thing"])) (d2 := (eD "NoCount" "NoCount.__init__" 35 ["thing"])) rfl (.inl rfl) rfl (.inl rfl) rfl mi rfl (glo_ok F.X F.G (F.E 32 _ rfl).gl) rfl (glo_ok F.X F.G (F.E 33 _ rfl).gl)) ?_
  refine .cons (ps_knd2 (d1 := (eD "NoHour" "NoHour.__init__" 36 ["hour"])) (d2 := (eD "NoLine" "NoLine.__init__" 37 ["thing"])) rfl (.inl rfl) rfl (.inl rfl) rfl mi rfl (glo_ok F.X F.G (F.E 34 _ rfl).gl) rfl (glo_ok F.X F.G (F.E 35 _ rfl).gl)) ?_
  exact .nil (pss_one (ps_ret (pe_var (i := 1) rfl (.inl rfl))))
theorem sc_law_kinds_c : FnScope ["e", "found"] ["e"] (C8.fnScope (top 54)) := ⟨rfl, rfl, rfl, by decide +kernel, rfl, by decide +kernel, by decide +kernel⟩
theorem ok_law_kinds_c (F : Fx P K mg h) (mi : mg "isinstance" = none) (Fn : C8.Fun K "_law_kinds_c" "_law_kinds_c" (top 54) f fd) : FnOk P w K mg base C8.CX0 (k + 1) f fd ["e"] (spKinds K ((es.drop 36).take 7)) := by
  refine ok_kinds (ds := [[es.getD 36 (eD "" "" 0 []), es.getD 37 (eD "" "" 0 [])], [es.getD 38 (eD "" "" 0 []), es.getD 39 (eD "" "" 0 [])], [es.getD 40 (eD "" "" 0 []), es.getD 41 (eD "" "" 0 [])], [es.getD 42 (eD "" "" 0 [])]]) Fn sc_law_kinds_c rfl (by decide) rfl (fun _ _ _ _ _ _ => rfl) fun cdv A outer s H E => ?_
  refine .cons (ps_knd2 (d1 := (eD "NoSpot" "NoSpot.__init__" 38 ["hour", "slot"])) (d2 := (eD "NoText" "NoText.__init__" 39 ["index"])) rfl (.inl rfl) rfl (.inl rfl) rfl mi rfl (glo_ok F.X F.G (F.E 36 _ rfl).gl) rfl (glo_ok F.X F.G (F.E 37 _ rfl).gl)) ?_
  refine .cons (ps_knd2 (d1 := (eD "NoThing" "NoThing.__init__" 40 ["thing"])) (d2 := (eD "NoTold" "NoTold.__init__" 41 ["thing"])) rfl (.inl rfl) rfl (.inl rfl) rfl mi rfl (glo_ok F.X F.G (F.E 38 _ rfl).gl) rfl (glo_ok F.X F.G (F.E 39 _ rfl).gl)) ?_
  refine .cons (ps_knd2 (d1 := (eD "NotSound" "NotSound.__init__" 42 ["fault"])) (d2 := (eD "NotWatched" "NotWatched.__init__" 43 ["question"])) rfl (.inl rfl) rfl (.inl rfl) rfl mi rfl (glo_ok F.X F.G (F.E 40 _ rfl).gl) rfl (glo_ok F.X F.G (F.E 41 _ rfl).gl)) ?_
  refine .cons (ps_knd1 (d1 := (eD "WouldChange" "WouldChange.__init__" 44 ["question", "why"])) rfl (.inl rfl) rfl (.inl rfl) rfl mi rfl (glo_ok F.X F.G (F.E 42 _ rfl).gl)) ?_
  exact .nil (pss_one (ps_ret (pe_var (i := 1) rfl (.inl rfl))))
end
end K00
set_option maxHeartbeats 4000000
namespace K00
open PySem PySem.W PySem.Calls PySem.Spec PyProof.Rows L2 He My LamX
abbrev dsA : List ErrD := (es.drop 0).take 18
abbrev dsB : List ErrD := (es.drop 18).take 18
abbrev dsC : List ErrD := (es.drop 36).take 7
theorem es_parts : (dsA ++ dsB) ++ dsC = es := rfl
section
variable {P : Program} {w : World} {K : Frag} {mg : Str → Option Value} {base h : Heap} {f : Addr} {fd : FuncData} {k : Nat}
theorem sc_kinds : FnScope ["e"] ["e"] (C8.fnScope (top 55)) := ⟨rfl, rfl, rfl, by decide +kernel, rfl, by decide +kernel, by decide +kernel⟩
theorem ok_law_kinds (Ca : C8.Cal P w K mg base k "_law_kinds_a" (spKinds K dsA) []) (Cb : C8.Cal P w K mg base k "_law_kinds_b" (spKinds K dsB) []) (Cc : C8.Cal P w K mg base k "_law_kinds_c" (spKinds K dsC) []) (Fn : C8.Fun K "_law_kinds" "_law_kinds" (top 55) f fd) :
    FnOk P w K mg base C8.CX0 (k + 1) f fd ["e"] (spKinds K es) := by
  refine C8.fn0 Fn sc_kinds (fun vs H Q E ⟨a, C, b, e, _⟩ => by rw [e]; rfl) fun cdv A outer s H vs Q E hr ⟨a, C, b, ev, h2, h3, h4, q⟩ => ?_
  subst ev
  refine ⟨_, pss_one (ps_ret (pe_op op_cat (pe_op op_cat (C8.pe_c Ca hr (Nat.le_refl _) rfl (pa_cons (pe_var (i := 0) rfl (.inl rfl)) pa_nil)) (C8.pe_c Cb hr (Nat.le_refl _) rfl (pa_cons (pe_var (i := 0) rfl (.inl rfl)) pa_nil)))
    (C8.pe_c Cc hr (Nat.le_refl _) rfl (pa_cons (pe_var (i := 0) rfl (.inl rfl)) pa_nil)))), ?_⟩
  have mem : ∀ {n m : Nat} {d : ErrD}, d ∈ (es.drop n).take m → d ∈ es := fun {n m d} z => List.mem_of_mem_drop (List.mem_of_mem_take z)
  refine ⟨_, rfl, a, C, b, rfl, h2, h3, fun d hd => h4 d (mem hd), fun la H1 e1 n1 k1 => ⟨_, rfl, a, C, b, rfl, h2.kept e1.n, h3, fun d hd => h4 d (mem hd), fun lb H2 e2 n2 k2 => ?_⟩⟩
  refine ⟨la, lb, _, _, rfl, rfl, e2 _ _ k1, k2, (by show 36 ≤ sizeLine; decide), fun p hp => ?_⟩
  refine ⟨_, rfl, a, C, b, rfl, (h2.kept (e1.trans e2).n).kept (kept_upd hp).n, h3, fun d hd => h4 d (mem hd), fun lc H3 e3 n3 k3 => ?_⟩
  have e4 := (kept_upd (o := HO.lst (List.map (fun d => V.bl (b d)) dsA ++ List.map (fun d => V.bl (b d)) dsB)) hp).trans e3
  refine ⟨p, lc, _, _, rfl, rfl, e3 _ _ upd_same, k3, (by show 43 ≤ sizeLine; decide), fun p2 hp2 => ?_⟩
  refine q p2 _ (((e1.trans e2).trans e4).trans (kept_upd hp2)) (((e1.trans e2).trans e4).none hp2) ?_
  rw [upd_same, ← List.map_append, ← List.map_append, es_parts]
end
end K00
set_option maxHeartbeats 4000000
namespace K00
open PySem PySem.W PySem.Calls PySem.Spec PyProof.Rows L2 He My LamX
theorem boolsD {K : Frag} {H : Hp} : ∀ bs : List Bool, DpAll K H (bs.map V.bl) (bs.map PyData.bool)
  | [] => .nil
  | b :: r => .cons (.bl b) (boolsD r)
theorem boolsL : ∀ bs : List Bool, PyData.canLayAll0 (bs.map PyData.bool) = true
  | [] => rfl
  | b :: r => by
    show (PyData.canLay0 (.bool b) && PyData.canLayAll0 (r.map PyData.bool)) = true
    rw [boolsL r]
    rfl
theorem boolsN : ∀ bs : List Bool, PyData.depthAll (bs.map PyData.bool) = 0
  | [] => rfl
  | b :: r => by
    show max (PyData.depth (.bool b)) (PyData.depthAll (r.map PyData.bool)) = 0
    rw [boolsN r]
    rfl
theorem boolsS (bs : List Bool) : SeqAt.shaped (.list (bs.map PyData.bool)) = true := by
  unfold SeqAt.shaped
  have h1 : PyData.canLay0 (.list (bs.map PyData.bool)) = true := boolsL bs
  have h2 : PyData.depth (.list (bs.map PyData.bool)) = 1 := by
    show PyData.depthAll (bs.map PyData.bool) + 1 = 1
    rw [boolsN]
  rw [h1, h2]
  rfl
section
variable {P : Program} {w : World} {K : Frag} {mg : Str → Option Value} {base h : Heap} {f : Addr} {fd : FuncData} {k : Nat}
/-- an error told to be the n-th of the kinds -/
def spIsOwn (K : Frag) : Sp := fun vs H Q _ => ∃ a C, ∃ (n : Nat) (b : ErrD → Bool), vs = [.ref a, .int n] ∧ AnyErr H a C ∧ ExcC K C ∧ (∀ d ∈ es, kitOne K (.ref C) (.ref (d.C K)) = some (b d)) ∧ es.map b = (List.range 43).map (fun k => decide (k = n)) ∧
  kitOne K (.ref C) (.ref (S K)) = some true ∧ kitOne K (.ref C) (.type "ValueError") = some true ∧ kitOne K (.ref C) (.type "LookupError") = some false ∧ ∀ H', Kept H H' → Q (.bl true) H'
theorem sc_own : FnScope ["e", "at", "k"] ["e", "at"] (C8.fnScope (top 56)) := ⟨rfl, rfl, rfl, by decide +kernel, rfl, by decide +kernel, by decide +kernel⟩
theorem boot_VE : bootBuiltins "ValueError" = some (.type "ValueError") := by decide +kernel
theorem boot_LE : bootBuiltins "LookupError" = some (.type "LookupError") := by decide +kernel
theorem ok_is_own (Ck : C8.Cal P w K mg base k "_law_kinds" (spKinds K es) []) (mi : mg "isinstance" = none) (mr : mg "range" = none) (mS : mg "SlotError" = some (.ref (S K))) (mV : mg "ValueError" = none) (mL : mg "LookupError" = none) (Fn : C8.Fun K "_law_is_own" "_law_is_own" (top 56) f fd) :
    FnOk P w K mg base C8.CX0 (k + 1) f fd ["e", "at"] (spIsOwn K) := by
  refine C8.fn0 Fn sc_own (fun vs H Q E ⟨a, C, n, b, e, _⟩ => by rw [e]; rfl) fun cdv A outer s H vs Q E hr ⟨a, C, n, b, ev, h2, h3, h4, h5, k1, k2, k3, q⟩ => ?_
  subst ev
  refine ⟨_, pss_cons (ps_if (PW.pt (pw_or (pt_not (pt_val (pe_isA (i := 0) rfl mi rfl (.inl rfl) rfl mS))) (pw_or (pt_not (pt_val (pe_isAT (i := 0) rfl mi rfl (.inl rfl) rfl mV boot_VE))) (pw_or1 (pt_val (pe_isAT (i := 0) rfl mi rfl (.inl rfl) rfl mL boot_LE)))))) (pss_one (ps_ret pe_bl)) pss_nil)
    (pss_one (ps_ret (pe_cmpR (op_eqD ?hu) (C8.pe_c Ck hr (Nat.le_refl _) rfl (pa_cons (pe_var (i := 0) rfl (.inl rfl)) pa_nil))
      (pe_lc (own := [("k", 2)]) rfl sc_own.nd (pi_range1 rfl mr (pa_cons pe_int pa_nil)) (blkOk_by (by show blkC ["e", "at", "k"] (C8.fnScope (top 56)) _ _ = true; decide +kernel)) (fun _ _ _ _ _ => pg_name (i := 2) sc_own.nd rfl (.inl rfl) (.inr rfl)) (fun _ _ _ _ _ => pts_nil)
        (fun _ _ _ _ _ => pe_cmpR op_eq (pe_var (i := 2) rfl (.inl rfl)) (pe_var (i := 1) rfl (by first | exact .inl rfl | exact .inr (.inl rfl) | exact .inr (.inr rfl))) (nomark _))) (nomark _)))), ?_⟩
  case hu =>
    have h0 := hr.un
    have h1 : (A.deeper (envOfC "_law_is_own" (C8.fnScope (top 56)) s.heap.objs.size f cdv)).units + 64 < cLine := by omega
    exact h1
  refine ⟨a, C, _, true, rfl, h2, h3, .own _, k1, true, rfl, ?_⟩
  simp only [Bool.not_true, Bool.false_eq_true, if_false]
  refine ⟨a, C, _, true, rfl, h2, h3, .ty _, k2, true, rfl, ?_⟩
  simp only [Bool.not_true, Bool.false_eq_true, if_false]
  refine ⟨a, C, _, false, rfl, h2, h3, .ty _, k3, false, rfl, ?_⟩
  simp only [Bool.false_eq_true, if_false]
  refine ⟨_, rfl, a, C, b, rfl, h2, h3, h4, fun l H1 e1 n1 hl => ⟨43, rfl, by decide, by decide, fun D hD => ?_⟩⟩
  refine lc_range (n := 43) (fun i H' => Kept H1 H' ∧ H1 D = none ∧ H' D = some (.lst ((List.range i).map fun k => V.bl (decide (k = n))))) ⟨kept_upd hD, hD, by rw [upd_same]; rfl⟩ (fun i H' hi ⟨p1, p2, p3⟩ => ?_) (fun H' ⟨p1, p2, p3⟩ => ?_)
  · refine ⟨rfl, ?_⟩
    show tOp rEq (tVar 2) (tVar 1) _ H' _
    refine ⟨_, rfl, _, rfl, rfl, _, p3, Nat.lt_of_le_of_lt (show _ ≤ 43 by rw [List.length_map, List.length_range]; omega) (by decide), fun c o hc => ?_, p2, ?_⟩
    · have nb : c ≠ D := ne_of_none hc p2
      rw [upd_ne nb]
      exact p1 c o hc
    · rw [upd_same, List.range_succ, List.map_append]
      have e : decide (V.int (0 + (i : Int)) = V.int (n : Int)) = decide (i = n) := by
        rw [decide_eq_decide]
        constructor
        · intro z
          have : (0 : Int) + (i : Int) = n := V.int.inj z
          omega
        · intro z
          rw [z]
          simp
      rw [e]
      rfl
  · refine ⟨.list ((es.map b).map PyData.bool), .list ((es.map b).map PyData.bool), ?_, ?_, boolsS _, boolsS _, ?_⟩
    · refine .lst (.inl (.inl ?_)) (boolsD _)
      rw [p1 _ _ hl, List.map_map]
      rfl
    · refine .lst (.inl (.inl ?_)) (boolsD _)
      rw [p3, h5, List.map_map]
      rfl
    · rw [SeqAt.eqv_refl _ (SeqAt.canLay_of_shaped (boolsS _))]
      exact q H' (e1.trans p1)
end
end K00
set_option maxHeartbeats 4000000
/-! law_k00: one draw. -/
namespace K00
open PySem PySem.W PySem.Calls PySem.Spec PyProof.Rows L2
open Dw (StrI spS Stp DqA Dq)
def preD : List PyData → Prop := fun ds => ∃ n : Int, ds = [.int n] ∧ 1 ≤ n ∧ n ≤ 1000000
def postD : List PyData → PyData → Prop := fun ds d => ∃ n j : Int, ds = [.int n] ∧ d = .int j ∧ 0 ≤ j ∧ j < n
theorem sc_draw : FnScope ["stream", "many", "cell", "digit", "mixed"] ["stream", "many"] (C8.fnScope (top 47)) := ⟨rfl, rfl, rfl, by decide +kernel, rfl, by decide +kernel, by decide +kernel⟩
/-- what stands while one draws -/
structure Dr (H0 : Hp) (a s : Addr) (m : Nat) (big mix : Int) (cells : List Int) (H : Hp) : Prop where
  keep : ∀ b o, b ≠ a → b ≠ s → H0 b = some o → H b = some o
  ne : a ≠ s
  ha : H a = some (.lst [.ref s, .int big, .int m, .int mix])
  hs : H s = some (.lst (cells.map V.int))
  b0 : 0 ≤ big
  m0 : 0 ≤ mix
  m1 : mix < 2147483647
theorem intsD {K : Frag} {H : Hp} : ∀ bs : List Int, DpAll K H (bs.map V.int) (bs.map PyData.int)
  | [] => .nil
  | b :: r => .cons (.int b) (intsD r)
theorem intsL : ∀ bs : List Int, PyData.canLayAll0 (bs.map PyData.int) = true
  | [] => rfl
  | b :: r => by
    show (PyData.canLay0 (.int b) && PyData.canLayAll0 (r.map PyData.int)) = true
    rw [intsL r]
    rfl
theorem intsN : ∀ bs : List Int, PyData.depthAll (bs.map PyData.int) = 0
  | [] => rfl
  | b :: r => by
    show max (PyData.depth (.int b)) (PyData.depthAll (r.map PyData.int)) = 0
    rw [intsN r]
    rfl
theorem intsS (bs : List Int) : SeqAt.shaped (.list (bs.map PyData.int)) = true := by
  unfold SeqAt.shaped
  have h1 : PyData.canLay0 (.list (bs.map PyData.int)) = true := intsL bs
  have h2 : PyData.depth (.list (bs.map PyData.int)) = 1 := by
    show PyData.depthAll (bs.map PyData.int) + 1 = 1
    rw [intsN]
  rw [h1, h2]
  rfl
section
variable {P : Program} {w : World} {K : Frag} {mg : Str → Option Value} {base : Heap} {f : Addr} {fd : FuncData} {k : Nat}
theorem ok_draw (mi : mg "int" = none) (Fn : C8.Fun K "_law_draw" "_law_draw" (top 47) f fd) :
    FnOk P w K mg base C8.CX0 (k + 1) f fd ["stream", "many"] (spS 1 preD postD fun _ => 1) := by
  refine C8.fn0 Fn sc_draw (fun vs H Q E ⟨a, s, us, C, ds, m, e, _, _, _, _, aa, hl, _⟩ => by rw [e, List.length_cons, aa.length, hl]; rfl) fun cdv A outer s0 H vs Q E hr ⟨a, s, us, C, ds, m, ev, hC, ca, cs, si, aa, hl, ⟨n, en, n1, n2⟩, hm, q⟩ => ?_
  subst ev en
  have hu : us = [.int n] := by
    cases aa with
    | cons h1 h2 =>
      cases h2
      cases h1
      rfl
  subst hu
  have hu : (A.deeper (envOfC "_law_draw" (C8.fnScope (top 47)) s0.heap.objs.size f cdv)).units + 64 < cLine := by
    have h0 := hr.un
    omega
  obtain ⟨hne, big, mix, cells, ha, hs, hb0, hm0, hm1⟩ := si
  have nmod : ∀ x : Int, 0 ≤ x.fmod n ∧ x.fmod n < n := fun x => ⟨Int.fmod_nonneg_of_pos x (by omega), Int.fmod_lt_of_pos x (by omega)⟩
  -- from a heap in which one has drawn
  have fin : ∀ (H2 : Hp) (big mix : Int) (cells : List Int) (j : Int), Dr H a s (m + 1) big mix cells H2 → 0 ≤ j → j < n → Q (.int j) H2 := fun H2 big mix cells j d j0 j1 => by
    refine q (.int j) C H2 (.int j) (m + 1) ⟨n, j, rfl, rfl, j0, j1⟩ (Nat.le_refl _) ⟨Dw.Ex.refl C, fun b o h hb => ?_, fun b o h => ?_, fun b o h => .inl h, fun b hb _ => ?_⟩ ⟨d.ne, big, mix, cells, d.ha, d.hs, d.b0, d.m0, d.m1⟩ (.int j)
    · simp at hb
      exact d.keep b o hb.1 hb.2 h
    · have nb : b ≠ a := fun z => by rw [z, ca] at h; cases h
      have nb2 : b ≠ s := fun z => by rw [z, cs] at h; cases h
      exact d.keep b o nb nb2 (hC b o h)
    · simp at hb
      rcases hb with rfl | rfl
      · exact ⟨_, d.ha⟩
      · exact ⟨_, d.hs⟩
  have rest : ∃ tR, PSs (cxOf C8.CX0 P w K mg base ["stream", "many", "cell", "digit", "mixed"] "_law_draw" (C8.fnScope (top 47)) f cdv A outer s0 H E).nox ((C8.fnBody (top 47)).drop 2) tR ∧
      ∀ (σ : L2.St) (H2 : Hp) (big mix : Int) (cells : List Int), Dr H a s (m + 1) big mix cells H2 → σ[0]? = some (some (V.ref a)) → σ[1]? = some (some (V.int n)) → σ.length = 5 → tR { nx := fun _ H' => Q .non H', rt := Q } σ H2 := by
    refine ⟨_, pss_cons (ps_if (pt_cmpR op_gt (pe_ix ix_list (pe_var (i := 0) rfl (.inl rfl)) pe_int (fun _ _ => rfl)) pe_int (nomark _))
          (pss_cons (ps_set (i := 3) sc_draw.nd rfl (.inl rfl) (pe_op op_modN (pe_callTy call_int1 rfl mi boot_int (pa_cons (pe_ix ix_list (pe_var (i := 0) rfl (.inl rfl)) pe_int (fun _ _ => rfl)) pa_nil)) (pe_var (i := 1) rfl (.inl rfl))))
            (pss_cons (ps_asg (pe_op op_fdivN (pe_ix ix_list (pe_var (i := 0) rfl (.inl rfl)) pe_int (fun _ _ => rfl)) (pe_var (i := 1) rfl (.inl rfl))) (pg_sub (pe_var (i := 0) rfl (.inl rfl)) pe_int set_list)) (pss_one (ps_ret (pe_var (i := 3) rfl (.inl rfl)))))) pss_nil)
        (pss_cons (ps_set (i := 4) sc_draw.nd rfl (.inl rfl) (pe_op op_modN (pe_callTy call_int1 rfl mi boot_int (pa_cons (pe_op op_pow (pe_op op_add (pe_op op_add (pe_ix ix_list (pe_var (i := 0) rfl (.inl rfl)) pe_int (fun _ _ => rfl)) (pe_op op_mul pe_int (pe_ix ix_list (pe_var (i := 0) rfl (.inl rfl)) pe_int (fun _ _ => rfl)))) pe_int) pe_int) pa_nil)) pe_int))
          (pss_one (ps_ret (pe_op op_modN (pe_op op_modN (pe_callTy call_int1 rfl mi boot_int (pa_cons (pe_op op_pow (pe_op op_add (pe_op op_add (pe_op op_mul (pe_var (i := 4) rfl (.inl rfl)) pe_int) (pe_op op_mul pe_int (pe_ix ix_list (pe_var (i := 0) rfl (.inl rfl)) pe_int (fun _ _ => rfl)))) pe_int) pe_int) pa_nil)) pe_int) (pe_var (i := 1) rfl (.inl rfl)))))), fun σ H2 big mix cells d g0 g1 gl => ?_⟩
    have hn0 : n ≠ 0 := by omega
    refine ⟨_, g0, a, _, 1, _, rfl, rfl, SqL.of d.ha, rfl, _, _, rfl, rfl, _, rfl, ite2 (fun c => ?_) (fun c => ?_)⟩
    · refine ⟨_, g0, a, _, 1, _, rfl, rfl, SqL.of d.ha, rfl, .inl ⟨_, rfl, _, g1, _, _, rfl, rfl, hn0, ?_⟩⟩
      show gName 3 _ σ _ _
      unfold gName
      have u0 : (σ.set 3 (some (V.int (big.fmod n))))[0]? = some (some (V.ref a)) := by rw [List.getElem?_set_ne (by decide)]; exact g0
      have u1 : (σ.set 3 (some (V.int (big.fmod n))))[1]? = some (some (V.int n)) := by rw [List.getElem?_set_ne (by decide)]; exact g1
      have u3 : (σ.set 3 (some (V.int (big.fmod n))))[3]? = some (some (V.int (big.fmod n))) := by rw [List.getElem?_set_self (by omega)]
      refine ⟨_, u0, a, _, 1, _, rfl, rfl, SqL.of d.ha, rfl, _, u1, _, _, rfl, rfl, ⟨hn0, by omega⟩, _, u0, a, _, 1, 1, rfl, rfl, d.ha, rfl, _, u3, ?_⟩
      refine fin _ (big.fdiv n) mix cells _ ⟨fun b o h1 h2 h => by rw [upd_ne h1]; exact d.keep b o h1 h2 h, d.ne, by rw [upd_same]; rfl, by rw [upd_ne (Ne.symm d.ne)]; exact d.hs, Int.fdiv_nonneg d.b0 (by omega), d.m0, d.m1⟩ (nmod _).1 (nmod _).2
    · have hm' : (0 : Int) ≤ ((m + 1 : Nat) : Int) ∧ ((m + 1 : Nat) : Int) ≤ 281474976710656 := by
        have : m + 1 ≤ 281474976710656 := hm
        omega
      have hx1 := d.m0
      have hx2 := d.m1
      refine ⟨_, g0, a, _, 3, _, rfl, rfl, SqL.of d.ha, rfl, _, g0, a, _, 2, _, rfl, rfl, SqL.of d.ha, rfl, _, _, rfl, rfl, .inl ⟨by decide, by decide⟩, _, _, rfl, rfl, _, _, rfl, rfl, _, _, rfl, rfl, ⟨by decide, by decide, ?_⟩, .inl ⟨_, rfl, _, _, rfl, rfl, (by show (2147483629 : Int) ≠ 0; decide), ?_⟩⟩
      · show (mix + 7919 * ((m + 1 : Nat) : Int) + 104729).natAbs < 2 ^ 64
        omega
      show gName 4 (V.int (((mix + 7919 * ((m + 1 : Nat) : Int) + 104729) ^ (5 : Int).toNat).fmod 2147483629)) σ _ _
      unfold gName
      generalize hmx : ((mix + 7919 * ((m + 1 : Nat) : Int) + 104729) ^ (5 : Int).toNat).fmod 2147483629 = mx
      have mx0 : 0 ≤ mx ∧ mx < 2147483629 := by rw [← hmx]; exact ⟨Int.fmod_nonneg_of_pos _ (by decide), Int.fmod_lt_of_pos _ (by decide)⟩
      have u0 : (σ.set 4 (some (V.int mx)))[0]? = some (some (V.ref a)) := by rw [List.getElem?_set_ne (by decide)]; exact g0
      have u1 : (σ.set 4 (some (V.int mx)))[1]? = some (some (V.int n)) := by rw [List.getElem?_set_ne (by decide)]; exact g1
      have u4 : (σ.set 4 (some (V.int mx)))[4]? = some (some (V.int mx)) := by rw [List.getElem?_set_self (by omega)]
      refine ⟨_, u4, _, _, rfl, rfl, .inr ⟨by decide, by decide⟩, _, u0, a, _, 2, _, rfl, rfl, SqL.of d.ha, rfl, _, _, rfl, rfl, .inl ⟨by decide, by decide⟩, _, _, rfl, rfl, _, _, rfl, rfl, _, _, rfl, rfl, ⟨by decide, by decide, ?_⟩, .inl ⟨_, rfl, _, _, rfl, rfl, (by show (1000000007 : Int) ≠ 0; decide), _, u1, _, _, rfl, rfl, hn0, ?_⟩⟩
      · show (mx * 48271 + 30011 * ((m + 1 : Nat) : Int) + 29).natAbs < 2 ^ 64
        omega
      exact fin _ big mix cells _ d (nmod _).1 (nmod _).2
  obtain ⟨tR, pR, hR⟩ := rest
  refine ⟨_, pss_cons (ps_asg (pe_op op_add (pe_ix ix_list (pe_var (i := 0) rfl (.inl rfl)) pe_int (fun _ _ => rfl)) pe_int) (pg_sub (pe_var (i := 0) rfl (.inl rfl)) pe_int set_list))
    (pss_cons (ps_while PassesOwn.never (PW.pt (pw_and (pt_cmpR op_eq (pe_ix ix_list (pe_var (i := 0) rfl (.inl rfl)) pe_int (fun _ _ => rfl)) pe_int (nomark _)) (pw_and1 (pt_cmpR (op_neD hu) (pe_ix ix_list (pe_var (i := 0) rfl (.inl rfl)) pe_int (fun _ _ => rfl)) (pe_lst pa_nil) (nomark _)))))
      (pss_cons (ps_set (i := 2) sc_draw.nd rfl (.inl rfl) (pe_bm PySem.F.plainAttrs_list PySem.F.slot_list_pop PySem.F.type_list_pop mt_popAt (pe_ix ix_list (pe_var (i := 0) rfl (.inl rfl)) pe_int (fun _ _ => rfl)) (pa_cons pe_int pa_nil)))
        (pss_cons (ps_asg (pe_op op_modN (pe_callTy call_int1 rfl mi boot_int (pa_cons (pe_op op_add (pe_op op_add (pe_op op_mul (pe_ix ix_list (pe_var (i := 0) rfl (.inl rfl)) pe_int (fun _ _ => rfl)) pe_int) (pe_var (i := 2) rfl (.inl rfl))) pe_int) pa_nil)) pe_int) (pg_sub (pe_var (i := 0) rfl (.inl rfl)) pe_int set_list))
          (pss_one (ps_asg (pe_ifExp (pt_cmpR op_ge (pe_var (i := 2) rfl (.inl rfl)) (pe_op op_pow pe_int pe_int) (nomark _)) (pe_var (i := 2) rfl (.inl rfl)) pe_int) (pg_sub (pe_var (i := 0) rfl (.inl rfl)) pe_int set_list)))))) pR), ?_⟩
  refine ⟨_, rfl, a, _, 2, _, rfl, rfl, SqL.of ha, rfl, _, _, rfl, rfl, _, rfl, a, _, 2, 2, rfl, rfl, ha, rfl, ?_⟩
  have d1 : Dr H a s (m + 1) big mix cells (upd H a (.lst [.ref s, .int big, .int ((m : Int) + 1), .int mix])) := ⟨fun b o h1 h2 h => by rw [upd_ne h1]; exact h, hne, by rw [upd_same]; rfl, by rw [upd_ne (Ne.symm hne)]; exact hs, hb0, hm0, hm1⟩
  refine ⟨fun μ σ H' => ∃ big mix cells, μ = cells.length ∧ Dr H a s (m + 1) big mix cells H' ∧ σ[0]? = some (some (V.ref a)) ∧ σ[1]? = some (some (V.int n)) ∧ σ.length = 5, ⟨_, big, mix, cells, rfl, d1, rfl, rfl, rfl⟩, ?_⟩
  clear d1 hb0 hm0 hm1 ha hs big mix cells
  rintro μ σ H1 ⟨big, mix, cells, rfl, d, g0, g1, gl⟩
  refine ⟨_, g0, a, _, 1, _, rfl, rfl, SqL.of d.ha, rfl, rfl, _, rfl, ?_⟩
  refine ite2 (fun c => ?_) (fun c => ?_)
  · have hb : big = 0 := V.int.inj (of_decide_eq_true c)
    subst hb
    refine ⟨_, g0, a, _, 0, _, rfl, rfl, SqL.of d.ha, rfl, Nat.zero_le _, fun p hp => ?_⟩
    have pa : a ≠ p := ne_of_none d.ha hp
    have ps : s ≠ p := ne_of_none d.hs hp
    have d2 : Dr H a s (m + 1) 0 mix cells (upd H1 p (.lst [])) := ⟨fun b o h1 h2 h => Dw.Ex.new hp b o (d.keep b o h1 h2 h), d.ne, by rw [upd_ne pa]; exact d.ha, by rw [upd_ne ps]; exact d.hs, d.b0, d.m0, d.m1⟩
    refine ⟨.list (cells.map PyData.int), .list [], .lst (.inl (.inl d2.hs)) (intsD _), .lst (.inl (.inl upd_same)) .nil, intsS _, by decide, _, rfl, ?_⟩
    refine ite2 (fun c2 => ?_) (fun c2 => ?_)
    · cases cells with
      | nil => exact absurd c2 (by decide)
      | cons e r =>
        refine ⟨fun σ' H' => ∃ big' mix', Dr H a s (m + 1) big' mix' r H' ∧ σ'[0]? = some (some (V.ref a)) ∧ σ'[1]? = some (some (V.int n)) ∧ σ'.length = 5, fun σ' H' ⟨big', mix', k1, k2, k3, k4⟩ => ⟨r.length, Nat.lt_succ_self _, big', mix', r, rfl, k1, k2, k3, k4⟩, ?_⟩
        have seq : seqIndex? 0 ((e :: r).map V.int).length = some 0 := (ixN_seq (n := ((e :: r).map V.int).length) (i := 0) (j := 0) (by unfold ixN; simp)).1
        refine ⟨_, g0, a, _, 0, _, rfl, rfl, SqL.of d2.ha, rfl, .inl ⟨rfl, _, SqL.of d2.hs⟩, s, _, 0, 0, .int e, rfl, rfl, d2.hs, by decide, by decide, seq, rfl, ?_⟩
        generalize hσ : σ.set 2 (some (V.int e)) = σ1
        have u0 : σ1[0]? = some (some (V.ref a)) := by rw [← hσ, List.getElem?_set_ne (by decide)]; exact g0
        have u1 : σ1[1]? = some (some (V.int n)) := by rw [← hσ, List.getElem?_set_ne (by decide)]; exact g1
        have u2 : σ1[2]? = some (some (V.int e)) := by rw [← hσ, List.getElem?_set_self (by omega)]
        have ul : σ1.length = 5 := by rw [← hσ, List.length_set]; exact gl
        have a3 : (upd (upd H1 p (.lst [])) s (.lst (((e :: r).map V.int).eraseIdx 0))) a = some (.lst [.ref s, .int 0, .int (m + 1 : Nat), .int mix]) := by
          rw [upd_ne d.ne]
          exact d2.ha
        show gName 2 (.int e) σ _ _
        unfold gName
        rw [hσ]
        refine ⟨_, u0, a, _, 3, _, rfl, rfl, SqL.of a3, rfl, _, _, rfl, rfl, .inr ⟨by decide, by decide⟩, _, u2, _, _, rfl, rfl, _, _, rfl, rfl, .inl ⟨_, rfl, _, _, rfl, rfl, (by show (2147483647 : Int) ≠ 0; decide), _, u0, a, _, 3, 3, rfl, rfl, a3, rfl, ?_⟩⟩
        have mod := fun x : Int => (⟨Int.fmod_nonneg_of_pos x (by decide), Int.fmod_lt_of_pos x (by decide)⟩ : 0 ≤ x.fmod 2147483647 ∧ x.fmod 2147483647 < 2147483647)
        have d4 : ∀ big' : Int, 0 ≤ big' → Dr H a s (m + 1) big' ((mix * 8191 + e + 3).fmod 2147483647) r (upd (upd (upd (upd H1 p (.lst [])) s (.lst (((e :: r).map V.int).eraseIdx 0))) a (.lst ([V.ref s, .int 0, .int (m + 1 : Nat), .int mix].set 3 (.int ((mix * 8191 + e + 3).fmod 2147483647))))) a
            (.lst (([V.ref s, .int 0, .int (m + 1 : Nat), .int mix].set 3 (.int ((mix * 8191 + e + 3).fmod 2147483647))).set 1 (.int big')))) := fun big' hb =>
          ⟨fun b o h1 h2 h => by rw [upd_ne h1, upd_ne h1, upd_ne h2]; exact d2.keep b o h1 h2 h, d.ne, by rw [upd_same]; rfl, by rw [upd_ne (Ne.symm d.ne), upd_ne (Ne.symm d.ne), upd_same]; rfl, hb, (mod _).1, (mod _).2⟩
        refine ⟨_, u2, _, _, rfl, rfl, ⟨by decide, by decide, by decide⟩, _, _, rfl, rfl, _, rfl, ite2 (fun c3 => ?_) (fun c3 => ?_)⟩
        · have c4 : e ≥ 10 ^ (18 : Int).toNat := of_decide_eq_true c3
          have c5 : (0 : Int) ≤ e := Int.le_trans (by decide) c4
          exact ⟨_, u2, _, u0, a, _, 1, 1, rfl, rfl, upd_same, rfl, e, _, d4 e c5, u0, u1, ul⟩
        · exact ⟨_, u0, a, _, 1, 1, rfl, rfl, upd_same, rfl, 0, _, d4 0 (by decide), u0, u1, ul⟩
    · exact hR σ _ 0 mix cells d2 g0 g1 gl
  · exact hR σ _ big mix cells d g0 g1 gl
end
end K00
set_option maxHeartbeats 4000000
/-! law_k00: things in a drawn order. -/
namespace K00
open PySem PySem.W PySem.Calls PySem.Spec PyProof.Rows L2
open Dw (StrI spS Stp DqA Dq)
def preM : List PyData → Prop := fun ds => ∃ xs, ds = [.list xs] ∧ xs.length ≤ 1000
def postM : List PyData → PyData → Prop := fun ds d => ∃ xs ys, ds = [.list xs] ∧ d = .list ys ∧ ys.length = xs.length ∧ ∀ y ∈ ys, y ∈ xs
def costM : List PyData → Nat := fun ds => match ds with
  | [.list xs] => xs.length
  | _ => 0
theorem sc_mixed : FnScope ["stream", "some", "left", "k"] ["stream", "some"] (C8.fnScope (top 48)) := ⟨rfl, rfl, rfl, by decide +kernel, rfl, by decide +kernel, by decide +kernel⟩
section
variable {P : Program} {w : World} {K : Frag} {mg : Str → Option Value} {base : Heap} {f : Addr} {fd : FuncData} {k : Nat}
theorem ok_mixed (Cd : C8.Cal P w K mg base k "_law_draw" (spS 1 preD postD fun _ => 1) []) (ml : mg "list" = none) (mr : mg "range" = none) (mn : mg "len" = none) (Fn : C8.Fun K "_law_mixed" "_law_mixed" (top 48) f fd) :
    FnOk P w K mg base C8.CX0 (k + 1) f fd ["stream", "some"] (spS 1 preM postM costM) := by
  refine C8.fn0 Fn sc_mixed (fun vs H Q E ⟨a, s, us, C, ds, m, e, _, _, _, _, aa, hl, _⟩ => by rw [e, List.length_cons, aa.length, hl]; rfl) fun cdv A outer s0 H vs Q E hr ⟨a, s, us, C, ds, m, ev, hC, ca, cs, si, aa, hl, ⟨xs, en, hx⟩, hm, q⟩ => ?_
  subst ev en
  obtain ⟨r, vs, hu, hr0, ax⟩ : ∃ r vs, us = [.ref r] ∧ C r = some (.lst vs) ∧ DqA C vs xs := by
    cases aa with
    | cons h1 h2 =>
      cases h2
      cases h1 with
      | lst h0 a0 => exact ⟨_, _, rfl, h0, a0⟩
  subst hu
  refine ⟨_, pss_cons (ps_set (i := 2) sc_mixed.nd rfl (.inr rfl) (pe_callTy call_list_of rfl ml boot_list (pa_cons (pe_var (i := 1) rfl (.inl rfl)) pa_nil)) rfl (.inl rfl))
    (pss_one (ps_ret (pe_lc (own := [("k", 3)]) (te := tBM K "list" rPopAt (tVar 2) (tCons (tCall (spS 1 preD postD fun _ => 1) [] C8.E0 (tCons (tVar 0) (tCons (tCB (fun xs H Q => ∃ p ys, xs = [.ref p] ∧ (SqL K H p ys ∨ SqT K H p ys) ∧ Q (.int ys.length) H) (tCons (tVar 2) tNil)) tNil))) tNil)) rfl sc_mixed.nd (pi_range1 rfl mr (pa_cons (pe_callB call_len_seq rfl mn PySem.boot_len (pa_cons (pe_var (i := 2) rfl (.inr (.inl rfl))) pa_nil)) pa_nil)) (blkOk_by (by show blkC ["stream", "some", "left", "k"] (C8.fnScope (top 48)) _ _ = true; decide +kernel))
      (fun _ _ _ _ _ => pg_name (i := 3) sc_mixed.nd rfl (.inl rfl) (.inr rfl)) (fun _ _ _ _ _ => pts_nil)
      (fun _ _ _ _ _ => pe_bm PySem.F.plainAttrs_list PySem.F.slot_list_pop PySem.F.type_list_pop mt_popAt (pe_var (i := 2) rfl (by first | exact .inl rfl | exact .inr (.inl rfl) | exact .inr (.inr rfl)))
        (pa_cons (C8.pe_c Cd hr (Nat.le_refl _) rfl (pa_cons (pe_var (i := 0) rfl (by first | exact .inl rfl | exact .inr (.inl rfl) | exact .inr (.inr rfl))) (pa_cons (pe_callB call_len_seq rfl mn PySem.boot_len (pa_cons (pe_var (i := 2) rfl (by first | exact .inl rfl | exact .inr (.inl rfl) | exact .inr (.inr rfl))) pa_nil)) pa_nil))) pa_nil))))), ?_⟩
  have hra : r ≠ a := fun z => by rw [z, ca] at hr0; cases hr0
  refine ⟨_, rfl, r, vs, rfl, .inl (SqL.of (hC _ _ hr0)), fun L hL => ?_⟩
  refine ⟨_, rfl, L, vs, rfl, .inl (SqL.of upd_same), ?_⟩
  have lv := ax.length
  refine ⟨_, rfl, by omega, by omega, fun D hD => ?_⟩
  have hDL : D ≠ L := fun z => by rw [z, upd_same] at hD; cases hD
  have hD0 : H D = none := by rw [upd_ne hDL] at hD; exact hD
  have na : ∀ {b : Addr}, H b = none → b ≠ a ∧ b ≠ s := fun {b} hb => by
    obtain ⟨_, _, _, _, h1, h2, _⟩ := si
    exact ⟨fun z => (by rw [z, h1] at hb; cases hb), fun z => (by rw [z, h2] at hb; cases hb)⟩
  refine lc_range (n := ((vs.length : Int)).toNat) (fun i H' => ∃ m' acc rest ys zs, StrI a s m' H' ∧ m' ≤ m + i ∧ H' D = some (.lst acc) ∧ H' L = some (.lst rest) ∧ acc.length = i ∧ rest.length + i = vs.length ∧ DqA C acc ys ∧ DqA C rest zs ∧ (∀ y ∈ ys, y ∈ xs) ∧ (∀ y ∈ zs, y ∈ xs) ∧ (∀ b o, b ≠ a → b ≠ s → H b = some o → H' b = some o))
    ?_ (fun i H' hi h => ?_) (fun H' h => ?_)
  · refine ⟨m, [], vs, [], xs, si.stay fun b hb o h => ?_, Nat.le_refl _, upd_same, by rw [upd_ne (Ne.symm hDL), upd_same], rfl, rfl, .nil, ax, by simp, fun y hy => hy, fun b o _ _ h => ?_⟩
    · rw [upd_ne (ne_of_none h hD0), upd_ne (ne_of_none h hL)]
      exact h
    · rw [upd_ne (ne_of_none h hD0), upd_ne (ne_of_none h hL)]
      exact h
  · obtain ⟨m', acc, rest, ys, zs, si1, b1, hDa, hLr, la, lr, qa, qr, my, mz, kp⟩ := h
    have hi' : i < vs.length := by omega
    have nD := na hD0
    have nL := na hL
    refine ⟨rfl, ?_⟩
    refine ⟨_, rfl, .inl ⟨rfl, _, SqL.of hLr⟩, ?_⟩
    have cx : costM [PyData.list xs] = xs.length := rfl
    have sub1 : Dw.Ex C H' := fun b o h => kp b o (fun z => (by rw [z, ca] at h; cases h)) (fun z => (by rw [z, cs] at h; cases h)) (hC b o h)
    refine ⟨_, rfl, _, rfl, L, rest, rfl, .inl (SqL.of hLr), a, s, [.int rest.length], C, [.int rest.length], m', rfl, sub1, ca, cs, si1, .cons (.int _) .nil, rfl, ⟨_, rfl, by omega, by omega⟩, by rw [cx] at hm; show m' + 1 ≤ 2 ^ 48; omega, fun v C' H2 d m2 ⟨n, j, e1, e2, j0, j1⟩ hm2 g si2 dv => ?_⟩
    have hm3 : m2 ≤ m' + 1 := hm2
    subst e2
    have en : n = rest.length := by
      have := congrArg (fun l : List PyData => l.head?) e1
      simpa using this.symm
    subst en
    cases dv
    have jl : j.toNat < rest.length := by omega
    have hL2 : H2 L = some (.lst rest) := g.keep L _ hLr (by simp; exact nL)
    have hD2 : H2 D = some (.lst acc) := g.keep D _ hDa (by simp; exact nD)
    have ix : ixN rest.length j = some j.toNat := by
      unfold ixN
      rw [if_pos j0, if_pos j1]
    have gy : rest[j.toNat]? = some rest[j.toNat] := List.getElem?_eq_getElem jl
    obtain ⟨dy, hdy, qy⟩ := qr.get' gy
    refine ⟨L, rest, j, j.toNat, rest[j.toNat], rfl, rfl, hL2, by omega, by omega, (ixN_seq ix).1, gy, acc, by rw [upd_ne hDL]; exact hD2, Nat.lt_of_le_of_lt (show acc.length ≤ 1000 by omega) (by decide), ?_⟩
    refine ⟨m2, acc ++ [rest[j.toNat]], rest.eraseIdx j.toNat, ys ++ [dy], zs.eraseIdx j.toNat, si2.stay fun b hb o h => ?_, by omega, upd_same, by rw [upd_ne (Ne.symm hDL), upd_same], by rw [List.length_append, la]; rfl, by rw [List.length_eraseIdx_of_lt jl]; omega, qa.append (.cons qy .nil), qr.erase _, fun y hy => ?_, fun y hy => mz y (List.mem_of_mem_eraseIdx hy), fun b o h1 h2 h => ?_⟩
    · have hb' : b = a ∨ b = s := by simpa using hb
      have n1 : b ≠ D := fun z => by rcases hb' with e | e <;> (rw [z] at e; first | exact nD.1 e | exact nD.2 e)
      have n2 : b ≠ L := fun z => by rcases hb' with e | e <;> (rw [z] at e; first | exact nL.1 e | exact nL.2 e)
      rw [upd_ne n1, upd_ne n2]
      exact h
    · rcases List.mem_append.mp hy with z | z
      · exact my y z
      · have : y = dy := by simpa using z
        rw [this]
        exact mz dy (List.mem_of_getElem? hdy)
    · rw [upd_ne (ne_of_none h hD0), upd_ne (ne_of_none h hL)]
      exact g.keep b o (kp b o h1 h2 h) (by simp; exact ⟨h1, h2⟩)
  · obtain ⟨m', acc, rest, ys, zs, si1, b1, hDa, hLr, la, lr, qa, qr, my, mz, kp⟩ := h
    have cx : costM [PyData.list xs] = xs.length := rfl
    have cD : C D = none := by
      cases e : C D with
      | none => rfl
      | some o => rw [hC D o e] at hD0; cases hD0
    refine q (.ref D) (upd C D (.lst acc)) H' (.list ys) m' ⟨xs, ys, rfl, rfl, by rw [← qa.length, la]; omega, my⟩ (by rw [cx]; omega) ⟨Dw.Ex.new cD, fun b o h hb => ?_, fun b o h => ?_, fun b o h => ?_, fun b hb _ => si1.here b hb⟩ si1 (.lst upd_same (DqA.mono (Dw.Ex.new cD) qa))
    · have hb' : b ≠ a ∧ b ≠ s := by simpa using hb
      exact kp b o hb'.1 hb'.2 h
    · by_cases z : b = D
      · subst z
        rw [upd_same] at h
        cases h
        exact hDa
      · rw [upd_ne z] at h
        exact kp b o (fun z => (by rw [z, ca] at h; cases h)) (fun z => (by rw [z, cs] at h; cases h)) (hC b o h)
    · by_cases z : b = D
      · subst z
        exact .inr hD0
      · rw [upd_ne z] at h
        exact .inl h
end
end K00
set_option maxHeartbeats 4000000
namespace K00
open PySem PySem.W PySem.Calls PySem.Spec PyProof.Rows L2 He My LamX
open Dw (Dq DqA)
section
variable {P : Program} {w : World} {K : Frag} {mg : Str → Option Value} {base h : Heap} {f : Addr} {fd : FuncData} {k : Nat}
theorem sc_these : FnScope ["found", "due"] ["found", "due"] (C8.fnScope (top 57)) := ⟨rfl, rfl, rfl, by decide +kernel, rfl, by decide +kernel, by decide +kernel⟩
/-- two lists that read as the same data -/
def spThese : Sp := fun vs H Q _ => ∃ a b ds, vs = [.ref a, .ref b] ∧ Dq H (.ref a) (.list ds) ∧ Dq H (.ref b) (.list ds) ∧ (PyData.list ds).showable = true ∧ (PyData.list ds).depth ≤ 60 ∧ (PyData.list ds).shown.length ≤ sizeLine ∧ Q (.bl true) H
theorem boot_repr : bootBuiltins "repr" = some (.builtin "repr") := by decide +kernel
theorem ok_these (hK : ∃ o, K.lookup sysModules = some o ∧ o.cls = .type "dict") (mr : mg "repr" = none) (mn : mg "len" = none) (Fn : C8.Fun K "_law_are_these" "_law_are_these" (top 57) f fd) : FnG P w K mg base (k + 1) f fd ["found", "due"] spThese := by
  refine fnG Fn sc_these (fun vs H Q E ⟨a, b, ds, e, _⟩ => by rw [e]; rfl) fun cdv A outer s H vs Q E hr hgd ⟨a, b, ds, ev, h1, h2, h3, h4, h5, q⟩ => ?_
  subst ev
  have hu : (A.deeper (envOfC "_law_are_these" (C8.fnScope (top 57)) s.heap.objs.size f cdv)).units + 64 < cLine := by
    have h0 := hr.un
    omega
  refine ⟨_, pss_one (ps_ret (pe_and (pe_cmpR op_eq (pe_callB (call_reprD hK (guards_deeper hgd) hu) rfl mr boot_repr (pa_cons (pe_var (i := 0) rfl (.inl rfl)) pa_nil)) (pe_callB (call_reprD hK (guards_deeper hgd) hu) rfl mr boot_repr (pa_cons (pe_var (i := 1) rfl (.inl rfl)) pa_nil)) (nomark _))
    (pe_one (pe_cmpR op_eq (pe_callB call_len_seq rfl mn PySem.boot_len (pa_cons (pe_var (i := 0) rfl (.inl rfl)) pa_nil)) (pe_callB call_len_seq rfl mn PySem.boot_len (pa_cons (pe_var (i := 1) rfl (.inl rfl)) pa_nil)) (nomark _))))), ?_⟩
  refine ⟨_, rfl, a, .list ds, rfl, h1, h3, h4, h5, _, rfl, b, .list ds, rfl, h2, h3, h4, h5, rfl, _, rfl, ?_⟩
  refine ite2 (fun _ => ?_) (fun c => absurd (decide_eq_true rfl) c)
  cases h1 with
  | lst e1 a1 =>
    cases h2 with
    | lst e2 a2 =>
      refine ⟨_, rfl, a, _, rfl, .inl (SqL.of e1), _, rfl, b, _, rfl, .inl (SqL.of e2), rfl, ?_⟩
      have e : ∀ {i j : Nat}, i = j → decide (V.int (i : Int) = V.int (j : Int)) = true := fun z => by rw [z]; exact decide_eq_true rfl
      rw [e (a1.length.trans a2.length.symm)]
      exact q
end
end K00
set_option maxHeartbeats 4000000
namespace K00
open PySem PySem.W PySem.Calls PySem.Spec PyProof.Rows L2 He My LamX
open Dw (Dq DqA StrI)
section
variable {P : Program} {w : World} {K : Frag} {mg : Str → Option Value} {base h : Heap} {f : Addr} {fd : FuncData} {k : Nat}
theorem sc_start : FnScope ["script"] ["script"] (C8.fnScope (top 46)) := ⟨rfl, rfl, rfl, by decide +kernel, rfl, by decide +kernel, by decide +kernel⟩
/-- a spring of draws from the script -/
def spStart (K : Frag) : Sp := fun vs H Q _ => ∃ r, ∃ ns : List Int, vs = [.ref r] ∧ SqL K H r (ns.map V.int) ∧ ∀ a s H', My.Kept H H' → H a = none → H s = none → StrI a s 0 H' → Q (.ref a) H'
theorem ok_start (ml : mg "list" = none) (Fn : C8.Fun K "_law_start" "_law_start" (top 46) f fd) : FnOk P w K mg base C8.CX0 (k + 1) f fd ["script"] (spStart K) := by
  refine C8.fn0 Fn sc_start (fun vs H Q E ⟨r, ns, e, _⟩ => by rw [e]; rfl) fun cdv A outer s0 H vs Q E hr ⟨r, ns, ev, hS, q⟩ => ?_
  subst ev
  refine ⟨_, pss_one (ps_ret (pe_lst (pa_cons (pe_callTy call_list_of rfl ml boot_list (pa_cons (pe_var (i := 0) rfl (.inl rfl)) pa_nil)) (pa_cons pe_int (pa_cons pe_int (pa_cons pe_int pa_nil)))))), ?_⟩
  refine ⟨_, rfl, r, _, rfl, .inl hS, fun s hs => ⟨(by show 4 ≤ sizeLine; decide), fun a ha => ?_⟩⟩
  have ne : a ≠ s := fun z => by rw [z, upd_same] at ha; cases ha
  have haH : H a = none := by rw [upd_ne ne] at ha; exact ha
  refine q a s _ (fun b o h => ?_) haH hs ⟨ne, 0, 11, ns, upd_same, by rw [upd_ne (Ne.symm ne), upd_same], by decide, by decide, by decide⟩
  rw [upd_ne (ne_of_none h haH), upd_ne (ne_of_none h hs)]
  exact h
end
end K00
set_option maxHeartbeats 4000000
/-! law_k00: the defs from what the head tells. -/
namespace K00
open PySem PySem.W PySem.Calls PySem.Spec PyProof.Rows L2 He My LamX
abbrev PP : Program := PySem.Challenge.rw_twoslots_k00_errors_made.prog
theorem nd3 {a b c : Nat} (h : ndB [a, b, c] = true) : a ≠ b ∧ a ≠ c ∧ b ≠ c := by
  unfold ndB at h
  obtain ⟨h1, h2⟩ := ba h
  unfold ndB at h2
  obtain ⟨h3, _⟩ := ba h2
  simp only [List.all_cons, List.all_nil, Bool.and_true, Bool.and_eq_true, Bool.not_eq_true'] at h1 h3
  exact ⟨Nat.ne_of_beq_eq_false h1.1, Nat.ne_of_beq_eq_false h1.2, Nat.ne_of_beq_eq_false h3⟩
def Tk (K : Frag) : List (Addr × Str) := [((cT K ("_law_made_a", none)).2, qu_law_made_a), ((cT K ("_law_made_b", none)).2, qu_law_made_b), ((cT K ("_law_made_c", none)).2, qu_law_made_c)]
section
variable {w : World} {K : Frag} {mg : Str → Option Value} {base h : Heap} {k : Nat}
theorem fx_of (c : SaysY file fa fn tf es ex h K) (X : K.In h) (G : h.Ns mainGlobals mg) : Fx PP K mg h :=
  ⟨X, G, free_ok X G (c.d.fact 20 (f := .free "super") rfl), by decide +kernel, fun i d hd => errK_of c.all (c.err d (List.mem_of_getElem? hd)).1 (c.err d (List.mem_of_getElem? hd)).2⟩
theorem fun_of {x : Str} {i : Nat} {f : Addr} {fd : FuncData} (F : FunD K x x (C8.fnArgs (top i)) (C8.fnBody (top i)) (C8.fnScope (top i)) [] [] f fd) : C8.Fun K x x (top i) f fd := by
  obtain ⟨oc, od, dV, kV, doc, pm, an, cdv, ct, osl, e, lk, hcd, _, _⟩ := F.ex
  exact ⟨oc, od, dV, kV, doc, pm, an, cdv, ct, osl, e, lk, hcd⟩
theorem tabs_nd (c : SaysY file fa fn tf es ex h K) : (cT K ("_law_made_a", none)).2 ≠ (cT K ("_law_made_b", none)).2 ∧ (cT K ("_law_made_a", none)).2 ≠ (cT K ("_law_made_c", none)).2 ∧ (cT K ("_law_made_b", none)).2 ≠ (cT K ("_law_made_c", none)).2 :=
  nd3 (ba (ba c.more).1).2
theorem sc_made_a : FnScope ["x", "y", "z", "found"] ["x", "y", "z"] (C8.fnScope (top 49)) := ⟨rfl, rfl, rfl, by decide +kernel, rfl, by decide +kernel, by decide +kernel⟩
theorem cal_made_a (c : SaysY file fa fn tf es ex h K) (X : K.In h) (G : h.Ns mainGlobals mg) (TB : TabB base mg (cT K ("_law_made_a", none)).1 (cT K ("_law_made_a", none)).2) :
    C8.Cal PP w K mg base 3 "_law_made_a" (spMade PP w K mg base (Tk K) ((es.drop 0).take 18)) [] := by
  obtain ⟨fd, F⟩ := c.d.def_ 3 (d := dD "_law_made_a" 49) rfl
  have hb := F.bindsN (ps := ["x", "y", "z"]) fun _ _ _ _ _ _ us hl => match us, hl with | [_, _, _], _ => rfl
  have kp := F.kp
  obtain ⟨oc, od, dV, kV, doc, pm, an, cdv, ct, osl, e, lk, hcd, _, _⟩ := F.ex
  obtain ⟨c0, ec⟩ := codeIn_ref hcd
  subst ec e
  have hc : (cT K ("_law_made_a", none)).1 = c0 := codeOf_eq (p := ("_law_made_a", none)) lk rfl
  rw [hc] at TB
  obtain ⟨n1, n2, n3⟩ := tabs_nd c
  refine ⟨_, _, _, [], ok_made (k := 2) lk hcd sc_made_a rfl (by decide) rfl (fun _ _ _ _ _ => rfl) (fun A outer s H E hr => ents_law_made_a (fx_of c X G) hr TB (by simp [Tk]) fun p hp e => ?_), glo_ok X G (c.d.fact 3 (f := .glo "_law_made_a") rfl), kp, hb, .nil⟩
  have hp : p = _ ∨ p ∈ _ := List.mem_cons.mp hp
  rcases hp with z | z
  · rw [z]
  · rcases List.mem_cons.mp z with z | z
    · rw [z] at e
      exact absurd e.symm n1
    · rw [List.mem_singleton.mp z] at e
      exact absurd e.symm n2
theorem sc_made_b : FnScope ["x", "y", "z", "found"] ["x", "y", "z"] (C8.fnScope (top 50)) := ⟨rfl, rfl, rfl, by decide +kernel, rfl, by decide +kernel, by decide +kernel⟩
theorem cal_made_b (c : SaysY file fa fn tf es ex h K) (X : K.In h) (G : h.Ns mainGlobals mg) (TB : TabB base mg (cT K ("_law_made_b", none)).1 (cT K ("_law_made_b", none)).2) :
    C8.Cal PP w K mg base 3 "_law_made_b" (spMade PP w K mg base (Tk K) ((es.drop 18).take 18)) [] := by
  obtain ⟨fd, F⟩ := c.d.def_ 4 (d := dD "_law_made_b" 50) rfl
  have hb := F.bindsN (ps := ["x", "y", "z"]) fun _ _ _ _ _ _ us hl => match us, hl with | [_, _, _], _ => rfl
  have kp := F.kp
  obtain ⟨oc, od, dV, kV, doc, pm, an, cdv, ct, osl, e, lk, hcd, _, _⟩ := F.ex
  obtain ⟨c0, ec⟩ := codeIn_ref hcd
  subst ec e
  have hc : (cT K ("_law_made_b", none)).1 = c0 := codeOf_eq (p := ("_law_made_b", none)) lk rfl
  rw [hc] at TB
  obtain ⟨n1, n2, n3⟩ := tabs_nd c
  refine ⟨_, _, _, [], ok_made (k := 2) lk hcd sc_made_b rfl (by decide) rfl (fun _ _ _ _ _ => rfl) (fun A outer s H E hr => ents_law_made_b (fx_of c X G) hr TB (by simp [Tk]) fun p hp e => ?_), glo_ok X G (c.d.fact 4 (f := .glo "_law_made_b") rfl), kp, hb, .nil⟩
  have hp : p = _ ∨ p ∈ _ := List.mem_cons.mp hp
  rcases hp with z | z
  · rw [z] at e
    exact absurd e n1
  · rcases List.mem_cons.mp z with z | z
    · rw [z]
    · rw [List.mem_singleton.mp z] at e
      exact absurd e.symm n3
theorem sc_made_c : FnScope ["x", "y", "z", "found"] ["x", "y", "z"] (C8.fnScope (top 51)) := ⟨rfl, rfl, rfl, by decide +kernel, rfl, by decide +kernel, by decide +kernel⟩
theorem cal_made_c (c : SaysY file fa fn tf es ex h K) (X : K.In h) (G : h.Ns mainGlobals mg) (TB : TabB base mg (cT K ("_law_made_c", none)).1 (cT K ("_law_made_c", none)).2) :
    C8.Cal PP w K mg base 3 "_law_made_c" (spMade PP w K mg base (Tk K) ((es.drop 36).take 7)) [] := by
  obtain ⟨fd, F⟩ := c.d.def_ 5 (d := dD "_law_made_c" 51) rfl
  have hb := F.bindsN (ps := ["x", "y", "z"]) fun _ _ _ _ _ _ us hl => match us, hl with | [_, _, _], _ => rfl
  have kp := F.kp
  obtain ⟨oc, od, dV, kV, doc, pm, an, cdv, ct, osl, e, lk, hcd, _, _⟩ := F.ex
  obtain ⟨c0, ec⟩ := codeIn_ref hcd
  subst ec e
  have hc : (cT K ("_law_made_c", none)).1 = c0 := codeOf_eq (p := ("_law_made_c", none)) lk rfl
  rw [hc] at TB
  obtain ⟨n1, n2, n3⟩ := tabs_nd c
  refine ⟨_, _, _, [], ok_made (k := 2) lk hcd sc_made_c rfl (by decide) rfl (fun _ _ _ _ _ => rfl) (fun A outer s H E hr => ents_law_made_c (fx_of c X G) hr TB (by simp [Tk]) fun p hp e => ?_), glo_ok X G (c.d.fact 5 (f := .glo "_law_made_c") rfl), kp, hb, .nil⟩
  have hp : p = _ ∨ p ∈ _ := List.mem_cons.mp hp
  rcases hp with z | z
  · rw [z] at e
    exact absurd e n2
  · rcases List.mem_cons.mp z with z | z
    · rw [z] at e
      exact absurd e n3
    · rw [List.mem_singleton.mp z]
/-- a def by its promise -/
theorem cal_of {x : Str} {f : Addr} {fd : FuncData} {ps : List Str} {params : Arguments} {body : List Stmt} {scope : Scope} {sp : Sp} (F : FunD K x x params body scope [] [] f fd) (ok : FnOk PP w K mg base C8.CX0 k f fd ps sp) (hm : mg x = some (.ref f)) (hb : Binds K fd ps []) : C8.Cal PP w K mg base k x sp [] :=
  ⟨f, fd, ps, [], ok, hm, F.kp, hb, .nil⟩
theorem cals_kinds (c : SaysY file fa fn tf es ex h K) (X : K.In h) (G : h.Ns mainGlobals mg) : C8.Cal PP w K mg base 2 "_law_kinds" (spKinds K es) [] := by
  have mi := free_ok X G (c.d.fact 17 (f := .free "isinstance") rfl)
  have Fx := fx_of c X G
  obtain ⟨fa_, Fa⟩ := c.d.def_ 6 (d := dD "_law_kinds_a" 52) rfl
  obtain ⟨fb_, Fb⟩ := c.d.def_ 7 (d := dD "_law_kinds_b" 53) rfl
  obtain ⟨fc_, Fc⟩ := c.d.def_ 8 (d := dD "_law_kinds_c" 54) rfl
  obtain ⟨fk_, Fk⟩ := c.d.def_ 9 (d := dD "_law_kinds" 55) rfl
  have Ca : C8.Cal PP w K mg base 1 "_law_kinds_a" (spKinds K dsA) [] := cal_of Fa (ok_law_kinds_a (k := 0) Fx mi (fun_of Fa)) (glo_ok X G (c.d.fact 6 (f := .glo "_law_kinds_a") rfl)) (Fa.bindsN fun _ _ _ _ _ _ us hl => match us, hl with | [_], _ => rfl)
  have Cb : C8.Cal PP w K mg base 1 "_law_kinds_b" (spKinds K dsB) [] := cal_of Fb (ok_law_kinds_b (k := 0) Fx mi (fun_of Fb)) (glo_ok X G (c.d.fact 7 (f := .glo "_law_kinds_b") rfl)) (Fb.bindsN fun _ _ _ _ _ _ us hl => match us, hl with | [_], _ => rfl)
  have Cc : C8.Cal PP w K mg base 1 "_law_kinds_c" (spKinds K dsC) [] := cal_of Fc (ok_law_kinds_c (k := 0) Fx mi (fun_of Fc)) (glo_ok X G (c.d.fact 8 (f := .glo "_law_kinds_c") rfl)) (Fc.bindsN fun _ _ _ _ _ _ us hl => match us, hl with | [_], _ => rfl)
  exact cal_of Fk (ok_law_kinds Ca Cb Cc (fun_of Fk)) (glo_ok X G (c.d.fact 9 (f := .glo "_law_kinds") rfl)) (Fk.bindsN fun _ _ _ _ _ _ us hl => match us, hl with | [_], _ => rfl)
theorem cal_own (c : SaysY file fa fn tf es ex h K) (X : K.In h) (G : h.Ns mainGlobals mg) : C8.Cal PP w K mg base 3 "_law_is_own" (spIsOwn K) [] := by
  obtain ⟨f_, F⟩ := c.d.def_ 10 (d := dD "_law_is_own" 56) rfl
  exact cal_of F (ok_is_own (cals_kinds c X G) (free_ok X G (c.d.fact 17 (f := .free "isinstance") rfl)) (free_ok X G (c.d.fact 15 (f := .free "range") rfl)) (glo_ok X G (c.d.fact 23 (f := .glo "SlotError") rfl)) (free_ok X G (c.d.fact 21 (f := .free "ValueError") rfl)) (free_ok X G (c.d.fact 22 (f := .free "LookupError") rfl)) (fun_of F))
    (glo_ok X G (c.d.fact 10 (f := .glo "_law_is_own") rfl)) (F.bindsN fun _ _ _ _ _ _ us hl => match us, hl with | [_, _], _ => rfl)
theorem cal_start (c : SaysY file fa fn tf es ex h K) (X : K.In h) (G : h.Ns mainGlobals mg) : C8.Cal PP w K mg base 1 "_law_start" (spStart K) [] := by
  obtain ⟨f_, F⟩ := c.d.def_ 0 (d := dD "_law_start" 46) rfl
  exact cal_of F (ok_start (k := 0) (free_ok X G (c.d.fact 14 (f := .free "list") rfl)) (fun_of F)) (glo_ok X G (c.d.fact 0 (f := .glo "_law_start") rfl)) (F.bindsN fun _ _ _ _ _ _ us hl => match us, hl with | [_], _ => rfl)
theorem cal_mixed (c : SaysY file fa fn tf es ex h K) (X : K.In h) (G : h.Ns mainGlobals mg) : C8.Cal PP w K mg base 2 "_law_mixed" (Dw.spS 1 preM postM costM) [] := by
  obtain ⟨d_, D⟩ := c.d.def_ 1 (d := dD "_law_draw" 47) rfl
  obtain ⟨f_, F⟩ := c.d.def_ 2 (d := dD "_law_mixed" 48) rfl
  have Cd : C8.Cal PP w K mg base 1 "_law_draw" (Dw.spS 1 preD postD fun _ => 1) [] := cal_of D (ok_draw (k := 0) (free_ok X G (c.d.fact 16 (f := .free "int") rfl)) (fun_of D)) (glo_ok X G (c.d.fact 1 (f := .glo "_law_draw") rfl)) (D.bindsN fun _ _ _ _ _ _ us hl => match us, hl with | [_, _], _ => rfl)
  exact cal_of F (ok_mixed Cd (free_ok X G (c.d.fact 14 (f := .free "list") rfl)) (free_ok X G (c.d.fact 15 (f := .free "range") rfl)) (free_ok X G (c.d.fact 13 (f := .free "len") rfl)) (fun_of F)) (glo_ok X G (c.d.fact 2 (f := .glo "_law_mixed") rfl)) (F.bindsN fun _ _ _ _ _ _ us hl => match us, hl with | [_, _], _ => rfl)
theorem calG_these (c : SaysY file fa fn tf es ex h K) (X : K.In h) (G : h.Ns mainGlobals mg) : CalG PP w K mg base 1 "_law_are_these" spThese := by
  obtain ⟨f_, F⟩ := c.d.def_ 11 (d := dD "_law_are_these" 57) rfl
  exact ⟨_, _, _, ok_these (k := 0) (sysB_ok (ba c.all).1) (free_ok X G (c.d.fact 18 (f := .free "repr") rfl)) (free_ok X G (c.d.fact 13 (f := .free "len") rfl)) (fun_of F), glo_ok X G (c.d.fact 11 (f := .glo "_law_are_these") rfl), F.kp, F.bindsN fun _ _ _ _ _ _ us hl => match us, hl with | [_, _], _ => rfl⟩
end
end K00
set_option maxHeartbeats 4000000
/-! law_k00: of which kinds the errors are, from what the head tells. -/
namespace K00
open PySem PySem.W PySem.Calls PySem.Spec PyProof.Rows L2 He My LamX
theorem ndB_nodup : ∀ {l : List Nat}, ndB l = true → l.Nodup
  | [], _ => List.nodup_nil
  | a :: r, h => by
    unfold ndB at h
    obtain ⟨h1, h2⟩ := ba h
    refine List.nodup_cons.mpr ⟨fun m => ?_, ndB_nodup h2⟩
    have q := List.all_eq_true.mp h1 a m
    have q2 : Nat.beq a a = true := Nat.beq_refl a
    rw [q2] at q
    cases q
/-- in a list without doubles just the n-th is the n-th -/
theorem only_nth {l : List Nat} (nd : l.Nodup) {n : Nat} {a : Nat} (h : l[n]? = some a) : l.map (fun x => decide (x = a)) = (List.range l.length).map (fun k => decide (k = n)) := by
  apply List.ext_getElem?
  intro i
  rw [List.getElem?_map, List.getElem?_map]
  by_cases hi : i < l.length
  · rw [List.getElem?_eq_getElem hi, List.getElem?_range hi]
    show some _ = some _
    congr 1
    rw [decide_eq_decide]
    obtain ⟨hn, en⟩ := List.getElem?_eq_some_iff.mp h
    constructor
    · intro e
      have pw := List.pairwise_iff_getElem.mp nd
      rcases Nat.lt_trichotomy i n with q | q | q
      · exact absurd (e.trans en.symm) (pw i n hi hn q)
      · exact q
      · exact absurd (e.trans en.symm).symm (pw n i hn hi q)
    · intro e
      subst e
      exact en
  · rw [List.getElem?_eq_none (by omega), List.getElem?_eq_none (by rw [List.length_range]; omega)]
    rfl
section
variable {K : Frag} {h : Heap} {mg : Str → Option Value}
def mroD (K : Frag) (d : ErrD) : List Value := [.ref (d.C K), .ref (S K), .type "ValueError", .type "Exception", .type "BaseException", .type "object"]
def mroS (K : Frag) : List Value := [.ref (S K), .type "ValueError", .type "Exception", .type "BaseException", .type "object"]
theorem mro_d (c : kindB K = true) {d : ErrD} (hd : d ∈ es) : ∃ cd, clsIn K (d.C K) = some cd ∧ cd.mro = mroD K d := by
  have q := List.all_eq_true.mp (ba c).1 d hd
  unfold mroB at q
  split at q
  · rename_i cd hc
    exact ⟨cd, hc, eq_of_beq q⟩
  · cases q
theorem mro_s (c : kindB K = true) : ∃ cd, clsIn K (S K) = some cd ∧ cd.mro = mroS K := by
  have q := (ba (ba (ba c).2).2).2
  split at q
  · rename_i cd hc
    exact ⟨cd, hc, eq_of_beq q⟩
  · cases q
theorem nds (c : kindB K = true) : (S K :: es.map fun d => d.C K).Nodup := ndB_nodup (ba (ba c).2).1
theorem mroIn_of {C : Addr} {cd : ClassData} {l : List Value} {v : Value} (h : clsIn K C = some cd) (e : cd.mro = l) (hl : l ≠ []) : mroIn K C v = some (l.contains v) := by
  unfold mroIn
  rw [h]
  show (if cd.mro.isEmpty then none else some (cd.mro.contains v)) = _
  rw [e]
  cases l with
  | nil => exact absurd rfl hl
  | cons a r => rfl
theorem meta_VE : kitMeta "ValueError" = true := by decide +kernel
theorem meta_LE : kitMeta "LookupError" = true := by decide +kernel
theorem kit_ty {C : Addr} {T : String} (hm : kitMeta T = true) {b : Bool} (h : mroIn K C (.type T) = some b) : kitOne K (.ref C) (.type T) = some b := by
  have e : (Value.ref C == Value.type T) = false := by
    rw [beq_eq_false_iff_ne]
    intro z
    cases z
  unfold kitOne
  rw [e]
  show kitCls K (.ref C) (.type T) = _
  unfold kitCls
  show (if kitMeta T = true then subIn K (.ref C) (.type T) else none) = _
  rw [if_pos hm]
  exact h
theorem kit_ref {C D : Addr} (hD : ∃ cd, clsIn K D = some cd) (ht : typeIn K (.ref D) = some (.type "type")) {b : Bool} (h : mroIn K C (.ref D) = some b) (hb : C = D → b = true) : kitOne K (.ref C) (.ref D) = some b := by
  unfold kitOne
  by_cases e : C = D
  · subst e
    rw [hb rfl, if_pos (beq_self_eq_true _)]
  · have e' : (Value.ref C == Value.ref D) = false := by
      rw [beq_eq_false_iff_ne]
      intro z
      exact e (Value.ref.inj z)
    rw [e']
    show kitCls K (.ref C) (.ref D) = _
    unfold kitCls
    obtain ⟨cd, hc⟩ := hD
    have z : ((clsIn K D).isSome && typeIn K (.ref D) == some (.type "type")) = true := by rw [hc, ht]; rfl
    show (if ((clsIn K D).isSome && typeIn K (.ref D) == some (.type "type")) = true then subIn K (.ref C) (.ref D) else none) = _
    rw [if_pos z]
    exact h
theorem has_ref {a b : Addr} {l : List Value} : ((Value.ref a :: l).contains (.ref b)) = (decide (b = a) || l.contains (.ref b)) := by
  rw [List.contains_cons]
  congr 1
  by_cases e : b = a
  · subst e
    rw [beq_self_eq_true, decide_eq_true rfl]
  · rw [decide_eq_false e, beq_eq_false_iff_ne]
    intro z
    exact e (Value.ref.inj z)
theorem no_ref {b : Addr} : ([Value.type "ValueError", .type "Exception", .type "BaseException", .type "object"] : List Value).contains (.ref b) = false := by
  simp [List.contains_cons]
theorem has_VE {C D : Addr} : ([Value.ref C, .ref D, .type "ValueError", .type "Exception", .type "BaseException", .type "object"] : List Value).contains (.type "ValueError") = true := by
  simp [List.contains_cons]
theorem has_VE1 {C : Addr} : ([Value.ref C, .type "ValueError", .type "Exception", .type "BaseException", .type "object"] : List Value).contains (.type "ValueError") = true := by
  simp [List.contains_cons]
theorem has_LE {C D : Addr} : ([Value.ref C, .ref D, .type "ValueError", .type "Exception", .type "BaseException", .type "object"] : List Value).contains (.type "LookupError") = false := by
  simp [List.contains_cons]
end
section
variable {w : World} {K : Frag} {mg : Str → Option Value} {base h : Heap}
/-- what is to be known of one kind -/
structure KindOk (K : Frag) (d : ErrD) (n : Nat) : Prop where
  ec : ExcC K (d.C K)
  all : ∀ e ∈ es, kitOne K (.ref (d.C K)) (.ref (e.C K)) = some (decide (e.C K = d.C K))
  nth : es.map (fun e => decide (e.C K = d.C K)) = (List.range 43).map (fun k => decide (k = n))
  s : kitOne K (.ref (d.C K)) (.ref (S K)) = some true
  v : kitOne K (.ref (d.C K)) (.type "ValueError") = some true
  l : kitOne K (.ref (d.C K)) (.type "LookupError") = some false
theorem base_of (c : SaysY file fa fn tf es ex h K) : baseB K = true := (ba (ba c.more).1).1
theorem es_len : es.length = 43 := rfl
theorem errs_of (c : SaysY file fa fn tf es ex h K) {d : ErrD} (hd : d ∈ es) : ErrK PP K d := errK_of c.all (c.err d hd).1 (c.err d hd).2
theorem typeS (c : SaysY file fa fn tf es ex h K) : typeIn K (.ref (S K)) = some (.type "type") := by
  have q := base_of c
  unfold baseB at q
  exact of_decide_eq_true (ba (ba (ba (ba (ba (ba (ba q).2).2).2).2).2).2).1
theorem kind_ok (c : SaysY file fa fn tf es ex h K) {n : Nat} {d : ErrD} (hd : es[n]? = some d) : KindOk K d n := by
  have hm := List.mem_of_getElem? hd
  have ck : kindB K = true := (ba c.more).2
  have nd := nds ck
  obtain ⟨cd, hc, em⟩ := mro_d ck hm
  have ne : mroD K d ≠ [] := by
    unfold mroD
    simp
  refine ⟨(errs_of c hm).ec, fun e he => ?_, ?_, ?_, ?_, ?_⟩
  · refine kit_ref (errs_of c he).cls (errs_of c he).oex.tyC ?_ fun z => decide_eq_true z.symm
    rw [mroIn_of hc em ne]
    unfold mroD
    rw [has_ref, has_ref, no_ref]
    have es' : e.C K ≠ S K := fun z => (List.nodup_cons.mp nd).1 (z ▸ List.mem_map.mpr ⟨e, he, rfl⟩)
    rw [decide_eq_false es']
    simp
  · have q : (es.map fun d => d.C K)[n]? = some (d.C K) := by rw [List.getElem?_map, hd]; rfl
    have r := only_nth (List.nodup_cons.mp nd).2 q
    rw [List.map_map, List.length_map, es_len] at r
    exact r
  · obtain ⟨cs, hs, _⟩ := mro_s ck
    refine kit_ref ⟨cs, hs⟩ (typeS c) ?_ fun _ => rfl
    rw [mroIn_of hc em ne]
    unfold mroD
    rw [has_ref, has_ref, decide_eq_true rfl]
    simp
  · refine kit_ty meta_VE ?_
    rw [mroIn_of hc em ne]
    exact congrArg some has_VE
  · refine kit_ty meta_LE ?_
    rw [mroIn_of hc em ne]
    exact congrArg some has_LE
/-- the base itself -/
structure BaseOk (K : Frag) : Prop where
  ec : ExcC K (S K)
  all : ∀ e ∈ es, kitOne K (.ref (S K)) (.ref (e.C K)) = some false
  v : kitOne K (.ref (S K)) (.type "ValueError") = some true
  q : excIn K (S K) veBase "ValueError.__new__" = true
  k : keepIn K (.ref (S K)) = true
theorem base_ok (c : SaysY file fa fn tf es ex h K) : BaseOk K := by
  have q := base_of c
  unfold baseB at q
  obtain ⟨b1, q⟩ := ba q
  obtain ⟨b2, q⟩ := ba q
  obtain ⟨b3, q⟩ := ba q
  obtain ⟨b4, q⟩ := ba q
  obtain ⟨b5, q⟩ := ba q
  obtain ⟨b6, q⟩ := ba q
  have ck : kindB K = true := (ba c.more).2
  have nd := nds ck
  obtain ⟨cd, hc, em⟩ := mro_s ck
  have ne : mroS K ≠ [] := by
    unfold mroS
    simp
  have ha := c.all
  unfold My.allB at ha
  obtain ⟨_, ha⟩ := ba ha
  obtain ⟨a1, ha⟩ := ba ha
  obtain ⟨a2, a3⟩ := ba ha
  have xf := xfB_ok b2
  refine ⟨⟨xf.ga, xf.gg, xf.exC, xf.hdC, eqO_ok b3, eqO_ok a2, of_decide_eq_true a3, of_decide_eq_true b4⟩, fun e he => ?_, ?_, b6, b5⟩
  · have es' : e.C K ≠ S K := fun z => (List.nodup_cons.mp nd).1 (z ▸ List.mem_map.mpr ⟨e, he, rfl⟩)
    refine kit_ref (errs_of c he).cls (errs_of c he).oex.tyC ?_ fun z => absurd z.symm es'
    rw [mroIn_of hc em ne]
    unfold mroS
    rw [has_ref, no_ref, decide_eq_false es']
    rfl
  · refine kit_ty meta_VE ?_
    rw [mroIn_of hc em ne]
    exact congrArg some has_VE1
end
end K00
set_option maxHeartbeats 4000000
/-! law_k00: heaps, data, entries as the law sees them. -/
namespace K00
open PySem PySem.W PySem.Calls PySem.Spec PyProof.Rows L2 He My LamX
open Dw (Dq DqA DqK Stp StrI)
mutual
theorem dq_n {H H' : Hp} (e : ExtN H H') : ∀ {v d}, Dq H v d → Dq H' v d
  | _, _, .non => .non
  | _, _, .bl b => .bl b
  | _, _, .int i => .int i
  | _, _, .str x => .str x
  | _, _, .lst h a => .lst (e _ _ h fun ps z => by cases z) (dqA_n e a)
  | _, _, .tup h a => .tup (e _ _ h fun ps z => by cases z) (dqA_n e a)
  | _, _, .dic h a => .dic (e _ _ h fun ps z => by cases z) (dqK_n e a)
theorem dqA_n {H H' : Hp} (e : ExtN H H') : ∀ {v d}, DqA H v d → DqA H' v d
  | _, _, .nil => .nil
  | _, _, .cons h a => .cons (dq_n e h) (dqA_n e a)
theorem dqK_n {H H' : Hp} (e : ExtN H H') : ∀ {v d}, DqK H v d → DqK H' v d
  | _, _, .nil => .nil
  | _, _, .cons h a => .cons (dq_n e h) (dqK_n e a)
end
/-- the heap without the stream's two lists -/
def core (a s : Addr) (H : Hp) : Hp := fun b => if b = a ∨ b = s then none else H b
/-- all but the stream's lists and the tables stays -/
def StepN (a s : Addr) (H H' : Hp) : Prop := ∀ b o, b ≠ a → b ≠ s → H b = some o → (∀ ps, o ≠ .tbl ps) → H' b = some o
theorem core_out {a s b : Addr} {H : Hp} (h1 : b ≠ a) (h2 : b ≠ s) : core a s H b = H b := if_neg fun z => z.elim h1 h2
theorem core_a {a s : Addr} {H : Hp} : core a s H a = none := if_pos (.inl rfl)
theorem core_s {a s : Addr} {H : Hp} : core a s H s = none := if_pos (.inr rfl)
theorem core_in {a s b : Addr} {H : Hp} {o : HO} (h : core a s H b = some o) : b ≠ a ∧ b ≠ s ∧ H b = some o := by
  by_cases z : b = a ∨ b = s
  · have : core a s H b = none := if_pos z
    rw [this] at h
    cases h
  · have : core a s H b = H b := if_neg z
    rw [this] at h
    exact ⟨fun e => z (.inl e), fun e => z (.inr e), h⟩
theorem core_ex {a s : Addr} {H : Hp} : Dw.Ex (core a s H) H := fun b o h => (core_in h).2.2
theorem core_step {a s : Addr} {H H' : Hp} (e : StepN a s H H') : ExtN (core a s H) (core a s H') := fun b o h n => by
  obtain ⟨h1, h2, h3⟩ := core_in h
  rw [core_out h1 h2]
  exact e b o h1 h2 h3 n
theorem StepN.of {a s : Addr} {H H' : Hp} (e : ExtN H H') : StepN a s H H' := fun b o _ _ h n => e b o h n
theorem StepN.kept {a s : Addr} {H H' : Hp} (e : Kept H H') : StepN a s H H' := StepN.of e.n
theorem StepN.trans {a s : Addr} {H H1 H2 : Hp} (e : StepN a s H H1) (e2 : StepN a s H1 H2) : StepN a s H H2 := fun b o h1 h2 h n => e2 b o h1 h2 (e b o h1 h2 h n) n
theorem core_new {a s p : Addr} {H : Hp} {o : HO} (hp : H p = none) (ha : H a ≠ none) (hs : H s ≠ none) : core a s (upd H p o) p = some o := by
  have n1 : p ≠ a := fun z => by
    subst z
    exact ha hp
  have n2 : p ≠ s := fun z => by
    subst z
    exact hs hp
  rw [core_out n1 n2, upd_same]
theorem str_kept {a s : Addr} {m : Nat} {H H' : Hp} (h : StrI a s m H) (e : ExtN H H') : StrI a s m H' := by
  obtain ⟨ne, big, mix, cells, h1, h2, h3⟩ := h
  exact ⟨ne, big, mix, cells, e _ _ h1 (fun ps z => by cases z), e _ _ h2 (fun ps z => by cases z), h3⟩
theorem str_at {a s : Addr} {m : Nat} {H : Hp} (h : StrI a s m H) : (∃ xs, H a = some (.lst xs)) ∧ ∃ xs, H s = some (.lst xs) := by
  obtain ⟨ne, big, mix, cells, h1, h2, h3⟩ := h
  exact ⟨⟨_, h1⟩, _, h2⟩
/-- the tables where just the stream's lists, or nothing old, is written -/
theorem tabs_step {T : List (Addr × Str)} {a s : Addr} {H H' : Hp} (t : Tabs T H) (ha : ∃ xs, H a = some (.lst xs)) (hs : ∃ xs, H s = some (.lst xs)) (e : ∀ b o, b ≠ a → b ≠ s → H b = some o → H' b = some o) : Tabs T H' := fun p hp => by
  obtain ⟨xs, ha⟩ := ha
  obtain ⟨ys, hs⟩ := hs
  obtain ⟨ps, h1, h2, h3⟩ := t p hp
  have k : ∀ {b : Addr} {o : HO}, H b = some o → (∀ zs, o ≠ .lst zs) → H' b = some o := fun {b o} h n => by
    refine e b o (fun z => ?_) (fun z => ?_) h
    · rw [z, ha] at h
      exact n _ (Option.some.inj h).symm
    · rw [z, hs] at h
      exact n _ (Option.some.inj h).symm
  refine ⟨ps, k h1 (fun zs z => by cases z), h2, fun pos cv hc => ?_⟩
  obtain ⟨c, e1, e2⟩ := h3 pos cv hc
  exact ⟨c, e1, k e2 fun zs z => by unfold CodeO at z; cases z⟩
/-! ### the things -/
def someD : List PyData := [.none, .int 5, .int (-1), .bool true, .str "a", .str "", .list [.int 1, .str "b"], .tuple [.int 2, .none], .dict [(.str "a", .int 1)], .list [.list [.str "x"]], .int (10 ^ 30), .tuple [.str "s", .int 3], .bool false, .int 0, .int 1]
def good (ds : List PyData) : Bool := (PyData.list ds).showable && (decide ((PyData.list ds).depth ≤ 60) && decide ((PyData.list ds).shown.length ≤ sizeLine))
theorem good_ok {ds : List PyData} (h : good ds = true) : (PyData.list ds).showable = true ∧ (PyData.list ds).depth ≤ 60 ∧ (PyData.list ds).shown.length ≤ sizeLine := by
  unfold good at h
  obtain ⟨h1, h⟩ := ba h
  obtain ⟨h2, h3⟩ := ba h
  exact ⟨h1, of_decide_eq_true h2, of_decide_eq_true h3⟩
theorem some_good : (someD.all fun a => good [a] && someD.all fun b => good [a, b]) = true := by decide +kernel
def heldD : PyData := .list [.str "v", .str "w"]
theorem held_good : (good [heldD] && good [heldD, heldD]) = true := by decide +kernel
/-- what an entry keeps, as data -/
def dsOf (d : ErrD) (x y : PyData) : List PyData := match d.fs with
  | [_] => [x]
  | [_, _] => [x, y]
  | _ => []
theorem xs_dq {H : Hp} {x y : V} {dx dy : PyData} (d : ErrD) (hx : Dq H x dx) (hy : Dq H y dy) : DqA H (xsOf d x y) (dsOf d dx dy) := by
  unfold xsOf dsOf
  generalize d.fs = l
  match l with
  | [] => exact .nil
  | [_] => exact .cons hx .nil
  | [_, _] => exact .cons hx (.cons hy .nil)
  | _ :: _ :: _ :: _ => exact .nil
theorem ds_good {x y : PyData} {d : ErrD} (h1 : good [x] = true) (h2 : good [x, y] = true) : good (dsOf d x y) = true := by
  unfold dsOf
  split
  · exact h1
  · exact h2
  · decide +kernel
/-! ### entries -/
structure EntX (P : Program) (w : World) (K : Frag) (mg : Str → Option Value) (base : Heap) (H : Hp) (C : Addr) (fs : List (Str × V)) (xs : List V) (v : V) : Prop where
  ex : ∃ (t m n f u c' : Addr) (q : Str) (params : Arguments) (body : Expr) (scope : Scope), v = .ref t ∧ H t = some (.tup [.ref m, .ref n, .ref f, .ref u]) ∧ ErrO H m C fs ∧ ErrO H n C fs ∧ H f = some (LamO f q params body scope c') ∧
    H c' = some (CodeO c' q) ∧ H u = some (.lst xs) ∧ LamGood P w K mg base q params body scope C fs xs
section
variable {P : Program} {w : World} {K : Frag} {mg : Str → Option Value} {base : Heap} {H0 H H' : Hp} {l C : Addr} {fs : List (Str × V)} {xs : List V} {v x y : V}
theorem EntX.ext (h : EntX P w K mg base H C fs xs v) (e : ExtN H H') : EntX P w K mg base H' C fs xs v := by
  obtain ⟨t, m, n, f, u, c', q, params, body, scope, h1, h2, h3, h4, h5, h6, h7, h9⟩ := h.ex
  exact ⟨t, m, n, f, u, c', q, params, body, scope, h1, e _ _ h2 (fun ps z => by cases z), h3.ext e, h4.ext e, e _ _ h5 (fun ps z => by cases z), e _ _ h6 codeO_ne, e _ _ h7 (fun ps z => by cases z), h9⟩
theorem EntX.of (h : Entry P w K mg base H0 H l C fs xs v) : EntX P w K mg base H C fs xs v := by
  obtain ⟨t, m, n, f, u, c', q, params, body, scope, h1, h2, h3, h4, h5, h6, h7, h8, h9⟩ := h.ex
  exact ⟨t, m, n, f, u, c', q, params, body, scope, h1, h2, h3, h4, h5, h6, h7, h9⟩
/-- a list that stood ahead of the making is written -/
theorem EntX.held (h : Entry P w K mg base H0 H l C fs xs v) {b : Addr} {ys zs ws : List V} (h0 : H0 b = some (.lst ys)) (hb : H b = some (.lst zs)) : EntX P w K mg base (upd H b (.lst ws)) C fs xs v := by
  obtain ⟨t, m, n, f, u, c', q, params, body, scope, h1, h2, h3, h4, h5, h6, h7, h8, h9⟩ := h.ex
  have ne : ∀ {b' : Addr} {o : HO}, H b' = some o → o ≠ .lst zs → b' ≠ b := fun {b' o} e n z => by
    rw [z, hb] at e
    exact n (Option.some.inj e).symm
  have err : ∀ {a : Addr}, ErrO H a C fs → ErrO (upd H b (.lst ws)) a C fs := fun {a} ⟨d, e1, e2⟩ => ⟨d, by rw [upd_ne (ne e1 fun z => by cases z)]; exact e1, by rw [upd_ne (ne e2 fun z => by cases z)]; exact e2⟩
  have ub : u ≠ b := fun z => by
    obtain ⟨ps, e⟩ := h8.2 _ (z ▸ h0)
    cases e
  exact ⟨t, m, n, f, u, c', q, params, body, scope, h1, by rw [upd_ne (ne h2 fun z => by cases z)]; exact h2, err h3, err h4, by rw [upd_ne (ne h5 fun z => by cases z)]; exact h5,
    by rw [upd_ne (ne h6 fun z => by unfold CodeO at z; cases z)]; exact h6, by rw [upd_ne ub]; exact h7, h9⟩
/-- all of them, by places -/
def EntXs (P : Program) (w : World) (K : Frag) (mg : Str → Option Value) (base : Heap) (H : Hp) (x y : V) (ds : List ErrD) (us : List V) : Prop := us.length = ds.length ∧ ∀ (i : Nat) (d : ErrD) (u : V), ds[i]? = some d → us[i]? = some u → EntX P w K mg base H (d.C K) (fsOf d x y) (xsOf d x y) u
theorem EntXs.ext {ds : List ErrD} {us : List V} (h : EntXs P w K mg base H x y ds us) (e : ExtN H H') : EntXs P w K mg base H' x y ds us := ⟨h.1, fun i d u h1 h2 => (h.2 i d u h1 h2).ext e⟩
theorem ents_at : ∀ {ds : List ErrD} {us : List V}, Ents P w K mg base H0 H l x y ds us → ∀ {i : Nat} {d : ErrD} {u : V}, ds[i]? = some d → us[i]? = some u → EntD P w K mg base H0 H l x y d u
  | [], _, _, i, _, _, h, _ => by simp at h
  | _ :: _, [], h, _, _, _, _, _ => h.elim
  | d :: ds, u :: us, ⟨a, b⟩, 0, _, _, h1, h2 => by
    have h1 : some d = some _ := h1
    have h2 : some u = some _ := h2
    cases h1
    cases h2
    exact a
  | d :: ds, u :: us, ⟨a, b⟩, i + 1, _, _, h1, h2 => ents_at (i := i) b (by simpa using h1) (by simpa using h2)
theorem EntXs.of {ds : List ErrD} {us : List V} (h : Ents P w K mg base H0 H l x y ds us) : EntXs P w K mg base H x y ds us := ⟨h.length, fun i d u h1 h2 => EntX.of (ents_at h h1 h2)⟩
theorem EntXs.append {ds es : List ErrD} {us vs : List V} (h1 : EntXs P w K mg base H x y ds us) (h2 : EntXs P w K mg base H x y es vs) : EntXs P w K mg base H x y (ds ++ es) (us ++ vs) := by
  refine ⟨by rw [List.length_append, List.length_append, h1.1, h2.1], fun i d u e1 e2 => ?_⟩
  by_cases hi : i < ds.length
  · rw [List.getElem?_append_left hi] at e1
    rw [List.getElem?_append_left (by rw [h1.1]; exact hi)] at e2
    exact h1.2 i d u e1 e2
  · rw [List.getElem?_append_right (by omega)] at e1
    rw [List.getElem?_append_right (by rw [h1.1]; omega), h1.1] at e2
    exact h2.2 _ d u e1 e2
/-- .. that still stand when a list of then is written -/
structure EntH (P : Program) (w : World) (K : Frag) (mg : Str → Option Value) (base : Heap) (b : Addr) (H : Hp) (C : Addr) (fs : List (Str × V)) (xs : List V) (v : V) : Prop where
  ex : ∃ H0 l ys, Entry P w K mg base H0 H l C fs xs v ∧ H0 b = some (.lst ys)
theorem EntH.ext {b : Addr} (h : EntH P w K mg base b H C fs xs v) (e : ExtN H H') : EntH P w K mg base b H' C fs xs v := by
  obtain ⟨H0, l, ys, h1, h2⟩ := h.ex
  exact ⟨H0, l, ys, h1.ext e, h2⟩
def EntHs (P : Program) (w : World) (K : Frag) (mg : Str → Option Value) (base : Heap) (b : Addr) (H : Hp) (x y : V) (ds : List ErrD) (us : List V) : Prop := us.length = ds.length ∧ ∀ (i : Nat) (d : ErrD) (u : V), ds[i]? = some d → us[i]? = some u → EntH P w K mg base b H (d.C K) (fsOf d x y) (xsOf d x y) u
theorem EntHs.ext {b : Addr} {ds : List ErrD} {us : List V} (h : EntHs P w K mg base b H x y ds us) (e : ExtN H H') : EntHs P w K mg base b H' x y ds us := ⟨h.1, fun i d u h1 h2 => (h.2 i d u h1 h2).ext e⟩
theorem EntHs.append {b : Addr} {ds es : List ErrD} {us vs : List V} (h1 : EntHs P w K mg base b H x y ds us) (h2 : EntHs P w K mg base b H x y es vs) : EntHs P w K mg base b H x y (ds ++ es) (us ++ vs) := by
  refine ⟨by rw [List.length_append, List.length_append, h1.1, h2.1], fun i d u e1 e2 => ?_⟩
  by_cases hi : i < ds.length
  · rw [List.getElem?_append_left hi] at e1
    rw [List.getElem?_append_left (by rw [h1.1]; exact hi)] at e2
    exact h1.2 i d u e1 e2
  · rw [List.getElem?_append_right (by omega)] at e1
    rw [List.getElem?_append_right (by rw [h1.1]; omega), h1.1] at e2
    exact h2.2 _ d u e1 e2
theorem EntHs.of {b : Addr} {ys : List V} {ds : List ErrD} {us : List V} (h : Ents P w K mg base H0 H l x y ds us) (h0 : H0 b = some (.lst ys)) : EntHs P w K mg base b H x y ds us := ⟨h.length, fun i d u h1 h2 => ⟨_, _, _, ents_at h h1 h2, h0⟩⟩
theorem EntHs.put {b : Addr} {zs ws : List V} {ds : List ErrD} {us : List V} (h : EntHs P w K mg base b H x y ds us) (hb : H b = some (.lst zs)) : EntXs P w K mg base (upd H b (.lst ws)) x y ds us := ⟨h.1, fun i d u h1 h2 => by
  obtain ⟨H0, l, ys, k1, k2⟩ := (h.2 i d u h1 h2).ex
  exact EntX.held k1 k2 hb⟩
end
end K00
set_option maxHeartbeats 4000000
/-! law_k00: the law's own text, its statements one by one. -/
namespace K00
open PySem PySem.W PySem.Calls PySem.Spec PyProof.Rows L2 He My LamX
open Dw (Dq DqA DqK Stp StrI wS wSs ps_w pss_w)
abbrev NL : List Str := ["script", "stream", "some", "turn", "x", "y", "z", "made", "at", "mine", "twin", "field", "due", "held", "base"]
theorem sc_law : FnScope NL ["script"] (C8.fnScope (top 58)) := ⟨rfl, rfl, rfl, by decide +kernel, rfl, by decide +kernel, by decide +kernel⟩
abbrev cxLaw (w : World) (K : Frag) (mg : Str → Option Value) (base : Heap) (f : Addr) (cdv : Value) (A : Around) (outer : List Env) (s : Shared) (H : Hp) (E : XK) : Cx := (cxOf C8.CX0 PP w K mg base NL "law" (C8.fnScope (top 58)) f cdv A outer s H E).nox
/-- where the law's body is run -/
structure LC where
  w : World
  K : Frag
  mg : Str → Option Value
  base : Heap
  f : Addr
  cdv : Value
  A : Around
  outer : List Env
  s : Shared
  H : Hp
  E : XK
abbrev XL (c : LC) : Cx := cxLaw c.w c.K c.mg c.base c.f c.cdv c.A c.outer c.s c.H c.E
structure HL (c : LC) : Prop where
  hr : Room 4 (c.A.deeper (envOfC "law" (C8.fnScope (top 58)) c.s.heap.objs.size c.f c.cdv))
  hgd : c.A.guards = some []
  c1 : C8.Cal PP c.w c.K c.mg c.base 1 "_law_start" (spStart c.K) []
  c2 : C8.Cal PP c.w c.K c.mg c.base 2 "_law_mixed" (Dw.spS 1 preM postM costM) []
  ca : C8.Cal PP c.w c.K c.mg c.base 3 "_law_made_a" (spMade PP c.w c.K c.mg c.base (Tk c.K) ((es.drop 0).take 18)) []
  cb : C8.Cal PP c.w c.K c.mg c.base 3 "_law_made_b" (spMade PP c.w c.K c.mg c.base (Tk c.K) ((es.drop 18).take 18)) []
  cc : C8.Cal PP c.w c.K c.mg c.base 3 "_law_made_c" (spMade PP c.w c.K c.mg c.base (Tk c.K) ((es.drop 36).take 7)) []
  co : C8.Cal PP c.w c.K c.mg c.base 3 "_law_is_own" (spIsOwn c.K) []
  ck : C8.Cal PP c.w c.K c.mg c.base 2 "_law_kinds" (spKinds c.K es) []
  ct : CalG PP c.w c.K c.mg c.base 1 "_law_are_these" spThese
  mr : c.mg "range" = none
  me : c.mg "enumerate" = none
  mi : c.mg "isinstance" = none
  mV : c.mg "ValueError" = none
  mS : c.mg "SlotError" = some (.ref (S c.K))
  kd : ∀ (n : Nat) (d : ErrD), es[n]? = some d → KindOk c.K d n
  bs : BaseOk c.K
def noS : Stmt := .Pass ⟨0, 0, 0, 0⟩
def lawS (i : Nat) : Stmt := (C8.fnBody (top 58)).getD i noS
def forB : Stmt → List Stmt
  | .For _ _ b _ _ => b
  | _ => []
def lawT (i : Nat) : Stmt := (forB (lawS 2)).getD i noS
theorem law_body : C8.fnBody (top 58) = [lawS 0, lawS 1, lawS 2, lawS 3, lawS 4, lawS 5, lawS 6, lawS 7, lawS 8] := rfl
/-- a heap grown over one, the stream being there -/
structure Gr (a s : Addr) (H0 H : Hp) : Prop where
  k : Kept H0 H
  a : H a ≠ none
  s : H s ≠ none
theorem Gr.new {a s p : Addr} {H0 H : Hp} {o : HO} (g : Gr a s H0 H) (hp : H p = none) : Gr a s H0 (upd H p o) ∧ core a s (upd H p o) p = some o ∧ ExtN (core a s H) (core a s (upd H p o)) := by
  have k := kept_upd (o := o) hp
  exact ⟨⟨g.k.trans k, fun z => g.a (k.none z), fun z => g.s (k.none z)⟩, core_new hp g.a g.s, core_step (StepN.kept k)⟩
section
variable {c : LC} {D : Ends} {σ : L2.St} {H : Hp}
theorem ndL : (XL c).N.Nodup := sc_law.nd
theorem w_start (h : HL c) {r : Addr} {ns : List Int} (h0 : σ[0]? = some (some (.ref r))) (hS : SqL c.K H r (ns.map V.int)) (q : ∀ a s H', Kept H H' → H a = none → H s = none → StrI a s 0 H' → D.nx (σ.set 1 (some (.ref a))) H') : wS (XL c) (lawS 0) D σ H := by
  refine ⟨_, ps_set (i := 1) sc_law.nd rfl (.inl rfl) (C8.pe_c h.c1 h.hr (by decide) rfl (pa_cons (pe_var (i := 0) rfl (.inl rfl)) pa_nil)), ?_⟩
  exact ⟨_, h0, r, ns, rfl, hS, fun a s H' k1 k2 k3 k4 => q a s H' k1 k2 k3 k4⟩
theorem w_some (h : HL c) {a s : Addr} (ha : H a ≠ none) (hs : H s ≠ none) (q : ∀ p H', Kept H H' → Dq (core a s H') (.ref p) (.list someD) → D.nx (σ.set 2 (some (.ref p))) H') : wS (XL c) (lawS 1) D σ H := by
  refine ⟨_, ps_set (i := 2) sc_law.nd rfl (.inl rfl) (pe_lst (pa_cons pe_non (pa_cons pe_int (pa_cons (pe_un un_neg pe_int) (pa_cons pe_bl (pa_cons pe_str (pa_cons pe_str (pa_cons (pe_lst (pa_cons pe_int (pa_cons pe_str pa_nil)))
    (pa_cons (pe_tup (pa_cons pe_int (pa_cons pe_non pa_nil))) (pa_cons (pe_disp (pps_cons pe_str pe_int pps_nil) rfl rfl (by simp) (by decide)) (pa_cons (pe_lst (pa_cons (pe_lst (pa_cons pe_str pa_nil)) pa_nil)) (pa_cons (pe_op op_pow pe_int pe_int) (pa_cons (pe_tup (pa_cons pe_str (pa_cons pe_int pa_nil))) (pa_cons pe_bl (pa_cons pe_int (pa_cons pe_int pa_nil)))))))))))))))), ?_⟩
  refine ⟨_, rfl, (by show 2 ≤ sizeLine; decide), fun p1 n1 => ?_⟩
  obtain ⟨g1, c1, e1⟩ := Gr.new (a := a) (s := s) (H0 := H) (o := HO.lst [V.int 1, V.str "b"]) ⟨fun _ _ h => h, ha, hs⟩ n1
  have d1 : Dq _ (.ref p1) (.list [.int 1, .str "b"]) := .lst c1 (.cons (.int _) (.cons (.str _) .nil))
  refine ⟨(by show 2 ≤ sizeLine; decide), fun p2 n2 => ?_⟩
  obtain ⟨g2, c2, e2⟩ := g1.new (o := HO.tup [V.int 2, V.non]) n2
  have d2 : Dq _ (.ref p2) (.tuple [.int 2, .none]) := .tup c2 (.cons (.int _) (.cons .non .nil))
  intro p3 n3
  obtain ⟨g3, c3, e3⟩ := g2.new (o := HO.dK (mergeK [] [((.inr "a" : Key), V.int 1)])) n3
  have d3 : Dq _ (.ref p3) (.dict [(.str "a", .int 1)]) := .dic c3 (.cons (.int _) .nil)
  refine ⟨upd_same, [(.inr "a", .int 1)], rfl, by decide, ?_⟩
  have e33 : ∀ (H2 : Hp) (o o' : HO), upd (upd H2 p3 o) p3 o' = upd H2 p3 o' := fun H2 o o' => by
    funext b
    by_cases hb : b = p3
    · rw [hb, upd_same, upd_same]
    · rw [upd_ne hb, upd_ne hb, upd_ne hb]
  rw [e33]
  refine ⟨(by show 1 ≤ sizeLine; decide), fun p4 n4 => ?_⟩
  obtain ⟨g4, c4, e4⟩ := g3.new (o := HO.lst [V.str "x"]) n4
  have d4 : Dq _ (.ref p4) (.list [.str "x"]) := .lst c4 (.cons (.str _) .nil)
  refine ⟨(by show 1 ≤ sizeLine; decide), fun p5 n5 => ?_⟩
  obtain ⟨g5, c5, e5⟩ := g4.new (o := HO.lst [V.ref p4]) n5
  have d5 : Dq _ (.ref p5) (.list [.list [.str "x"]]) := .lst c5 (.cons (dq_n e5 d4) .nil)
  refine ⟨10, 30, rfl, rfl, ?_, ?_⟩
  · unfold CPow
    decide
  refine ⟨(by show 2 ≤ sizeLine; decide), fun p6 n6 => ?_⟩
  obtain ⟨g6, c6, e6⟩ := g5.new (o := HO.tup [V.str "s", V.int 3]) n6
  have d6 : Dq _ (.ref p6) (.tuple [.str "s", .int 3]) := .tup c6 (.cons (.str _) (.cons (.int _) .nil))
  refine ⟨(by show 15 ≤ sizeLine; decide), fun p7 n7 => ?_⟩
  obtain ⟨g7, c7, e7⟩ := g6.new (o := HO.lst [.non, .int 5, .int (-1), .bl true, .str "a", .str "", .ref p1, .ref p2, .ref p3, .ref p5, .int (10 ^ 30), .ref p6, .bl false, .int 0, .int 1]) n7
  refine q p7 _ g7.k (.lst c7 ?_)
  have f6 := e7
  have f5 := e6.trans f6
  have f4 := e5.trans f5
  have f3 := e4.trans f4
  have f2 := e3.trans f3
  have f1 := e2.trans f2
  exact .cons .non (.cons (.int _) (.cons (.int _) (.cons (.bl _) (.cons (.str _) (.cons (.str _) (.cons (dq_n f1 d1) (.cons (dq_n f2 d2) (.cons (dq_n f3 d3) (.cons (dq_n f5 d5) (.cons (.int _) (.cons (dq_n f6 d6) (.cons (.bl _) (.cons (.int _) (.cons (.int _) .nil))))))))))))))
end
end K00
set_option maxHeartbeats 4000000
namespace K00
open PySem PySem.W PySem.Calls PySem.Spec PyProof.Rows L2 He My LamX
open Dw (Dq DqA DqK Stp StrI wS wSs ps_w pss_w)
section
variable {c : LC} {D : Ends} {σ : L2.St} {H : Hp}
/-- x, y, z = _law_mixed(stream, some)[:3] -/
theorem w_xyz (h : HL c) {a s sl : Addr} {m : Nat} (h1 : σ[1]? = some (some (.ref a))) (h2 : σ[2]? = some (some (.ref sl))) (si : StrI a s m H) (hm : m + 15 ≤ 2 ^ 48) (ds : Dq (core a s H) (.ref sl) (.list someD))
    (q : ∀ v1 v2 v3 d1 d2 d3 m' H', StrI a s m' H' → m' ≤ m + 15 → (∀ b o, b ≠ a → b ≠ s → H b = some o → H' b = some o) → Dq H' v1 d1 → Dq H' v2 d2 → Dq H' v3 d3 → d1 ∈ someD → d2 ∈ someD → d3 ∈ someD → D.nx (((σ.set 4 (some v1)).set 5 (some v2)).set 6 (some v3)) H') : wS (XL c) (lawT 0) D σ H := by
  refine ⟨_, ps_asg (pe_slice sl_list (C8.pe_c h.c2 h.hr (by decide) rfl (pa_cons (pe_var (i := 1) rfl (.inl rfl)) (pa_cons (pe_var (i := 2) rfl (.inl rfl)) pa_nil))) po_none (po_some pe_int)) (pg_lst rfl (pgs_cons (pg_name (i := 4) sc_law.nd rfl (.inl rfl)) (pgs_cons (pg_name (i := 5) sc_law.nd rfl (.inl rfl)) (pgs_cons (pg_name (i := 6) sc_law.nd rfl (.inl rfl)) pgs_nil)))), ?_⟩
  refine ⟨_, h1, _, h2, a, s, [.ref sl], core a s H, [.list someD], m, rfl, core_ex, core_a, core_s, si, .cons ds .nil, rfl, ⟨someD, rfl, by decide⟩, hm, fun v C' H' d m' ⟨xs, ys, e1, e2, e3, e4⟩ hm' g si' dv => ?_⟩
  have e1' : xs = someD := by
    have z := (List.cons.inj e1).1
    exact (PyData.list.inj z).symm
  subst e1' e2
  have l15 : ys.length = 15 := e3
  have ca : C' a = none := Dw.stp_none g core_a (let ⟨xs, q⟩ := (str_at si).1; ⟨_, q⟩)
  have cs : C' s = none := Dw.stp_none g core_s (let ⟨xs, q⟩ := (str_at si).2; ⟨_, q⟩)
  cases dv with
  | @lst r vs _ hr av =>
    have lv : vs.length = 15 := av.length.trans l15
    refine ⟨3, rfl, r, vs, rfl, SqL.of (g.sub _ _ hr), fun p hp => ?_⟩
    have ec : cutV vs none (some 3) = vs.take 3 := by
      unfold cutV
      simp [HT.sIx, lv]
    match vs, ys, av, lv, l15 with
    | v1 :: v2 :: v3 :: vr, y1 :: y2 :: y3 :: yr, .cons a1 (.cons a2 (.cons a3 ar)), _, _ => 
      refine ⟨p, [v1, v2, v3], rfl, SqL.of (by rw [upd_same, ec]; rfl), rfl, v1, _, rfl, v2, _, rfl, v3, _, rfl, rfl, ?_⟩
      have k := kept_upd (o := HO.lst (cutV (v1 :: v2 :: v3 :: vr) none (some 3))) hp
      have ex : Dw.Ex C' (upd H' p (.lst (cutV (v1 :: v2 :: v3 :: vr) none (some 3)))) := fun b o z => k _ _ (g.sub b o z)
      refine q v1 v2 v3 y1 y2 y3 m' _ (str_kept si' k.n) hm' (fun b o n1 n2 hb => k _ _ (g.keep b o hb (by simp [n1, n2]))) (Dw.Dq.mono ex a1) (Dw.Dq.mono ex a2) (Dw.Dq.mono ex a3) (e4 _ (by simp)) (e4 _ (by simp)) (e4 _ (by simp))
end
end K00
set_option maxHeartbeats 4000000
namespace K00
open PySem PySem.W PySem.Calls PySem.Spec PyProof.Rows L2 He My LamX
open Dw (Dq DqA DqK Stp StrI wS wSs ps_w pss_w)
section
variable {c : LC} {D : Ends} {σ : L2.St} {H : Hp}
abbrev spA (c : LC) : Sp := spMade PP c.w c.K c.mg c.base (Tk c.K) ((es.drop 0).take 18)
abbrev spB (c : LC) : Sp := spMade PP c.w c.K c.mg c.base (Tk c.K) ((es.drop 18).take 18)
abbrev spC (c : LC) : Sp := spMade PP c.w c.K c.mg c.base (Tk c.K) ((es.drop 36).take 7)
theorem ext_new {H : Hp} {p : Addr} {o : HO} (h : H p = none) : ExtN H (upd H p o) := (kept_upd h).n
theorem t_made {i j k : Nat} {x y z : V} {Q : VK} (hx : σ[i]? = some (some x)) (hy : σ[j]? = some (some y)) (hz : σ[k]? = some (some z)) (hT : Tabs (Tk c.K) H)
    (q : ∀ p H' us, ExtN H H' → Tabs (Tk c.K) H' → H' p = some (.lst us) → EntXs PP c.w c.K c.mg c.base H' x y es us → (∀ b ys, H b = some (.lst ys) → EntHs PP c.w c.K c.mg c.base b H' x y es us) → Q (.ref p) H') :
    tOp rCat (tOp rCat (tCall (spA c) [] C8.E0 (tCons (tVar i) (tCons (tVar j) (tCons (tVar k) tNil)))) (tCall (spB c) [] C8.E0 (tCons (tVar i) (tCons (tVar j) (tCons (tVar k) tNil))))) (tCall (spC c) [] C8.E0 (tCons (tVar i) (tCons (tVar j) (tCons (tVar k) tNil)))) σ H Q := by
  refine ⟨_, hx, _, hy, _, hz, x, y, z, rfl, hT, fun pa ua H1 e1 t1 n1 l1 en1 => ?_⟩
  refine ⟨_, hx, _, hy, _, hz, x, y, z, rfl, t1, fun pb ub H2 e2 t2 n2 l2 en2 => ?_⟩
  have la := en1.length
  have lb := en2.length
  refine ⟨pa, pb, ua, ub, rfl, rfl, e2 _ _ l1 (fun ps z => by cases z), l2, ?_, fun p hp => ?_⟩
  · have e18 : ((es.drop 0).take 18).length = 18 := rfl
    have e18' : ((es.drop 18).take 18).length = 18 := rfl
    rw [la, lb, e18, e18']
    decide
  have e3 := ext_new (o := HO.lst (ua ++ ub)) hp
  have t3 : Tabs (Tk c.K) (upd H2 p (.lst (ua ++ ub))) := t2.ext (kept_upd hp)
  refine ⟨_, hx, _, hy, _, hz, x, y, z, rfl, t3, fun pc uc H4 e4 t4 n4 l4 en4 => ?_⟩
  have lc := en4.length
  refine ⟨p, pc, ua ++ ub, uc, rfl, rfl, e4 _ _ upd_same (fun ps z => by cases z), l4, ?_, fun p2 hp2 => ?_⟩
  · have e18 : ((es.drop 0).take 18).length = 18 := rfl
    have e18' : ((es.drop 18).take 18).length = 18 := rfl
    have e7 : ((es.drop 36).take 7).length = 7 := rfl
    rw [List.length_append, la, lb, lc, e18, e18', e7]
    decide
  have e5 := ext_new (o := HO.lst ((ua ++ ub) ++ uc)) hp2
  have t5 : Tabs (Tk c.K) (upd H4 p2 (.lst ((ua ++ ub) ++ uc))) := t4.ext (kept_upd hp2)
  have a1 := ((e2.trans e3).trans e4).trans e5
  have a2 := (e3.trans e4).trans e5
  refine q p2 _ _ (((e1.trans e2).trans e3).trans (e4.trans e5)) t5 upd_same ?_ fun b ys hb => ?_
  · have r := (((EntXs.of en1).ext a1).append ((EntXs.of en2).ext a2)).append ((EntXs.of en4).ext e5)
    rw [es_parts] at r
    exact r
  · have b1 := e1 _ _ hb (fun ps z => by cases z)
    have b3 := (e2.trans e3) _ _ b1 (fun ps z => by cases z)
    have r := (((EntHs.of en1 hb).ext a1).append ((EntHs.of en2 b1).ext a2)).append ((EntHs.of en4 b3).ext e5)
    rw [es_parts] at r
    exact r
/-- made = .. of x, y, z -/
theorem w_made (h : HL c) {x y z : V} (hx : σ[4]? = some (some x)) (hy : σ[5]? = some (some y)) (hz : σ[6]? = some (some z)) (hT : Tabs (Tk c.K) H)
    (q : ∀ p H' us, ExtN H H' → Tabs (Tk c.K) H' → H' p = some (.lst us) → EntXs PP c.w c.K c.mg c.base H' x y es us → D.nx (σ.set 7 (some (.ref p))) H') : wS (XL c) (lawT 1) D σ H := by
  refine ⟨_, ps_set (i := 7) sc_law.nd rfl (.inl rfl) (pe_op op_cat (pe_op op_cat (C8.pe_c h.ca h.hr (by decide) rfl (pa_cons (pe_var (i := 4) rfl (.inl rfl)) (pa_cons (pe_var (i := 5) rfl (.inl rfl)) (pa_cons (pe_var (i := 6) rfl (.inl rfl)) pa_nil)))) (C8.pe_c h.cb h.hr (by decide) rfl (pa_cons (pe_var (i := 4) rfl (.inl rfl)) (pa_cons (pe_var (i := 5) rfl (.inl rfl)) (pa_cons (pe_var (i := 6) rfl (.inl rfl)) pa_nil))))) (C8.pe_c h.cc h.hr (by decide) rfl (pa_cons (pe_var (i := 4) rfl (.inl rfl)) (pa_cons (pe_var (i := 5) rfl (.inl rfl)) (pa_cons (pe_var (i := 6) rfl (.inl rfl)) pa_nil))))), ?_⟩
  exact t_made (c := c) hx hy hz hT fun p H' us e t l en _ => q p H' us e t l en
/-- .. of held -/
theorem w_madeH (h : HL c) {x : V} (hx : σ[13]? = some (some x)) (hT : Tabs (Tk c.K) H)
    (q : ∀ p H' us, ExtN H H' → Tabs (Tk c.K) H' → H' p = some (.lst us) → (∀ b ys, H b = some (.lst ys) → EntHs PP c.w c.K c.mg c.base b H' x x es us) → D.nx (σ.set 7 (some (.ref p))) H') : wS (XL c) (lawS 4) D σ H := by
  refine ⟨_, ps_set (i := 7) sc_law.nd rfl (.inl rfl) (pe_op op_cat (pe_op op_cat (C8.pe_c h.ca h.hr (by decide) rfl (pa_cons (pe_var (i := 13) rfl (.inl rfl)) (pa_cons (pe_var (i := 13) rfl (.inl rfl)) (pa_cons (pe_var (i := 13) rfl (.inl rfl)) pa_nil)))) (C8.pe_c h.cb h.hr (by decide) rfl (pa_cons (pe_var (i := 13) rfl (.inl rfl)) (pa_cons (pe_var (i := 13) rfl (.inl rfl)) (pa_cons (pe_var (i := 13) rfl (.inl rfl)) pa_nil))))) (C8.pe_c h.cc h.hr (by decide) rfl (pa_cons (pe_var (i := 13) rfl (.inl rfl)) (pa_cons (pe_var (i := 13) rfl (.inl rfl)) (pa_cons (pe_var (i := 13) rfl (.inl rfl)) pa_nil))))), ?_⟩
  exact t_made (c := c) hx hx hx hT fun p H' us e t l _ en => q p H' us e t l en
/-- are_these(field(e), due) -/
theorem t_these {j : Nat} {m f u c' C : Addr} {q : Str} {params : Arguments} {body : Expr} {scope : Scope} {fs : List (Str × V)} {xs : List V} {ds : List PyData} {Q : VK} (h11 : σ[11]? = some (some (.ref f))) (hj : σ[j]? = some (some (.ref m))) (h12 : σ[12]? = some (some (.ref u)))
    (hm : ErrO H m C fs) (hf : H f = some (LamO f q params body scope c')) (hc : H c' = some (CodeO c' q)) (hu : H u = some (.lst xs)) (LG : LamGood PP c.w c.K c.mg c.base q params body scope C fs xs) (hd : DqA H xs ds) (hg : good ds = true)
    (k : ∀ H', Kept H H' → Q (.bl true) H') : tCall spThese [] C8.E0 (tCons (tCallL (XL c) 3 11 (tCons (tVar j) tNil)) (tCons (tVar 12) tNil)) σ H Q := by
  refine ⟨f, c', ["e"], q, params, body, scope, h11, hf, _, hj, hf, hc, LG.sc, rfl, fun pm ctv us l => LG.bind c' pm ctv us l, fun A outer s hr => ?_⟩
  obtain ⟨tb, p, w⟩ := LG.run (XL c) rfl rfl rfl rfl rfl f c' A outer s H
  refine ⟨tb, p, w m _ hm fun a ha => ?_⟩
  have kp := kept_upd (o := HO.lst xs) ha
  obtain ⟨g1, g2, g3⟩ := good_ok hg
  refine ⟨_, h12, a, u, ds, rfl, .lst upd_same (Dw.DqA.mono kp hd), .lst (kp _ _ hu) (Dw.DqA.mono kp hd), g1, g2, g3, k _ kp⟩
end
end K00
set_option maxHeartbeats 4000000
namespace K00
open PySem PySem.W PySem.Calls PySem.Spec PyProof.Rows L2 He My LamX
open Dw (Dq DqA DqK Stp StrI wS wSs ps_w pss_w)
/-- the names that a loop over made leaves alone -/
def SameUp (lo hi : Nat) (σ σ' : L2.St) : Prop := σ'.length = σ.length ∧ ∀ i, i < lo ∨ hi < i → σ'[i]? = σ[i]?
theorem SameUp.refl {lo hi : Nat} (σ : L2.St) : SameUp lo hi σ σ := ⟨rfl, fun _ _ => rfl⟩
theorem SameUp.set {lo hi : Nat} {σ σ' : L2.St} (h : SameUp lo hi σ σ') {j : Nat} {o : Option V} (hj : lo ≤ j ∧ j ≤ hi) : SameUp lo hi σ (σ'.set j o) := ⟨by rw [List.length_set]; exact h.1, fun i hi' => by
  rw [List.getElem?_set_ne (by omega)]
  exact h.2 i hi'⟩
section
variable {c : LC} {D : Ends} {σ : L2.St} {H : Hp}
theorem w_loopA (h : HL c) {p : Addr} {us : List V} {x y : V} {dx dy : PyData} (hl : σ.length = 15) (h7 : σ[7]? = some (some (.ref p))) (hp : H p = some (.lst us)) (en : EntXs PP c.w c.K c.mg c.base H x y es us) (qx : Dq H x dx) (qy : Dq H y dy) (g1 : good [dx] = true) (g2 : good [dx, dy] = true)
    (q : ∀ σ' H', SameUp 8 12 σ σ' → Kept H H' → D.nx σ' H') : wS (XL c) (lawT 2) D σ H := by
  refine ⟨_, ps_for PassesOwn.never rfl (pi_enum rfl h.me (pa_cons (pe_var (i := 7) rfl (.inl rfl)) pa_nil)) (pg_tup rfl (pgs_cons (pg_name (i := 8) sc_law.nd rfl (.inl rfl)) (pgs_cons (pg_tup rfl (pgs_cons (pg_name (i := 9) sc_law.nd rfl (.inl rfl)) (pgs_cons (pg_name (i := 10) sc_law.nd rfl (.inl rfl)) (pgs_cons (pg_name (i := 11) sc_law.nd rfl (.inl rfl)) (pgs_cons (pg_name (i := 12) sc_law.nd rfl (.inl rfl)) pgs_nil))))) pgs_nil)))
    (pss_cons (ps_if (PW.pt (pw_or (pt_not (pt_val (C8.pe_c h.co h.hr (by decide) rfl (pa_cons (pe_var (i := 9) rfl (.inl rfl)) (pa_cons (pe_var (i := 8) rfl (.inl rfl)) pa_nil))))) (pw_or1 (pt_not (pt_val (C8.pe_c h.co h.hr (by decide) rfl (pa_cons (pe_var (i := 10) rfl (.inl rfl)) (pa_cons (pe_var (i := 8) rfl (.inl rfl)) pa_nil)))))))) (pss_one (ps_ret pe_bl)) pss_nil) (pss_one (ps_if (PW.pt (pw_or (pt_not (pt_val (pe_cG h.ct h.hr (by decide) (guards_deeper h.hgd) rfl (pa_cons (pe_callLam (k := 3) (i := 11) h.hr rfl (.inl rfl) (pa_cons (pe_var (i := 9) rfl (.inl rfl)) pa_nil)) (pa_cons (pe_var (i := 12) rfl (.inl rfl)) pa_nil))))) (pw_or1 (pt_not (pt_val (pe_cG h.ct h.hr (by decide) (guards_deeper h.hgd) rfl (pa_cons (pe_callLam (k := 3) (i := 11) h.hr rfl (.inl rfl) (pa_cons (pe_var (i := 10) rfl (.inl rfl)) pa_nil)) (pa_cons (pe_var (i := 12) rfl (.inl rfl)) pa_nil)))))))) (pss_one (ps_ret pe_bl)) pss_nil))), ?_⟩
  refine ⟨_, h7, p, us, rfl, SqL.of hp, ?_⟩
  refine ⟨fun i m σ' H' => m = us.length - i ∧ i ≤ us.length ∧ SameUp 8 12 σ σ' ∧ Kept H H', ⟨us.length, by simp, Nat.zero_le _, SameUp.refl σ, fun _ _ z => z⟩, ?_⟩
  rintro i m σ' H' ⟨rfl, hi, su, kp⟩
  have hp' : SqL c.K H' p us := SqL.of (kp _ _ hp)
  by_cases hlt : i < us.length
  · refine .inr ⟨⟨us, us[i], hp', by simp [hlt]⟩, fun σ'' H'' => i + 1 ≤ us.length ∧ SameUp 8 12 σ σ'' ∧ Kept H H'', fun σ'' H'' ⟨a1, a2, a3⟩ => ⟨us.length - (i + 1), by omega, rfl, a1, a2, a3⟩, fun x' H2 y' => ?_⟩
    obtain ⟨T, u, rfl, hT, rfl, hx⟩ := y'
    have hu := hx us hp'
    have el : us.length = es.length := en.1
    obtain ⟨d, hd⟩ : ∃ d, es[i]? = some d := ⟨_, List.getElem?_eq_getElem (by omega)⟩
    have kp2 : Kept H (upd H' T (.tup [.int (i : Nat), u])) := kp.trans (kept_upd hT)
    obtain ⟨t, m', n, f, b, c', q', params, body, scope, rfl, e2, e3, e4, e5, e6, e7, LG⟩ := ((en.2 i d u hd hu).ext kp2.n).ex
    have l' : σ'.length = 15 := su.1.trans hl
    refine ⟨T, _, rfl, SqT.of upd_same, rfl, _, _, rfl, _, _, rfl, ⟨t, _, rfl, SqT.of e2, rfl, _, _, rfl, _, _, rfl, _, _, rfl, _, _, rfl, rfl, ?_⟩⟩
    have su2 := ((((su.set (j := 8) (o := some (.int (i : Nat))) (by omega)).set (j := 9) (o := some (.ref m')) (by omega)).set (j := 10) (o := some (.ref n)) (by omega)).set (j := 11) (o := some (.ref f)) (by omega)).set (j := 12) (o := some (.ref b)) (by omega)
    have s8 : (((((σ'.set 8 (some (V.int (i : Nat)))).set 9 (some (.ref m'))).set 10 (some (.ref n))).set 11 (some (.ref f))).set 12 (some (.ref b)))[8]? = some (some (.int (i : Nat))) := by simp [List.getElem?_set, l']
    have s9 : (((((σ'.set 8 (some (V.int (i : Nat)))).set 9 (some (.ref m'))).set 10 (some (.ref n))).set 11 (some (.ref f))).set 12 (some (.ref b)))[9]? = some (some (.ref m')) := by simp [List.getElem?_set, l']
    have s10 : (((((σ'.set 8 (some (V.int (i : Nat)))).set 9 (some (.ref m'))).set 10 (some (.ref n))).set 11 (some (.ref f))).set 12 (some (.ref b)))[10]? = some (some (.ref n)) := by simp [List.getElem?_set, l']
    have s11 : (((((σ'.set 8 (some (V.int (i : Nat)))).set 9 (some (.ref m'))).set 10 (some (.ref n))).set 11 (some (.ref f))).set 12 (some (.ref b)))[11]? = some (some (.ref f)) := by simp [List.getElem?_set, l']
    have s12 : (((((σ'.set 8 (some (V.int (i : Nat)))).set 9 (some (.ref m'))).set 10 (some (.ref n))).set 11 (some (.ref f))).set 12 (some (.ref b)))[12]? = some (some (.ref b)) := by simp [List.getElem?_set, l']
    refine ⟨rfl, ?_⟩
    show tSeq _ _ _ _ _
    generalize ((((σ'.set 8 (some (V.int (i : Nat)))).set 9 (some (.ref m'))).set 10 (some (.ref n))).set 11 (some (.ref f))).set 12 (some (.ref b)) = τ at *
    generalize upd H' T (.tup [.int (i : Nat), .ref t]) = G at *
    obtain ⟨ec, ka, kn, ks, kv, kl⟩ := h.kd i d hd
    refine ⟨_, s9, _, s8, m', _, i, _, rfl, .inr ⟨_, e3⟩, ec, ka, kn, ks, kv, kl, fun G1 k1 => ⟨true, rfl, ?_⟩⟩
    simp only [Bool.not_true, Bool.false_eq_true, if_false]
    refine ⟨_, s10, _, s8, n, _, i, _, rfl, .inr ⟨_, e4.ext k1.n⟩, ec, ka, kn, ks, kv, kl, fun G2 k2 => ⟨true, rfl, ?_⟩⟩
    simp only [Bool.not_true, Bool.false_eq_true, if_false]
    have k12 := k1.trans k2
    have dq : DqA H (xsOf d x y) (dsOf d dx dy) := xs_dq d qx qy
    refine t_these (c := c) (C := d.C c.K) s11 s9 s12 (e3.ext k12.n) (k12 _ _ e5) (k12 _ _ e6) (k12 _ _ e7) LG (Dw.DqA.mono (kp2.trans k12) dq) (ds_good g1 g2) fun G3 k3 => ⟨true, rfl, ?_⟩
    simp only [Bool.not_true, Bool.false_eq_true, if_false]
    have k123 := k12.trans k3
    refine t_these (c := c) (C := d.C c.K) s11 s10 s12 (e4.ext k123.n) (k123 _ _ e5) (k123 _ _ e6) (k123 _ _ e7) LG (Dw.DqA.mono (kp2.trans k123) dq) (ds_good g1 g2) fun G4 k4 => ⟨true, rfl, ?_⟩
    simp only [Bool.not_true, Bool.false_eq_true, if_false]
    exact ⟨by omega, su2, kp2.trans (k123.trans k4)⟩
  · have e : i = us.length := by omega
    subst e
    exact .inl ⟨⟨us, hp', Nat.le_refl _⟩, q σ' H' su kp⟩
end
end K00
set_option maxHeartbeats 4000000
namespace K00
open PySem PySem.W PySem.Calls PySem.Spec PyProof.Rows L2 He My LamX
open Dw (Dq DqA DqK Stp StrI wS wSs ps_w pss_w)
section
variable {c : LC} {D : Ends} {σ : L2.St} {H : Hp}
/-- held = ["v"] -/
theorem w_held (h : HL c) (q : ∀ p, H p = none → D.nx (σ.set 13 (some (.ref p))) (upd H p (.lst [.str "v"]))) : wS (XL c) (lawS 3) D σ H := by
  refine ⟨_, ps_set (i := 13) sc_law.nd rfl (.inl rfl) (pe_lst (pa_cons pe_str pa_nil)), ?_⟩
  exact ⟨(by show 1 ≤ sizeLine; decide), fun p hp => q p hp⟩
/-- held.append("w") -/
theorem w_app (h : HL c) {p : Addr} (h13 : σ[13]? = some (some (.ref p))) (hp : H p = some (.lst [.str "v"])) (q : D.nx σ (upd H p (.lst [.str "v", .str "w"]))) : wS (XL c) (lawS 5) D σ H := by
  refine ⟨_, ps_expr (pe_bm PySem.F.plainAttrs_list PySem.F.slot_list_append PySem.F.type_list_append mt_append (pe_var (i := 13) rfl (.inl rfl)) (pa_cons pe_str pa_nil)), ?_⟩
  exact ⟨_, h13, .inl ⟨rfl, _, SqL.of hp⟩, p, _, _, rfl, rfl, hp, by decide, q⟩
/-- the loop over what was made of held -/
theorem w_loopB (h : HL c) {p : Addr} {us : List V} {x y : V} {dx dy : PyData} (hl : σ.length = 15) (h7 : σ[7]? = some (some (.ref p))) (hp : H p = some (.lst us)) (en : EntXs PP c.w c.K c.mg c.base H x y es us) (qx : Dq H x dx) (qy : Dq H y dy) (g1 : good [dx] = true) (g2 : good [dx, dy] = true)
    (q : ∀ σ' H', SameUp 9 12 σ σ' → Kept H H' → D.nx σ' H') : wS (XL c) (lawS 6) D σ H := by
  refine ⟨_, ps_for PassesOwn.never rfl (pi_list (pe_var (i := 7) rfl (.inl rfl))) (pg_tup rfl (pgs_cons (pg_name (i := 9) sc_law.nd rfl (.inl rfl)) (pgs_cons (pg_name (i := 10) sc_law.nd rfl (.inl rfl)) (pgs_cons (pg_name (i := 11) sc_law.nd rfl (.inl rfl)) (pgs_cons (pg_name (i := 12) sc_law.nd rfl (.inl rfl)) pgs_nil)))))
    (pss_one (ps_if (PW.pt (pw_or (pt_not (pt_val (pe_cG h.ct h.hr (by decide) (guards_deeper h.hgd) rfl (pa_cons (pe_callLam (k := 3) (i := 11) h.hr rfl (.inl rfl) (pa_cons (pe_var (i := 9) rfl (.inl rfl)) pa_nil)) (pa_cons (pe_var (i := 12) rfl (.inl rfl)) pa_nil))))) (pw_or1 (pt_not (pt_val (pe_cG h.ct h.hr (by decide) (guards_deeper h.hgd) rfl (pa_cons (pe_callLam (k := 3) (i := 11) h.hr rfl (.inl rfl) (pa_cons (pe_var (i := 10) rfl (.inl rfl)) pa_nil)) (pa_cons (pe_var (i := 12) rfl (.inl rfl)) pa_nil)))))))) (pss_one (ps_ret pe_bl)) pss_nil)), ?_⟩
  refine ⟨_, h7, p, rfl, ⟨us, SqL.of hp⟩, for_list (xs := us) (fun i σ' H' => SameUp 9 12 σ σ' ∧ Kept H H') ⟨SameUp.refl σ, fun _ _ z => z⟩ (fun i σ' H' _ ⟨_, kp⟩ => SqL.of (kp _ _ hp)) (fun i u σ' H' hu ⟨su, kp⟩ => ?_) fun σ' H' ⟨su, kp⟩ => q σ' H' su kp⟩
  have hlt : i < us.length := (List.getElem?_eq_some_iff.mp hu).1
  have el : us.length = es.length := en.1
  obtain ⟨d, hd⟩ : ∃ d, es[i]? = some d := ⟨_, List.getElem?_eq_getElem (by omega)⟩
  obtain ⟨t, m', n, f, b, c', q', params, body, scope, rfl, e2, e3, e4, e5, e6, e7, LG⟩ := ((en.2 i d u hd hu).ext kp.n).ex
  have l' : σ'.length = 15 := su.1.trans hl
  refine ⟨t, _, rfl, SqT.of e2, rfl, _, _, rfl, _, _, rfl, _, _, rfl, _, _, rfl, rfl, ?_⟩
  have su2 := (((su.set (j := 9) (o := some (.ref m')) (by omega)).set (j := 10) (o := some (.ref n)) (by omega)).set (j := 11) (o := some (.ref f)) (by omega)).set (j := 12) (o := some (.ref b)) (by omega)
  have s9 : ((((σ'.set 9 (some (V.ref m'))).set 10 (some (.ref n))).set 11 (some (.ref f))).set 12 (some (.ref b)))[9]? = some (some (.ref m')) := by simp [List.getElem?_set, l']
  have s10 : ((((σ'.set 9 (some (V.ref m'))).set 10 (some (.ref n))).set 11 (some (.ref f))).set 12 (some (.ref b)))[10]? = some (some (.ref n)) := by simp [List.getElem?_set, l']
  have s11 : ((((σ'.set 9 (some (V.ref m'))).set 10 (some (.ref n))).set 11 (some (.ref f))).set 12 (some (.ref b)))[11]? = some (some (.ref f)) := by simp [List.getElem?_set, l']
  have s12 : ((((σ'.set 9 (some (V.ref m'))).set 10 (some (.ref n))).set 11 (some (.ref f))).set 12 (some (.ref b)))[12]? = some (some (.ref b)) := by simp [List.getElem?_set, l']
  show tIfS _ _ _ _ _ _
  generalize (((σ'.set 9 (some (V.ref m'))).set 10 (some (.ref n))).set 11 (some (.ref f))).set 12 (some (.ref b)) = τ at *
  have dq : DqA H (xsOf d x y) (dsOf d dx dy) := xs_dq d qx qy
  refine t_these (c := c) (C := d.C c.K) s11 s9 s12 e3 e5 e6 e7 LG (Dw.DqA.mono kp dq) (ds_good g1 g2) fun G3 k3 => ⟨true, rfl, ?_⟩
  simp only [Bool.not_true, Bool.false_eq_true, if_false]
  refine t_these (c := c) (C := d.C c.K) s11 s10 s12 (e4.ext k3.n) (k3 _ _ e5) (k3 _ _ e6) (k3 _ _ e7) LG (Dw.DqA.mono (kp.trans k3) dq) (ds_good g1 g2) fun G4 k4 => ⟨true, rfl, ?_⟩
  simp only [Bool.not_true, Bool.false_eq_true, if_false]
  exact ⟨su2, kp.trans (k3.trans k4)⟩
/-- base = SlotError() -/
theorem w_base (h : HL c) (q : ∀ a, H a = none → D.nx (σ.set 14 (some (.ref a))) (upd H a (exo a (S c.K) none))) : wS (XL c) (lawS 7) D σ H := by
  refine ⟨_, ps_set (i := 14) sc_law.nd rfl (.inl rfl) (pe_exc0 PySem.F.excBase_ValueError h.bs.q h.mS h.bs.k rfl), ?_⟩
  exact fun a ha => q a ha
/-- the last row -/
theorem w_end (h : HL c) {a : Addr} (h14 : σ[14]? = some (some (.ref a))) (ha : H a = some (exo a (S c.K) none)) (q : ∀ H', D.rt (.bl true) H') : wS (XL c) (lawS 8) D σ H := by
  have hu : (c.A.deeper (envOfC "law" (C8.fnScope (top 58)) c.s.heap.objs.size c.f c.cdv)).units + 65 < cLine := by
    have h0 := h.hr.un
    omega
  refine ⟨_, ps_ret (pe_and (pe_isAT (i := 14) rfl h.mi rfl (.inl rfl) rfl h.mV boot_VE) (pe_one (pe_cmpR (op_notInD hu) pe_bl (C8.pe_c h.ck h.hr (by decide) rfl (pa_cons (pe_var (i := 14) rfl (.inl rfl)) pa_nil)) (by rfl)))), ?_⟩
  refine ⟨a, S c.K, _, true, h14, .inl ha, h.bs.ec, .ty _, h.bs.v, true, rfl, ?_⟩
  rw [if_pos rfl]
  refine ⟨_, h14, a, S c.K, fun _ => false, rfl, .inl ha, h.bs.ec, h.bs.all, fun l H' k1 n1 hl => ?_⟩
  refine ⟨.bool true, (es.map fun _ => false).map PyData.bool, .bl true, .lst (.inl (.inl ?_)) (boolsD _), by decide +kernel, boolsS _, ?_⟩
  · rw [hl, List.map_map]
    rfl
  · have e : ((es.map fun _ => false).map PyData.bool).any (fun z => PyData.eqv z (.bool true)) = false := by decide +kernel
    rw [e]
    exact q H'
end
end K00
set_option maxHeartbeats 4000000
namespace K00
open PySem PySem.W PySem.Calls PySem.Spec PyProof.Rows L2 He My LamX
open Dw (Dq DqA DqK Stp StrI wS wSs ps_w pss_w)
theorem SameUp.then {lo hi lo' hi' : Nat} {σ σ1 σ2 : L2.St} (h : SameUp lo hi σ σ1) (k : SameUp lo' hi' σ1 σ2) (h1 : lo ≤ lo') (h2 : hi' ≤ hi) : SameUp lo hi σ σ2 := ⟨k.1.trans h.1, fun i hi => (k.2 i (by omega)).trans (h.2 i hi)⟩
theorem some_good2 {x y : PyData} (hx : x ∈ someD) (hy : y ∈ someD) : good [x] = true ∧ good [x, y] = true := by
  have q := List.all_eq_true.mp some_good x hx
  obtain ⟨q1, q2⟩ := ba q
  exact ⟨q1, List.all_eq_true.mp q2 y hy⟩
section
variable {c : LC} {D : Ends} {σ : L2.St} {H : Hp}
theorem w_turns (h : HL c) {a s sl : Addr} (hl : σ.length = 15) (h1 : σ[1]? = some (some (.ref a))) (h2 : σ[2]? = some (some (.ref sl))) (si : StrI a s 0 H) (ds : Dq (core a s H) (.ref sl) (.list someD)) (hT : Tabs (Tk c.K) H)
    (q : ∀ σ' H', SameUp 3 12 σ σ' → Tabs (Tk c.K) H' → D.nx σ' H') : wS (XL c) (lawS 2) D σ H := by
  refine ⟨_, ps_for PassesOwn.never rfl (pi_range1 rfl h.mr (pa_cons pe_int pa_nil)) (pg_name (i := 3) sc_law.nd rfl (.inl rfl)) (pss_cons (ps_w (lawT 0)) (pss_cons (ps_w (lawT 1)) (pss_one (ps_w (lawT 2))))), ?_⟩
  refine ⟨2, rfl, by decide, by decide, for_range (n := 2) (fun i σ' H' => SameUp 3 12 σ σ' ∧ (∃ m, m ≤ 15 * i ∧ StrI a s m H') ∧ Dq (core a s H') (.ref sl) (.list someD) ∧ Tabs (Tk c.K) H') ⟨SameUp.refl σ, ⟨0, Nat.le_refl _, si⟩, ds, hT⟩ (fun i σ' H' hi ⟨su, ⟨m, hm, si'⟩, ds', hT'⟩ => ?_) fun σ' H' ⟨su, _, _, hT'⟩ => q σ' H' su hT'⟩
  have l' : σ'.length = 15 := su.1.trans hl
  have u1 : σ'[1]? = some (some (.ref a)) := (su.2 1 (by omega)).trans h1
  have u2 : σ'[2]? = some (some (.ref sl)) := (su.2 2 (by omega)).trans h2
  have su3 := su.set (j := 3) (o := some (.int (0 + (i : Int)))) (by omega)
  refine w_xyz h (m := m) ((su3.2 1 (by omega)).trans h1) ((su3.2 2 (by omega)).trans h2) si' (by omega) ds' fun v1 v2 v3 d1 d2 d3 m' H1 si1 hm1 kp1 q1 q2 q3 i1 i2 i3 => ?_
  have T1 : Tabs (Tk c.K) H1 := tabs_step hT' (str_at si').1 (str_at si').2 kp1
  have su6 := ((su3.set (j := 4) (o := some v1) (by omega)).set (j := 5) (o := some v2) (by omega)).set (j := 6) (o := some v3) (by omega)
  refine w_made h (x := v1) (y := v2) (z := v3) (by simp [List.getElem?_set, l']) (by simp [List.getElem?_set, l']) (by simp [List.getElem?_set, l']) T1 fun p H2 us e2 T2 hp en => ?_
  have su7 := su6.set (j := 7) (o := some (V.ref p)) (by omega)
  obtain ⟨g1, g2⟩ := some_good2 i1 i2
  refine w_loopA h (p := p) (by simp [l']) (by simp [List.getElem?_set, l']) hp en (dq_n e2 q1) (dq_n e2 q2) g1 g2 fun σ3 H3 su8 kp3 => ?_
  refine ⟨su7.then su8 (by omega) (by omega), ⟨m', by omega, str_kept (str_kept si1 e2) kp3.n⟩, ?_, T2.ext kp3⟩
  exact dq_n (core_step (StepN.of kp3.n)) (dq_n (core_step (StepN.of e2)) (dq_n (core_step fun b o n1 n2 hb _ => kp1 b o n1 n2 hb) ds'))
/-- the law's promise -/
def spLaw (K : Frag) : Sp := fun vs H Q _ => ∃ r, ∃ ns : List Int, vs = [.ref r] ∧ SqL K H r (ns.map V.int) ∧ Tabs (Tk K) H ∧ ∀ H', Q (.bl true) H'
theorem w_law (h : HL c) {r : Addr} {ns : List Int} (hS : SqL c.K H r (ns.map V.int)) (hT : Tabs (Tk c.K) H) (q : ∀ H', D.rt (.bl true) H') : wSs (XL c) (C8.fnBody (top 58)) D (start NL [.ref r]) H := by
  rw [law_body]
  refine ⟨_, pss_cons (ps_w _) (pss_cons (ps_w _) (pss_cons (ps_w _) (pss_cons (ps_w _) (pss_cons (ps_w _) (pss_cons (ps_w _) (pss_cons (ps_w _) (pss_cons (ps_w _) (pss_one (ps_w _))))))))), ?_⟩
  refine w_start h (r := r) (ns := ns) rfl hS fun a s H1 k1 na ns' si => ?_
  have T1 : Tabs (Tk c.K) H1 := hT.ext k1
  obtain ⟨⟨xa, ea⟩, ⟨xs, es'⟩⟩ := str_at si
  refine w_some h (a := a) (s := s) (by rw [ea]; simp) (by rw [es']; simp) fun sl H2 k2 ds => ?_
  refine w_turns h (a := a) (s := s) (sl := sl) rfl rfl rfl (str_kept si k2.n) ds (T1.ext k2) fun σ3 H3 su T3 => ?_
  have l3 : σ3.length = 15 := su.1.trans rfl
  refine w_held h fun p hp => ?_
  have T4 : Tabs (Tk c.K) (upd H3 p (.lst [.str "v"])) := T3.ext (kept_upd hp)
  refine w_madeH h (x := .ref p) (by simp [List.getElem?_set, l3]) T4 fun pm H5 us e5 T5 hm en => ?_
  have hp5 : H5 p = some (.lst [.str "v"]) := e5 _ _ upd_same (fun ps z => by cases z)
  have enH := en p _ upd_same
  have nm : pm ≠ p := fun z => by
    rw [z, hp5] at hm
    have e1 : us = [V.str "v"] := (HO.lst.inj (Option.some.inj hm)).symm
    have e2 : us.length = es.length := enH.1
    rw [e1] at e2
    exact absurd e2 (by decide)
  refine w_app h (p := p) (by simp [List.getElem?_set, l3]) hp5 ?_
  have hm6 : (upd H5 p (.lst [.str "v", .str "w"])) pm = some (.lst us) := by rw [upd_ne nm]; exact hm
  have dp : Dq (upd H5 p (.lst [.str "v", .str "w"])) (.ref p) heldD := .lst upd_same (.cons (.str _) (.cons (.str _) .nil))
  obtain ⟨g1, g2⟩ := ba held_good
  refine w_loopB h (p := pm) (us := us) (by simp [l3]) (by simp [List.getElem?_set, l3]) hm6 (enH.put hp5) dp dp g1 g2 fun σ7 H7 su7 k7 => ?_
  have l7 : σ7.length = 15 := su7.1.trans (by simp [l3])
  refine w_base h fun b hb => ?_
  exact w_end h (a := b) (by simp [List.getElem?_set, l7]) upd_same q
end
section
variable {w : World} {K : Frag} {mg : Str → Option Value} {base hh : Heap} {f : Addr} {fd : FuncData}
theorem ok_law (c : SaysY file fa fn tf es ex hh K) (X : K.In hh) (G : hh.Ns mainGlobals mg) (ca : C8.Cal PP w K mg base 3 "_law_made_a" (spMade PP w K mg base (Tk K) ((es.drop 0).take 18)) []) (cb : C8.Cal PP w K mg base 3 "_law_made_b" (spMade PP w K mg base (Tk K) ((es.drop 18).take 18)) []) (cc : C8.Cal PP w K mg base 3 "_law_made_c" (spMade PP w K mg base (Tk K) ((es.drop 36).take 7)) [])
    (co : C8.Cal PP w K mg base 3 "_law_is_own" (spIsOwn K) []) (ck : C8.Cal PP w K mg base 2 "_law_kinds" (spKinds K es) []) (ct : CalG PP w K mg base 1 "_law_are_these" spThese) (c1 : C8.Cal PP w K mg base 1 "_law_start" (spStart K) []) (c2 : C8.Cal PP w K mg base 2 "_law_mixed" (Dw.spS 1 preM postM costM) [])
    (Fn : C8.Fun K "law" "law" (top 58) f fd) : FnG PP w K mg base 5 f fd ["script"] (spLaw K) := by
  refine fnG Fn sc_law (fun vs H Q E ⟨r, ns, e, _⟩ => by rw [e]; rfl) fun cdv A outer s H vs Q E hr hgd ⟨r, ns, ev, hS, hT, q⟩ => ?_
  subst ev
  have hl : HL ⟨w, K, mg, base, f, cdv, A, outer, s, H, E⟩ := ⟨hr, hgd, c1, c2, ca, cb, cc, co, ck, ct, free_ok X G (c.d.fact 15 (f := .free "range") rfl), free_ok X G (c.d.fact 19 (f := .free "enumerate") rfl), free_ok X G (c.d.fact 17 (f := .free "isinstance") rfl), free_ok X G (c.d.fact 21 (f := .free "ValueError") rfl), glo_ok X G (c.d.fact 23 (f := .glo "SlotError") rfl), fun n d hd => kind_ok c hd, base_ok c⟩
  exact ⟨_, pss_w _, w_law hl hS hT q⟩
end
end K00
set_option maxHeartbeats 4000000
namespace K00
open PySem PySem.W PySem.Calls PySem.Spec PyProof.Rows L2 He My LamX
theorem law_at {w : World} {K : Frag} {mg : Str → Option Value} {fL : Addr} {h : Heap} (c : SaysY file fa fn tf es ex h K) (KX : K.In h) (G : h.Ns mainGlobals mg) (hm : mg ("law" : Str) = some (.ref fL)) : LawAtG PySem.Challenge.rw_twoslots_k00_errors_made w K 5 63 "script" mg fL h := by
  obtain ⟨fd, F⟩ := c.d.def_ 12 (d := dD "law" 58) rfl
  have hg : mg ("law" : Str) = some (.ref (ga K "law")) := glo_ok KX G (c.d.fact 12 (f := .glo "law") rfl)
  have ef : fAd K ("law", none) = fL := by
    rw [hm] at hg
    exact (Value.ref.inj (Option.some.inj hg)).symm
  have Fn : C8.Fun K "law" "law" (top 58) fL fd := by
    rw [← ef]
    exact fun_of F
  obtain ⟨oc, od, dV, kV, doc, pm, an, cdv, ct, osl, efd, lk, hcd, hdv, hkw⟩ := F.ex
  refine ⟨fd, tf.map (cT K), spLaw K, fun p hp => ?_, fun p hp => ?_, fun p hp => ?_, fun s u => ?_, fun H a ns _ _ hT hS => ⟨a, ns, rfl, hS, fun p hp => ?_, fun _ => rfl⟩, fun base X G' TB => ?_⟩
  · obtain ⟨q, hq, rfl⟩ := List.mem_map.mp hp
    exact c.empty q hq
  · obtain ⟨q, hq, rfl⟩ := List.mem_map.mp hp
    exact c.out q hq
  · obtain ⟨q, hq, rfl⟩ := List.mem_map.mp hp
    exact codeHd_of_K KX (c.hd q hq)
  · rcases hdv with ⟨_, e⟩ | ⟨e, _⟩
    · subst e efd
      exact BindsTo.of_eq rfl
    · exact absurd rfl e
  · have hp : p ∈ Tk K := hp
    unfold Tk at hp
    rcases List.mem_cons.mp hp with z | z
    · rw [z]
      exact TabS.nil (hT _ (List.mem_map.mpr ⟨("_law_made_a", none), by simp [tf], rfl⟩))
    · rcases List.mem_cons.mp z with z | z
      · rw [z]
        exact TabS.nil (hT _ (List.mem_map.mpr ⟨("_law_made_b", none), by simp [tf], rfl⟩))
      · rw [List.mem_singleton.mp z]
        exact TabS.nil (hT _ (List.mem_map.mpr ⟨("_law_made_c", none), by simp [tf], rfl⟩))
  · have tb : ∀ q ∈ tf, TabB base mg (cT K q).1 (cT K q).2 := fun q hq => TB _ (List.mem_map.mpr ⟨q, hq, rfl⟩)
    exact ok_law c KX G (cal_made_a c KX G (tb ("_law_made_a", none) (by simp [tf]))) (cal_made_b c KX G (tb ("_law_made_b", none) (by simp [tf]))) (cal_made_c c KX G (tb ("_law_made_c", none) (by simp [tf]))) (cal_own c KX G) (cals_kinds c KX G) (calG_these c KX G) (cal_start c KX G) (cal_mixed c KX G) Fn
end K00
open PySem PySem.W PyProof.Rows
theorem PySem.Challenge.cw_twoslots_k00_errors_made_holds : PySem.Challenge.rw_twoslots_k00_errors_made.Holds := by
  w_on; o_law
  refine HandSHeadRun.head_any (r := K00.R) (q := view K00.R.prog [K00.lawAt]) (H := K00.hk) (ob := K00.ob) (M := 12500) (loose := K00.loose) (d := HandSHeadRun.topDef K00.R.prog 58) (kwd := []) K00.ob_eq
    (by kernel_rfl) (fun s => by kernel_rfl) K00.run (by kernel_rfl) (by kernel_rfl) (by kernel_rfl) (by rfl) (by first | assumption | decide +kernel) (by decide +kernel) ⟨rfl, rfl, rfl, rfl, rfl, by decide +kernel⟩ ?hw ?hc
  case hw => w_witness2
  case hc =>
    refine My.walk_ofG (l := PySem.Challenge.rw_twoslots_k00_errors_made) (n := 63) (k := 5) (x := "script") rfl (by decide) (by kernel_rfl) ⟨rfl, by decide, by decide⟩ rfl ?F
    intro w mg fa h Y G hmg0
    obtain ⟨K, KX, c⟩ := Y
    have hmg : mg ("law" : PySem.Str) = some (.ref fa) := by
      have e : (HandSHeadRun.topDef K00.R.prog 58).name = ("law" : PySem.Str) := by kernel_rfl
      rw [← e]
      exact hmg0
    have c2 : My.SaysY K00.file K00.fa K00.fn K00.tf K00.es K00.ex h K := c
    exact ⟨K, KX, K00.law_at c2 KX G hmg⟩
