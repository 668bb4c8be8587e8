import PyProof.Rows.All
import Wide.All
import OpenK.AllK
import Wide.FinOn
import KE.KExcSuper
import KE.KExcIs
import HandS.ForMost
import HandS.ForSpec
import HandS.ExcInit
import HandS.Nested
import HandS.IsInst
import HandS.HotCalls
import HandS.ExcValue
import HandS.ExcIs
import HandS.ExcField
import HandS.Head0
import HandS.Head1
import HandS.Head2
import HandS.HeadNt
import HandS.HeadEnd
import HandS.HeadHook4
import HandS.WrittenGet
import HandS.Style
import HandS.FStr
import HandS.Conv
import HandS.OwnEq
import HandS.Defaults
import HandS.MakeKw
import KE.GoesMore
import HandS.ClsMeth
import HandS.IterVal
import HandS.CallSlots
import HandS.Star
import HandS.More
import HandS.TupAny
import HandS.Codes
import HandS.MakeKwOnly
import KE.SortData
import KE.OsSortAny
import KE.KDictWalk
import PySem.Challenge.RW_allwordlengths_k12_steps_built_from_numb
set_option Elab.async false
set_option linter.all false
set_option maxRecDepth 100000
set_option maxHeartbeats 4000000
namespace Aw
open PySem PySem.Spec PyProof.Rows L2 NdefX

def supBody (z y fld : Str) (j : Nat) (p0 p1 p2 p3 p4 p5 p6 p7 p8 p9 : Pos) : List Stmt :=
  [.Expr (.Call (.Attribute (.Call (.Name "super" p0) [] [] p1) "__init__" p2) [.Constant (.str z) j p3] [] p4) p5,
   .Assign [.Attribute (.Name "self" p6) fld p7] (.Name y p8) p9]

/-- the promise of such an __init__ -/
def spSup (C : Addr) (fld : Str) : Sp := fun vs H Q _ => ∃ (a : Addr) (v : V), vs = [.ref a, v] ∧ H a = some (exo a C none) ∧
  ∀ dx, H dx = none → dx ≠ a → Q .non (upd (upd H dx (exd dx [(fld, v)])) a (exo a C (some dx)))

/-- what the written part says of the class's __init__ -/
structure SupTxt (P : Program) (K : PySem.W.Frag) (mg : Str → Option Value) (C f cc cda : Addr) (qual y fld : Str) (args : Arguments) (body : List Stmt) (scope : Scope) (fd : FuncData) : Prop where
  T : OexC K C
  fdE : ∃ dV kV doc pm an ct, fd = PySem.W.fnX "__init__" qual args body scope [("__class__", cc)] dV kV doc pm an (.ref cda) ct
  lk : ∃ oc od osl, K.lookup f = some ⟨oc, od, .func fd, osl⟩
  cd : PySem.W.codeIn K (.ref cda) qual = true
  file : ∃ ccl cdd vs ccs fl tf, K.lookup cda = some ⟨ccl, cdd, .fields vs, ccs⟩ ∧ vs[2]? = some (.str fl tf) ∧ ((P.main.file : Str) == fl) = true
  cell : ∃ cl cld csl, K.lookup cc = some ⟨cl, cld, .cell (some (.ref C)), csl⟩
  hm : PySem.W.ks_superIn K C C "__init__" = some (some (.builtin "ValueError.__init__"))
  hB : PySem.W.subIn K (.ref C) (.type "ValueError") = some true
  hself : PySem.W.mroIn K C (.ref C) = some true
  ho : PySem.W.nsIn K cStatics "thirdparty.any" = some none
  hno : PySem.W.findIn K (.ref C) fld = some none
  hsup : mg "super" = none
  htop : (P.main.scope.names.lookup ("super" : Str)).isSome = false
  bd : ∃ z j p0 p1 p2 p3 p4 p5 p6 p7 p8 p9, body = supBody z y fld j p0 p1 p2 p3 p4 p5 p6 p7 p8 p9 ∧ (p2.endLine == p4.line) = true
  ar : (args.posonlyargs ++ args.args).head?.map (·.arg) = some "self"
  sc : NScope ["self", y, "__class__"] ["self", y] ["__class__"] scope
  scs : scope.names.lookup ("super" : Str) = some .globalImplicit
  ny : (y == ("__debug__" : Str)) = false ∧ (y == ("__classdict__" : Str)) = false

section
variable {X : Cx} {C f cc cda a : Addr} {v : V} {y fld z : Str} {j : Nat} {p0 p1 p2 p3 p4 p5 p6 p7 p8 p9 : Pos} {H : Hp} {s : Shared} {fd : FuncData} {body : List Stmt} {D : Ends} {Q : Flow → Shared → Prop}
/-- what the body's context is -/
structure SupCx (X : Cx) (C f cc cda : Addr) (y : Str) (fd : FuncData) : Prop where
  n0 : X.N[0]? = some ("self" : Str)
  n1 : X.N[1]? = some y
  ks : X.env.kindOf "super" = some .globalImplicit
  kc : X.env.kindOf "__class__" = some .free
  k0 : X.env.kindOf "self" = some .local
  k1 : X.env.kindOf y = some .local
  fn : X.env.func = some f
  co : X.env.code = .ref cda
  ce : X.env.cells = ([("__class__", cc)] : List (Str × Addr))
  lk : ∃ oc od osl, X.K.lookup f = some ⟨oc, od, .func fd, osl⟩
  ar : (fd.params.posonlyargs ++ fd.params.args).head?.map (·.arg) = some "self"
  file : ∃ ccl cdd vs ccs fl tf, X.K.lookup cda = some ⟨ccl, cdd, .fields vs, ccs⟩ ∧ vs[2]? = some (.str fl tf) ∧ ((X.prog.main.file : Str) == fl) = true
  cell : ∃ cl cld csl, X.K.lookup cc = some ⟨cl, cld, .cell (some (.ref C)), csl⟩
  hm : PySem.W.ks_superIn X.K C C "__init__" = some (some (.builtin "ValueError.__init__"))
  hB : PySem.W.subIn X.K (.ref C) (.type "ValueError") = some true
  hself : PySem.W.mroIn X.K C (.ref C) = some true
  ho : PySem.W.nsIn X.K cStatics "thirdparty.any" = some none
  hsup : X.mg "super" = none
  htop : (X.prog.main.scope.names.lookup ("super" : Str)).isSome = false
  T : OexC X.K C

theorem sup_eval {env : Env} (hp : (p2.endLine == p4.line) = true) : eval (.Call (.Attribute (.Call (.Name "super" p0) [] [] p1) "__init__" p2) [.Constant (.str z) j p3] [] p4) env = (do
      let ov ← attributeBase (.Call (.Name "super" p0) [] [] p1) "__init__" env (eval (.Call (.Name "super" p0) [] [] p1) env)
      standAt p2.atName
      let (f, first) ← holding [ov] (getMethod ov "__init__" (do return (← importBound (.Call (.Name "super" p0) [] [] p1) env).getD true))
      callWith p4 f first (backTo p4 (starEach [.Constant (.str z) j p3] env)) []) := by
  have e : ∀ few, methodCallPos few (.Call (.Name "super" p0) [] [] p1) env p2 p4 = pure p4 := fun few => by
    unfold methodCallPos
    rw [hp, Bool.or_true]
    rfl
  rw [eval]
  unfold methodCall
  simp only [e]
  rfl
theorem sup_first (hp4 : (p2.endLine == p4.line) = true) (S : SupCx X C f cc cda y fd) (I : Inv X [] [some (V.ref a), some v, some (V.ref C)] H s) (ha : H a = some (exo a C none))
    (h : ∀ s', Inv X [] [some (V.ref a), some v, some (V.ref C)] H s' → Q .next s') : 
    PySem.wpAt (model X.prog X.w) X.A (.func body X.env) (exec (.Expr (.Call (.Attribute (.Call (.Name "super" p0) [] [] p1) "__init__" p2) [.Constant (.str z) j p3] [] p4) p5) X.env) Q X.xe s := by
  obtain ⟨oc, od, osl, lk⟩ := S.lk
  obtain ⟨ccl, cdd, fvs, ccs, fl, tf, lkc, hvs, hfile⟩ := S.file
  obtain ⟨cl, cld, csl, lkcc⟩ := S.cell
  obtain ⟨ar, har, harg⟩ : ∃ ar : Arg, (fd.params.posonlyargs ++ fd.params.args).head? = some ar ∧ ar.arg = "self" := by
    have h := S.ar
    cases e : (fd.params.posonlyargs ++ fd.params.args).head? with
    | none => rw [e] at h; cases h
    | some ar => rw [e] at h; exact ⟨ar, rfl, Option.some.inj h⟩
  obtain ⟨nm, q, N, bs, bm, sn, sub, ab, col, dd, k0, k1, k2, k3, k5, hC, hbm⟩ := S.T.cls
  have hcl : PySem.W.clsIn X.K C = some { name := nm, bases := bs, mro := .ref C :: bm, ns := N, qualname := q, hasDict := true, slotNames := sn, subclasses := sub, abstract := ab, collection := col, hasDel := false } := by unfold PySem.W.clsIn; rw [hC] <;> rfl
  have KX := I.kIn
  have hCs := KX _ _ hC
  obtain ⟨t1, hoa⟩ := exo_at I.hok ha
  refine PySem.ks_wpAt_Expr_any (PySem.ks_wpAt_MethodCall (PySem.ks_wpAt_super_base S.ks S.kc (by decide) S.fn (KX _ _ lk) rfl har S.co (KX _ _ lkc) rfl hvs hfile S.htop ?_) (sup_eval hp4)) I.quiet (by rfl)
  obtain ⟨mb, hb1, hb2⟩ := I.mod.blt
  refine PySem.W.ks_loadName_global I.ok.kind S.ks (Calls.loadGlobal_builtin (by rw [I.ok.glob]; exact I.mod.glob.keeps I.bk) S.hsup (by rw [I.ok.blt]; exact hb1.keeps I.bk) ((hb2 _ (by decide)).trans (by decide +kernel : bootBuiltins "super" = some (.type "super"))) ⟨rfl, ?_⟩)
  refine wpAny_loadName_free I.ok.kind S.kc (by rw [S.ce]; rfl) ⟨_, KX _ _ lkcc, rfl⟩ ?_
  rw [harg]
  obtain ⟨m, hm, hl⟩ := I.loc
  obtain ⟨u0, ru0, lu0⟩ := hl 0 "self" (V.ref a) S.n0 rfl (.inl S.k0)
  obtain rfl : u0 = Value.ref a := ru0
  have hms : m "self" = some (.ref a) := by
    rcases lu0 with ⟨_, h⟩ | ⟨h, _⟩
    · exact h
    · rw [S.k0] at h
      rcases h with h | h <;> cases h
  refine wpAny_loadName_local I.ok.kind S.k0 hm hms ?_
  refine PySem.ks_wpAny_isType_cls hCs rfl ⟨rfl, ?_⟩
  obtain ⟨hp, g, dr, tk, os⟩ := s
  refine PySem.ks_wpAny_call_super hCs rfl hoa rfl (fun c e => by cases e) (PySem.W.looks_mroIn KX S.hself) (fun h' e k => ?_)
  have I1 := I.kept (t' := tk) k
  have hoa' := k _ _ hoa
  have KX' := I1.kIn
  have hnaC : a ≠ C := fun z => by
    have q1 := (I.bs C _ (I.ok.mod.kin _ _ hC)).2
    rw [← z, ha] at q1
    cases q1
  have J : PySem.W.InstAt h' a { cls := .ref C, dict := none, data := .fields #[.ref t1, .none, .none, .none, .bool false, .none] } C none := ⟨hoa', rfl, rfl, trivial⟩
  have hsup := S.hm
  unfold PySem.W.ks_superIn at hsup
  rw [hcl] at hsup
  refine PySem.W.kxs_getMethod PySem.W.kxs_ValueError e (PySem.W.looks_opaque KX' S.ho) (fun A Q E s k q => wpAny_bind ((PySem.W.looks_clsIn KX' hcl) A _ E s k (wpAny_pure q))) rfl KX' hsup (J.type.andThen (PySem.W.looks_subIn KX' S.hB)) hnaC (by decide) ?_
  have k2 : ∀ b o, h'.get? b = some o → (h'.push (PySem.W.kxs_mw "ValueError.__init__" a)).get? b = some o := fun b o e => Heap.get?_push_of_some _ e
  have hu : (h'.push (PySem.W.kxs_mw "ValueError.__init__" a)).get? h'.objs.size = some (PySem.W.kxs_mw "ValueError.__init__" a) := Heap.get?_push_at rfl rfl
  have I2 := I1.kept (t' := tk + 1) k2
  have I3 : Inv X [(h'.objs.size, PySem.W.kxs_mw "ValueError.__init__" a)] [some (V.ref a), some v, some (V.ref C)] H ⟨h'.push (PySem.W.kxs_mw "ValueError.__init__" a), g, dr, tk + 1, os⟩ := I2.pins_of fun p hp => by
    have ep : p = (h'.objs.size, PySem.W.kxs_mw "ValueError.__init__" a) := by simpa using hp
    subst ep
    exact ⟨hu, I1.hok.fresh (Nat.le_refl _), Nat.ne_of_gt I1.lt, I1.nofs (Nat.le_refl _), fun v => by simp [PySem.W.kxs_mw]⟩
  refine PySem.W.kxs_callWith (i := "ValueError.__init__") (x := a) rfl (PySem.Calls.evalArgs_plain (thn ((pa_cons pe_str pa_nil).run p4 [(h'.objs.size, PySem.W.kxs_mw "ValueError.__init__" a)] _ _ H (fun vs H1 => H1 = H ∧ vs = [V.str z]) I3 ⟨rfl, rfl⟩) fun us s1 hq => ?_))
  obtain ⟨vs, H1, I4, rv, rfl, rfl⟩ := hq
  have hu4 := (I4.pin (h'.objs.size, PySem.W.kxs_mw "ValueError.__init__" a) (List.mem_append_right _ List.mem_cons_self)).1
  refine ⟨hu4, ?_⟩
  have I5 : Inv X [] [some (V.ref a), some v, some (V.ref C)] H1 s1 := I4.pins_of fun p hp => by cases hp
  obtain ⟨t5, hoa5⟩ := exo_at I5.hok ha
  have hC5 := I5.kIn _ _ hC
  have hlen : us.length ≤ sizeLine := by
    rw [← Paired.length rv, sizeLine_eq]
    show 1 ≤ 16777216
    decide
  obtain ⟨hp5, g5, dr5, tk5, os5⟩ := s1
  show wpAny (model X.prog X.w) X.A (call (Value.ref h'.objs.size) us) _ _ _
  refine wpAny_call (codeAny_of_tree ?_)
  show wpAny _ X.A.in1 (callAny (.ref h'.objs.size) ⟨us, []⟩) _ _ _
  simp only [callAny]
  refine wpAny_bind (wpAny_load hu4 ?_)
  simp only [PySem.W.kxs_mw, show (Value.type "method-wrapper" == Value.type "method" || Value.type "method-wrapper" == Value.type "builtin_function_or_method" || Value.type "method-wrapper" == Value.type "method-wrapper") = true by decide, if_true]
  refine PySem.W.KFB.if_so (by decide) ?_
  refine wpAny_bind (PySem.W.check_bound_init F.excBase_ValueError.toExcCallFacts hC5 hoa5 rfl ?_)
  refine wpAny_bind (wpAny_pure (wpAny_pure ?_))
  refine ⟨plainId_quiet F.excBase_ValueError.init.plain _, codeAny_builtin F.excBase_ValueError.initEntry ?_⟩
  refine PySem.W.exc_init_tree (cls := .ref C) (t0 := t5) (dv := none) (c2 := .none) (c3 := .none) (b4 := .bool false) hoa5 hlen fun h6 k6 e6 _ => ?_
  have J6 := I5.write (t' := tk5) (x := a) (e := a) (o := exo a C none) (by rw [ha]; exact True.intro) (.inl rfl) k6 ⟨_, e6⟩ (exo_ok e6)
  have eu : upd H1 a (exo a C none) = H1 := by
    funext b
    by_cases hb : b = a
    · rw [hb, upd_same, ha]
    · rw [upd_ne hb]
  rw [eu] at J6
  exact h _ J6
end

section
variable {P : Program} {w : World} {K : PySem.W.Frag} {mg : Str → Option Value} {base : Heap} {C f cc cda : Addr} {qual y fld : Str} {args : Arguments} {body : List Stmt} {scope : Scope} {fd : FuncData}
theorem ok_sup (S : SupTxt P K mg C f cc cda qual y fld args body scope fd) : FnOk P w K mg base CX0 1 f fd ["self", y] (spSup C fld) := by
  refine ⟨fun vs H Q E h => ?_, fun A outer s H as us vs Q E hr e0 hb r hsp => ?_⟩
  · obtain ⟨a, v, rfl, _⟩ := h
    rfl
  obtain ⟨a, v, rfl, ha, q⟩ := hsp
  obtain ⟨dV, kV, doc, pm, an, ct, rfl⟩ := S.fdE
  obtain ⟨oc, od, osl, lk⟩ := S.lk
  obtain ⟨ccl, cdd, fvs, ccs, fl, tf, lkc, hvs, hfile⟩ := S.file
  obtain ⟨cl, cld, csl, lkcc⟩ := S.cell
  obtain ⟨z, j, p0, p1, p2, p3, p4, p5, p6, p7, p8, p9, rfl, hp4⟩ := S.bd
  obtain ⟨ar, har, harg⟩ : ∃ ar : Arg, (args.posonlyargs ++ args.args).head? = some ar ∧ ar.arg = "self" := by
    have h := S.ar
    cases e : (args.posonlyargs ++ args.args).head? with
    | none => rw [e] at h; cases h
    | some ar => rw [e] at h; exact ⟨ar, rfl, Option.some.inj h⟩
  have KX : K.In s.heap := e0.mod.kin.keeps fun b o e => (e0.bs b o e).1
  have lim : s.heap.NoLimit := e0.mod.nolimit.keeps fun b o e => (e0.bs b o e).1
  have hcc : H cc = none := (e0.bs cc _ (e0.mod.kin _ _ lkcc)).2
  have hC0 : H C = none := by
    obtain ⟨nm, q, N, bs, bm, sn, sub, ab, col, dd, k0, k1, k2, k3, k5, hC, hbm⟩ := S.T.cls
    exact (e0.bs C _ (e0.mod.kin _ _ hC)).2
  have r' := r
  let F : NF := ⟨"__init__", qual, args, supBody z y fld j p0 p1 p2 p3 p4 p5 p6 p7 p8 p9, scope, [("__class__", cc)], cda⟩
  have Ce : CellsAt F.cl ["__class__"] [some (V.ref C)] s.heap H := by
    have one : ∀ (x : Str) (c : Addr), ([("__class__", cc)] : List (Str × Addr)).lookup x = some c → x = "__class__" ∧ c = cc := fun x c e => by
      have h := PySem.mem_of_lookup e
      simp at h
      exact h
    refine ⟨rfl, fun x c e => ?_, fun x1 x2 c e1 e2 => ?_, fun i x e => ?_⟩
    · obtain ⟨_, rfl⟩ := one x c e
      exact ⟨hcc, _, _, KX _ _ lkcc, rfl⟩
    · rw [(one _ _ e1).1, (one _ _ e2).1]
    · cases i with
      | zero =>
        have e' : ("__class__" : Str) = x := Option.some.inj e
        subst e'
        refine ⟨cc, by simp [F, List.lookup], fun v e => ?_⟩
        have e'' : V.ref C = v := Option.some.inj (Option.some.inj e)
        subst e''
        exact ⟨.ref C, rfl, _, KX _ _ lkcc, rfl⟩
      | succ i => simp at e
  refine PySem.ks_codeAny_call_defAt (fd := PySem.W.fnX "__init__" qual args (supBody z y fld j p0 p1 p2 p3 p4 p5 p6 p7 p8 p9) scope [("__class__", cc)] dV kV doc pm an (.ref cda) ct) (body := supBody z y fld j p0 p1 p2 p3 p4 p5 p6 p7 p8 p9) (binds := (["self", y] : List Str).zip us)
    hr.depth (KX _ _ lk) rfl lim (PySem.W.codeRec_of KX S.cd) rfl hb S.sc.nocell (fun ⟨n, _⟩ hy => S.sc.par n (List.of_mem_zip hy).1) (fun h₁ hns kp => ?_) S.sc.co S.sc.gen S.sc.kind
  have I : Inv (ncx CX0 P w K mg base ["self", y, "__class__"] F f A outer s H E) [] (startF ["self", y, "__class__"] [V.ref a, v] [some (V.ref C)]) H { s with heap := h₁, toks := s.toks + ((["self", y] : List Str).zip us).length } := inv_startN S.sc hr.hd e0 rfl r Ce hns kp
  show PySem.wpAt (model P w) (A.deeper (envF F f s.heap.objs.size)) (.func F.body (envF F f s.heap.objs.size)) (execs F.body (envF F f s.heap.objs.size)) _ (ncx CX0 P w K mg base ["self", y, "__class__"] F f A outer s H E).xe _
  have SC : SupCx (ncx CX0 P w K mg base ["self", y, "__class__"] F f A outer s H E) C f cc cda y (PySem.W.fnX "__init__" qual args (supBody z y fld j p0 p1 p2 p3 p4 p5 p6 p7 p8 p9) scope [("__class__", cc)] dV kV doc pm an (.ref cda) ct) := {
    n0 := rfl, n1 := rfl, ks := S.scs, kc := S.sc.frk _ List.mem_cons_self, k0 := S.sc.par _ List.mem_cons_self, k1 := S.sc.par _ (List.mem_cons_of_mem _ List.mem_cons_self), fn := rfl, co := rfl, ce := rfl,
    lk := ⟨oc, od, osl, lk⟩, ar := S.ar, file := ⟨ccl, cdd, fvs, ccs, fl, tf, lkc, hvs, hfile⟩, cell := ⟨cl, cld, csl, lkcc⟩, hm := S.hm, hB := S.hB, hself := S.hself, ho := S.ho, hsup := S.hsup, htop := S.htop, T := S.T }
  refine PySem.ks_wpAt_execs_cons (sup_first hp4 SC I ha fun s' I' => ?_)
  refine PySem.ks_wpAt_execs_cons (wpAt_of_wpAny (wpAny_mono ((ps_ost (f := fld) (pe_var (i := 0) rfl (.inl SC.k0)) (pe_var (i := 1) rfl (.inl SC.k1) S.ny.1 S.ny.2)).run [] s' _ H { nx := fun _ H' => Q .non H', rt := fun _ _ => False } I' ?_) (fun fl s2 hs => ?_) fun _ _ z => z))
  · exact ⟨v, rfl, V.ref a, rfl, a, C, rfl, S.T, S.hno, .inl ⟨ha, fun dx hd hne => q dx hd hne⟩⟩
  · cases fl with
    | next =>
      obtain ⟨σ', H', J, hq⟩ := hs
      refine wpAt_of_wpAny (wpAny_pure ?_)
      exact ⟨V.non, H', J.os, J.bare, J.base, J.hok, rfl, hq⟩
    | ret u => obtain ⟨_, _, _, _, _, q⟩ := hs; exact False.elim q
    | brk => obtain ⟨_, _, _, q⟩ := hs; exact False.elim q
    | cont => obtain ⟨_, _, _, q⟩ := hs; exact False.elim q
end
end Aw

namespace Aw
open PySem PySem.Spec PyProof.Rows L2 NdefX
abbrev St := L2.St

/-! ### X(v) made: raised, or held as a value -/
/-- what pmk_oex asks behind the argument, answered -/
theorem mkS_ans {C : Addr} {fld : Str} {v : V} {H1 : Hp} {Q : XK} (q : ∀ d, H1 d = none → Q (.ref C) (some d) (upd H1 d (.xd [(fld, v)]))) :
    ([v] : List V).length ≤ 1000 ∧ ∀ a, H1 a = none → spSup C fld (.ref a :: ([v] ++ [])) (upd H1 a (exo a C none))
      (fun v H2 => v = .non ∧ ∃ (d : Addr) (fs : List (Str × V)), H2 a = some (exo a C (some d)) ∧ H2 d = some (exd d fs) ∧ H1 d = none ∧ Q (.ref C) (some d) (upd (del H2 a) d (.xd fs))) (fun _ _ _ => False) := by
  refine ⟨by show 1 ≤ 1000; decide, fun a hn => ⟨a, v, rfl, upd_same, fun dx hd hne => ⟨rfl, dx, [(fld, v)], upd_same, ?_, ?_, ?_⟩⟩⟩
  · rw [upd_ne hne, upd_same]
  · have := hd
    rw [upd_ne hne] at this
    exact this
  · have hd' : H1 dx = none := by
      have := hd
      rw [upd_ne hne] at this
      exact this
    have eh : upd (del (upd (upd (upd H1 a (exo a C none)) dx (exd dx [(fld, v)])) a (exo a C (some dx))) a) dx (.xd [(fld, v)]) = upd H1 dx (.xd [(fld, v)]) := by
      funext b
      by_cases hb : b = dx
      · rw [hb, upd_same, upd_same]
      · rw [upd_ne hb, upd_ne hb]
        by_cases hba : b = a
        · rw [hba, del_same, hn]
        · rw [del_ne hba, upd_ne hba, upd_ne hb, upd_ne hba]
    rw [eh]
    exact q dx hd'
section
variable {X : Cx} {C f cc cda : Addr} {qual y fld x : Str} {args : Arguments} {body : List Stmt} {scope : Scope} {fd : FuncData} {e : Expr} {es : List Expr} {ta : TA} {p pos : Pos}
/-- X(v), to be raised: the reading is tMkO C (spSup C fld) [] ta; behind the argument: mkS_ans -/
theorem pmk_sup (S : SupTxt X.prog X.K X.mg C f cc cda qual y fld args body scope fd) (iC : PySem.W.findIn X.K (.ref C) "__init__" = some (some (.ref f))) (tI : PySem.W.typeIn X.K (.ref f) = some (.type "function"))
    (hb : Binds X.K fd ["self", y] []) (hr : Room 2 X.A) (hg : Gl X x) (hm : X.mg x = some (.ref C)) (ha : PA X (e :: es) ta)
    (hdb : (x == ("__debug__" : Str)) = false := by decide) (he : starEach (e :: es) X.env = (false, eval e X.env) :: starEach es X.env := by rfl) (hpl : (backTo pos (starEach es X.env)).any (·.1) = false := by rfl) :
    PMk X (.Call (.Name x p) (e :: es) [] pos) (tMkO C (spSup C fld) [] ta) :=
  pmk_oex (ds := []) (dvs := []) (CX := CX0) S.T iC tI (ok_sup S) hr hb .nil pass0 hg hm ha hdb he hpl

/-- X(v) as a value -/
def tVaS (C : Addr) (fld : Str) (ta : TA) : TE := fun σ H Q => ta σ H fun vs H1 => ∃ v, vs = [v] ∧ ∀ a d, H1 a = none → H1 d = none → d ≠ a → Q (.ref a) (upd (upd H1 d (exd d [(fld, v)])) a (exo a C (some d)))
theorem pe_sup (S : SupTxt X.prog X.K X.mg C f cc cda qual y fld args body scope fd) (iC : PySem.W.findIn X.K (.ref C) "__init__" = some (some (.ref f))) (tI : PySem.W.typeIn X.K (.ref f) = some (.type "function"))
    (hb : Binds X.K fd ["self", y] []) (hr : Room 2 X.A) (hg : Gl X x) (hm : X.mg x = some (.ref C)) (ha : PA X (e :: es) ta)
    (hdb : (x == ("__debug__" : Str)) = false := by decide) (he : starEach (e :: es) X.env = (false, eval e X.env) :: starEach es X.env := by rfl) (hpl : (backTo pos (starEach es X.env)).any (·.1) = false := by rfl) :
    PE X (.Call (.Name x p) (e :: es) [] pos) (tVaS C fld ta) := by
  have T := S.T
  have F1 : FnOk X.prog X.w X.K X.mg X.base CX0 1 f fd ["self", y] (spSup C fld) := ok_sup S
  refine ⟨fun pins s σ H Q I h => ?_⟩
  obtain ⟨nm, q, N, bs, bm, sn, sub, ab, col, dd, k0, k1, k2, k3, k5, hC, hbm⟩ := T.cls
  refine wpAny_Call_Name_kw (ld_glob I hg hm ?_ hdb)
  refine PySem.W.callWith_K (h₀ := X.base) I.ok.mod.kin T.kC (thn (ha.run pos pins s σ H _ I h) fun us s1 ⟨vs, H1, I1, r1, v, ev, q1⟩ => ⟨I1.kIn, ?_⟩) he hpl
  subst ev
  show wpAny _ _ (call (.ref C) us) _ _ _
  obtain ⟨hp, g, dr, tk, os⟩ := s1
  have hsz : hp.objs.size ≤ hp.objs.size + 1 := Nat.le_succ _
  have hn : H1 (hp.objs.size + 1) = none := I1.hok.fresh hsz
  have kk : ∀ b o, hp.get? b = some o → ((hp.push (PySem.W.kdv_tup us)).push (PySem.HandSPX.excO C hp.objs.size)).get? b = some o := fun b o e => Heap.get?_push_of_some _ (Heap.get?_push_of_some _ e)
  have hget : ((hp.push (PySem.W.kdv_tup us)).push (PySem.HandSPX.excO C hp.objs.size)).get? (hp.objs.size + 1) = some (PySem.HandSPX.excO C hp.objs.size) := by heap_get
  have I2 : Inv X pins σ (upd H1 (hp.objs.size + 1) (exo (hp.objs.size + 1) C none)) ⟨(hp.push (PySem.W.kdv_tup us)).push (PySem.HandSPX.excO C hp.objs.size), g, dr, tk, os⟩ :=
    I1.laid (t' := tk) (a := hp.objs.size + 1) (o := exo (hp.objs.size + 1) C none) (h' := (hp.push (PySem.W.kdv_tup us)).push (PySem.HandSPX.excO C hp.objs.size)) kk hsz (exo_ok hget)
  have r2 : Vals (V.ref (hp.objs.size + 1) :: [v]) (Value.ref (hp.objs.size + 1) :: us) := .cons rfl r1
  have hus : us.length ≤ sizeLine := by
    rw [← Paired.length r1, sizeLine_eq]
    show 1 ≤ 16777216
    decide
  have hq : spSup C fld (V.ref (hp.objs.size + 1) :: [v]) (upd H1 (hp.objs.size + 1) (exo (hp.objs.size + 1) C none)) (fun w H2 => w = .non ∧ Q (.ref (hp.objs.size + 1)) H2) (fun _ _ _ => False) := by
    refine ⟨hp.objs.size + 1, v, rfl, upd_same, fun dx hd hne => ⟨rfl, ?_⟩⟩
    have hd' : H1 dx = none := by
      have := hd
      rw [upd_ne hne] at this
      exact this
    have eh : upd (upd (upd H1 (hp.objs.size + 1) (exo (hp.objs.size + 1) C none)) dx (exd dx [(fld, v)])) (hp.objs.size + 1) (exo (hp.objs.size + 1) C (some dx)) = upd (upd H1 dx (exd dx [(fld, v)])) (hp.objs.size + 1) (exo (hp.objs.size + 1) C (some dx)) := by
      funext b
      by_cases hb : b = hp.objs.size + 1
      · rw [hb, upd_same, upd_same]
      · rw [upd_ne hb, upd_ne hb]
        by_cases hbd : b = dx
        · rw [hbd, upd_same, upd_same]
        · rw [upd_ne hbd, upd_ne hbd, upd_ne hb]
    rw [eh]
    exact q1 _ dx hn hd' hne
  have hl : (Value.ref (hp.objs.size + 1) :: us ++ []).length = (["self", y] : List Str).length := by
    have e := r2.length
    rw [List.append_nil]
    rw [← e]
    rfl
  have bb := hb _ (Value.ref (hp.objs.size + 1) :: us) I2.kIn hl
  rw [List.append_nil] at bb
  refine wpAny_call (PySem.HandSPX.call_own F.excBase_ValueError (fun Y => PySem.HandSPX.refsVE_contains Y bm hbm) (I1.kIn _ _ hC) (PySem.W.looks_findIn I1.kIn iC) (fun self => PySem.W.bind_fn I1.kIn self tI) hus
    (codeAny_mono (F1.run _ X.stack _ _ ⟨Value.ref (hp.objs.size + 1) :: us, []⟩ (Value.ref (hp.objs.size + 1) :: us) _ _ (fun _ _ _ => False) (hr.make C us []) (I2.env0.make C us []) bb r2 hq) fun r s' hq' => ?_))
  cases r with
  | error er => exact pass0 pins σ _ _ er s' I2 hq'
  | ok fl =>
    cases fl with
    | ret u =>
      have ea := I2.after hq'
      obtain ⟨w', H2, I3, rv, ew, q2⟩ := ea
      subst ew
      exact ⟨rv, .ref (hp.objs.size + 1), H2, I3, rfl, q2⟩
    | next => exact False.elim hq'
    | brk => exact False.elim hq'
    | cont => exact False.elim hq'
end
end Aw

namespace Aw
open PySem PySem.Spec PyProof.Rows L2 NdefX

/-! ### what an exception class says, for isinstance and for its fields -/
structure ExcD (K : PySem.W.Frag) (C : Addr) : Prop where
  ga : PySem.W.findIn K (.ref C) "__getattribute__" = some (some (.builtin "BaseException.__getattribute__"))
  gg : PySem.W.findIn K (.ref C) "__getattr__" = some none
  exC : PySem.W.subIn K (.ref C) (.type "BaseException") = some true
  hdC : PySem.W.hasDictIn K C = true
  ha : PySem.W.findIn K (.ref C) "__class__" = some (some (.builtin "object.__class__"))
  hn : PySem.W.specialIn K (.builtin "object.__class__") "__get__" = some (some (.builtin "getset_descriptor.__get__"))
  ht : PySem.W.takesIn K (.builtin "object.__class__") = some true
  hm : PySem.W.mroIn K C (.type "object") = some true
theorem ExcD.cl {K : PySem.W.Frag} {C : Addr} (E : ExcD K C) : (PySem.W.clsIn K C).isSome = true := by
  obtain ⟨cd, hc, _⟩ := PySem.W.any_some E.hdC
  rw [hc]
  rfl
section
variable {K : PySem.W.Frag} {X : Cx} {a C d : Addr} {fs : List (Str × V)} {f : Str} {v : V} {oe : Obj} {H : Hp} {pins : List (Addr × Obj)} {σ : Aw.St} {s : Shared} {A : Around} {E : Value → Shared → Prop}
/-- isinstance(e, c) of an exception in hand, at a -/
def rIsV (K : PySem.W.Frag) : List V → Hp → VK → Prop := fun xs H Q => ∃ (a C : Addr) (d : Option Addr) (c : V) (cv : Value) (b : Bool), xs = [.ref a, c] ∧ ExcD K C ∧ H a = some (exo a C d) ∧ (∀ dd, d = some dd → ∃ fs, H dd = some (exd dd fs)) ∧ ClsV c cv ∧ PySem.W.kitOne K (.ref C) cv = some b ∧ Q (.bl b) H
theorem inst_exo (I : Inv X pins σ H s) {d : Option Addr} (ha : H a = some (exo a C d)) (hd : ∀ dd, d = some dd → ∃ fs, H dd = some (exd dd fs)) : ∃ oe od, PySem.W.InstAt s.heap a oe C od := by
  obtain ⟨t1, ho⟩ := exo_at I.hok ha
  cases d with
  | none => exact ⟨_, none, ho, rfl, rfl, trivial⟩
  | some dd =>
    obtain ⟨fs, hf⟩ := hd dd rfl
    obtain ⟨mA, hns, rel⟩ := exd_at I.hok hf
    obtain ⟨o, es, ep, ho', _⟩ := hns
    exact ⟨_, some o, ho, rfl, rfl, ho'⟩
theorem call_isV : CallR X (.builtin "isinstance") (rIsV X.K) := by
  intro pins s σ H xs us Q I r h
  obtain ⟨a, C, d, c, cv, b, rfl, D, ha, hd, hc, e, q⟩ := h
  cases r with
  | cons rx rr =>
    cases rr with
    | cons rt rr =>
      cases rr
      cases rx
      have ec := hc.eq rt
      subst ec
      obtain ⟨oe, od, J⟩ := inst_exo I ha hd
      exact PySem.W.kia_one (PySem.W.kitx_exc D.cl D.ga D.gg D.exC D.ha D.hn D.ht D.hm) I.kIn J e (fun z => nomatch z) fun tk => ⟨.bl b, H, I.kept (t' := tk) fun _ _ z => z, rfl, q⟩
/-- e.f of an exception in hand -/
def tXv (K : PySem.W.Frag) (f : Str) (te : TE) : TE := fun σ H Q => te σ H fun x H1 => ∃ (a C d : Addr) (fs : List (Str × V)) (v : V), x = .ref a ∧ ExcD K C ∧ PySem.W.findIn K (.ref C) f = some none ∧ H1 a = some (exo a C (some d)) ∧ H1 d = some (exd d fs) ∧ fs.lookup f = some v ∧ Q v H1
theorem pe_xv {e : Expr} {te : TE} {pos : Pos} {n : Str} (he : PE X e te) (hb : attributeBase e n X.env (eval e X.env) = eval e X.env := by rfl) : PE X (.Attribute e n pos) (tXv X.K n te) := by
  refine ⟨fun pins s σ H Q I h => ?_⟩
  refine attr_of hb (thn (he.run pins s σ H _ I h) fun u s1 hh => ?_)
  obtain ⟨x, H1, I1, rx, a, C, d, fs, v, ex, D, hno, ha, hd, l, q⟩ := hh
  subst ex
  obtain rfl : u = Value.ref a := rx
  obtain ⟨t1, ho⟩ := exo_at I1.hok ha
  obtain ⟨mA, hns, hr⟩ := exd_at I1.hok hd
  obtain ⟨od, hod, hl⟩ := lookIn_ns hns
  obtain ⟨u, hu, ru⟩ := RelO.some_of (v := v) (o := mA n) (by rw [← l]; exact hr n)
  have J : PySem.W.InstAt s1.heap a _ C (some od) := ⟨ho, rfl, rfl, hod⟩
  exact HandSPX.exc_get I1.kIn J D.ga D.gg D.exC (PySem.W.findObj_own D.hdC hno rfl (by rw [hl, hu])) (handed_of ru) ⟨v, H1, I1.tok _, ru, q⟩

/-! ### the same of an exception that is handled (pinned) -/
theorem inst_pin (I : Inv X pins σ H s) (hp : (a, oe) ∈ X.pn) {cls : Value} {d : Option Addr} (hz : Zc cls d oe) (hf : ∃ vs, oe.data = .fields vs) (ec : cls = .ref C) (hd : ∀ dd, d = some dd → ∃ fs, H dd = some (.xd fs)) : ∃ od, PySem.W.InstAt s.heap a oe C od := by
  obtain ⟨ha, _⟩ := I.pin (a, oe) (List.mem_append_left _ hp)
  obtain ⟨vs, hv⟩ := hf
  obtain ⟨z1, z2⟩ := hz
  have hn : PySem.W.notCls oe = true := by unfold PySem.W.notCls; rw [hv] <;> rfl
  cases d with
  | none => exact ⟨none, ha, z1.trans ec, hn, by rw [z2]; exact trivial⟩
  | some dd =>
    obtain ⟨fs, h⟩ := hd dd rfl
    have hx : ObjOk X.prog X.w H s.heap dd (.xd fs) := I.hok dd _ h
    obtain ⟨mA, ⟨o, es, ep, ho, _⟩, _⟩ := hx
    exact ⟨some o, ha, z1.trans ec, hn, by rw [z2]; exact ho⟩
def rIsP (K : PySem.W.Frag) (a : Addr) (cls : Value) (d : Option Addr) : List V → Hp → VK → Prop := fun xs H Q => ∃ (C : Addr) (c : V) (cv : Value) (b : Bool), xs = [.ref a, c] ∧ cls = .ref C ∧ ExcD K C ∧ (∀ dd, d = some dd → ∃ fs, H dd = some (.xd fs)) ∧ ClsV c cv ∧ PySem.W.kitOne K (.ref C) cv = some b ∧ Q (.bl b) H
theorem call_isP {cls : Value} {d : Option Addr} (hp : (a, oe) ∈ X.pn) (hz : Zc cls d oe) (hf : ∃ vs, oe.data = .fields vs) : CallR X (.builtin "isinstance") (rIsP X.K a cls d) := by
  intro pins s σ H xs us Q I r h
  obtain ⟨C, c, cv, b, rfl, ec, D, hd, hc, e, q⟩ := h
  cases r with
  | cons rx rr =>
    cases rr with
    | cons rt rr =>
      cases rr
      cases rx
      have eq := hc.eq rt
      subst eq
      obtain ⟨od, J⟩ := inst_pin I hp hz hf ec hd
      exact PySem.W.kia_one (PySem.W.kitx_exc D.cl D.ga D.gg D.exC D.ha D.hn D.ht D.hm) I.kIn J e (fun z => nomatch z) fun tk => ⟨.bl b, H, I.kept (t' := tk) fun _ _ z => z, rfl, q⟩
def tXp (K : PySem.W.Frag) (a : Addr) (cls : Value) (d : Option Addr) (f : Str) (te : TE) : TE := fun σ H Q => te σ H fun x H1 => x = .ref a ∧ ∃ (C dd : Addr) (fs : List (Str × V)) (v : V), cls = .ref C ∧ ExcD K C ∧ PySem.W.findIn K (.ref C) f = some none ∧ d = some dd ∧ H1 dd = some (.xd fs) ∧ fs.lookup f = some v ∧ Q v H1
theorem pe_xp {cls : Value} {d : Option Addr} {e : Expr} {te : TE} {pos : Pos} {n : Str} (hp : (a, oe) ∈ X.pn) (hz : Zc cls d oe) (hf : ∃ vs, oe.data = .fields vs) (he : PE X e te) (hb : attributeBase e n X.env (eval e X.env) = eval e X.env := by rfl) : PE X (.Attribute e n pos) (tXp X.K a cls d n te) := by
  refine ⟨fun pins s σ H Q I h => ?_⟩
  refine attr_of hb (thn (he.run pins s σ H _ I h) fun u s1 hh => ?_)
  obtain ⟨x, H1, I1, rx, ex, C, dd, fs, v, ec, D, hno, ed, ea, l, q⟩ := hh
  subst ex
  obtain rfl : u = Value.ref a := rx
  subst ec ed
  obtain ⟨ha, _⟩ := I1.pin (a, oe) (List.mem_append_left _ hp)
  obtain ⟨vs, hd⟩ := hf
  have hx : ObjOk X.prog X.w H1 s1.heap dd (.xd fs) := I1.hok dd _ ea
  obtain ⟨mA, hns, hr⟩ := hx
  obtain ⟨od, ho, hl⟩ := lookIn_ns hns
  obtain ⟨u, hu, ru⟩ := RelO.some_of (v := v) (o := mA n) (by rw [← l]; exact hr n)
  have J : PySem.W.InstAt s1.heap a oe C (some od) := ⟨ha, hz.1, by unfold PySem.W.notCls; rw [hd] <;> rfl, by rw [hz.2]; exact ho⟩
  exact HandSPX.exc_get I1.kIn J D.ga D.gg D.exC (PySem.W.findObj_own D.hdC hno rfl (by rw [hl, hu])) (handed_of ru) ⟨v, H1, I1.tok _, ru, q⟩
end
/-! ### a def that is called within an except suite, with the exception handled as argument -/
structure FnE (P : Program) (w : World) (K : PySem.W.Frag) (mg : Str → Option Value) (base : Heap) (k : Nat) (f : Addr) (fd : FuncData) (ps : List Str) (sp : Addr → Value → Option Addr → Sp) : Prop where
  len : ∀ a c d vs H Q E, sp a c d vs H Q E → vs.length = ps.length
  run : ∀ (A : Around) (outer : List Env) (s : Shared) (H : Hp) (args : Args) (us : List Value) (vs : List V) (Q : VK) (E : XK) (p : Addr × Obj) (cls : Value) (d : Option Addr), L2H.RoomH k A → L2H.PinOk outer H s p → Zc cls d p.2 → (∃ vs, p.2.data = .fields vs) → Env0 P w K mg base A outer s H → BindsTo s fd args (ps.zip us) → Vals vs us → sp p.1 cls d vs H Q E →
    codeAny (model P w) A (.call (.ref f) args) (CR CX0 outer P w H s Q E) s
theorem fn_ofE {P : Program} {w : World} {K : PySem.W.Frag} {mg : Str → Option Value} {base : Heap} {k : Nat} {f : Addr} {name qual : Str} {params : Arguments} {body : List Stmt} {scope : Scope} {dV kV doc pm cdv ct oc : Value} {an od : Option Addr}
    {osl : Array (Option Value)} {N ps : List Str} {sp : Addr → Value → Option Addr → Sp} (lk : K.lookup f = some ⟨oc, od, .func (PySem.W.fnOf name qual params body scope dV kV doc pm an cdv ct), osl⟩) (hcd : PySem.W.codeIn K cdv qual = true) (S : FnScope N ps scope)
    (len : ∀ a c d vs H Q E, sp a c d vs H Q E → vs.length = ps.length)
    (hbody : ∀ (A : Around) (outer : List Env) (s : Shared) (H : Hp) (vs : List V) (Q : VK) (E : XK) (p : Addr × Obj) (cls : Value) (d : Option Addr), Zc cls d p.2 → (∃ vs, p.2.data = .fields vs) → L2H.RoomH k (A.deeper (envOfC qual scope s.heap.objs.size f cdv)) → sp p.1 cls d vs H Q E →
      ∃ t, PSs (L2H.cxH CX0 P w K mg base N qual scope f cdv A outer s H E p) body t ∧ t { nx := fun _ H' => Q .non H', rt := Q } (L2.start N vs) H) :
    FnE P w K mg base (k + 1) f (PySem.W.fnOf name qual params body scope dV kV doc pm an cdv ct) ps sp := by
  refine ⟨len, fun A outer s H args us vs Q E p cls d hr hpin hz hf e0 hb r hsp => ?_⟩
  have hl := len _ _ _ _ _ _ _ hsp
  have KX : K.In s.heap := e0.mod.kin.keeps fun b o e => (e0.bs b o e).1
  have lim : s.heap.NoLimit := e0.mod.nolimit.keeps fun b o e => (e0.bs b o e).1
  have hkind : ∀ y ∈ ps.zip us, scope.names.lookup y.1 = some .local ∨ (scope.names.lookup y.1 = some .cell ∧ ((cellsFrom (s.heap.objs.size + 1) scope.names []).lookup y.1).isSome = true) := fun ⟨n, v⟩ hy => by
    rcases S.par n (List.of_mem_zip hy).1 with q | q
    · exact .inl q
    · exact .inr ⟨q, PySem.W.cellsFrom_some _ _ _ (.inl q)⟩
  refine codeAny_call_function hr.depth (KX _ _ lk) rfl S.co S.gen rfl (PySem.W.codeRec_of KX hcd) (hb _ _ _ _ ?_)
  refine wpAny_newFunctionEnv_cells S.kind hkind fun env he s1 x => ?_
  subst he
  refine ⟨lim.keeps x.toInCall.keep, codeAny_func ?_⟩
  obtain ⟨t, ht, hq⟩ := hbody A outer s H vs Q E p cls d hz hf (hr.deeper _) hsp
  have I : Inv (L2H.cxH CX0 P w K mg base N qual scope f cdv A outer s H E p) [] (L2.start N vs) H s1 := L2H.inv_startH S hpin e0 hl r x
  refine wpAny_mono (ht.run [] s1 (L2.start N vs) H _ I hq) (fun fl s' hs => ?_) fun e s' hs => hs
  have fin : ∀ {σ' : Aw.St} {H' : Hp} {v : V} {u : Value}, Inv (L2H.cxH CX0 P w K mg base N qual scope f cdv A outer s H E p) [] σ' H' s' → RelV v u → Q v H' → CE outer P w H s Q u s' :=
    fun {σ' H' v u} J rv q => ⟨v, H', J.os, J.bare, J.base, J.hok, rv, q⟩
  cases fl with
  | ret u =>
    obtain ⟨v, σ', H', J, rv, q⟩ := hs
    exact fin J rv q
  | next =>
    obtain ⟨σ', H', J, q⟩ := hs
    exact fin (v := V.non) (u := Value.none) J rfl q
  | brk =>
    obtain ⟨_, _, _, q⟩ := hs
    exact False.elim q
  | cont =>
    obtain ⟨_, _, _, q⟩ := hs
    exact False.elim q
section
variable {X : Cx} {k : Nat} {f : Addr} {fd : FuncData} {ps : List Str} {sp : Addr → Value → Option Addr → Sp} {x : Str} {q pos : Pos} {e : Expr} {es : List Expr} {t : TA} {a : Addr} {oe : Obj}
/-- f(.., e, ..) in the suite -/
theorem pe_callE {cls : Value} {d : Option Addr} (F : FnE X.prog X.w X.K X.mg X.base k f fd ps sp) (hr : L2H.RoomH k X.A) (hp : (a, oe) ∈ X.pn) (hz : Zc cls d oe) (hf : ∃ vs, oe.data = .fields vs) (hg : Gl X x) (hm : X.mg x = some (.ref f)) (hk : PySem.W.keepIn X.K (.ref f) = true) (hb : Binds X.K fd ps [])
    (ha : PA X (e :: es) t) (hdb : (x == ("__debug__" : Str)) = false := by decide) (he : starEach (e :: es) X.env = (false, eval e X.env) :: starEach es X.env := by rfl) (hpl : (backTo pos (starEach es X.env)).any (·.1) = false := by rfl) :
    PE X (.Call (.Name x q) (e :: es) [] pos) (fun σ H Q => t σ H fun vs H1 => sp a cls d vs H1 Q E0) := by
  refine ⟨fun pins s σ H Q I h => ?_⟩
  refine wpAny_Call_Name_kw (ld_glob I hg hm ?_ hdb)
  refine PySem.W.callWith_K (h₀ := X.base) I.ok.mod.kin hk (thn (ha.run pos pins s σ H _ I h) fun us s1 ⟨vs, H1, I1, r, q⟩ => ⟨I1.kIn, ?_⟩) he hpl
  have hl : us.length = ps.length := by rw [← r.length]; exact F.len _ _ _ _ _ _ _ q
  have b := hb s1 us I1.kIn (by rw [List.append_nil]; exact hl)
  rw [List.append_nil] at b
  have P1 := I1.pin (a, oe) (List.mem_append_left _ hp)
  have hpin : L2H.PinOk X.stack H1 s1 (a, oe) := ⟨P1.1, P1.2.1, fun hm => (List.mem_cons.mp (I1.stkSub a hm)).elim P1.2.2.1 P1.2.2.2.1, P1.2.2.2.2⟩
  refine wpAny_call (codeAny_mono (F.run X.A X.stack s1 H1 ⟨us, []⟩ us vs Q E0 (a, oe) cls d hr hpin hz hf I1.env0 b r q) fun r s' hq => ?_)
  cases r with
  | error e => exact False.elim hq
  | ok fl =>
    cases fl with
    | ret u => exact I1.after hq
    | next => exact False.elim hq
    | brk => exact False.elim hq
    | cont => exact False.elim hq
end
/-- room within the suite -/
theorem roomH_suite {X : Cx} {k : Nat} (r : Room k X.A) {a : Addr} {pn : List (Addr × Obj)} : L2H.RoomH k (X.suite a pn).A := ⟨r.dp, r.un⟩
end Aw

namespace Aw
open PySem PySem.Spec PyProof.Rows L2 NdefX
def top (i : Nat) : Stmt := PySem.Challenge.pw_allwordlengths_k12_steps_built_from_numb.main.body.getD i (.Pass ⟨0, 0, 0, 0⟩)
end Aw

namespace Aw
open PySem PySem.Spec PyProof.Rows L2 NdefX
abbrev sPen : Stmt := (top 26)
abbrev sDraw : Stmt := (top 27)
/-! ### the pen of a law -/
def penL (c : Addr) (i l : Int) : List (Key × V) := [(.inr "cells", .ref c), (.inr "at", .int i), (.inr "left", .int l)]
theorem ne_ca : ¬ ((Sum.inr "cells" : Key) = .inr "at") := by decide +kernel
theorem ne_cl : ¬ ((Sum.inr "cells" : Key) = .inr "left") := by decide +kernel
theorem ne_al : ¬ ((Sum.inr "at" : Key) = .inr "left") := by decide +kernel
theorem pen_cells {c : Addr} {i l : Int} : valV (penL c i l) (.inr "cells") = some (.ref c) := valV_pos rfl
theorem pen_at {c : Addr} {i l : Int} : valV (penL c i l) (.inr "at") = some (.int i) := (valV_neg ne_ca).trans (valV_pos rfl)
theorem pen_left {c : Addr} {i l : Int} : valV (penL c i l) (.inr "left") = some (.int l) := (valV_neg ne_cl).trans ((valV_neg ne_al).trans (valV_pos rfl))
theorem pen_putat {c : Addr} {i l j : Int} : putK (penL c i l) (.inr "at") (.int j) = penL c j l := by
  unfold putK
  rw [if_pos (by rw [valV_any, pen_at]; rfl)]
  simp only [penL, List.map_cons, List.map_nil, if_neg ne_ca, if_neg (fun z : (Sum.inr "left" : Key) = .inr "at" => ne_al z.symm), if_pos]
theorem pen_putleft {c : Addr} {i l j : Int} : putK (penL c i l) (.inr "left") (.int j) = penL c i j := by
  unfold putK
  rw [if_pos (by rw [valV_any, pen_left]; rfl)]
  simp only [penL, List.map_cons, List.map_nil, if_neg ne_cl, if_neg ne_al, if_pos]
/-- a pen stands at p, its cells at c; it has been drawn from at most n times -/
structure Pen (H : Hp) (p c : Addr) (n : Nat) : Prop where
  ex : ∃ (cells : List Int) (i l : Int), H p = some (.dK (penL c i l)) ∧ H c = some (.lst (cells.map V.int)) ∧ cells.length ≤ 63 ∧ 0 ≤ i ∧ i ≤ n ∧ 0 ≤ l
theorem Pen.pc {H : Hp} {p c : Addr} {n : Nat} (P : Pen H p c n) : p ≠ c := by
  obtain ⟨cells, i, l, h1, h2, _⟩ := P.ex
  exact ne_of h1 h2 (fun z => by cases z)
theorem Pen.mono {H : Hp} {p c : Addr} {n m : Nat} (P : Pen H p c n) (h : n ≤ m) : Pen H p c m := by
  obtain ⟨cells, i, l, h1, h2, h3, h4, h5, h6⟩ := P.ex
  exact ⟨cells, i, l, h1, h2, h3, h4, by omega, h6⟩
theorem Pen.same {H H' : Hp} {p c : Addr} {n : Nat} (P : Pen H p c n) (s : Same H H') : Pen H' p c n := by
  obtain ⟨cells, i, l, h1, h2, h3⟩ := P.ex
  exact ⟨cells, i, l, s _ _ h1, s _ _ h2, h3⟩
theorem Pen.upd {H : Hp} {p c a : Addr} {n : Nat} {o : HO} (P : Pen H p c n) (h1 : a ≠ p) (h2 : a ≠ c) : Pen (upd H a o) p c n := by
  obtain ⟨cells, i, l, e1, e2, h3⟩ := P.ex
  exact ⟨cells, i, l, by rw [upd_ne h1.symm]; exact e1, by rw [upd_ne h2.symm]; exact e2, h3⟩
theorem Pen.some1 {H : Hp} {p c : Addr} {n : Nat} (P : Pen H p c n) : ∃ o, H p = some o := by
  obtain ⟨cells, i, l, e1, e2, h3⟩ := P.ex
  exact ⟨_, e1⟩
theorem Pen.some2 {H : Hp} {p c : Addr} {n : Nat} (P : Pen H p c n) : ∃ o, H c = some o := by
  obtain ⟨cells, i, l, e1, e2, h3⟩ := P.ex
  exact ⟨_, e2⟩
theorem Pen.new {H : Hp} {p c a : Addr} {n : Nat} {o : HO} (P : Pen H p c n) (h : H a = none) : Pen (L2.upd H a o) p c n := by
  obtain ⟨o1, e1⟩ := P.some1
  obtain ⟨o2, e2⟩ := P.some2
  exact P.upd (ne_of_none e1 h).symm (ne_of_none e2 h).symm
/-- all but p is as it was -/
def But (p : Addr) (H H' : Hp) : Prop := ∀ b o, H b = some o → b ≠ p → H' b = some o
theorem But.trans {p : Addr} {H H1 H2 : Hp} (a : But p H H1) (b : But p H1 H2) : But p H H2 := fun c o e n => b c o (a c o e n) n
theorem But.same {p : Addr} {H H1 : Hp} (a : Same H H1) : But p H H1 := fun c o e _ => a c o e
theorem But.lst {p a : Addr} {H H1 : Hp} {xs : List V} (k : But p H H1) (h : H a = some (.lst xs)) (hp : a ≠ p) : H1 a = some (.lst xs) := k a _ h hp
theorem same_upd {H : Hp} {a : Addr} {o : HO} (h : H a = none) : Same H (upd H a o) := fun b u e => by rw [upd_ne (ne_of_none e h)]; exact e
/-- _law_pen: a new pen -/
def spPen (K : PySem.W.Frag) : Sp := fun vs H Q _ => ∃ (a : Addr) (ns : List Int), vs = [.ref a] ∧ SqL K H a (ns.map V.int) ∧ ns.length ≤ 63 ∧ ∀ p c H', Same H H' → H p = none → H c = none → Pen H' p c 0 → Q (.ref p) H'
/-- _law_draw: a number below many -/
def spDraw : Sp := fun vs H Q _ => ∃ (p c : Addr) (many : Int) (n : Nat), vs = [.ref p, .int many] ∧ Pen H p c n ∧ n ≤ 1000000 ∧ 0 < many ∧ many < 1073741824 ∧
  ∀ r H', 0 ≤ r → r < many → But p H H' → Pen H' p c (n + 1) → Q (.int r) H'
/-- what the walk asks of the top's names -/
structure TxtP (mg : Str → Option Value) (fDraw : Addr) : Prop where
  list : mg "list" = none
  int : mg "int" = none
  len : mg "len" = none
  draw : mg "_law_draw" = some (.ref fDraw)
section
variable {P : Program} {w : World} {K : PySem.W.Frag} {mg : Str → Option Value} {base : Heap}
theorem scPen : FnScope ["_law_script"] ["_law_script"] (defScope sPen) := ⟨rfl, rfl, rfl, by decide +kernel, rfl, by decide +kernel, by decide +kernel⟩
theorem ok_pen {f g : Addr} {fd : FuncData} (F : Fun K "_law_pen" "_law_pen" sPen f fd) (T : TxtP mg g) : FnOk P w K mg base CX0 1 f fd ["_law_script"] (spPen K) := by
  refine F.ok scPen (fun vs H Q E h => ?_) (fun cdv A outer s H vs Q E hr h => ?_)
  · obtain ⟨p, c, rfl, _⟩ := h
    rfl
  · obtain ⟨a, ns, rfl, hS, hl, k⟩ := h
    refine ⟨_, pss_one (ps_ret (pe_disp (pps_cons pe_str (pe_callTy call_list_of (by rfl) T.list (by decide +kernel) (pa_cons (pe_slice sl_list (pv 0) po_none (po_some pe_int)) pa_nil))
      (pps_cons pe_str pe_int (pps_cons pe_str pe_int pps_nil))) (by rfl) (by rfl) (fun z => by cases z) (by decide))), ?_⟩
    intro p hp
    have hS1 : SqL K (upd H p (.dK [])) a (ns.map V.int) := (same_upd hp).seq hS
    refine ⟨_, rfl, 63, rfl, a, _, rfl, hS1, fun q hq => ?_⟩
    have e63 : cutV (ns.map V.int) none (some (63 : Int)) = ns.map V.int := by
      unfold cutV
      rw [List.length_map, HT.sIx_none ns.length 0, List.drop_zero]
      have : HT.sIx ns.length ns.length (some (63 : Int)) = ns.length := by
        show (if (63 : Int) < 0 then ((63 : Int) + (ns.length : Int)).toNat else min (63 : Int).toNat ns.length) = ns.length
        rw [if_neg (by decide)]
        exact Nat.min_eq_right (by omega)
      rw [this, Nat.sub_zero]
      exact List.take_of_length_le (by rw [List.length_map]; exact Nat.le_refl ns.length)
    rw [e63]
    refine ⟨q, _, rfl, .inl (SqL.of upd_same), fun c hc => ?_⟩
    have hpq : p ≠ q := ne_of_none upd_same hq
    have hpc : p ≠ c := ne_of_none (show upd (upd H p (.dK [])) q (.lst (ns.map V.int)) p = some (.dK []) by rw [upd_ne hpq, upd_same]) hc
    have hcp : upd H p (.dK []) c = none := by
      by_cases e : c = q
      · rw [e, upd_same] at hc; cases hc
      · rw [upd_ne e] at hc; exact hc
    have hcn : H c = none := by
      rw [upd_ne hpc.symm] at hcp
      exact hcp
    refine ⟨by rw [upd_ne hpc, upd_ne hpq, upd_same], penL c 0 0, rfl, by show 3 ≤ 15; decide, ?_⟩
    have em : mergeK [] (penL c 0 0) = penL c 0 0 := by
      unfold mergeK penL
      simp only [List.foldl_cons, List.foldl_nil]
      rw [putK_new _ (show valV ([] : List (Key × V)) _ = none from rfl), putK_new, putK_new]
      · rfl
      · exact (valV_neg ne_ca).trans rfl
      · exact (valV_neg ne_cl).trans ((valV_neg ne_al).trans rfl)
    rw [em]
    refine k p c _ (fun b o e => ?_) hp hcn ⟨⟨ns, 0, 0, upd_same, ?_, hl, by decide, by decide, by decide⟩⟩
    · have hbp : b ≠ p := ne_of_none e hp
      have hbq : b ≠ q := ne_of_none (show upd H p (.dK []) b = some o by rw [upd_ne hbp]; exact e) hq
      rw [upd_ne hbp, upd_ne (ne_of_none e hcn), upd_ne hbq, upd_ne hbp]
      exact e
    · rw [upd_ne hpc.symm, upd_same]

theorem scDraw : FnScope ["_law_pen_here", "_law_many", "_law_digit", "_law_spot", "_law_cell", "_law_mixed"] ["_law_pen_here", "_law_many"] (defScope sDraw) := ⟨rfl, rfl, rfl, by decide +kernel, rfl, by decide +kernel, by decide +kernel⟩
theorem ints_flat {H : Hp} (ns : List Int) : DpAll K H (ns.map V.int) (ns.map PyData.int) := by
  induction ns with
  | nil => exact .nil
  | cons n ns ih => exact .cons (.int n) ih
theorem ints_shaped (ns : List Int) : SeqAt.shaped (.list (ns.map PyData.int)) = true := by
  have h1 : ∀ l : List Int, PyData.canLayAll0 (l.map PyData.int) = true := fun l => by
    induction l with
    | nil => rfl
    | cons n l ih => simp [PyData.canLayAll0, PyData.canLay0, ih]
  have h2 : ∀ l : List Int, PyData.depthAll (l.map PyData.int) ≤ 1 := fun l => by
    induction l with
    | nil => simp [PyData.depthAll]
    | cons n l ih => simp [PyData.depthAll, PyData.depth]; omega
  unfold SeqAt.shaped
  refine Bool.and_eq_true_iff.mpr ⟨h1 ns, decide_eq_true ?_⟩
  have := h2 ns
  simp only [PyData.depth]
  omega
theorem gCells {H : Hp} {p c : Addr} {i l : Int} (e : H p = some (.dK (penL c i l))) : DGet H p (.str "cells") (some (.ref c)) := by
  have h := DGet.k (k := .inr "cells") e
  rw [pen_cells] at h
  exact h
theorem gAt {H : Hp} {p c : Addr} {i l : Int} (e : H p = some (.dK (penL c i l))) : DGet H p (.str "at") (some (.int i)) := by
  have h := DGet.k (k := .inr "at") e
  rw [pen_at] at h
  exact h
theorem gLeft {H : Hp} {p c : Addr} {i l : Int} (e : H p = some (.dK (penL c i l))) : DGet H p (.str "left") (some (.int l)) := by
  have h := DGet.k (k := .inr "left") e
  rw [pen_left] at h
  exact h
theorem sAt {H : Hp} {p c : Addr} {i l j : Int} (e : H p = some (.dK (penL c i l))) : DPut H p (.str "at") (.int j) (upd H p (.dK (penL c j l))) := by
  have h := DPut.k (k := .inr "at") (v := .int j) e (by show 3 < sizeLine; decide)
  rw [pen_putat] at h
  exact h
theorem sLeft {H : Hp} {p c : Addr} {i l j : Int} (e : H p = some (.dK (penL c i l))) : DPut H p (.str "left") (.int j) (upd H p (.dK (penL c i j))) := by
  have h := DPut.k (k := .inr "left") (v := .int j) e (by show 3 < sizeLine; decide)
  rw [pen_putleft] at h
  exact h
theorem lt64 {x : Int} (h0 : 0 ≤ x) (h : x < 4294967296) : -(2 ^ 64) < x ∧ x < 2 ^ 64 := ⟨by omega, by omega⟩
theorem ok_draw {f : Addr} {fd : FuncData} (F : Fun K "_law_draw" "_law_draw" sDraw f fd) (T : TxtP mg f) : FnOk P w K mg base CX0 1 f fd ["_law_pen_here", "_law_many"] spDraw := by
  refine F.ok scDraw (fun vs H Q E h => ?_) (fun cdv A outer s H vs Q E hr h => ?_)
  · obtain ⟨p, c, many, n, rfl, _⟩ := h
    rfl
  · obtain ⟨p, c, many, n, rfl, Pn, hn, hm, hm2, k⟩ := h
    have hu := hu_of hr
    have nd := scDraw.nd
    refine ⟨_, (pss_cons (ps_if (pt_cmpR op_ge (pe_dget hu (pv 0) pe_str (fun _ _ => rfl)) (pv 1) (nomark _))
        (pss_cons (ps_set (i := 2) nd rfl (Or.inl rfl) (pe_op op_mod (pe_callTy call_int1 (by rfl) T.int (by decide +kernel) (pa_cons (pe_dget hu (pv 0) pe_str (fun _ _ => rfl)) pa_nil)) (pv 1)))
        (pss_cons (ps_dput hu (pv 0) pe_str (pe_op op_fdiv (pe_dget hu (pv 0) pe_str (fun _ _ => rfl)) (pv 1)) rfl)
        (pss_one (ps_ret (pv 2))))) pss_nil)
      (pss_cons (ps_set (i := 3) nd rfl (Or.inl rfl) (pe_dget hu (pv 0) pe_str (fun _ _ => rfl)))
      (pss_cons (ps_dput hu (pv 0) pe_str (pe_op op_add (pv 3) pe_int) rfl)
      (pss_cons (ps_if (pt_cmpR (op_eqD hr.units) (pe_dget hu (pv 0) pe_str (fun _ _ => rfl)) (pe_lst pa_nil) (nomark _))
        (pss_one (ps_ret (pe_op op_mod (pe_callTy call_int1 (by rfl) T.int (by decide +kernel) (pa_cons (pe_op op_add (pe_op op_mul pe_int (pv 3)) pe_int) pa_nil)) (pv 1)))) pss_nil)
      (pss_cons (ps_set (i := 4) nd rfl (Or.inl rfl) (pe_ix ix_list (pe_dget hu (pv 0) pe_str (fun _ _ => rfl)) (pe_op op_mod (pe_callTy call_int1 (by rfl) T.int (by decide +kernel) (pa_cons (pv 3) pa_nil)) (pe_callB call_len_seq (by rfl) T.len PySem.boot_len (pa_cons (pe_dget hu (pv 0) pe_str (fun _ _ => rfl)) pa_nil))) (fun _ _ => rfl)))
      (pss_cons (ps_if (PW.pt (pw_and (pt_cmpR op_lt (pv 3) (pe_callB call_len_seq (by rfl) T.len PySem.boot_len (pa_cons (pe_dget hu (pv 0) pe_str (fun _ _ => rfl)) pa_nil)) (nomark _)) (pw_and1 (pt_cmpR op_ge (pv 4) (pe_op op_pow pe_int pe_int) (nomark _)))))
        (pss_cons (ps_dput hu (pv 0) pe_str (pe_op op_fdiv (pe_op op_sub (pv 4) (pe_op op_pow pe_int pe_int)) (pv 1)) rfl)
        (pss_one (ps_ret (pe_op op_mod (pe_callTy call_int1 (by rfl) T.int (by decide +kernel) (pa_cons (pe_op op_sub (pv 4) (pe_op op_pow pe_int pe_int)) pa_nil)) (pv 1))))) pss_nil)
      (pss_cons (ps_set (i := 5) nd rfl (Or.inl rfl) (pe_op op_add (pe_op op_add (pe_op op_mul (pe_op op_add (pe_op op_mod (pe_callTy call_int1 (by rfl) T.int (by decide +kernel) (pa_cons (pv 4) pa_nil)) pe_int) pe_int) (pe_op op_add (pe_op op_mul pe_int (pv 3)) pe_int)) (pe_op op_mul (pe_op op_mul pe_int (pv 3)) (pv 3))) pe_int))
      (pss_cons (ps_set (i := 5) nd rfl (Or.inl rfl) (pe_op op_mod (pe_callTy call_int1 (by rfl) T.int (by decide +kernel) (pa_cons (pv 5) pa_nil)) pe_int))
      (pss_cons (ps_set (i := 5) nd rfl (Or.inl rfl) (pe_op op_mod (pe_callTy call_int1 (by rfl) T.int (by decide +kernel) (pa_cons (pe_op op_mul (pv 5) (pe_op op_add (pv 5) pe_int)) pa_nil)) pe_int))
      (pss_cons (ps_set (i := 5) nd rfl (Or.inl rfl) (pe_op op_mod (pe_callTy call_int1 (by rfl) T.int (by decide +kernel) (pa_cons (pe_op op_mul (pv 5) (pv 5)) pa_nil)) pe_int))
      (pss_one (ps_ret (pe_op op_mod (pe_callTy call_int1 (by rfl) T.int (by decide +kernel) (pa_cons (pe_op op_fdiv (pv 5) pe_int) pa_nil)) (pv 1)))))))))))))), ?_⟩
    obtain ⟨cells, i, l, e1, e2, hl, hi, hi2, hl0⟩ := Pn.ex
    have pc : p ≠ c := Pn.pc
    refine ⟨_, rfl, p, .int l, rfl, gLeft e1, _, rfl, l, many, rfl, rfl, _, rfl, ?_⟩
    by_cases hlm : many ≤ l
    · rw [decide_eq_true hlm]
      refine iteT ?_
      -- the digit
      refine ⟨_, rfl, p, .int l, rfl, gLeft e1, .inl ⟨l, rfl, _, rfl, l, many, rfl, rfl, hm, ?_⟩⟩
      refine ⟨_, rfl, p, .int l, rfl, gLeft e1, _, rfl, l, many, rfl, rfl, ⟨hm, hm2⟩, _, rfl, p, _, rfl, sLeft e1, ?_⟩
      refine ⟨_, rfl, k _ _ (Int.emod_nonneg _ (by omega)) (Int.emod_lt_of_pos _ hm) (fun b o e hb => by rw [upd_ne hb]; exact e) ⟨cells, i, l / many, upd_same, by rw [upd_ne pc.symm]; exact e2, hl, hi, by omega, Int.ediv_nonneg hl0 (by omega)⟩⟩
    · rw [decide_eq_false hlm]
      refine iteF ?_
      -- the place
      refine ⟨_, rfl, p, .int i, rfl, gAt e1, ?_⟩
      refine ⟨_, rfl, i, 1, rfl, rfl, _, rfl, p, _, rfl, sAt e1, ?_⟩
      generalize eH : upd H p (.dK (penL c (i + 1) l)) = H1
      have e1' : H1 p = some (.dK (penL c (i + 1) l)) := by rw [← eH, upd_same]
      have e2' : H1 c = some (.lst (cells.map V.int)) := by rw [← eH, upd_ne pc.symm]; exact e2
      have bt : But p H H1 := fun b o e hb => by rw [← eH, upd_ne hb]; exact e
      refine ⟨_, rfl, p, .ref c, rfl, gCells e1', by show 0 ≤ sizeLine; decide, fun q hq => ?_⟩
      have bt2 : But p H (upd H1 q (.lst [])) := bt.trans (But.same (same_upd hq))
      have e1q : upd H1 q (.lst []) p = some (.dK (penL c (i + 1) l)) := by rw [upd_ne (ne_of_none e1' hq)]; exact e1'
      have e2q : upd H1 q (.lst []) c = some (.lst (cells.map V.int)) := by rw [upd_ne (ne_of_none e2' hq)]; exact e2'
      refine ⟨.list (cells.map PyData.int), .list [], .lst (SqL.of e2q) (ints_flat _), .lst (SqL.of upd_same) .nil, ints_shaped _, by decide, _, rfl, ?_⟩
      cases cells with
      | nil =>
        refine iteT ?_
        refine ⟨_, rfl, 7, i, rfl, rfl, .inl ⟨by decide, by decide⟩, 7 * i, 3, rfl, rfl, .inl ⟨_, rfl, _, rfl, _, many, rfl, rfl, hm, ?_⟩⟩
        exact k _ _ (Int.emod_nonneg _ (by omega)) (Int.emod_lt_of_pos _ hm) bt2 ⟨[], i + 1, l, e1q, e2q, hl, by omega, by omega, hl0⟩
      | cons n0 rest =>
        refine iteF ?_
        generalize hcs : n0 :: rest = cs at *
        have hpos : 0 < cs.length := by rw [← hcs]; exact Nat.succ_pos _
        have fin : ∀ r l', 0 ≤ r → r < many → 0 ≤ l' → ∀ H', But p H H' → H' p = some (.dK (penL c (i + 1) l')) → H' c = some (.lst (cs.map V.int)) → Q (.int r) H' := fun r l' h1 h2 h3 H' b a1 a2 =>
          k r H' h1 h2 b ⟨cs, i + 1, l', a1, a2, hl, by omega, by omega, h3⟩
        have hlen : (cs.map V.int).length = cs.length := List.length_map ..
        obtain ⟨j, hj⟩ : ∃ j : Nat, i % (((cs.map V.int).length : Nat) : Int) = (j : Int) := ⟨(i % (((cs.map V.int).length : Nat) : Int)).toNat, by
          have := Int.emod_nonneg i (show (((cs.map V.int).length : Nat) : Int) ≠ 0 by rw [hlen]; omega)
          omega⟩
        have hjl : j < cs.length := by
          have := Int.emod_lt_of_pos i (show (0 : Int) < (((cs.map V.int).length : Nat) : Int) by rw [hlen]; omega)
          rw [hj, hlen] at this
          omega
        obtain ⟨x, hx⟩ : ∃ x, cs[j]? = some x := ⟨cs[j], List.getElem?_eq_getElem hjl⟩
        have hat : atI (cs.map V.int) (i % (((cs.map V.int).length : Nat) : Int)) = some (.int x) := by
          rw [hj]
          exact atI_nat (by rw [List.getElem?_map, hx]; rfl)
        refine ⟨_, rfl, p, .ref c, rfl, gCells e1q, _, rfl, .inl ⟨i, rfl, _, rfl, p, .ref c, rfl, gCells e1q, c, _, rfl, .inl (SqL.of e2q), i, _, rfl, rfl, by rw [hlen]; omega, c, _, _, .int x, rfl, rfl, SqL.of e2q, hat, ?_⟩⟩
        have hle : (0 : Int) ≤ 18 ∧ (18 : Int) ≤ 1000000 ∧ (10 : Int).natAbs < 2 ^ 64 := ⟨by decide, by decide, by decide⟩
        refine ⟨_, rfl, _, rfl, p, .ref c, rfl, gCells e1q, c, _, rfl, .inl (SqL.of e2q), i, _, rfl, rfl, _, rfl, ?_⟩
        have tail : ∀ {y : Int}, 0 ≤ y → y < 2147483648 → -(2 ^ 64) < y ∧ y < 2 ^ 64 := fun h1 h2 => ⟨by omega, by omega⟩
        have mods : ∀ (y m : Int), 0 < m → m < 2147483648 → 0 ≤ y % m ∧ y % m < 2147483648 := fun y m h1 h2 => ⟨Int.emod_nonneg _ (by omega), Int.lt_trans (Int.emod_lt_of_pos _ h1) h2⟩
        by_cases a1 : i < (((cs.map V.int).length : Nat) : Int)
        rw [decide_eq_true a1]
        refine iteT ?_
        refine ⟨_, rfl, 10, 18, rfl, rfl, hle, x, _, rfl, rfl, _, rfl, ?_⟩
        by_cases a2 : (10 : Int) ^ (18 : Int).toNat ≤ x
        · rw [decide_eq_true a2]
          refine iteT ?_
          refine ⟨_, rfl, 10, 18, rfl, rfl, hle, x, _, rfl, rfl, _, rfl, _, many, rfl, rfl, ⟨hm, hm2⟩, _, rfl, p, _, rfl, sLeft e1q, ?_⟩
          refine ⟨_, rfl, 10, 18, rfl, rfl, hle, x, _, rfl, rfl, .inl ⟨_, rfl, _, rfl, _, many, rfl, rfl, hm, ?_⟩⟩
          exact fin _ _ (Int.emod_nonneg _ (by omega)) (Int.emod_lt_of_pos _ hm) (Int.ediv_nonneg (by omega) (by omega)) _ (bt2.trans fun b o e hb => by rw [upd_ne hb]; exact e) upd_same (by rw [upd_ne pc.symm]; exact e2q)
        rw [decide_eq_false a2]
        refine iteF ?_
        rotate_left
        rw [decide_eq_false a1]
        refine iteF ?_
        refine iteF ?_
        all_goals
          obtain ⟨b1, b2⟩ := mods x 2147483629 (by decide) (by decide)
          refine ⟨_, rfl, .inl ⟨x, rfl, x, 2147483629, rfl, rfl, (by show (0 : Int) < 2147483629; decide), _, 1, rfl, rfl, _, rfl, 97, i, rfl, rfl, .inl ⟨by decide, by decide⟩, _, 40693, rfl, rfl, _, _, rfl, rfl, .inl ⟨by omega, by omega⟩,
            _, rfl, 69623, i, rfl, rfl, .inl ⟨by decide, by decide⟩, _, rfl, _, i, rfl, rfl, .inl ⟨by omega, by omega⟩, _, _, rfl, rfl, _, 11, rfl, rfl, ?_⟩⟩
          obtain ⟨y1, hy1⟩ : ∃ y, (x % 2147483629 + 1) * (97 * i + 40693) + 69623 * i * i + 11 = y := ⟨_, rfl⟩
          refine ⟨_, rfl, .inl ⟨y1, by rw [← hy1], y1, 2147483647, rfl, rfl, (by show (0 : Int) < 2147483647; decide), ?_⟩⟩
          obtain ⟨c1, c2⟩ := mods y1 2147483647 (by decide) (by decide)
          obtain ⟨y2, hy2⟩ : ∃ y, y1 % 2147483647 = y := ⟨_, rfl⟩
          rw [hy2] at c1 c2
          refine ⟨_, rfl, _, rfl, y2, 16811, by rw [← hy2], rfl, y2, _, by rw [← hy2], rfl, .inl (tail c1 c2), .inl ⟨_, rfl, _, 2147483587, rfl, rfl, (by show (0 : Int) < 2147483587; decide), ?_⟩⟩
          obtain ⟨y4, hy4⟩ : ∃ y, y2 * (y2 + 16811) % 2147483587 = y := ⟨_, rfl⟩
          obtain ⟨d1, d2⟩ := mods (y2 * (y2 + 16811)) 2147483587 (by decide) (by decide)
          rw [hy4] at d1 d2
          refine ⟨_, rfl, _, rfl, y4, y4, by rw [← hy4], by rw [← hy4], .inl (tail d1 d2), .inl ⟨_, rfl, _, 2147483563, rfl, rfl, (by show (0 : Int) < 2147483563; decide), ?_⟩⟩
          refine ⟨_, rfl, _, 64, rfl, rfl, ⟨by decide, by decide⟩, .inl ⟨_, rfl, _, rfl, _, many, rfl, rfl, hm, ?_⟩⟩
          exact fin _ l (Int.emod_nonneg _ (by omega)) (Int.emod_lt_of_pos _ hm) hl0 _ bt2 e1q e2q
end
end Aw

namespace Aw
open PySem PySem.Spec PyProof.Rows L2 NdefX
abbrev sPick : Stmt := (top 28)
/-- what But keeps -/
theorem But.seq {K : PySem.W.Frag} {p c : Addr} {n : Nat} {H H' : Hp} {a : Addr} {xs : List V} (b : But p H H') (P : Pen H p c n) (h : SqL K H a xs) : SqL K H' a xs := by
  obtain ⟨cells, i, l, e1, _⟩ := P.ex
  rcases h with (h | ⟨o, h⟩) | h
  · exact .inl (.inl (b _ _ h (ne_of h e1 (fun z => by cases z))))
  · exact .inl (.inr ⟨o, b _ _ h (ne_of h e1 (fun z => by cases z))⟩)
  · exact .inr h
theorem But.tup {K : PySem.W.Frag} {p c : Addr} {n : Nat} {H H' : Hp} {a : Addr} {xs : List V} (b : But p H H') (P : Pen H p c n) (h : SqT K H a xs) : SqT K H' a xs := by
  obtain ⟨cells, i, l, e1, _⟩ := P.ex
  rcases h with (h | ⟨o, h⟩) | h
  · exact .inl (.inl (b _ _ h (ne_of h e1 (fun z => by cases z))))
  · exact .inl (.inr ⟨o, b _ _ h (ne_of h e1 (fun z => by cases z))⟩)
  · exact .inr h
/-- _law_pick of a list -/
def spPick (K : PySem.W.Frag) : Sp := fun vs H Q _ => ∃ (p c l : Addr) (xs : List V) (n : Nat), vs = [.ref p, .ref l] ∧ Pen H p c n ∧ n ≤ 1000000 ∧ SqL K H l xs ∧ 0 < xs.length ∧ xs.length ≤ 1000000 ∧
  ∀ (r : Nat) (v : V) (H' : Hp), xs[r]? = some v → But p H H' → Pen H' p c (n + 1) → Q v H'
section
variable {P : Program} {w : World} {K : PySem.W.Frag} {mg : Str → Option Value} {base : Heap}
theorem scPick : FnScope ["_law_pen_here", "_law_some"] ["_law_pen_here", "_law_some"] (defScope sPick) := ⟨rfl, rfl, rfl, by decide +kernel, rfl, by decide +kernel, by decide +kernel⟩
theorem ok_pick {f g : Addr} {fd gd : FuncData} (F : Fun K "_law_pick" "_law_pick" sPick f fd) (T : TxtP mg g) (G : Fun K "_law_draw" "_law_draw" sDraw g gd) (bG : Binds K gd ["_law_pen_here", "_law_many"] []) : FnOk P w K mg base CX0 2 f fd ["_law_pen_here", "_law_some"] (spPick K) := by
  have GD : FnOk P w K mg base CX0 1 g gd ["_law_pen_here", "_law_many"] spDraw := ok_draw G T
  refine F.ok scPick (fun vs H Q E h => ?_) (fun cdv A outer s H vs Q E hr h => ?_)
  · obtain ⟨p, c, l, xs, n, rfl, _⟩ := h
    rfl
  · obtain ⟨p, c, l, xs, n, rfl, Pn, hn, hS, h0, h1, k⟩ := h
    refine ⟨_, (pss_one (ps_ret (pe_ix ix_list (pv 1) (pe_call GD hr (by rfl) T.draw G.kp bG .nil pass0 (pa_cons (pv 0) (pa_cons (pe_callB call_len_seq (by rfl) T.len PySem.boot_len (pa_cons (pv 1) pa_nil)) pa_nil))) (fun _ _ => rfl)))), ?_⟩
    refine ⟨_, rfl, _, rfl, _, rfl, l, xs, rfl, .inl hS, p, c, xs.length, n, rfl, Pn, hn, by omega, by omega, fun r H' hr0 hr1 b Pn' => ?_⟩
    obtain ⟨j, rfl⟩ : ∃ j : Nat, r = (j : Int) := ⟨r.toNat, by omega⟩
    obtain ⟨v, hv⟩ : ∃ v, xs[j]? = some v := ⟨xs[j]'(by omega), List.getElem?_eq_getElem (by omega)⟩
    exact ⟨l, xs, _, v, rfl, rfl, b.seq Pn hS, atI_nat hv, k j v H' hv b Pn'⟩
end
end Aw

namespace Aw
open PySem PySem.Spec PyProof.Rows L2 NdefX
/-! ### what tuples hold stays -/
/-- tuples are as they were -/
def TK (H H' : Hp) : Prop := (∀ a xs, H a = some (.tup xs) → H' a = some (.tup xs)) ∧ ∀ a o xs, H a = some (.frz o (.tup xs)) → H' a = some (.frz o (.tup xs))
theorem TK.refl (H : Hp) : TK H H := ⟨fun _ _ e => e, fun _ _ _ e => e⟩
theorem TK.trans {H H1 H2 : Hp} (a : TK H H1) (b : TK H1 H2) : TK H H2 := ⟨fun c xs e => b.1 c xs (a.1 c xs e), fun c o xs e => b.2 c o xs (a.2 c o xs e)⟩
theorem TK.same {H H' : Hp} (s : Same H H') : TK H H' := ⟨fun _ _ e => s _ _ e, fun _ _ _ e => s _ _ e⟩
theorem TK.but {H H' : Hp} {p c : Addr} {n : Nat} (b : But p H H') (P : Pen H p c n) : TK H H' := by
  obtain ⟨cells, i, l, e1, _⟩ := P.ex
  exact ⟨fun a xs e => b a _ e (ne_of e e1 (fun z => by cases z)), fun a o xs e => b a _ e (ne_of e e1 (fun z => by cases z))⟩
theorem TK.lst {H : Hp} {a : Addr} {xs : List V} {o : HO} (h : H a = some (.lst xs)) : TK H (upd H a o) :=
  ⟨fun b ys e => by rw [upd_ne (ne_of e h (fun z => by cases z))]; exact e, fun b u ys e => by rw [upd_ne (ne_of e h (fun z => by cases z))]; exact e⟩
theorem TK.new {H : Hp} {a : Addr} {o : HO} (h : H a = none) : TK H (upd H a o) := TK.same (same_upd h)
theorem TK.tup {K : PySem.W.Frag} {H H' : Hp} {a : Addr} {xs : List V} (t : TK H H') (h : SqT K H a xs) : SqT K H' a xs := by
  rcases h with (h | ⟨o, h⟩) | h
  · exact .inl (.inl (t.1 _ _ h))
  · exact .inl (.inr ⟨o, t.2 _ _ _ h⟩)
  · exact .inr h
mutual
/-- a value of plain data, tuples inside -/
inductive Dq (K : PySem.W.Frag) (H : Hp) : V → PyData → Prop
  | non : Dq K H .non .none
  | bl (b : Bool) : Dq K H (.bl b) (.bool b)
  | int (i : Int) : Dq K H (.int i) (.int i)
  | str (x : Str) : Dq K H (.str x) (.str x)
  | tup {a : Addr} {xs : List V} {ds : List PyData} : SqT K H a xs → DqAll K H xs ds → Dq K H (.ref a) (.tuple ds)
inductive DqAll (K : PySem.W.Frag) (H : Hp) : List V → List PyData → Prop
  | nil : DqAll K H [] []
  | cons {v : V} {vs : List V} {d : PyData} {ds : List PyData} : Dq K H v d → DqAll K H vs ds → DqAll K H (v :: vs) (d :: ds)
end
section
variable {K : PySem.W.Frag} {H H' : Hp}
mutual
theorem Dq.keep (t : TK H H') : ∀ {v : V} {d : PyData}, Dq K H v d → Dq K H' v d
  | _, _, .non => .non
  | _, _, .bl b => .bl b
  | _, _, .int i => .int i
  | _, _, .str x => .str x
  | _, _, .tup h r => .tup (t.tup h) (DqAll.keep t r)
theorem DqAll.keep (t : TK H H') : ∀ {vs : List V} {ds : List PyData}, DqAll K H vs ds → DqAll K H' vs ds
  | _, _, .nil => .nil
  | _, _, .cons h r => .cons (Dq.keep t h) (DqAll.keep t r)
end
mutual
theorem Dq.dp : ∀ {v : V} {d : PyData}, Dq K H v d → Dp K H v d
  | _, _, .non => .non
  | _, _, .bl b => .bl b
  | _, _, .int i => .int i
  | _, _, .str x => .str x
  | _, _, .tup h r => .tup h (DqAll.dp r)
theorem DqAll.dp : ∀ {vs : List V} {ds : List PyData}, DqAll K H vs ds → DpAll K H vs ds
  | _, _, .nil => .nil
  | _, _, .cons h r => .cons (Dq.dp h) (DqAll.dp r)
end
theorem DqAll.length : ∀ {vs : List V} {ds : List PyData}, DqAll K H vs ds → vs.length = ds.length
  | _, _, .nil => rfl
  | _, _, .cons _ r => congrArg (· + 1) (DqAll.length r)
theorem DqAll.get : ∀ {vs : List V} {ds : List PyData} {i : Nat} {v : V}, DqAll K H vs ds → vs[i]? = some v → ∃ d, ds[i]? = some d ∧ Dq K H v d
  | _, _, _, _, .nil, h => by simp at h
  | _, _, 0, _, .cons h _, e => ⟨_, rfl, by cases Option.some.inj e; exact h⟩
  | _, _, i + 1, _, .cons _ r, e => DqAll.get (i := i) r (by simpa using e)
theorem DqAll.append : ∀ {vs ws : List V} {ds es : List PyData}, DqAll K H vs ds → DqAll K H ws es → DqAll K H (vs ++ ws) (ds ++ es)
  | _, _, _, _, .nil, s => s
  | _, _, _, _, .cons h r, s => .cons h (DqAll.append r s)
theorem DqAll.split {v : V} {vs : List V} {d : PyData} {ds : List PyData} : DqAll K H (v :: vs) (d :: ds) → Dq K H v d ∧ DqAll K H vs ds
  | .cons h r => ⟨h, r⟩
theorem Dq.of_tuple {v : V} {ds : List PyData} (h : Dq K H v (.tuple ds)) : ∃ a xs, v = .ref a ∧ SqT K H a xs ∧ DqAll K H xs ds := by
  cases h with
  | tup h r => exact ⟨_, _, rfl, h, r⟩
theorem Dq.of_str {v : V} {x : Str} (h : Dq K H v (.str x)) : v = .str x := by cases h; rfl
theorem Dq.of_int {v : V} {i : Int} (h : Dq K H v (.int i)) : v = .int i := by cases h; rfl
theorem Dq.of_none {v : V} (h : Dq K H v .none) : v = .non := by cases h; rfl
theorem Dq.of_bool {v : V} {b : Bool} (h : Dq K H v (.bool b)) : v = .bl b := by cases h; rfl
end
/-! ### values that are alike: the same, or tuples of alike ones -/
def Al (K : PySem.W.Frag) (H : Hp) : Nat → V → V → Prop
  | 0 => fun _ _ => False
  | n + 1 => fun x y => (x = y ∧ flatB x = true) ∨ (∃ a, x = .ref a ∧ y = .ref a) ∨ ∃ a b xs ys, x = .ref a ∧ y = .ref b ∧ SqT K H a xs ∧ SqT K H b ys ∧ Paired (Al K H n) xs ys
theorem Al.flat {K : PySem.W.Frag} {H : Hp} {n : Nat} {x : V} (h : flatB x = true) : Al K H (n + 1) x x := .inl ⟨rfl, h⟩
theorem Al.ref {K : PySem.W.Frag} {H : Hp} {n : Nat} {a : Addr} : Al K H (n + 1) (.ref a) (.ref a) := .inr (.inl ⟨a, rfl, rfl⟩)
theorem Al.self {K : PySem.W.Frag} {H : Hp} {n : Nat} : ∀ {x : V}, (∀ a, x = .ref a ∨ flatB x = true) → Al K H (n + 1) x x := fun {x} h => by
  cases x with
  | ref a => exact Al.ref
  | _ => exact Al.flat ((h 0).resolve_left (fun z => by cases z))
section
variable {X : Cx} {pins : List (Addr × Obj)} {σ : Aw.St} {H : Hp} {s : Shared}
theorem al_items {F : V → V → Prop} {A : Around} (ih : ∀ x y v u, F x y → RelV x v → RelV y u → SeqAt.EqAt A s v u true) : ∀ {xs ys : List V} {us ws : List Value}, Paired F xs ys → Vals xs us → Vals ys ws → ∀ j (h1 : j < us.length) (h2 : j < ws.length), SeqAt.EqAt A s us[j] ws[j] true
  | _, _, _, _, .nil, .nil, .nil, _, h1, _ => absurd h1 (Nat.not_lt_zero _)
  | _, _, _, _, .cons f _, .cons r1 _, .cons r2 _, 0, _, _ => ih _ _ _ _ f r1 r2
  | _, _, _, _, .cons _ p, .cons _ q1, .cons _ q2, j + 1, h1, h2 => al_items ih p q1 q2 j (Nat.lt_of_succ_lt_succ h1) (Nat.lt_of_succ_lt_succ h2)
theorem all_true (n : Nat) : ((List.range n).all fun _ => true) = true := List.all_eq_true.mpr fun _ _ => rfl
theorem al_run (I : Inv X pins σ H s) : ∀ (n : Nat) (A : Around), A.units + n < cLine → ∀ (x y : V) (v u : Value), Al X.K H n x y → RelV x v → RelV y u → SeqAt.EqAt A s v u true
  | 0, _, _, _, _, _, _, h, _, _ => (show False from h).elim
  | n + 1, A, hu, x, y, v, u, h, rx, ry => by
    rcases h with ⟨rfl, f⟩ | ⟨a, rfl, rfl⟩ | ⟨a, b, xs, ys, rfl, rfl, ha, hb, hp⟩
    · exact eqAt_same rx ry f
    · cases (show v = Value.ref a from rx)
      cases (show u = Value.ref a from ry)
      exact SeqAt.EqAt.same _
    · cases (show v = Value.ref a from rx)
      cases (show u = Value.ref b from ry)
      obtain ⟨us, r1, p1, _⟩ := I.tuple ha
      obtain ⟨ws, r2, p2, _⟩ := I.tuple hb
      have hsz : us.length = ws.length := by
        rw [← r1.length, ← r2.length]
        exact Paired.length hp
      have step := al_items (A := A.in1) (fun x y v u f => al_run I n A.in1 (by show A.units + 1 + n < cLine; omega) x y v u f) hp r1 r2
      have rc := SeqAt.RcAt.tuples (A := A) (s := s) (l := a) (b := b) (items := us.toArray) (items2 := ws.toArray) (e := fun _ => true) p1 p2 (by omega) (fun j h1 h2 => by simpa using step j (by simpa using h1) (by simpa using h2))
      by_cases e : a = b
      · subst e
        exact SeqAt.EqAt.same _
      · intro prog w E Q hq
        unfold eqBool
        refine wpAny_holding ?_
        refine wpAny_ite_split (fun hab => absurd (Value.ref.inj (eq_of_beq hab)) e) (fun _ => ?_)
        refine wpAny_bind (rc prog w E _ (wpAny_truthy_bool ?_))
        have e1 : ((List.range (min us.toArray.size ws.toArray.size)).all (fun _ => true) && us.toArray.size == ws.toArray.size) = true := by
          rw [all_true, List.size_toArray, List.size_toArray, hsz]
          simp
        rw [e1]
        exact hq
/-- x != y, two tuples that are alike -/
def rNeAl (K : PySem.W.Frag) : R2 := fun x y H Q => ∃ n a b xs ys, n ≤ 60 ∧ x = .ref a ∧ y = .ref b ∧ SqT K H a xs ∧ SqT K H b ys ∧ Paired (Al K H n) xs ys ∧ Q (.bl false) H
theorem op_neAl (hu : X.A.units + 64 < cLine) : OpR X (compareOp .NotEq) (rNeAl X.K) := by
  intro pins s σ H x y v u Q I rx ry h
  obtain ⟨n, a, b, xs, ys, hn, rfl, rfl, ha, hb, hp, q⟩ := h
  cases (show v = Value.ref a from rx)
  cases (show u = Value.ref b from ry)
  obtain ⟨us, r1, p1, _⟩ := I.tuple ha
  obtain ⟨ws, r2, p2, _⟩ := I.tuple hb
  have hsz : us.length = ws.length := by
    rw [← r1.length, ← r2.length]
    exact Paired.length hp
  have step := al_items (A := X.A.in1) (s := s) (fun x y v u f => al_run I n X.A.in1 (by show X.A.units + 1 + n < cLine; omega) x y v u f) hp r1 r2
  refine SeqAt.RcNeAt.tuples (A := X.A) (s := s) (l := a) (b := b) (items := us.toArray) (items2 := ws.toArray) (e := fun _ => true) p1 p2 (by omega) (fun j h1 h2 => by simpa using step j (by simpa using h1) (by simpa using h2)) X.prog X.w _ _ ?_
  have e1 : (!((List.range (min us.toArray.size ws.toArray.size)).all (fun _ => true) && us.toArray.size == ws.toArray.size)) = false := by
    rw [all_true, List.size_toArray, List.size_toArray, hsz]
    simp
  rw [e1]
  exact ⟨.bl false, H, I, rfl, q⟩
end
end Aw

namespace Aw
open PySem PySem.Spec PyProof.Rows L2 NdefX
def otherL : List (Str × Str) := [("deal", "undeal"), ("undeal", "deal"), ("near", "sum"), ("sum", "near")]
def movesL : List Str := ["turn", "roll", "deal", "undeal", "swap"]
def flipsL : List Str := ["flip", "flip first", "flip last"]
/-! ### the texts of steps: the reader's mirror, the 99 rows -/
/-- kind, number, rest -/
abbrev Row : Type := Str × Option Int × Option (Int × Int)
def bareL : List Str := ["turn", "deal", "undeal", "swap", "gather", "spread", "flip first", "flip last"]
def numL : List (Str × Int) := [("-3", -3), ("-2", -2), ("-1", -1), ("1", 1), ("2", 2), ("3", 3)]
def restL : List (Str × (Int × Int)) := [("0 of 2", (0, 2)), ("1 of 2", (1, 2)), ("0 of 3", (0, 3)), ("1 of 3", (1, 3)), ("2 of 3", (2, 3)), ("0 of 4", (0, 4)), ("1 of 4", (1, 4)), ("2 of 4", (2, 4)), ("3 of 4", (3, 4))]
/-- behind the number -/
def parseB (kind : Str) (by_ : Int) (between pair : Str) : Option Row :=
  if between = "" then (if kind ∈ (["roll", "near", "sum"] : List Str) then some (kind, some by_, none) else none)
  else if kind ∈ (["near", "sum"] : List Str) then
    match restL.lookup pair with
    | none => none
    | some r => if kind = "sum" ∧ by_ % r.2 ≠ 0 then none else some (kind, some by_, some r)
  else none
def parse (x : Str) : Option Row :=
  if x ∈ bareL then some (x, none, none)
  else if (Txt.partition x " ").1 = "flip" ∧ (restL.lookup (Txt.partition x " ").2.2).isSome = true then (restL.lookup (Txt.partition x " ").2.2).map fun r => ("flip", none, some r)
  else match numL.lookup (Txt.partition (Txt.partition x " ").2.2 " at ").1 with
    | none => none
    | some b => parseB (Txt.partition x " ").1 b (Txt.partition (Txt.partition x " ").2.2 " at ").2.1 (Txt.partition (Txt.partition x " ").2.2 " at ").2.2
def kr (t k : Str) (b : Option Int) (r : Option (Int × Int)) : Str × Row := (t, (k, b, r))
def known : List (Str × Row) := [
  kr "turn" "turn" (none) (none),
  kr "deal" "deal" (none) (none),
  kr "undeal" "undeal" (none) (none),
  kr "swap" "swap" (none) (none),
  kr "gather" "gather" (none) (none),
  kr "spread" "spread" (none) (none),
  kr "flip first" "flip first" (none) (none),
  kr "flip last" "flip last" (none) (none),
  kr "roll -3" "roll" (some (-3)) (none),
  kr "near -3" "near" (some (-3)) (none),
  kr "sum -3" "sum" (some (-3)) (none),
  kr "near -3 at 0 of 2" "near" (some (-3)) (some (0, 2)),
  kr "near -3 at 1 of 2" "near" (some (-3)) (some (1, 2)),
  kr "near -3 at 0 of 3" "near" (some (-3)) (some (0, 3)),
  kr "near -3 at 1 of 3" "near" (some (-3)) (some (1, 3)),
  kr "near -3 at 2 of 3" "near" (some (-3)) (some (2, 3)),
  kr "sum -3 at 0 of 3" "sum" (some (-3)) (some (0, 3)),
  kr "sum -3 at 1 of 3" "sum" (some (-3)) (some (1, 3)),
  kr "sum -3 at 2 of 3" "sum" (some (-3)) (some (2, 3)),
  kr "near -3 at 0 of 4" "near" (some (-3)) (some (0, 4)),
  kr "near -3 at 1 of 4" "near" (some (-3)) (some (1, 4)),
  kr "near -3 at 2 of 4" "near" (some (-3)) (some (2, 4)),
  kr "near -3 at 3 of 4" "near" (some (-3)) (some (3, 4)),
  kr "roll -2" "roll" (some (-2)) (none),
  kr "near -2" "near" (some (-2)) (none),
  kr "sum -2" "sum" (some (-2)) (none),
  kr "near -2 at 0 of 2" "near" (some (-2)) (some (0, 2)),
  kr "near -2 at 1 of 2" "near" (some (-2)) (some (1, 2)),
  kr "sum -2 at 0 of 2" "sum" (some (-2)) (some (0, 2)),
  kr "sum -2 at 1 of 2" "sum" (some (-2)) (some (1, 2)),
  kr "near -2 at 0 of 3" "near" (some (-2)) (some (0, 3)),
  kr "near -2 at 1 of 3" "near" (some (-2)) (some (1, 3)),
  kr "near -2 at 2 of 3" "near" (some (-2)) (some (2, 3)),
  kr "near -2 at 0 of 4" "near" (some (-2)) (some (0, 4)),
  kr "near -2 at 1 of 4" "near" (some (-2)) (some (1, 4)),
  kr "near -2 at 2 of 4" "near" (some (-2)) (some (2, 4)),
  kr "near -2 at 3 of 4" "near" (some (-2)) (some (3, 4)),
  kr "roll -1" "roll" (some (-1)) (none),
  kr "near -1" "near" (some (-1)) (none),
  kr "sum -1" "sum" (some (-1)) (none),
  kr "near -1 at 0 of 2" "near" (some (-1)) (some (0, 2)),
  kr "near -1 at 1 of 2" "near" (some (-1)) (some (1, 2)),
  kr "near -1 at 0 of 3" "near" (some (-1)) (some (0, 3)),
  kr "near -1 at 1 of 3" "near" (some (-1)) (some (1, 3)),
  kr "near -1 at 2 of 3" "near" (some (-1)) (some (2, 3)),
  kr "near -1 at 0 of 4" "near" (some (-1)) (some (0, 4)),
  kr "near -1 at 1 of 4" "near" (some (-1)) (some (1, 4)),
  kr "near -1 at 2 of 4" "near" (some (-1)) (some (2, 4)),
  kr "near -1 at 3 of 4" "near" (some (-1)) (some (3, 4)),
  kr "roll 1" "roll" (some (1)) (none),
  kr "near 1" "near" (some (1)) (none),
  kr "sum 1" "sum" (some (1)) (none),
  kr "near 1 at 0 of 2" "near" (some (1)) (some (0, 2)),
  kr "near 1 at 1 of 2" "near" (some (1)) (some (1, 2)),
  kr "near 1 at 0 of 3" "near" (some (1)) (some (0, 3)),
  kr "near 1 at 1 of 3" "near" (some (1)) (some (1, 3)),
  kr "near 1 at 2 of 3" "near" (some (1)) (some (2, 3)),
  kr "near 1 at 0 of 4" "near" (some (1)) (some (0, 4)),
  kr "near 1 at 1 of 4" "near" (some (1)) (some (1, 4)),
  kr "near 1 at 2 of 4" "near" (some (1)) (some (2, 4)),
  kr "near 1 at 3 of 4" "near" (some (1)) (some (3, 4)),
  kr "roll 2" "roll" (some (2)) (none),
  kr "near 2" "near" (some (2)) (none),
  kr "sum 2" "sum" (some (2)) (none),
  kr "near 2 at 0 of 2" "near" (some (2)) (some (0, 2)),
  kr "near 2 at 1 of 2" "near" (some (2)) (some (1, 2)),
  kr "sum 2 at 0 of 2" "sum" (some (2)) (some (0, 2)),
  kr "sum 2 at 1 of 2" "sum" (some (2)) (some (1, 2)),
  kr "near 2 at 0 of 3" "near" (some (2)) (some (0, 3)),
  kr "near 2 at 1 of 3" "near" (some (2)) (some (1, 3)),
  kr "near 2 at 2 of 3" "near" (some (2)) (some (2, 3)),
  kr "near 2 at 0 of 4" "near" (some (2)) (some (0, 4)),
  kr "near 2 at 1 of 4" "near" (some (2)) (some (1, 4)),
  kr "near 2 at 2 of 4" "near" (some (2)) (some (2, 4)),
  kr "near 2 at 3 of 4" "near" (some (2)) (some (3, 4)),
  kr "roll 3" "roll" (some (3)) (none),
  kr "near 3" "near" (some (3)) (none),
  kr "sum 3" "sum" (some (3)) (none),
  kr "near 3 at 0 of 2" "near" (some (3)) (some (0, 2)),
  kr "near 3 at 1 of 2" "near" (some (3)) (some (1, 2)),
  kr "near 3 at 0 of 3" "near" (some (3)) (some (0, 3)),
  kr "near 3 at 1 of 3" "near" (some (3)) (some (1, 3)),
  kr "near 3 at 2 of 3" "near" (some (3)) (some (2, 3)),
  kr "sum 3 at 0 of 3" "sum" (some (3)) (some (0, 3)),
  kr "sum 3 at 1 of 3" "sum" (some (3)) (some (1, 3)),
  kr "sum 3 at 2 of 3" "sum" (some (3)) (some (2, 3)),
  kr "near 3 at 0 of 4" "near" (some (3)) (some (0, 4)),
  kr "near 3 at 1 of 4" "near" (some (3)) (some (1, 4)),
  kr "near 3 at 2 of 4" "near" (some (3)) (some (2, 4)),
  kr "near 3 at 3 of 4" "near" (some (3)) (some (3, 4)),
  kr "flip 0 of 2" "flip" (none) (some (0, 2)),
  kr "flip 1 of 2" "flip" (none) (some (1, 2)),
  kr "flip 0 of 3" "flip" (none) (some (0, 3)),
  kr "flip 1 of 3" "flip" (none) (some (1, 3)),
  kr "flip 2 of 3" "flip" (none) (some (2, 3)),
  kr "flip 0 of 4" "flip" (none) (some (0, 4)),
  kr "flip 1 of 4" "flip" (none) (some (1, 4)),
  kr "flip 2 of 4" "flip" (none) (some (2, 4)),
  kr "flip 3 of 4" "flip" (none) (some (3, 4))]
theorem known_parse : ∀ p ∈ known, parse p.1 = some p.2 := by decide +kernel
theorem known_nodup : (known.map (·.1)).Nodup := by decide +kernel
theorem known_length : known.length = 99 := by decide +kernel
theorem known_short : ∀ p ∈ known, p.1.length ≤ 40 := by decide +kernel
theorem part_cases (x y : Str) : ((Txt.partition x y).2.1 = y ∨ ((Txt.partition x y).2.1 = Str.empty ∧ (Txt.partition x y).2.2 = Str.empty)) ∧ (Txt.partition x y).1 ++ (Txt.partition x y).2.1 ++ (Txt.partition x y).2.2 = x := by
  refine ⟨?_, StrLaws.partition_sum x y⟩
  unfold Txt.partition
  cases Builtin.Str.occurrences x y 0 x.length 1 with
  | nil => exact .inr ⟨rfl, rfl⟩
  | cons i r => exact .inl rfl
theorem look_mem {α : Type} {k : Str} {v : α} {l : List (Str × α)} (h : l.lookup k = some v) : (k, v) ∈ l := PySem.mem_of_lookup h
theorem bare_known : ∀ k ∈ bareL, (k, ((k, none, none) : Row)) ∈ known := by decide +kernel
theorem flip_known : ∀ p ∈ restL, (("flip" : Str) ++ " " ++ p.1, (("flip", none, some p.2) : Row)) ∈ known := by decide +kernel
theorem one_known : ∀ k ∈ (["roll", "near", "sum"] : List Str), ∀ n ∈ numL, (k ++ " " ++ (n.1 ++ Str.empty ++ Str.empty), ((k, some n.2, none) : Row)) ∈ known := by decide +kernel
theorem near_known : ∀ n ∈ numL, ∀ p ∈ restL, (("near" : Str) ++ " " ++ (n.1 ++ " at " ++ p.1), (("near", some n.2, some p.2) : Row)) ∈ known := by decide +kernel
theorem sum_known : ∀ n ∈ numL, ∀ p ∈ restL, n.2 % p.2.2 = 0 → (("sum" : Str) ++ " " ++ (n.1 ++ " at " ++ p.1), (("sum", some n.2, some p.2) : Row)) ∈ known := by decide +kernel
theorem at_ne : ¬ ((" at " : Str) = "") := by decide +kernel
theorem empty_eq : (Str.empty : Str) = "" := by decide +kernel
theorem no_rest : restL.lookup (Str.empty : Str) = none := by decide +kernel
theorem no_num : numL.lookup (Txt.partition (Str.empty : Str) " at ").1 = none := by decide +kernel
/-- what is read is one of the 99 -/
theorem parse_known {x : Str} {r : Row} (h : parse x = some r) : (x, r) ∈ known := by
  unfold parse at h
  split at h
  · rename_i hb
    cases h
    exact bare_known x hb
  · obtain ⟨c1, e1⟩ := part_cases x " "
    generalize Txt.partition x " " = q at *
    obtain ⟨kind, sep, told⟩ := q
    dsimp only at *
    split at h
    · rename_i hf
      obtain ⟨rfl, hs⟩ := hf
      obtain ⟨p, hp⟩ := Option.isSome_iff_exists.mp hs
      rw [hp] at h
      cases h
      rcases c1 with rfl | ⟨rfl, rfl⟩
      · rw [← e1]
        exact flip_known _ (look_mem hp)
      · rw [no_rest] at hp
        cases hp
    · obtain ⟨c2, e2⟩ := part_cases told " at "
      rcases c1 with rfl | ⟨rfl, rfl⟩
      · generalize Txt.partition told " at " = q2 at *
        obtain ⟨number, between, pair⟩ := q2
        dsimp only at *
        cases hn : numL.lookup number with
        | none => rw [hn] at h; cases h
        | some b =>
          rw [hn] at h
          have hm := look_mem hn
          dsimp only at h
          unfold parseB at h
          split at h
          · rename_i hbt
            split at h
            · rename_i hk
              cases h
              rcases c2 with rfl | ⟨rfl, rfl⟩
              · exact absurd hbt at_ne
              · rw [← e1, ← e2]
                exact one_known kind hk _ hm
            · cases h
          · rename_i hbt
            split at h
            · rename_i hk
              rcases c2 with rfl | ⟨rfl, rfl⟩
              · split at h
                · cases h
                · rename_i p hp
                  split at h
                  · cases h
                  · rename_i hz
                    cases h
                    rw [← e1, ← e2]
                    simp only [List.mem_cons, List.not_mem_nil, or_false] at hk
                    rcases hk with rfl | rfl
                    · exact near_known _ hm _ (look_mem hp)
                    · refine sum_known _ hm _ (look_mem hp) ?_
                      by_cases z : b % p.2 = 0
                      · exact z
                      · exact absurd ⟨rfl, z⟩ hz
              · exact absurd empty_eq hbt
            · cases h
      · rw [no_num] at h
        cases h
theorem parse_iff {x : Str} {r : Row} : parse x = some r ↔ (x, r) ∈ known := ⟨parse_known, fun h => known_parse _ h⟩
end Aw

namespace Aw
open PySem PySem.Spec PyProof.Rows L2 NdefX
/-- an own error class, made by X(v), with one field -/
structure Err (P : Program) (K : PySem.W.Frag) (mg : Str → Option Value) (x y fld : Str) (C : Addr) : Prop where
  ex : ∃ (f cc cda : Addr) (qual : Str) (args : Arguments) (body : List Stmt) (scope : Scope) (fd : FuncData), SupTxt P K mg C f cc cda qual y fld args body scope fd ∧ PySem.W.findIn K (.ref C) "__init__" = some (some (.ref f)) ∧ PySem.W.typeIn K (.ref f) = some (.type "function") ∧ Binds K fd ["self", y] []
  g : mg x = some (.ref C)
  D : ExcD K C
  hno : PySem.W.findIn K (.ref C) fld = some none
section
variable {X : Cx} {C : Addr} {y fld x : Str} {e : Expr} {es : List Expr} {ta : TA} {p pos : Pos}
theorem pe_err (Ex : Err X.prog X.K X.mg x y fld C) (hr : Room 2 X.A) (hg : Gl X x) (ha : PA X (e :: es) ta)
    (hdb : (x == ("__debug__" : Str)) = false := by decide) (he : starEach (e :: es) X.env = (false, eval e X.env) :: starEach es X.env := by rfl) (hpl : (backTo pos (starEach es X.env)).any (·.1) = false := by rfl) :
    PE X (.Call (.Name x p) (e :: es) [] pos) (tVaS C fld ta) := by
  obtain ⟨f, cc, cda, qual, args, body, scope, fd, S, iC, tI, hb⟩ := Ex.ex
  exact pe_sup S iC tI hb hr hg Ex.g ha hdb he hpl
theorem pmk_err (Ex : Err X.prog X.K X.mg x y fld C) (hr : Room 2 X.A) (hg : Gl X x) (ha : PA X (e :: es) ta)
    (hdb : (x == ("__debug__" : Str)) = false := by decide) (he : starEach (e :: es) X.env = (false, eval e X.env) :: starEach es X.env := by rfl) (hpl : (backTo pos (starEach es X.env)).any (·.1) = false := by rfl) :
    PMk X (.Call (.Name x p) (e :: es) [] pos) (tMkO C (spSup C fld) [] ta) := by
  obtain ⟨f, cc, cda, qual, args, body, scope, fd, S, iC, tI, hb⟩ := Ex.ex
  exact pmk_sup S iC tI hb hr hg Ex.g ha hdb he hpl
end
/-- an own error class without own __init__, made by X() -/
structure Err0 (K : PySem.W.Frag) (mg : Str → Option Value) (x : Str) (C : Addr) : Prop where
  q : PySem.W.excIn K C PySem.HandSPX.veTail "ValueError.__new__" = true
  kC : PySem.W.keepIn K (.ref C) = true
  g : mg x = some (.ref C)
  D : ExcD K C
section
variable {X : Cx} {C : Addr} {x : Str} {p pos : Pos}
theorem pe_err0 (Ex : Err0 X.K X.mg x C) (hg : Gl X x) (hdb : (x == ("__debug__" : Str)) = false := by decide) : PE X (.Call (.Name x p) [] [] pos) (fun _ H Q => ∀ a, H a = none → Q (.ref a) (upd H a (exo a C none))) := by
  refine ⟨fun pins s σ H Q I h => ?_⟩
  refine wpAny_Call_Name_kw (ld_glob I hg Ex.g ?_ hdb)
  refine PySem.W.callWith_K0 I.kIn Ex.kC ?_
  show wpAny _ _ (call (.ref C) []) _ _ _
  obtain ⟨bm, N, nm, qn, bs, hdct, sn, sub, ab, col, dd, k0, k1, k2, k3, k5, mN, hC, hN, hni, T⟩ := exc_obj I.kIn Ex.q
  refine wpAny_call_exc_subT F.excBase_ValueError T hC hN hni (fun h' a hm => ?_) (by show 0 ≤ sizeLine; omega)
  have hn : H a = none := I.hok.gone hm.new
  obtain ⟨t, ht, _, _⟩ := hm.there
  exact ⟨.ref a, upd H a (exo a C none), I.laidN hm.keeps hm.new hn (exo_ok ht), rfl, h a hn⟩
end
theorem ite_int {k j : Int} {A B : Prop} (h1 : k = j → A) (h2 : k ≠ j → B) : if decide (V.int k = V.int j) = true then A else B := by
  by_cases e : k = j
  · rw [decide_eq_true (by rw [e])]
    exact iteT (h1 e)
  · rw [decide_eq_false (fun z => e (V.int.inj z))]
    exact iteF (h2 e)
theorem ite_str {x y : Str} {A B : Prop} (h1 : x = y → A) (h2 : x ≠ y → B) : if decide (V.str x = V.str y) = true then A else B := by
  by_cases e : x = y
  · rw [decide_eq_true (by rw [e])]
    exact iteT (h1 e)
  · rw [decide_eq_false (fun z => e (V.str.inj z))]
    exact iteF (h2 e)
theorem ite_dec {c : Prop} [Decidable c] {A B : Prop} (h1 : c → A) (h2 : ¬ c → B) : if decide c = true then A else B := by
  by_cases e : c
  · rw [decide_eq_true e]
    exact iteT (h1 e)
  · rw [decide_eq_false e]
    exact iteF (h2 e)
theorem ite_ndec {c : Prop} [Decidable c] {A B : Prop} (h1 : ¬ c → A) (h2 : c → B) : if (!decide c) = true then A else B := by
  by_cases e : c
  · rw [decide_eq_true e]
    exact iteF (h2 e)
  · rw [decide_eq_false e]
    exact iteT (h1 e)
end Aw

namespace Aw
open PySem PySem.Spec PyProof.Rows L2 NdefX
abbrev sParts : Stmt := (top 13)
abbrev sInit : Stmt := (inClass (top 12) 0)
abbrev sEq : Stmt := (inClass (top 12) 1)
abbrev sText : Stmt := (top 29)
abbrev sAll : Stmt := (top 30)
abbrev sNum : Stmt := (top 6)
abbrev sSText : Stmt := (top 14)
abbrev sOwnI : Stmt := (top 15)
abbrev sSInv : Stmt := (inClass (top 12) 2)
abbrev sChkBy : Stmt := (top 16)
abbrev sChkOf : Stmt := (top 17)
abbrev sChkAt : Stmt := (top 18)
abbrev sRoN : Stmt := (top 19)
abbrev sRoll : Stmt := (top 20)
abbrev sNearS : Stmt := (top 21)
abbrev sSumS : Stmt := (top 22)
abbrev sFlipS : Stmt := (top 23)
abbrev sAllS : Stmt := (top 24)
abbrev sWholeL : Stmt := (top 32)
abbrev sToldL : Stmt := (top 34)
abbrev sDueL : Stmt := (top 33)
abbrev sBuilt : Stmt := (top 31)
abbrev sLaw : Stmt := (top 35)
end Aw

namespace Aw
open PySem PySem.Spec PyProof.Rows L2 NdefX He5
open He (eqO eqO_ok ga ma frG frG_in)
/-! ### facts of the written part, as Bools -/
theorem bo {a b : Bool} (h : (a && b) = true) : a = true ∧ b = true := Bool.and_eq_true_iff.mp h
def excDB (K : PySem.W.Frag) (C : Addr) : Bool := eqO (PySem.W.findIn K (.ref C) "__getattribute__") (some (some (.builtin "BaseException.__getattribute__"))) && (eqO (PySem.W.findIn K (.ref C) "__getattr__") (some none) && (decide (PySem.W.subIn K (.ref C) (.type "BaseException") = some true) &&
  (PySem.W.hasDictIn K C && (eqO (PySem.W.findIn K (.ref C) "__class__") (some (some (.builtin "object.__class__"))) && (eqO (PySem.W.specialIn K (.builtin "object.__class__") "__get__") (some (some (.builtin "getset_descriptor.__get__"))) && (decide (PySem.W.takesIn K (.builtin "object.__class__") = some true) && decide (PySem.W.mroIn K C (.type "object") = some true)))))))
theorem excDB_ok {K : PySem.W.Frag} {C : Addr} (h : excDB K C = true) : ExcD K C := by
  obtain ⟨h1, h⟩ := bo h
  obtain ⟨h2, h⟩ := bo h
  obtain ⟨h3, h⟩ := bo h
  obtain ⟨h4, h⟩ := bo h
  obtain ⟨h5, h⟩ := bo h
  obtain ⟨h6, h⟩ := bo h
  obtain ⟨h7, h8⟩ := bo h
  exact ⟨eqO_ok h1, eqO_ok h2, of_decide_eq_true h3, h4, eqO_ok h5, eqO_ok h6, of_decide_eq_true h7, of_decide_eq_true h8⟩
def rawC (K : PySem.W.Frag) (C : Addr) : Bool := match K.lookup C with
  | some ⟨.type T, _, .cls cd, sl⟩ => (match cd.mro, sl.toList with
    | .ref C' :: bm, [_, _, _, _, some (.builtin n), _] => decide (T = "type") && (decide (C' = C) && (PySem.HandSPX.refsVE bm && (cd.hasDict && (!cd.hasDel && decide (n = "ValueError.__new__")))))
    | _, _ => false)
  | _ => false
theorem rawC_ok {K : PySem.W.Frag} {C : Addr} (h : rawC K C = true) : ∃ nm q N bs bm sn sub ab col dd k0 k1 k2 k3 k5, K.lookup C = some (excClassObj nm q C N bs bm true sn sub ab col dd k0 k1 k2 k3 k5 "ValueError.__new__") ∧ PySem.HandSPX.refsVE bm = true := by
  unfold rawC at h
  split at h
  · rename_i T dd cd sl ho
    split at h
    · rename_i C' bm k0 k1 k2 k3 n k5 hm hs
      obtain ⟨h1, h⟩ := bo h
      obtain ⟨h2, h⟩ := bo h
      obtain ⟨h3, h⟩ := bo h
      obtain ⟨h4, h⟩ := bo h
      obtain ⟨h5, h6⟩ := bo h
      have e1 := of_decide_eq_true h1
      have e2 := of_decide_eq_true h2
      have e6 := of_decide_eq_true h6
      subst e1 e2 e6
      obtain ⟨nm, bs, mro, ns, qn, hd, sn, sub, ab, col, del⟩ := cd
      dsimp only at hm h4 h5
      subst hm h4
      have hdel : del = false := by simpa using h5
      subst hdel
      obtain ⟨l⟩ := sl
      simp only at hs
      subst hs
      exact ⟨nm, qn, ns, bs, bm, sn, sub, ab, col, dd, k0, k1, k2, k3, k5, ho, h3⟩
    · cases h
  · cases h
def oexB (K : PySem.W.Frag) (C : Addr) : Bool := rawC K C && (eqO (PySem.W.findIn K (.ref C) "__setattr__") (some (some (.builtin "object.__setattr__"))) && (decide (PySem.W.subIn K (.ref C) (.type "BaseException") = some true) && (decide (PySem.W.typeIn K (.ref C) = some (.type "type")) && PySem.W.keepIn K (.ref C))))
theorem oexB_ok {K : PySem.W.Frag} {C : Addr} (h : oexB K C = true) : OexC K C := by
  obtain ⟨h1, h⟩ := bo h
  obtain ⟨h2, h⟩ := bo h
  obtain ⟨h3, h⟩ := bo h
  obtain ⟨h4, h5⟩ := bo h
  exact ⟨rawC_ok h1, eqO_ok h2, of_decide_eq_true h3, of_decide_eq_true h4, h5⟩
/-- the own __init__ of the class x, as it stands -/
def supAt (K : PySem.W.Frag) (x : Str) : Addr := ma K (ga K x) "__init__"
abbrev SupW : Type := Option (Str × Str × Arguments × FuncBody × Scope × Addr × List Str × Addr)
def supW (K : PySem.W.Frag) (x : Str) : SupW := match K.lookup (supAt K x) with
  | some ⟨_, _, .func fd, _⟩ => some (fd.name, fd.qualname, fd.params, fd.body, fd.scope, fd.globals, fd.closure.map (·.1), fd.builtins)
  | _ => none
structure SupD where
  x : Str
  qual : Str
  y : Str
  fld : Str
  st : Stmt
def SupD.val (d : SupD) : SupW := some ("__init__", d.qual, defArgs d.st, .stmts (defBody d.st), defScope d.st, mainGlobals, ["__class__"], builtinsNs)
def SupD.ok (file : Str) (K : PySem.W.Frag) (d : SupD) : Bool := oexB K (ga K d.x) && (excDB K (ga K d.x) && (eqO (PySem.W.nsIn K mainGlobals d.x) (some (some (.ref (ga K d.x)))) && (eqO (PySem.W.findIn K (.ref (ga K d.x)) "__init__") (some (some (.ref (supAt K d.x)))) && (decide (PySem.W.typeIn K (.ref (supAt K d.x)) = some (.type "function")) &&
  (eqO (PySem.W.ks_superIn K (ga K d.x) (ga K d.x) "__init__") (some (some (.builtin "ValueError.__init__"))) && (decide (PySem.W.subIn K (.ref (ga K d.x)) (.type "ValueError") = some true) && (decide (PySem.W.mroIn K (ga K d.x) (.ref (ga K d.x)) = some true) && (eqO (PySem.W.nsIn K cStatics "thirdparty.any") (some none) && (eqO (PySem.W.findIn K (.ref (ga K d.x)) d.fld) (some none) &&
  (eqO (PySem.W.nsIn K mainGlobals "super") (some none) && (match K.lookup (supAt K d.x) with
    | some ⟨_, _, .func fd, _⟩ => (match fd.closure, fd.code, fd.defaults with
      | [(_, cc)], .ref cda, .none => PySem.W.codeIn K (.ref cda) d.qual && ((match K.lookup cda with
          | some ⟨_, _, .fields vs, _⟩ => (match (vs[2]? : Option Value) with
            | some (Value.str fl _) => (file == fl)
            | _ => false)
          | _ => false) && (match K.lookup cc with
          | some ⟨_, _, .cell (some (.ref D)), _⟩ => decide (D = ga K d.x)
          | _ => false))
      | _, _, _ => false)
    | _ => false)))))))))))
/-- what the text itself says of such an __init__ -/
structure SupS (d : SupD) : Prop where
  bd : ∃ z j p0 p1 p2 p3 p4 p5 p6 p7 p8 p9, defBody d.st = supBody z d.y d.fld j p0 p1 p2 p3 p4 p5 p6 p7 p8 p9 ∧ (p2.endLine == p4.line) = true
  ar : ((defArgs d.st).posonlyargs ++ (defArgs d.st).args).head?.map (·.arg) = some "self"
  sc : NScope ["self", d.y, "__class__"] ["self", d.y] ["__class__"] (defScope d.st)
  scs : (defScope d.st).names.lookup ("super" : Str) = some .globalImplicit
  ny : (d.y == ("__debug__" : Str)) = false ∧ (d.y == ("__classdict__" : Str)) = false
  bind : ∀ (kV doc pm : Value) (an : Option Addr) (cdv ct : Value) (cc : Addr) (us : List Value), us.length = 2 → bindArgs (PySem.W.fnX "__init__" d.qual (defArgs d.st) (defBody d.st) (defScope d.st) [("__class__", cc)] .none kV doc pm an cdv ct) ⟨us, []⟩ = pure ((["self", d.y] : List Str).zip us)
theorem sup_err {P : Program} {K : PySem.W.Frag} {h : Heap} {mg : Str → Option Value} {d : SupD} (X : K.In h) (G : h.Ns mainGlobals mg) (S : SupS d) (htop : (P.main.scope.names.lookup ("super" : Str)).isSome = false) (e : supW K d.x = d.val) (c : d.ok P.main.file K = true) : Err P K mg d.x d.y d.fld (ga K d.x) := by
  obtain ⟨c1, c⟩ := bo c
  obtain ⟨c2, c⟩ := bo c
  obtain ⟨c3, c⟩ := bo c
  obtain ⟨c4, c⟩ := bo c
  obtain ⟨c5, c⟩ := bo c
  obtain ⟨c6, c⟩ := bo c
  obtain ⟨c7, c⟩ := bo c
  obtain ⟨c8, c⟩ := bo c
  obtain ⟨c9, c⟩ := bo c
  obtain ⟨c10, c⟩ := bo c
  obtain ⟨c11, c⟩ := bo c
  refine ⟨?_, PySem.W.mg_of X G (eqO_ok c3), excDB_ok c2, eqO_ok c10⟩
  unfold supW at e
  split at c
  · rename_i oc od fd osl lk
    rw [lk] at e
    split at c
    · rename_i n0 cc cda hcl hco hdf
      obtain ⟨d1, c⟩ := bo c
      obtain ⟨d2, d3⟩ := bo c
      obtain ⟨n1, n2, n3, n4, n5, n6, n7, n8, n9, n10, n11, n12, n13, n14, n15⟩ := fd
      dsimp only at hcl hco hdf
      have e2 : (some (n1, n2, n3, n4, n5, n6, n7.map (·.1), n15) : SupW) = (some (("__init__" : Str), d.qual, defArgs d.st, FuncBody.stmts (defBody d.st), defScope d.st, mainGlobals, (["__class__"] : List Str), builtinsNs) : SupW) := e
      simp only [Option.some.injEq, Prod.mk.injEq] at e2
      obtain ⟨h1, h2, h3, h4, h5, h6, h7, h8⟩ := e2
      subst h1 h2 h3 h4 h5 h6 h8 hcl hco hdf
      have hn0 : n0 = "__class__" := by simpa using h7
      subst hn0
      refine ⟨supAt K d.x, cc, cda, _, _, _, _, _, { T := oexB_ok c1, fdE := ⟨_, _, _, _, _, _, rfl⟩, lk := ⟨_, _, _, lk⟩, cd := d1, file := ?_, cell := ?_, hm := eqO_ok c6, hB := of_decide_eq_true c7, hself := of_decide_eq_true c8, ho := eqO_ok c9, hno := eqO_ok c10, hsup := PySem.W.mg_none_of X G (eqO_ok c11), htop := htop, bd := S.bd, ar := S.ar, sc := S.sc, scs := S.scs, ny := S.ny }, eqO_ok c4, of_decide_eq_true c5, ?_⟩
      · split at d2
        · rename_i ccl cdd vs ccs lkc
          split at d2
          · rename_i fl tf hv
            exact ⟨ccl, cdd, vs, ccs, fl, tf, lkc, hv, d2⟩
          · cases d2
        · cases d2
      · split at d3
        · rename_i cl cld D csl lkcc
          have eD := of_decide_eq_true d3
          subst eD
          exact ⟨cl, cld, csl, lkcc⟩
        · cases d3
      · exact .all fun us hl => S.bind _ _ _ _ _ _ _ us hl
    · cases c
  · cases c
def err0B (K : PySem.W.Frag) (x : Str) : Bool := PySem.W.excIn K (ga K x) PySem.HandSPX.veTail "ValueError.__new__" && (PySem.W.keepIn K (.ref (ga K x)) && (eqO (PySem.W.nsIn K mainGlobals x) (some (some (.ref (ga K x)))) && excDB K (ga K x)))
theorem err0_of {K : PySem.W.Frag} {h : Heap} {mg : Str → Option Value} {x : Str} (X : K.In h) (G : h.Ns mainGlobals mg) (c : err0B K x = true) : Err0 K mg x (ga K x) := by
  obtain ⟨c1, c⟩ := bo c
  obtain ⟨c2, c⟩ := bo c
  obtain ⟨c3, c4⟩ := bo c
  exact ⟨c1, c2, PySem.W.mg_of X G (eqO_ok c3), excDB_ok c4⟩
def gloB (K : PySem.W.Frag) (x : Str) : Bool := eqO (PySem.W.nsIn K mainGlobals x) (some (some (.ref (ga K x))))
def freB (K : PySem.W.Frag) (x : Str) : Bool := eqO (PySem.W.nsIn K mainGlobals x) (some none)
theorem glo_of {K : PySem.W.Frag} {h : Heap} {mg : Str → Option Value} {x : Str} (X : K.In h) (G : h.Ns mainGlobals mg) (c : gloB K x = true) : mg x = some (.ref (ga K x)) := PySem.W.mg_of X G (eqO_ok c)
theorem fre_of {K : PySem.W.Frag} {h : Heap} {mg : Str → Option Value} {x : Str} (X : K.In h) (G : h.Ns mainGlobals mg) (c : freB K x = true) : mg x = none := PySem.W.mg_none_of X G (eqO_ok c)
/-! ### the Hook: the defs, the __init__s, the tables, a Bool -/
abbrev AlZ : Type := He.AlD × (List SupW × (List (Option (List (Option (Str × Int)))) × Bool))
def obsZ (fn : List DefA) (su : List SupD) (ts : List He.Tab) (ex : PySem.W.Frag → Bool) (K : PySem.W.Frag) : AlZ := (obsA [] fn K, su.map (fun d => supW K d.x), ts.map (fun t => He.dicW K (t.1 K)), ex K)
def valZ (fn : List DefA) (su : List SupD) (ts : List He.Tab) (w : World) : AlZ := (valA fn, su.map SupD.val, ts.map (fun t => some (He.keysIn w.params t.2)), true)
def SaysZ (fn : List DefA) (su : List SupD) (ts : List He.Tab) (ex : PySem.W.Frag → Bool) (w : World) (K : PySem.W.Frag) : Prop := obsZ fn su ts ex K = valZ fn su ts w
def obsZG (n : Nat) (fn : List DefA) (su : List SupD) (ts : List He.Tab) (ex : PySem.W.Frag → Bool) (g : Addr → Option Obj) : AlZ := obsZ fn su ts ex (frG g (asA g n))
def hookZ (n : Nat) (fn : List DefA) (su : List SupD) (ts : List He.Tab) (ex : PySem.W.Frag → Bool) : PySem.W.Hook where
  α := AlZ
  obs := fun s => obsZG n fn su ts ex s.heap.get?
  val := fun w => valZ fn su ts w
  says := fun w h => ∃ K : PySem.W.Frag, K.In h ∧ SaysZ fn su ts ex w K
  of := fun _ _ e => ⟨_, frG_in, e⟩
  keeps := fun _ _ _ ⟨K, hK, c⟩ k => ⟨K, PySem.W.Frag.In.keeps hK k, c⟩
theorem obsZG_eq {n : Nat} {fn : List DefA} {su : List SupD} {ts : List He.Tab} {ex : PySem.W.Frag → Bool} {g : Addr → Option Obj} {s : Shared} (h : ∀ a, g a = s.heap.get? a) : obsZG n fn su ts ex g = (hookZ n fn su ts ex).obs s := by
  have e : g = s.heap.get? := funext h
  rw [e] <;> rfl
section
variable {fn : List DefA} {su : List SupD} {ts : List He.Tab} {ex : PySem.W.Frag → Bool} {w : World} {K : PySem.W.Frag}
theorem SaysZ.more (c : SaysZ fn su ts ex w K) : ex K = true := congrArg (fun z : AlZ => z.2.2.2) c
theorem SaysZ.def_ (c : SaysZ fn su ts ex w K) (i : Nat) {d : DefA} (h : fn[i]? = some d := by rfl) : ∃ fd, L2.FunD K d.name d.qual d.params d.body d.scope (d.dvs K) (d.kws K) (d.at_ K) fd :=
  SaysA.def_ (fa := []) (fn := fn) (show obsA [] fn K = valA fn from congrArg (fun z : AlZ => z.1) c) i h
theorem SaysZ.sup (c : SaysZ fn su ts ex w K) (i : Nat) {d : SupD} (h : su[i]? = some d := by rfl) : supW K d.x = d.val := by
  have e : su.map (fun d => supW K d.x) = su.map SupD.val := congrArg (fun z : AlZ => z.2.1) c
  have e2 : (su.map fun d => supW K d.x)[i]? = (su.map SupD.val)[i]? := by rw [e]
  rw [List.getElem?_map, List.getElem?_map, h] at e2
  exact Option.some.inj e2
theorem SaysZ.tab (c : SaysZ fn su ts ex w K) (i : Nat) {t : He.Tab} (h : ts[i]? = some t := by rfl) : ∃ es n, KDict K w (t.1 K) es n := by
  have e : ts.map (fun t => He.dicW K (t.1 K)) = ts.map fun t => some (He.keysIn w.params t.2) := congrArg (fun z : AlZ => z.2.2.1) c
  have e2 : (ts.map fun t => He.dicW K (t.1 K))[i]? = (ts.map fun t => some (He.keysIn w.params t.2))[i]? := by rw [e]
  rw [List.getElem?_map, List.getElem?_map, h] at e2
  exact He.dicW_ok (Option.some.inj e2)
end
/-- a def of the top without defaults -/
def defG (x : Str) (st : Stmt) : DefA := ⟨fun K => ga K x, x, x, defArgs st, defBody st, defScope st, [], []⟩
/-- a method -/
def defM (x m q : Str) (st : Stmt) : DefA := ⟨fun K => ma K (ga K x) m, m, q, defArgs st, defBody st, defScope st, [], []⟩
end Aw

namespace Aw
open PySem PySem.Spec PyProof.Rows L2 NdefX He5
open He (eqO eqO_ok ga ma Fa cls_ok noat_ok meth_ok mkr_ok exm_ok int_ok tupB tupB_ok valsB valsB_ok Dv relAll relAll_ok)
/-! ### the dicts of the top -/
def keysB (K : PySem.W.Frag) (d : Addr) (L : List Str) : Bool := match K.lookup d with
  | some ⟨_, _, .dict es _, _⟩ => es.toList.all fun e => match e.key with
    | .str x _ => decide (x ∈ L)
    | _ => false
  | _ => false
theorem keysB_ok {K : PySem.W.Frag} {d : Addr} {L : List Str} (h : keysB K d L = true) {z : Str} (hz : z ∉ L) : PySem.W.nsIn K d z = some none := by
  unfold keysB at h
  split at h
  · rename_i oc od es n osl lk
    have hk : ∀ e ∈ es.toList, ∃ x t, e.key = .str x t ∧ x ∈ L := fun e he => by
      have h2 := List.all_eq_true.mp h e he
      split at h2
      · rename_i x t ek
        exact ⟨x, t, ek, of_decide_eq_true h2⟩
      · cases h2
    unfold PySem.W.nsIn
    rw [lk]
    have f0 : es.toList.find? (fun e => e.key.isStr z) = none := by
      rw [List.find?_eq_none]
      intro e he q
      obtain ⟨x, t, ek, hx⟩ := hk e he
      rw [ek] at q
      have e2 : x = z := by simpa [Value.isStr] using q
      exact hz (e2 ▸ hx)
    have f1 : es.toList.any (fun e => e.refKey) = false := by
      rw [List.any_eq_false]
      intro e he q
      obtain ⟨x, t, ek, hx⟩ := hk e he
      unfold DictEntry.refKey at q
      rw [ek] at q
      cases q
    simp only [f0, f1]
    rfl
  · cases h
theorem lookup_mem1 {α : Type} {z : Str} {v : α} : ∀ {l : List (Str × α)}, l.lookup z = some v → (z, v) ∈ l
  | (k, u) :: l, h => by
    by_cases e : z = k
    · subst e
      rw [List.lookup_cons_self] at h
      cases h
      exact List.mem_cons_self ..
    · have e2 : (z == k) = false := by simpa using e
      rw [List.lookup_cons, e2] at h
      exact List.mem_cons_of_mem _ (lookup_mem1 h)
theorem lookup_none1 {α : Type} {z : Str} : ∀ {l : List (Str × α)}, l.lookup z = none → z ∉ l.map (·.1)
  | [], _ => List.not_mem_nil
  | (k, u) :: l, h => by
    by_cases e : z = k
    · subst e
      rw [List.lookup_cons_self] at h
      cases h
    · have e2 : (z == k) = false := by simpa using e
      rw [List.lookup_cons, e2] at h
      intro m
      rcases List.mem_cons.mp m with q | q
      · exact e q
      · exact lookup_none1 h q
def restB (K : PySem.W.Frag) (d : Addr) : Bool := restL.all fun q => match PySem.W.nsIn K d q.1 with
  | some (some (.ref t)) => (match K.lookup t with
    | some ⟨.type c, _, .seq its _, _⟩ => decide (c = "tuple") && (decide (its.size ≤ sizeLine) && relAll [.int q.2.1, .int q.2.2] its.toList)
    | _ => false)
  | _ => false
theorem restB_ok {K : PySem.W.Frag} {d : Addr} (h : restB K d = true) {q : Str × (Int × Int)} (hq : q ∈ restL) : ∃ t, PySem.W.nsIn K d q.1 = some (some (.ref t)) ∧ ∀ H, SqT K H t [.int q.2.1, .int q.2.2] := by
  have h2 := List.all_eq_true.mp h q hq
  split at h2
  · rename_i t e
    split at h2
    · rename_i c dd its n sl lk
      obtain ⟨h1, h2⟩ := bo h2
      obtain ⟨h3, h4⟩ := bo h2
      exact ⟨t, e, fun H => .inr ⟨_, its, n, lk, congrArg Value.type (of_decide_eq_true h1), rfl, of_decide_eq_true h3, relAll_ok h4⟩⟩
    · cases h2
  · cases h2
def txteB (K : PySem.W.Frag) (C : Addr) : Bool := eqO (PySem.W.findIn K (.ref C) "__class__") (some (some (.builtin "object.__class__"))) && (eqO (PySem.W.specialIn K (.builtin "object.__class__") "__get__") (some (some (.builtin "getset_descriptor.__get__"))) && (decide (PySem.W.takesIn K (.builtin "object.__class__") = some true) &&
  (decide (PySem.W.mroIn K C (.type "object") = some true) && (decide (PySem.W.kitOne K (.ref C) (.ref C) = some true) && (decide (PySem.W.kitOne K (.type "str") (.ref C) = some false) && decide (PySem.W.kitOne K (.type "NoneType") (.ref C) = some false))))))
def owneqB (K : PySem.W.Frag) (C : Addr) : Bool := eqO (PySem.W.findIn K (.ref C) "__eq__") (some (some (.ref (ma K C "__eq__")))) && (PySem.W.isFn K (.ref (ma K C "__eq__")) && (eqO (PySem.W.findIn K (.ref C) "__ne__") (some (some (.builtin "object.__ne__"))) && (decide (PySem.W.mroIn K C (.type "object") = some true) && (PySem.W.notFirst K C (.type "str") && PySem.W.notFirst K C (.type "NoneType")))))
def spmB (K : PySem.W.Frag) (C : Addr) (m : Str) : Bool := eqO (PySem.W.findIn K (.ref C) m) (some (some (.ref (ma K C m)))) && (PySem.W.isFn K (.ref (ma K C m)) && PySem.W.fnIn K (ma K C m))
theorem spmB_ok {K : PySem.W.Frag} {C : Addr} {m : Str} (h : spmB K C m = true) : PySem.W.findIn K (.ref C) m = some (some (.ref (ma K C m))) ∧ PySem.W.isFn K (.ref (ma K C m)) = true ∧ PySem.W.fnIn K (ma K C m) = true := by
  obtain ⟨h1, h⟩ := bo h
  obtain ⟨h2, h3⟩ := bo h
  exact ⟨eqO_ok h1, h2, h3⟩
def creadB (K : PySem.W.Frag) (C : Addr) : Bool := PySem.W.readsIn K C (.type "type") && eqO (PySem.W.specialIn K (.ref C) "__getattribute__") (some (some (.builtin "type.__getattribute__")))
theorem creadB_ok {K : PySem.W.Frag} {C : Addr} (h : creadB K C = true) : ClX.CRead K C (.type "type") := by
  obtain ⟨h1, h2⟩ := bo h
  exact ⟨h1, eqO_ok h2⟩
def clsmB (K : PySem.W.Frag) (C : Addr) (m : Str) : Bool := wrapB K C "classmethod" "classmethod.__get__" m && PySem.W.fnIn K (wf K C "classmethod" m)
theorem clsmB_ok {K : PySem.W.Frag} {C : Addr} {m : Str} (h : clsmB K C m = true) : ClX.CMet K C (.type "type") m (ma K C m) (wf K C "classmethod" m) := by
  obtain ⟨h1, h2⟩ := bo h
  exact cmet_of h1 h2
def kitB' (K : PySem.W.Frag) (a b : Value) (r : Bool) : Bool := decide (PySem.W.kitOne K a b = some r)
def keyEq : List DictEntry → List Str → Bool
  | [], [] => true
  | e :: es, z :: zs => (match e.key with
    | .str x _ => decide (x = z)
    | _ => false) && keyEq es zs
  | _, _ => false
def keysO (K : PySem.W.Frag) (d : Addr) (L : List Str) : Bool := match K.lookup d with
  | some ⟨_, _, .dict es _, _⟩ => keyEq es.toList L
  | _ => false
def su0 : SupD := ⟨"BadText", "BadText.__init__", "text", "text", (inClass (top 3) 0)⟩
theorem ss0 : SupS su0 := ⟨⟨_, _, _, _, _, _, _, _, _, _, _, _, rfl, rfl⟩, rfl, nscope_by (by decide +kernel), rfl, ⟨by decide, by decide⟩, fun _ _ _ _ _ _ _ us hl => match us, hl with | [_, _], _ => rfl⟩
def su1 : SupD := ⟨"BadNumber", "BadNumber.__init__", "number", "number", (inClass (top 4) 0)⟩
theorem ss1 : SupS su1 := ⟨⟨_, _, _, _, _, _, _, _, _, _, _, _, rfl, rfl⟩, rfl, nscope_by (by decide +kernel), rfl, ⟨by decide, by decide⟩, fun _ _ _ _ _ _ _ us hl => match us, hl with | [_, _], _ => rfl⟩
def sus : List SupD := [su0, su1]
def ddNearS : DefA := ⟨fun K => ga K "near_step", "near_step", "near_step", defArgs sNearS, defBody sNearS, defScope sNearS, [], [("at", He.Dv.int 0), ("of", He.Dv.int 1)]⟩
def ddSumS : DefA := ⟨fun K => ga K "sum_step", "sum_step", "sum_step", defArgs sSumS, defBody sSumS, defScope sSumS, [], [("at", He.Dv.int 0), ("of", He.Dv.int 1)]⟩
def ddFlipS : DefA := ⟨fun K => ga K "flip_step", "flip_step", "flip_step", defArgs sFlipS, defBody sFlipS, defScope sFlipS, [], []⟩
def fns : List DefA := [defG "_law_pen" sPen, defG "_law_draw" sDraw, defG "_law_pick" sPick, defG "_law_text" sText, defG "_law_all" sAll, defG "_law_built" sBuilt, defG "_law_is_whole" sWholeL, defG "_law_due" sDueL, defG "_law_told" sToldL, defG "law" sLaw, defG "step_parts" sParts, defG "is_number" sNum, defG "step_text" sSText, defG "is_own_inverse" sOwnI, defG "check_by" sChkBy, defG "check_of" sChkOf, defG "check_at" sChkAt, defG "rest_or_none" sRoN, defG "roll_step" sRoll, defG "all_steps" sAllS, defM "Step" "__init__" "Step.__init__" sInit, defM "Step" "__eq__" "Step.__eq__" sEq, defM "Step" "__invert__" "Step.__invert__" sSInv, ddNearS, ddSumS, ddFlipS]
def globs : List Str := ["_law_pen", "_law_draw", "_law_pick", "_law_text", "_law_all", "_law_built", "_law_is_whole", "_law_due", "_law_told", "law", "step_parts", "is_number", "step_text", "is_own_inverse", "check_by", "check_of", "check_at", "rest_or_none", "roll_step", "all_steps", "near_step", "sum_step", "flip_step", "WordsError", "BadText", "BadNumber", "Step", "NUMBERS", "RESTS", "BARE_KINDS", "OTHER_KINDS"]
def frees : List Str := ["list", "int", "len", "isinstance", "range", "str", "bool", "tuple", "sorted"]
def tabs : List He.Tab := [(fun K => ga K "NUMBERS", numL.map (·.1)), (fun K => ga K "RESTS", restL.map (·.1)), (fun K => ga K "OTHER_KINDS", otherL.map (·.1))]
def fas : List Fa := [.cls "Step", .noat "Step" "text", .noat "Step" "kind", .noat "Step" "by", .noat "Step" "rest", .mkr "Step", .exm "BadNumber" "WordsError" true]
def numD : List (Str × Dv) := numL.map fun p => (p.1, .int p.2)
def xTup (K : PySem.W.Frag) : Bool := tupB K "BARE_KINDS" (bareL.map Dv.str)
def xNum (K : PySem.W.Frag) : Bool := valsB K (ga K "NUMBERS") numD
def xNumK (K : PySem.W.Frag) : Bool := keysB K (ga K "NUMBERS") (numL.map (·.1))
def xRest (K : PySem.W.Frag) : Bool := restB K (ga K "RESTS")
def xRestK (K : PySem.W.Frag) : Bool := keysB K (ga K "RESTS") (restL.map (·.1))
def xTS (K : PySem.W.Frag) : Bool := txteB K (ga K "Step")
def xES (K : PySem.W.Frag) : Bool := owneqB K (ga K "Step")
def xIS (K : PySem.W.Frag) : Bool := spmB K (ga K "Step") "__invert__"
def xOth (K : PySem.W.Frag) : Bool := valsB K (ga K "OTHER_KINDS") (otherL.map fun p => (p.1, Dv.str p.2))
def xOthK (K : PySem.W.Frag) : Bool := keysB K (ga K "OTHER_KINDS") (otherL.map (·.1))
def xKN (K : PySem.W.Frag) : Bool := keysO K (ga K "NUMBERS") (numL.map (·.1))
def xKR (K : PySem.W.Frag) : Bool := keysO K (ga K "RESTS") (restL.map (·.1))
def xKE (K : PySem.W.Frag) : Bool := kitB' K (.ref (ga K "BadNumber")) (.ref (ga K "BadNumber")) true
def exs : List (PySem.W.Frag → Bool) := [xTup, xNum, xNumK, xRest, xRestK, xTS, xES, xIS, xOth, xOthK, xKN, xKR, xKE]
def exB (K : PySem.W.Frag) : Bool := globs.all (gloB K) && (frees.all (freB K) && (sus.all (fun d => d.ok PySem.Challenge.pw_allwordlengths_k12_steps_built_from_numb.main.file K) && (fas.all (Fa.ok K) && exs.all (fun f => f K))))
abbrev R0 : PySem.W.OpenRow := PySem.W.OpenLaw.row PySem.Challenge.rw_allwordlengths_k12_steps_built_from_numb
abbrev hk : PySem.W.Hook := hookZ 5 fns sus tabs exB
def ob (s : PySem.W.SharedT) : AlZ := obsZG 5 fns sus tabs exB (HandSHeadRun.getT s)
theorem ob_eq (s : PySem.W.SharedT) : ob s = hk.obs s.abs := obsZG_eq (HandSHeadRun.getT_eq s)
def loose : List Str := (["_wall", "WordsError", "BadText", "BadNumber", "is_number", "BARE_KINDS", "NUMBERS", "RESTS", "OTHER_KINDS", "Step", "step_parts", "step_text", "is_own_inverse", "check_by", "check_of", "check_at", "rest_or_none", "roll_step", "near_step", "sum_step", "flip_step", "all_steps", "_law_pen", "_law_draw", "_law_pick", "_law_text", "_law_all", "_law_built", "_law_is_whole", "_law_due"] : List Str) ++ (["_law_told"] : List Str)
theorem runF (w : World) : HandSHeadRun.RunEq R0 (PySem.W.view R0.prog [35]) hk ob 12000 loose (w.withFollow "special-get-raises" false) := fun os => by kernel_rfl
theorem runT (w : World) : HandSHeadRun.RunEq R0 (PySem.W.view R0.prog [35]) hk ob 12000 loose (w.withFollow "special-get-raises" true) := fun os => by kernel_rfl
theorem run (w : World) : HandSHeadRun.RunEq R0 (PySem.W.view R0.prog [35]) hk ob 12000 loose w :=
  PySem.W.byRow2 "special-get-raises" (P := fun w => HandSHeadRun.RunEq R0 (PySem.W.view R0.prog [35]) hk ob 12000 loose w) runF runT w
end Aw

namespace Aw
open PySem PySem.Spec PyProof.Rows L2 NdefX
/-! ### an object whose __init__ may raise, made within a try -/
section
variable {X : Cx} {CX : CXT} {k : Nat} {f C : Addr} {fd : FuncData} {ps : List Str} {sp : Sp} {E : Aw.St → XK} {x : Str} {p pos : Pos} {e : Expr} {es : List Expr} {t : TA}
def tMakeS (C : Addr) (sp : Sp) (E : Aw.St → XK) (t : TA) : TE := fun σ H Q => t σ H fun vs H1 => ∀ x dx, H1 x = none → H1 dx = none → dx ≠ x →
  sp (.ref x :: vs) (upd (upd H1 dx (.own x)) x (.ins C dx [])) (fun v H2 => v = .non ∧ Q (.ref x) H2) (E σ)
theorem pe_makeS (M : Mk X.K C f) (F : FnOk X.prog X.w X.K X.mg X.base CX k f fd ps sp) (hr : Room (k + 1) X.A) (hg : Gl X x) (hm : X.mg x = some (.ref C)) (hb : Binds X.K fd ps []) (hx : ∀ σ, PassesAt CX X σ (E σ))
    (ha : PA X (e :: es) t) (hdb : (x == ("__debug__" : Str)) = false := by decide) (he : starEach (e :: es) X.env = (false, eval e X.env) :: starEach es X.env := by rfl) (hpl : (backTo pos (starEach es X.env)).any (·.1) = false := by rfl) :
    PE X (.Call (.Name x p) (e :: es) [] pos) (tMakeS C sp E t) := by
  refine ⟨fun pins s σ H Q I h => ?_⟩
  refine wpAny_Call_Name_kw (ld_glob I hg hm ?_ hdb)
  refine PySem.W.callWith_K (h₀ := X.base) I.ok.mod.kin M.kp (thn (ha.run pos pins s σ H _ I h) fun us s1 ⟨vs, H1, I1, r, q⟩ => ⟨I1.kIn, ?_⟩) he hpl
  have hq := q (s1.heap.objs.size + 1) s1.heap.objs.size (I1.hok.fresh (Nat.le_succ _)) (I1.hok.fresh (Nat.le_refl _)) (Nat.ne_of_lt (Nat.lt_succ_self _))
  have I2 := Inv.made (C := C) I1
  have r2 : Vals (V.ref (s1.heap.objs.size + 1) :: vs) (Value.ref (s1.heap.objs.size + 1) :: us) := .cons rfl r
  have hl : (Value.ref (s1.heap.objs.size + 1) :: us ++ []).length = ps.length := by
    have e := r2.length
    rw [F.len _ _ _ _ hq] at e
    rw [List.append_nil]
    exact e.symm
  have bb := hb _ (Value.ref (s1.heap.objs.size + 1) :: us) I2.kIn hl
  rw [List.append_nil] at bb
  refine wpAny_call (make_map (f := f) I1.kIn M.makes M.init (beq_iff_eq.mp M.fn) (codeAny_mono (F.run _ X.stack _ _ ⟨Value.ref (s1.heap.objs.size + 1) :: us, []⟩ (Value.ref (s1.heap.objs.size + 1) :: us) _ _ (E σ) (hr.make C us [])
    (I2.env0.make C us []) bb r2 hq) fun r s' hq' => ?_))
  cases r with
  | error e => exact hx σ pins _ _ e s' I2 hq'
  | ok fl =>
    cases fl with
    | ret u =>
      obtain ⟨v, H', I3, rv, ev, q3⟩ := I2.after hq'
      subst ev
      exact ⟨rv, ⟨V.ref (s1.heap.objs.size + 1), H', I3, rfl, q3⟩⟩
    | next => exact False.elim hq'
    | brk => exact False.elim hq'
    | cont => exact False.elim hq'
end
/-! ### a written dict with text keys -/
/-- d[x], d the dict of the top at a -/
def tKd (K : PySem.W.Frag) (d : Addr) (ta tb : TE) : TE := fun σ H Q => ta σ H fun x H1 => tb σ H1 fun y H2 => ∃ (z : Str) (u0 : Value) (v0 : V), x = .ref d ∧ y = .str z ∧ PySem.W.nsIn K d z = some (some u0) ∧ RelV v0 u0 ∧ Q v0 H2
theorem pe_kd {X : Cx} {d : Addr} {es : Array DictEntry} {n : Nat} {a b : Expr} {ta tb : TE} {pos : Pos} (D : KDict X.K X.w d es n) (ha : PE X a ta) (hb : PE X b tb) (hs : NoSl b) : PE X (.Subscript a b pos) (tKd X.K d ta tb) := by
  refine ⟨fun pins s σ H Q I h => ?_⟩
  refine subD_of PySem.F.slot_dict_getitem.lookup hs (thn (ha.run pins s σ H _ I h) fun u s1 ⟨x, H1, I1, rx, q1⟩ => thn (hb.run pins s1 σ H1 _ I1 q1) fun iv s2 ⟨y, H2, I2, ry, z, u0, v0, ex, ey, e, r, q2⟩ => ?_)
  subst ex
  obtain rfl : u = Value.ref d := rx
  exact ⟨kd_type D I2, op_item_kd D pins s2 σ H2 (.ref d) y (.ref d) iv Q I2 rfl ry ⟨z, u0, v0, rfl, ey, e, r, q2⟩⟩
/-- NUMBERS -/
structure NumK (K : PySem.W.Frag) (w : World) (mg : Str → Option Value) (d : Addr) (es : Array DictEntry) (n : Nat) : Prop where
  g : mg "NUMBERS" = some (.ref d)
  D : KDict K w d es n
  no : ∀ z, numL.lookup z = none → PySem.W.nsIn K d z = some none
  yes : ∀ z i, numL.lookup z = some i → ∃ u, PySem.W.nsIn K d z = some (some u) ∧ RelV (.int i) u
/-- RESTS -/
structure RestK (K : PySem.W.Frag) (w : World) (mg : Str → Option Value) (d : Addr) (es : Array DictEntry) (n : Nat) : Prop where
  g : mg "RESTS" = some (.ref d)
  D : KDict K w d es n
  no : ∀ z, restL.lookup z = none → PySem.W.nsIn K d z = some none
  yes : ∀ z p, restL.lookup z = some p → ∃ t, PySem.W.nsIn K d z = some (some (.ref t)) ∧ ∀ H, SqT K H t [.int p.1, .int p.2]
/-- what step_parts asks of the top -/
structure TxtS (K : PySem.W.Frag) (w : World) (mg : Str → Option Value) (dN dR tB : Addr) (eN eR : Array DictEntry) (nN nR : Nat) : Prop where
  isi : mg "isinstance" = none
  str : mg "str" = none
  gB : mg "BARE_KINDS" = some (.ref tB)
  bare : ∀ H, SqT K H tB (bareL.map V.str)
  num : NumK K w mg dN eN nN
  rest : RestK K w mg dR eR nR
/-! ### values that are handed to Step, and their types -/
/-- a value whose type is known; whether it is a text -/
inductive VOk (H : Hp) : V → Prop
  | str (x : Str) (h : x.length ≤ 1000) : VOk H (.str x)
  | non : VOk H .non
  | bl (b : Bool) : VOk H (.bl b)
  | int (i : Int) : VOk H (.int i)
  | lst {a : Addr} {xs : List V} (h : H a = some (.lst xs)) : VOk H (.ref a)
  | tup {a : Addr} {xs : List V} (h : H a = some (.tup xs)) : VOk H (.ref a)
  | dct {a : Addr} {kvs : List (Key × V)} (h : H a = some (.dK kvs)) : VOk H (.ref a)
theorem VOk.same {H H' : Hp} (s : Same H H') : ∀ {v : V}, VOk H v → VOk H' v
  | _, .str x h => .str x h
  | _, .non => .non
  | _, .bl b => .bl b
  | _, .int i => .int i
  | _, .lst h => .lst (s _ _ h)
  | _, .tup h => .tup (s _ _ h)
  | _, .dct h => .dct (s _ _ h)
def isStr : V → Bool
  | .str _ => true
  | _ => false
theorem VOk.isi {K : PySem.W.Frag} {H : Hp} {v : V} (h : VOk H v) : ∃ t, TyX K H v t ∧ PySem.W.kitOne K t (.type "str") = some (isStr v) := by
  cases h with
  | str x h => exact ⟨_, .base (.str x), kit_ty (show kitB "str" "str" = some true by decide +kernel)⟩
  | non => exact ⟨_, .base .non, kit_ty (show kitB "NoneType" "str" = some false by decide +kernel)⟩
  | bl b => exact ⟨_, .base (.bl b), kit_ty (show kitB "bool" "str" = some false by decide +kernel)⟩
  | int i => exact ⟨_, .base (.int i), kit_ty (show kitB "int" "str" = some false by decide +kernel)⟩
  | lst h => exact ⟨_, .base (.lst h), kit_ty (show kitB "list" "str" = some false by decide +kernel)⟩
  | tup h => exact ⟨_, .base (.tup h), kit_ty (show kitB "tuple" "str" = some false by decide +kernel)⟩
  | dct h => exact ⟨_, .base (.dK h), kit_ty (show kitB "dict" "str" = some false by decide +kernel)⟩
def parseV : V → Option Row
  | .str x => parse x
  | _ => none
def optD : Option Int → PyData
  | none => .none
  | some i => .int i
def restD : Option (Int × Int) → PyData
  | none => .none
  | some p => .tuple [.int p.1, .int p.2]
def rowD (r : Row) : PyData := .tuple [.str r.1, optD r.2.1, restD r.2.2]
/-- step_parts -/
def spParts (K : PySem.W.Frag) : Sp := fun vs H Q _ => ∃ v, vs = [v] ∧ VOk H v ∧ (parseV v = none → ∀ H', Same H H' → Q .non H') ∧ (∀ r, parseV v = some r → ∀ u H', Same H H' → Dq K H' u (rowD r) → Q u H')
theorem in_strs {x : Str} {l : List Str} : inV (.str x) (l.map V.str) = decide (x ∈ l) := by
  induction l with
  | nil => rfl
  | cons y l ih =>
    have e : inV (.str x) ((y :: l).map V.str) = (eqV (.str y) (.str x) || inV (.str x) (l.map V.str)) := rfl
    rw [e, ih]
    have e2 : eqV (.str y) (.str x) = decide (y = x) := by
      show (y == x) = decide (y = x)
      by_cases h : y = x
      · subst h
        simp
      · simp [h]
    rw [e2]
    by_cases h : y = x
    · subst h
      simp
    · have h' : ¬ x = y := fun z => h z.symm
      simp [h, h']
theorem rest_pos : ∀ p ∈ restL, (0 : Int) < p.2.2 := by decide +kernel
theorem flat_strs (l : List Str) : (l.map V.str).all flatV = true := by
  induction l with
  | nil => rfl
  | cons y l ih => simp [List.map_cons, List.all_cons, flatV, ih]
section
variable {P : Program} {w : World} {K : PySem.W.Frag} {mg : Str → Option Value} {base : Heap} {dN dR tB : Addr} {eN eR : Array DictEntry} {nN nR : Nat}
theorem scParts : FnScope ["text", "kind", "_", "told", "number", "between", "pair", "by", "rest"] ["text"] (defScope sParts) := ⟨rfl, rfl, rfl, by decide +kernel, rfl, by decide +kernel, by decide +kernel⟩
theorem ok_parts {f : Addr} {fd : FuncData} (F : Fun K "step_parts" "step_parts" sParts f fd) (T : TxtS K w mg dN dR tB eN eR nN nR) : FnOk P w K mg base CX0 1 f fd ["text"] (spParts K) := by
  refine F.ok scParts (fun vs H Q E h => ?_) (fun cdv A outer s H vs Q E hr h => ?_)
  · obtain ⟨v, rfl, _⟩ := h
    rfl
  · obtain ⟨v, rfl, hv, kn, ks⟩ := h
    have hu := hu_of hr
    have nd := scParts.nd
    refine ⟨_, (pss_cons (ps_if (pt_not (pt_val (pe_callB call_isi (by rfl) T.isi (by decide +kernel) (pa_cons (pv 0) (pa_cons (pe_bltn (v := .ty "str") (by rfl) T.str (by decide +kernel) rfl) pa_nil)))))
        (pss_one (ps_ret pe_non)) pss_nil)
      (pss_cons (ps_if (pt_cmpR op_in_seq (pv 0) (pe_glob (v := .ref tB) (by rfl) T.gB rfl) (by rfl))
        (pss_one (ps_ret (pe_tup (pa_cons (pv 0) (pa_cons pe_non (pa_cons pe_non pa_nil)))))) pss_nil)
      (pss_cons (ps_asg (pe_partition (pv 0) pe_str) (pg_tup rfl (pgs_cons (pg_name (i := 1) nd rfl (Or.inl rfl)) (pgs_cons (pg_name (i := 2) nd rfl (Or.inl rfl)) (pgs_cons (pg_name (i := 3) nd rfl (Or.inl rfl)) pgs_nil)))))
      (pss_cons (ps_if (PW.pt (pw_and (pt_cmpR op_eq (pv 1) pe_str (nomark _)) (pw_and1 (pt_cmpR (op_in_kd T.rest.D) (pv 3) (pe_glob (v := .ref dR) (by rfl) T.rest.g rfl) (by rfl)))))
        (pss_one (ps_ret (pe_tup (pa_cons (pv 1) (pa_cons pe_non (pa_cons (pe_kd T.rest.D (pe_glob (v := .ref dR) (by rfl) T.rest.g rfl) (pv 3) (fun _ _ => rfl)) pa_nil)))))) pss_nil)
      (pss_cons (ps_asg (pe_partition (pv 3) pe_str) (pg_tup rfl (pgs_cons (pg_name (i := 4) nd rfl (Or.inl rfl)) (pgs_cons (pg_name (i := 5) nd rfl (Or.inl rfl)) (pgs_cons (pg_name (i := 6) nd rfl (Or.inl rfl)) pgs_nil)))))
      (pss_cons (ps_if (pt_cmpR (op_notIn_kd T.num.D) (pv 4) (pe_glob (v := .ref dN) (by rfl) T.num.g rfl) (by rfl))
        (pss_one (ps_ret pe_non)) pss_nil)
      (pss_cons (ps_set (i := 7) nd rfl (Or.inl rfl) (pe_kd T.num.D (pe_glob (v := .ref dN) (by rfl) T.num.g rfl) (pv 4) (fun _ _ => rfl)))
      (pss_cons (ps_if (pt_cmpR op_eq (pv 5) pe_str (nomark _))
        (pss_one (ps_ret (pe_ifExp (pt_cmpR op_in_seq (pv 1) (pe_tup (pa_cons pe_str (pa_cons pe_str (pa_cons pe_str pa_nil)))) (by rfl)) (pe_tup (pa_cons (pv 1) (pa_cons (pv 7) (pa_cons pe_non pa_nil)))) pe_non))) pss_nil)
      (pss_cons (ps_if (PW.pt (pw_or (pt_cmpR op_notIn_seq (pv 1) (pe_tup (pa_cons pe_str (pa_cons pe_str pa_nil))) (by rfl)) (pw_or1 (pt_cmpR (op_notIn_kd T.rest.D) (pv 6) (pe_glob (v := .ref dR) (by rfl) T.rest.g rfl) (by rfl)))))
        (pss_one (ps_ret pe_non)) pss_nil)
      (pss_cons (ps_set (i := 8) nd rfl (Or.inl rfl) (pe_kd T.rest.D (pe_glob (v := .ref dR) (by rfl) T.rest.g rfl) (pv 6) (fun _ _ => rfl)))
      (pss_cons (ps_if (PW.pt (pw_and (pt_cmpR op_eq (pv 1) pe_str (nomark _)) (pw_and1 (pt_cmpR op_ne (pe_op op_mod (pv 7) (pe_ix ix_tup (pv 8) pe_int (fun _ _ => rfl))) pe_int (nomark _)))))
        (pss_one (ps_ret pe_non)) pss_nil)
      (pss_one (ps_ret (pe_tup (pa_cons (pv 1) (pa_cons (pv 7) (pa_cons (pv 8) pa_nil))))))))))))))))), ?_⟩
    obtain ⟨t, ty, kt⟩ := hv.isi (K := K)
    refine ⟨_, rfl, v, .ty "str", t, .type "str", isStr v, rfl, .ty _, ty, kt, _, rfl, ?_⟩
    cases hv with
    | str x hx =>
      refine iteF ?_
      replace kn : parse x = none → ∀ H', Same H H' → Q .non H' := kn
      replace ks : ∀ r, parse x = some r → ∀ u H', Same H H' → Dq K H' u (rowD r) → Q u H' := ks
      refine ⟨_, rfl, tB, _, rfl, .inr (T.bare H), rfl, flat_strs _, _, rfl, ?_⟩
      show if inV (.str x) (bareL.map V.str) = true then _ else _
      rw [in_strs]
      by_cases hb : x ∈ bareL
      · rw [decide_eq_true hb]
        refine iteT ?_
        refine ⟨_, rfl, (by show 3 ≤ sizeLine; decide), fun t ht => ?_⟩
        exact ks (x, none, none) (if_pos hb) _ _ (same_upd ht) (.tup (SqT.of upd_same) (.cons (.str _) (.cons .non (.cons .non .nil))))
      rw [decide_eq_false hb]
      refine iteF ?_
      have hpar : parse x = _ := if_neg hb
      rw [hpar] at kn ks
      have hsz : (1000 : Nat) ≤ sizeLine := by decide
      refine ⟨_, rfl, ⟨_, rfl⟩, x, " ", rfl, rfl, (by decide +kernel), Nat.le_trans hx hsz, fun p hp => ?_⟩
      have hl1 : (Txt.partition x " ").2.2.length ≤ 1000 := by
        have e := congrArg Str.length (part_cases x " ").2
        rw [Str.length_append, Str.length_append] at e
        omega
      generalize Txt.partition x " " = q at *
      obtain ⟨kind, sep, told⟩ := q
      dsimp only at kn ks hl1
      refine ⟨p, _, rfl, SqT.of upd_same, rfl, _, _, rfl, _, _, rfl, _, _, rfl, rfl, ?_⟩
      have s1 : Same H (upd H p (.tup [.str kind, .str sep, .str told])) := same_upd hp
      generalize upd H p (.tup [.str kind, .str sep, .str told]) = H1 at *
      -- the way on behind the flips
      have goon : ∀ (D : Ends) (σ : Aw.St) (G : Prop), G → G := fun _ _ _ h => h
      have num : (¬ (kind = "flip" ∧ (restL.lookup told).isSome = true)) → _ := fun hf => by
        rw [if_neg hf] at kn ks
        exact (⟨kn, ks⟩ : _ ∧ _)
      refine ⟨_, rfl, rfl, _, rfl, ?_⟩
      refine ite_str (fun hk => ?_) (fun hk => ?_)
      · change kind = "flip" at hk
        cases hl : restL.lookup told with
        | some pr =>
          obtain ⟨t', e', sq⟩ := T.rest.yes told pr hl
          refine ⟨_, rfl, told, _, rfl, rfl, e', _, rfl, ?_⟩
          refine iteT ?_
          refine ⟨_, rfl, _, rfl, told, _, .ref t', rfl, rfl, e', rfl, (by show 3 ≤ sizeLine; decide), fun u hu' => ?_⟩
          have hf : kind = "flip" ∧ (restL.lookup told).isSome = true := ⟨hk, by rw [hl]; rfl⟩
          rw [if_pos hf] at ks
          rw [hl] at ks
          rw [hk]
          exact ks ("flip", none, some pr) rfl _ _ (s1.trans (same_upd hu')) (.tup (SqT.of upd_same) (.cons (.str _) (.cons .non (.cons (.tup (sq _) (.cons (.int _) (.cons (.int _) .nil))) .nil))))
        | none =>
          refine ⟨_, rfl, told, _, rfl, rfl, T.rest.no told hl, _, rfl, ?_⟩
          refine iteF ?_
          obtain ⟨kn, ks⟩ := num (fun z => by rw [hl] at z; exact absurd z.2 (by decide))
          refine ⟨_, rfl, ⟨_, rfl⟩, told, " at ", rfl, rfl, (by decide +kernel), Nat.le_trans hl1 hsz, fun p2 hp2 => ?_⟩
          generalize Txt.partition told " at " = q2 at *
          obtain ⟨number, between, pair⟩ := q2
          dsimp only at kn ks
          refine ⟨p2, _, rfl, SqT.of upd_same, rfl, _, _, rfl, _, _, rfl, _, _, rfl, rfl, ?_⟩
          have s2 : Same H (upd H1 p2 (.tup [.str number, .str between, .str pair])) := s1.trans (same_upd hp2)
          generalize upd H1 p2 (.tup [.str number, .str between, .str pair]) = H2 at *
          cases hn : numL.lookup number with
          | none =>
            refine ⟨_, rfl, number, _, rfl, rfl, T.num.no number hn, _, rfl, ?_⟩
            refine iteT ?_
            rw [hn] at kn
            exact kn rfl _ s2
          | some b =>
          obtain ⟨u0, eu, ru⟩ := T.num.yes number b hn
          rw [hn] at kn ks
          dsimp only at kn ks
          refine ⟨_, rfl, number, _, rfl, rfl, eu, _, rfl, ?_⟩
          refine iteF ?_
          refine ⟨_, rfl, number, u0, .int b, rfl, rfl, eu, ru, ?_⟩
          unfold parseB at kn ks
          refine ⟨_, rfl, rfl, _, rfl, ?_⟩
          refine ite_str (fun hbt => ?_) (fun hbt => ?_)
          · change between = "" at hbt
            rw [if_pos hbt] at kn ks
            refine ⟨_, rfl, (by show 3 ≤ sizeLine; decide), fun t1 ht1 => ⟨t1, _, rfl, .inr (SqT.of upd_same), rfl, (by decide +kernel), _, rfl, ?_⟩⟩
            show if inV (.str kind) ((["roll", "near", "sum"] : List Str).map V.str) = true then _ else _
            rw [in_strs]
            have s3 := s2.trans (same_upd (o := .tup [.str "roll", .str "near", .str "sum"]) ht1)
            refine ite_dec (fun hin => ?_) (fun hin => ?_)
            · rw [if_pos hin] at ks
              refine ⟨_, rfl, _, rfl, (by show 3 ≤ sizeLine; decide), fun t2 ht2 => ?_⟩
              exact ks _ rfl _ _ (s3.trans (same_upd ht2)) (.tup (SqT.of upd_same) (.cons (.str _) (.cons (.int _) (.cons .non .nil))))
            · rw [if_neg hin] at kn
              exact kn rfl _ s3
          · change ¬ between = "" at hbt
            rw [if_neg hbt] at kn ks
            refine ⟨_, rfl, (by show 2 ≤ sizeLine; decide), fun t1 ht1 => ⟨t1, _, rfl, .inr (SqT.of upd_same), rfl, (by decide +kernel), _, rfl, ?_⟩⟩
            show if (!inV (.str kind) ((["near", "sum"] : List Str).map V.str)) = true then _ else _
            rw [in_strs]
            have s3 := s2.trans (same_upd (o := .tup [.str "near", .str "sum"]) ht1)
            generalize upd H2 t1 (.tup [.str "near", .str "sum"]) = H3 at *
            refine ite_ndec (fun hin => ?_) (fun hin => ?_)
            · rw [if_neg hin] at kn
              refine iteT ?_
              exact kn rfl _ s3
            · rw [if_pos hin] at kn ks
              cases hl2 : restL.lookup pair with
              | none =>
                refine ⟨_, rfl, pair, _, rfl, rfl, T.rest.no pair hl2, _, rfl, ?_⟩
                refine iteT ?_
                rw [hl2] at kn
                exact kn rfl _ s3
              | some pr =>
                rw [hl2] at kn ks
                dsimp only at kn ks
                obtain ⟨t', e', sq⟩ := T.rest.yes pair pr hl2
                refine ⟨_, rfl, pair, _, rfl, rfl, e', _, rfl, ?_⟩
                refine iteF ?_
                refine ⟨_, rfl, pair, _, .ref t', rfl, rfl, e', rfl, ?_⟩
                have h0 : (0 : Int) < pr.2 := rest_pos _ (look_mem hl2)
                refine ⟨_, rfl, rfl, _, rfl, ?_⟩
                refine ite_str (fun hs => ?_) (fun hs => ?_)
                · change kind = "sum" at hs
                  refine ⟨_, rfl, _, rfl, t', _, 1, .int pr.2, rfl, rfl, sq _, rfl, b, pr.2, rfl, rfl, h0, rfl, _, rfl, ?_⟩
                  by_cases hz : b % pr.2 = 0
                  · rw [if_neg (fun z => z.2 hz)] at ks
                    rw [show (!decide (V.int (b % pr.2) = V.int 0)) = false by rw [hz]; simp]
                    refine iteF ?_
                    refine ⟨_, rfl, _, rfl, _, rfl, (by show 3 ≤ sizeLine; decide), fun t2 ht2 => ?_⟩
                    exact ks _ rfl _ _ (s3.trans (same_upd ht2)) (.tup (SqT.of upd_same) (.cons (.str _) (.cons (.int _) (.cons (.tup (sq _) (.cons (.int _) (.cons (.int _) .nil))) .nil))))
                  · rw [if_pos ⟨hs, hz⟩] at kn
                    rw [show (!decide (V.int (b % pr.2) = V.int 0)) = true by rw [decide_eq_false (fun z => hz (V.int.inj z))]; rfl]
                    refine iteT ?_
                    exact kn rfl _ s3
                · change kind ≠ "sum" at hs
                  rw [if_neg (fun z => hs z.1)] at ks
                  refine iteF ?_
                  refine ⟨_, rfl, _, rfl, _, rfl, (by show 3 ≤ sizeLine; decide), fun t2 ht2 => ?_⟩
                  exact ks _ rfl _ _ (s3.trans (same_upd ht2)) (.tup (SqT.of upd_same) (.cons (.str _) (.cons (.int _) (.cons (.tup (sq _) (.cons (.int _) (.cons (.int _) .nil))) .nil))))
      · change kind ≠ "flip" at hk
        refine iteF ?_
        obtain ⟨kn, ks⟩ := num (fun z => hk z.1)
        refine ⟨_, rfl, ⟨_, rfl⟩, told, " at ", rfl, rfl, (by decide +kernel), Nat.le_trans hl1 hsz, fun p2 hp2 => ?_⟩
        generalize Txt.partition told " at " = q2 at *
        obtain ⟨number, between, pair⟩ := q2
        dsimp only at kn ks
        refine ⟨p2, _, rfl, SqT.of upd_same, rfl, _, _, rfl, _, _, rfl, _, _, rfl, rfl, ?_⟩
        have s2 : Same H (upd H1 p2 (.tup [.str number, .str between, .str pair])) := s1.trans (same_upd hp2)
        generalize upd H1 p2 (.tup [.str number, .str between, .str pair]) = H2 at *
        cases hn : numL.lookup number with
        | none =>
          refine ⟨_, rfl, number, _, rfl, rfl, T.num.no number hn, _, rfl, ?_⟩
          refine iteT ?_
          rw [hn] at kn
          exact kn rfl _ s2
        | some b =>
        obtain ⟨u0, eu, ru⟩ := T.num.yes number b hn
        rw [hn] at kn ks
        dsimp only at kn ks
        refine ⟨_, rfl, number, _, rfl, rfl, eu, _, rfl, ?_⟩
        refine iteF ?_
        refine ⟨_, rfl, number, u0, .int b, rfl, rfl, eu, ru, ?_⟩
        unfold parseB at kn ks
        refine ⟨_, rfl, rfl, _, rfl, ?_⟩
        refine ite_str (fun hbt => ?_) (fun hbt => ?_)
        · change between = "" at hbt
          rw [if_pos hbt] at kn ks
          refine ⟨_, rfl, (by show 3 ≤ sizeLine; decide), fun t1 ht1 => ⟨t1, _, rfl, .inr (SqT.of upd_same), rfl, (by decide +kernel), _, rfl, ?_⟩⟩
          show if inV (.str kind) ((["roll", "near", "sum"] : List Str).map V.str) = true then _ else _
          rw [in_strs]
          have s3 := s2.trans (same_upd (o := .tup [.str "roll", .str "near", .str "sum"]) ht1)
          refine ite_dec (fun hin => ?_) (fun hin => ?_)
          · rw [if_pos hin] at ks
            refine ⟨_, rfl, _, rfl, (by show 3 ≤ sizeLine; decide), fun t2 ht2 => ?_⟩
            exact ks _ rfl _ _ (s3.trans (same_upd ht2)) (.tup (SqT.of upd_same) (.cons (.str _) (.cons (.int _) (.cons .non .nil))))
          · rw [if_neg hin] at kn
            exact kn rfl _ s3
        · change ¬ between = "" at hbt
          rw [if_neg hbt] at kn ks
          refine ⟨_, rfl, (by show 2 ≤ sizeLine; decide), fun t1 ht1 => ⟨t1, _, rfl, .inr (SqT.of upd_same), rfl, (by decide +kernel), _, rfl, ?_⟩⟩
          show if (!inV (.str kind) ((["near", "sum"] : List Str).map V.str)) = true then _ else _
          rw [in_strs]
          have s3 := s2.trans (same_upd (o := .tup [.str "near", .str "sum"]) ht1)
          generalize upd H2 t1 (.tup [.str "near", .str "sum"]) = H3 at *
          refine ite_ndec (fun hin => ?_) (fun hin => ?_)
          · rw [if_neg hin] at kn
            refine iteT ?_
            exact kn rfl _ s3
          · rw [if_pos hin] at kn ks
            cases hl2 : restL.lookup pair with
            | none =>
              refine ⟨_, rfl, pair, _, rfl, rfl, T.rest.no pair hl2, _, rfl, ?_⟩
              refine iteT ?_
              rw [hl2] at kn
              exact kn rfl _ s3
            | some pr =>
              rw [hl2] at kn ks
              dsimp only at kn ks
              obtain ⟨t', e', sq⟩ := T.rest.yes pair pr hl2
              refine ⟨_, rfl, pair, _, rfl, rfl, e', _, rfl, ?_⟩
              refine iteF ?_
              refine ⟨_, rfl, pair, _, .ref t', rfl, rfl, e', rfl, ?_⟩
              have h0 : (0 : Int) < pr.2 := rest_pos _ (look_mem hl2)
              refine ⟨_, rfl, rfl, _, rfl, ?_⟩
              refine ite_str (fun hs => ?_) (fun hs => ?_)
              · change kind = "sum" at hs
                refine ⟨_, rfl, _, rfl, t', _, 1, .int pr.2, rfl, rfl, sq _, rfl, b, pr.2, rfl, rfl, h0, rfl, _, rfl, ?_⟩
                by_cases hz : b % pr.2 = 0
                · rw [if_neg (fun z => z.2 hz)] at ks
                  rw [show (!decide (V.int (b % pr.2) = V.int 0)) = false by rw [hz]; simp]
                  refine iteF ?_
                  refine ⟨_, rfl, _, rfl, _, rfl, (by show 3 ≤ sizeLine; decide), fun t2 ht2 => ?_⟩
                  exact ks _ rfl _ _ (s3.trans (same_upd ht2)) (.tup (SqT.of upd_same) (.cons (.str _) (.cons (.int _) (.cons (.tup (sq _) (.cons (.int _) (.cons (.int _) .nil))) .nil))))
                · rw [if_pos ⟨hs, hz⟩] at kn
                  rw [show (!decide (V.int (b % pr.2) = V.int 0)) = true by rw [decide_eq_false (fun z => hz (V.int.inj z))]; rfl]
                  refine iteT ?_
                  exact kn rfl _ s3
              · change kind ≠ "sum" at hs
                rw [if_neg (fun z => hs z.1)] at ks
                refine iteF ?_
                refine ⟨_, rfl, _, rfl, _, rfl, (by show 3 ≤ sizeLine; decide), fun t2 ht2 => ?_⟩
                exact ks _ rfl _ _ (s3.trans (same_upd ht2)) (.tup (SqT.of upd_same) (.cons (.str _) (.cons (.int _) (.cons (.tup (sq _) (.cons (.int _) (.cons (.int _) .nil))) .nil))))
    | _ => exact iteT (kn rfl H (Same.refl H))
end
end Aw

namespace Aw
open PySem PySem.Spec PyProof.Rows L2 NdefX
/-- the attributes of a Step -/
def stepF (x : Str) (k : Str) (b r : V) : List (Str × V) := [("text", .str x), ("kind", .str k), ("by", b), ("rest", r)]
theorem put1 {v : V} : putF "text" v [] = ([("text", v)] : List (Str × V)) := rfl
theorem ne_tk : ¬ (("text" : Str) = "kind") := by decide +kernel
theorem ne_tb : ¬ (("text" : Str) = "by") := by decide +kernel
theorem ne_tr : ¬ (("text" : Str) = "rest") := by decide +kernel
theorem ne_kb : ¬ (("kind" : Str) = "by") := by decide +kernel
theorem ne_kr : ¬ (("kind" : Str) = "rest") := by decide +kernel
theorem ne_br : ¬ (("by" : Str) = "rest") := by decide +kernel
theorem put2 {a v : V} : putF "kind" v ([("text", a)] : List (Str × V)) = ([("text", a), ("kind", v)] : List (Str × V)) := by
  show (if ("text" : Str) = "kind" then _ else (("text" : Str), a) :: putF "kind" v []) = _
  rw [if_neg ne_tk]
  rfl
theorem put3 {a b v : V} : putF "by" v ([("text", a), ("kind", b)] : List (Str × V)) = ([("text", a), ("kind", b), ("by", v)] : List (Str × V)) := by
  show (if ("text" : Str) = "by" then _ else (("text" : Str), a) :: (if ("kind" : Str) = "by" then _ else (("kind" : Str), b) :: putF "by" v [])) = _
  rw [if_neg ne_tb, if_neg ne_kb]
  rfl
theorem put4 {a b c v : V} : putF "rest" v ([("text", a), ("kind", b), ("by", c)] : List (Str × V)) = ([("text", a), ("kind", b), ("by", c), ("rest", v)] : List (Str × V)) := by
  show (if ("text" : Str) = "rest" then _ else (("text" : Str), a) :: (if ("kind" : Str) = "rest" then _ else (("kind" : Str), b) :: (if ("by" : Str) = "rest" then _ else (("by" : Str), c) :: putF "rest" v []))) = _
  rw [if_neg ne_tr, if_neg ne_kr, if_neg ne_br]
  rfl
theorem lkk {α : Type} {k m : Str} {v : α} {l : List (Str × α)} (h : ¬ m = k) : ((k, v) :: l).lookup m = l.lookup m := by
  have e : (m == k) = false := by simpa using h
  simp [List.lookup, e]
theorem lk1 {α : Type} {k : Str} {v : α} {l : List (Str × α)} : ((k, v) :: l).lookup k = some v := by simp [List.lookup]
theorem gText {x k : Str} {b r : V} : (stepF x k b r).lookup ("text" : Str) = some (.str x) := lk1
theorem gKind {x k : Str} {b r : V} : (stepF x k b r).lookup ("kind" : Str) = some (.str k) := (lkk (fun z => ne_tk z.symm)).trans lk1
theorem gBy {x k : Str} {b r : V} : (stepF x k b r).lookup ("by" : Str) = some b := (lkk (fun z => ne_tb z.symm)).trans ((lkk (fun z => ne_kb z.symm)).trans lk1)
theorem gRest {x k : Str} {b r : V} : (stepF x k b r).lookup ("rest" : Str) = some r := (lkk (fun z => ne_tr z.symm)).trans ((lkk (fun z => ne_kr z.symm)).trans ((lkk (fun z => ne_br z.symm)).trans lk1))
theorem gNo {x k m : Str} {b r : V} (h1 : ¬ m = "text") (h2 : ¬ m = "kind") (h3 : ¬ m = "by") (h4 : ¬ m = "rest") : (stepF x k b r).lookup m = none :=
  (lkk h1).trans ((lkk h2).trans ((lkk h3).trans ((lkk h4).trans rfl)))
/-- a Step with the text x stands at a -/
structure StepAt (K : PySem.W.Frag) (C : Addr) (H : Hp) (a : Addr) (x : Str) (r : Row) : Prop where
  ex : ∃ dx b t, H a = some (.ins C dx (stepF x r.1 b t)) ∧ Dq K H b (optD r.2.1) ∧ Dq K H t (restD r.2.2)
  pr : parse x = some r
theorem StepAt.same {K : PySem.W.Frag} {C : Addr} {H H' : Hp} {a : Addr} {x : Str} {r : Row} (S : StepAt K C H a x r) (s : Same H H') : StepAt K C H' a x r := by
  obtain ⟨dx, b, t, h, h1, h2⟩ := S.ex
  exact ⟨⟨dx, b, t, s _ _ h, h1.keep (TK.same s), h2.keep (TK.same s)⟩, S.pr⟩
/-- Step.__init__ -/
def spInit (K : PySem.W.Frag) (C CB : Addr) : Sp := fun vs H Q E => ∃ (a dx : Addr) (v : V), vs = [.ref a, v] ∧ H a = some (.ins C dx []) ∧ VOk H v ∧
  (parseV v = none → ∀ d H', Same H H' → H d = none → H' d = some (.xd [("text", v)]) → E (.ref CB) (some d) H') ∧
  (∀ x r, v = .str x → parse x = some r → ∀ H', (∀ b o, H b = some o → b ≠ a → H' b = some o) → StepAt K C H' a x r → Q .non H')
/-- what the class says -/
structure TxtO (P : Program) (K : PySem.W.Frag) (mg : Str → Option Value) (C CB fP fI : Addr) : Prop where
  parts : mg "step_parts" = some (.ref fP)
  bt : Err P K mg "BadText" "text" "text" CB
  cl : Cls K C
  nT : NoAttr K C "text"
  nK : NoAttr K C "kind"
  nB : NoAttr K C "by"
  nR : NoAttr K C "rest"
  g : mg "Step" = some (.ref C)
  mkr : Mk K C fI
section
variable {P : Program} {w : World} {K : PySem.W.Frag} {mg : Str → Option Value} {base : Heap} {dN dR tB : Addr} {eN eR : Array DictEntry} {nN nR : Nat} {C CB fP fI : Addr}
theorem scInit : FnScope ["self", "text", "parts", "kind", "by", "rest"] ["self", "text"] (defScope sInit) := ⟨rfl, rfl, rfl, by decide +kernel, rfl, by decide +kernel, by decide +kernel⟩
theorem ok_init {f : Addr} {fd gd : FuncData} (F : Fun K "__init__" "Step.__init__" sInit f fd) (O : TxtO P K mg C CB fP fI) (T : TxtS K w mg dN dR tB eN eR nN nR) (G : Fun K "step_parts" "step_parts" sParts fP gd) (bG : Binds K gd ["text"] []) : FnOk P w K mg base (L2.CX P w) 3 f fd ["self", "text"] (spInit K C CB) := by
  have GP : FnOk P w K mg base CX0 1 fP gd ["text"] (spParts K) := ok_parts G T
  refine F.okX scInit (fun vs H Q E h => ?_) (fun cdv A outer s H vs Q E hr h => ?_)
  · obtain ⟨a, dx, v, rfl, _⟩ := h
    rfl
  · obtain ⟨a, dx, v, rfl, ha, hv, kE, kQ⟩ := h
    have nd := scInit.nd
    refine ⟨_, (pss_cons (ps_set (i := 2) nd rfl (Or.inl rfl) (pe_call GP (hr.mono (by decide)) (by rfl) O.parts G.kp bG .nil pass0 (pa_cons (pv 1) pa_nil)))
      (pss_cons (ps_if (pt_cmpR op_isN (pv 2) pe_non (nomark _))
        (pss_one (ps_raise rfl (takes_of rfl rfl rfl rfl) (pmk_err O.bt hr (by rfl) (pa_cons (pv 1) pa_nil)))) pss_nil)
      (pss_cons (ps_asg (pv 2) (pg_tup rfl (pgs_cons (pg_name (i := 3) nd rfl (Or.inl rfl)) (pgs_cons (pg_name (i := 4) nd rfl (Or.inl rfl)) (pgs_cons (pg_name (i := 5) nd rfl (Or.inl rfl)) pgs_nil)))))
      (pss_cons (ps_fld (pv 0) (pv 1) rfl)
      (pss_cons (ps_fld (pv 0) (pv 3) rfl)
      (pss_cons (ps_fld (pv 0) (pv 4) rfl)
      (pss_one (ps_fld (pv 0) (pv 5) rfl)))))))), ?_⟩
    refine ⟨_, rfl, v, rfl, hv, fun hn H1 s1 => ?_, fun r hp u H1 s1 du => ?_⟩
    · refine ⟨_, rfl, rfl, _, rfl, ?_⟩
      refine iteT ?_
      refine ⟨v, rfl, mkS_ans fun d hd => ?_⟩
      exact kE hn d _ (s1.trans (same_upd hd)) (s1.free hd) upd_same
    · obtain ⟨t, xs, rfl, st, dxs⟩ := du.of_tuple
      refine ⟨_, rfl, rfl, _, rfl, ?_⟩
      refine iteF ?_
      obtain ⟨k, b, rr⟩ := r
      cases dxs with
      | cons d1 dxs => cases dxs with
        | cons d2 dxs => cases dxs with
          | cons d3 dxs =>
            cases dxs
            obtain rfl := d1.of_str
            rename_i v2 v3
            obtain ⟨x, rfl⟩ : ∃ x, v = .str x := by
              cases v with
              | str x => exact ⟨x, rfl⟩
              | _ => cases hp
            have ha1 : H1 a = some (.ins C dx []) := s1 _ _ ha
            refine ⟨_, rfl, t, _, rfl, st, rfl, _, _, rfl, _, _, rfl, _, _, rfl, rfl, ?_⟩
            refine ⟨_, rfl, _, rfl, a, C, dx, [], rfl, ha1, O.cl, O.nT, (by show 0 < 1000; decide), ?_⟩
            refine ⟨_, rfl, _, rfl, a, C, dx, _, rfl, upd_same, O.cl, O.nK, (by show 1 < 1000; decide), ?_⟩
            refine ⟨_, rfl, _, rfl, a, C, dx, _, rfl, upd_same, O.cl, O.nB, (by rw [put1, put2]; show 2 < 1000; decide), ?_⟩
            refine ⟨_, rfl, _, rfl, a, C, dx, _, rfl, upd_same, O.cl, O.nR, (by rw [put1, put2, put3]; show 3 < 1000; decide), ?_⟩
            rw [upd_upd, upd_upd, upd_upd, put1, put2, put3, put4]
            have tk : TK H1 (upd H1 a (.ins C dx (stepF x k v2 v3))) := ⟨fun c ys e => by rw [upd_ne (ne_of e ha1 (fun z => by cases z))]; exact e, fun c o ys e => by rw [upd_ne (ne_of e ha1 (fun z => by cases z))]; exact e⟩
            exact kQ x (k, b, rr) rfl hp _ (fun c o e hc => by rw [upd_ne hc]; exact s1 _ _ e) ⟨⟨dx, v2, v3, upd_same, d2.keep tk, d3.keep tk⟩, hp⟩
end
end Aw

namespace Aw
open PySem PySem.Spec PyProof.Rows L2 NdefX
/-! ### a == b, a != b where a's class has its own __eq__ (and no __ne__) -/
theorem neSlot : Slot "object" "__ne__" "object.__ne__" := .of (owner := "object") (n := "__ne__") (by rw [typeLookup_type, builtinLookup_eq_fast]; kernel_rfl) (by decide +kernel) (by decide +kernel) (by decide +kernel)
    (by first | exact .inl (by decide +kernel) | exact .inr (by decide +kernel)) (by rw [isSubtype_type]; kernel_rfl)
section
variable {prog : Program} {w : World} {A : Around} {E : Value → Shared → Prop} {s : Shared} {K : PySem.W.Frag} {x C : Addr} {ox : Obj} {od : Option Obj} {name : Str} {b tb : Value} {id : String}
theorem ifBound_b {M : Model} {args : List Value} {Q : Option Value → Shared → Prop} (X : K.In s.heap) (I : PySem.W.InstAt s.heap x ox C od) (hs : PySem.W.findIn K (.ref C) name = some (some (.builtin id))) (hb : bindSpecial (.builtin id) (.ref x) = pure (.builtin id, [.ref x]))
    (h : wpAny M A (call (.builtin id) (.ref x :: args)) (fun v => Q (some v)) E s) : wpAny M A (callSpecialIfBound? (.ref x) name args) Q E s := by
  simp only [callSpecialIfBound?, bindSpecialIfBound?]
  refine wpAny_holding (wpAny_bind (wpAny_bind (wpAny_bind (I.type.here ((PySem.W.looks_findIn X hs).here ?_)))))
  refine wpAny_bind (wpAny_askSetting (wpAny_ite ?_))
  have fin : wpAny M A (call (.builtin id) ([.ref x] ++ args) >>= fun v => pure (some v)) Q E s := wpAny_bind (wpAny_mono h (fun v s' h' => wpAny_pure h') fun _ _ h' => h')
  split
  · exact wpAny_bind (wpAny_of_eq hb (wpAny_pure (by exact fin)))
  · exact wpAny_tryCatch (wpAny_bind (wpAny_of_eq hb (wpAny_pure (by exact fin))))
theorem cmp_b {op : CmpOp} {Q : Value → Shared → Prop} (hu : A.units < cLine) (X : K.In s.heap) (I : PySem.W.InstAt s.heap x ox C od) (hb : PySem.W.Looks (model prog w) s.heap (typeOf b) tb) (hn : PySem.W.notFirst K C tb = true)
    (hs : PySem.W.findIn K (.ref C) (cmpInfo op).2.1 = some (some (.builtin id))) (hbd : bindSpecial (.builtin id) (.ref x) = pure (.builtin id, [.ref x]))
    (h : wpAny (model prog w) A (call (.builtin id) [.ref x, b]) (PySem.W.CmpBack Q) E s) : wpAny (model prog w) A (richCompare op (.ref x) b) Q E s := by
  have one : wpAny (model prog w) A (tryCompare (.ref x) (cmpInfo op).2.1 b) (fun r s' => ∃ v, r = some v ∧ Q v s') E s := by
    unfold tryCompare
    refine wpAny_bind (ifBound_b X I hs hbd (wpAny_mono h (fun v s' hv => ?_) fun _ _ e => e))
    cases v <;> first | exact hv.elim | exact wpAny_pure ⟨_, rfl, hv⟩
  unfold richCompare
  simp only [oneThing_ref]
  refine wpAny_holding (wpAny_bind (wpAny_cRoomFor hu ?_))
  refine wpAny_bind (I.type.here (wpAny_bind (hb.here ?_)))
  split
  · rename_i q
    have e : PySem.W.subIn K tb (.ref C) = some false := by
      rcases Bool.or_eq_true_iff.mp hn with e | e
      · rw [beq_iff_eq.mp e] at q; simp at q
      · exact beq_iff_eq.mp e
    refine wpAny_bind ((PySem.W.looks_subIn X e).here ?_)
    simp only [Bool.false_eq_true, if_false]
    refine wpAny_bind (wpAny_mono one (fun r s' z => ?_) fun _ _ e => e)
    obtain ⟨v, rfl, hq⟩ := z
    exact wpAny_pure hq
  · refine wpAny_bind (wpAny_pure ?_)
    simp only [Bool.false_eq_true, if_false]
    refine wpAny_bind (wpAny_mono one (fun r s' z => ?_) fun _ _ e => e)
    obtain ⟨v, rfl, hq⟩ := z
    exact wpAny_pure hq
/-- object.__ne__ over the own __eq__ at f -/
theorem ne_own {f : Addr} {Q : Value → Shared → Prop} (hu : A.units + 1 < cLine) (X : K.In s.heap) (I : PySem.W.InstAt s.heap x ox C od) (ho : PySem.W.mroIn K C (.type "object") = some true)
    (hs : PySem.W.findIn K (.ref C) "__eq__" = some (some (.ref f))) (hf : PySem.W.isFn K (.ref f) = true)
    (h : wpAny (model prog w) A.in1 (call (.ref f) [.ref x, b]) (fun v s' => ∃ r, v = .bool r ∧ Q (.bool (!r)) s') E s) : wpAny (model prog w) A (call (.builtin "object.__ne__") [.ref x, b]) Q E s := by
  have sub : PySem.W.Looks (model prog w) s.heap (isInstance (.ref x) (.type "object")) true := I.type.andThen (PySem.W.looks_mroIn X ho)
  obtain ⟨hp, g, d, t, os⟩ := s
  refine wpAny_call (codeAny_call_builtin neSlot.plain F.cmpEntry_ne ?_)
  refine @PySem.W.check_slot (model prog w) _ _ ⟨hp, g, d, t, os⟩ "object.__ne__" "object" "__ne__" (.ref x) [b] [] _ F.cmpKind_ne F.cmpSplit_ne sub (F.cmpArgs_ne _ _) ?_
  unfold Builtin.«object.__ne__»
  refine wpAny_bind (wpAny_of_eq (a := ((Value.ref x : Value), [b])) (by first | rfl | (simp only [Builtin.slotArgs]; rfl)) ?_)
  refine wpAny_bind (wpAny_cRoomFor hu ?_)
  refine wpAny_bind (PySem.W.ifBound_K X I hs hf (wpAny_mono h (fun v s' hv => ?_) fun _ _ e => e))
  obtain ⟨r, rfl, q⟩ := hv
  refine wpAny_bind (wpAny_truthy_bool ?_)
  exact wpAny_pure q
end
end Aw
namespace Aw
open PySem PySem.Spec PyProof.Rows L2 NdefX
/-- what the class says of ==, != -/
structure EqTxt (K : PySem.W.Frag) (C f : Addr) : Prop where
  eq : PySem.W.findIn K (.ref C) "__eq__" = some (some (.ref f))
  fn : PySem.W.isFn K (.ref f) = true
  ne : PySem.W.findIn K (.ref C) "__ne__" = some (some (.builtin "object.__ne__"))
  ob : PySem.W.mroIn K C (.type "object") = some true
section
variable {X : Cx} {C f : Addr} {fd : FuncData} {ps : List Str} {sp : Sp} {k : Nat}
/-- the type of the other side, told -/
def OthV (K : PySem.W.Frag) (C : Addr) (y : V) (H : Hp) : Prop := (∃ b dx fs, y = .ref b ∧ H b = some (.ins C dx fs)) ∨ (∃ t, y = .str t) ∨ y = .non
theorem oth_type {pins : List (Addr × Obj)} {σ : Aw.St} {H : Hp} {s : Shared} {y : V} {u : Value} (I : Inv X pins σ H s) (r : RelV y u) (o : OthV X.K C y H) (hS : PySem.W.notFirst X.K C (.type "str") = true) (hN : PySem.W.notFirst X.K C (.type "NoneType") = true) :
    ∃ tb, PySem.W.Looks (model X.prog X.w) s.heap (typeOf u) tb ∧ PySem.W.notFirst X.K C tb = true := by
  rcases o with ⟨b, dx, fs, rfl, hb⟩ | ⟨t, rfl⟩ | rfl
  · cases (show u = Value.ref b from r)
    obtain ⟨mB, J', _⟩ := ins_get I.hok hb
    obtain ⟨od', J', _⟩ := J'.look
    exact ⟨_, J'.type, by simp [PySem.W.notFirst]⟩
  · obtain ⟨tk, rfl⟩ := (show ∃ tk, u = Value.str t tk from r)
    exact ⟨.type "str", .of_pure rfl, hS⟩
  · cases (show u = Value.none from r)
    exact ⟨.type "NoneType", .of_pure rfl, hN⟩
def rOwn (K : PySem.W.Frag) (C : Addr) (sp : Sp) (neg : Bool) : R2 := fun x y H Q => ∃ a dx fs, x = .ref a ∧ H a = some (.ins C dx fs) ∧ OthV K C y H ∧ sp [x, y] H (fun v H' => ∃ r, v = .bl r ∧ Q (.bl (if neg then !r else r)) H') E0
theorem op_eqOwn (T : EqTxt X.K C f) (hS : PySem.W.notFirst X.K C (.type "str") = true) (hN : PySem.W.notFirst X.K C (.type "NoneType") = true) (F : FnOk X.prog X.w X.K X.mg X.base CX0 k f fd ps sp) (hr : Room k X.A) (hb : Binds X.K fd ps []) : OpR X (compareOp .Eq) (rOwn X.K C sp false) := by
  intro pins s σ H x y v u Q I rx ry h
  obtain ⟨a, dx, fs, rfl, ha, oy, hsp⟩ := h
  cases rx
  obtain ⟨mA, J, _⟩ := ins_get I.hok ha
  obtain ⟨od, J, _⟩ := J.look
  obtain ⟨m, hF⟩ := I.fr
  obtain ⟨tb, lt, nf⟩ := oth_type I ry oy hS hN
  show wpAny (model X.prog X.w) X.A (richCompare .Eq (.ref a) u) _ _ s
  refine PySem.W.cmp_K (op := .Eq) hr.units0 hF I.ok.mod.kin J lt nf T.eq T.fn ?_
  refine wpAny_mono (run_fn (us := [.ref a, u]) (vs := [.ref a, y]) (ds := []) (dvs := []) F hr hb .nil pass0 I (.cons rfl (.cons ry .nil)) hsp) (fun r s' hq => ?_) fun _ _ z => z
  obtain ⟨z, H', I', rz, b, ez, q⟩ := hq
  subst ez
  cases (show r = Value.bool b from rz)
  exact ⟨.bl b, H', I', rfl, q⟩
theorem op_neOwn (T : EqTxt X.K C f) (hS : PySem.W.notFirst X.K C (.type "str") = true) (hN : PySem.W.notFirst X.K C (.type "NoneType") = true) (F : FnOk X.prog X.w X.K X.mg X.base CX0 k f fd ps sp) (hr : Room (k + 1) X.A) (hb : Binds X.K fd ps []) : OpR X (compareOp .NotEq) (rOwn X.K C sp true) := by
  intro pins s σ H x y v u Q I rx ry h
  obtain ⟨a, dx, fs, rfl, ha, oy, hsp⟩ := h
  cases rx
  obtain ⟨mA, J, _⟩ := ins_get I.hok ha
  obtain ⟨od, J, _⟩ := J.look
  obtain ⟨tb, lt, nf⟩ := oth_type I ry oy hS hN
  show wpAny (model X.prog X.w) X.A (richCompare .NotEq (.ref a) u) _ _ s
  have hu := hr.units
  refine cmp_b (op := .NotEq) hr.units0 I.kIn J lt nf T.ne (neSlot.bind _) (ne_own (by omega) I.kIn J T.ob T.eq T.fn ?_)
  have hl : [Value.ref a, u].length = ps.length := by
    have e := F.len _ _ _ _ hsp
    rw [← e]
    rfl
  have bb := hb s [.ref a, u] I.kIn (by rw [List.append_nil]; exact hl)
  rw [List.append_nil] at bb
  have r2 : Vals [V.ref a, y] [Value.ref a, u] := .cons rfl (.cons ry .nil)
  refine wpAny_call (codeAny_mono (F.run X.A.in1 X.stack s H ⟨[.ref a, u], []⟩ [.ref a, u] [.ref a, y] _ E0 (Room.in1 hr) I.env0.in1 bb r2 hsp) fun r s' hq => ?_)
  cases r with
  | error e => exact False.elim hq
  | ok fl =>
    cases fl with
    | ret w =>
      obtain ⟨z, H', I', rz, b, ez, q⟩ := I.after hq
      subst ez
      cases (show w = Value.bool b from rz)
      exact ⟨b, rfl, .bl (!b), H', I', rfl, q⟩
    | next => exact False.elim hq
    | brk => exact False.elim hq
    | cont => exact False.elim hq
end
end Aw

namespace Aw
open PySem PySem.Spec PyProof.Rows L2 NdefX
/-- what str tells of a number -/
def strI (i : Int) : Str := toString i
def textK (k : Str) (b : Option Int) : Str := match b with
  | none => k
  | some i => k ++ " " ++ strI i
/-- the text of a row -/
def textOf (r : Row) : Str := match r.2.2 with
  | none => textK r.1 r.2.1
  | some p => (if r.1 = "flip" then textK r.1 r.2.1 else textK r.1 r.2.1 ++ " at") ++ " " ++ strI p.1 ++ " of " ++ strI p.2
def smI (r : Row) : Bool := (match r.2.1 with | none => true | some i => decide (i.natAbs.log2 < 1920)) && (match r.2.2 with | none => true | some p => decide (p.1.natAbs.log2 < 1920) && decide (p.2.natAbs.log2 < 1920)) && decide ((textOf r).length ≤ 1000)
theorem known_text : ∀ p ∈ known, textOf p.2 = p.1 := by decide +kernel
theorem known_smI : ∀ p ∈ known, smI p.2 = true := by decide +kernel
def spText (K : PySem.W.Frag) : Sp := fun vs H Q _ => ∃ (u : V) (r : Row), vs = [u] ∧ Dq K H u (rowD r) ∧ smI r = true ∧ Q (.str (textOf r)) H
section
variable {P : Program} {w : World} {K : PySem.W.Frag} {mg : Str → Option Value} {base : Heap}
theorem scText : FnScope ["_law_step", "_law_kind", "_law_by", "_law_rest", "_law_text_here"] ["_law_step"] (defScope sText) := ⟨rfl, rfl, rfl, by decide +kernel, rfl, by decide +kernel, by decide +kernel⟩
theorem len_sum {x y z : Str} {n : Nat} (h : (x ++ y).length ≤ n) : x.length + y.length ≤ n := by rw [← Str.length_append]; exact h
theorem len_left {x y : Str} {n : Nat} (h : (x ++ y).length ≤ n) : x.length ≤ n := by rw [Str.length_append] at h; omega
theorem kz : (1000 : Nat) ≤ sizeLine := by decide
theorem ite_nstr {x y : Str} {A B : Prop} (h1 : x ≠ y → A) (h2 : x = y → B) : if (!decide (V.str x = V.str y)) = true then A else B := by
  by_cases e : x = y
  · rw [decide_eq_true (by rw [e])]
    exact iteF (h2 e)
  · rw [decide_eq_false (fun z => e (V.str.inj z))]
    exact iteT (h1 e)
theorem len_add {x y : Str} (h : (x ++ y).length ≤ 1000) : x.length + y.length ≤ sizeLine := by rw [Str.length_append] at h; exact Nat.le_trans h kz
theorem ok_text {f : Addr} {fd : FuncData} (F : Fun K "_law_text" "_law_text" sText f fd) (hs : mg "str" = none) : FnOk P w K mg base CX0 1 f fd ["_law_step"] (spText K) := by
  refine F.ok scText (fun vs H Q E h => ?_) (fun cdv A outer s H vs Q E hr h => ?_)
  · obtain ⟨u, r, rfl, _⟩ := h
    rfl
  · obtain ⟨u, r, rfl, hd, hsm, hQ⟩ := h
    have nd := scText.nd
    refine ⟨_, (pss_cons (ps_asg (pv 0) (pg_tup rfl (pgs_cons (pg_name (i := 1) nd rfl (Or.inl rfl)) (pgs_cons (pg_name (i := 2) nd rfl (Or.inl rfl)) (pgs_cons (pg_name (i := 3) nd rfl (Or.inl rfl)) pgs_nil)))))
      (pss_cons (ps_set (i := 4) nd rfl (Or.inl rfl) (pv 1))
      (pss_cons (ps_if (pt_cmpR op_notN (pv 2) pe_non (nomark _))
        (pss_one (ps_set (i := 4) nd rfl (Or.inl rfl) (pe_op op_add_str (pe_op op_add_str (pv 4) pe_str) (pe_callTy call_str_int (by rfl) hs (by decide +kernel) (pa_cons (pv 2) pa_nil))))) pss_nil)
      (pss_cons (ps_if (pt_cmpR op_isN (pv 3) pe_non (nomark _))
        (pss_one (ps_ret (pv 4))) pss_nil)
      (pss_cons (ps_if (pt_cmpR op_ne (pv 1) pe_str (nomark _))
        (pss_one (ps_set (i := 4) nd rfl (Or.inl rfl) (pe_op op_add_str (pv 4) pe_str))) pss_nil)
      (pss_one (ps_ret (pe_op op_add_str (pe_op op_add_str (pe_op op_add_str (pe_op op_add_str (pv 4) pe_str) (pe_callTy call_str_int (by rfl) hs (by decide +kernel) (pa_cons (pe_ix ix_tup (pv 3) pe_int (fun _ _ => rfl)) pa_nil))) pe_str) (pe_callTy call_str_int (by rfl) hs (by decide +kernel) (pa_cons (pe_ix ix_tup (pv 3) pe_int (fun _ _ => rfl)) pa_nil)))))))))), ?_⟩
    obtain ⟨k, b, rr⟩ := r
    obtain ⟨t, xs, rfl, st, dxs⟩ := hd.of_tuple
    cases dxs with
    | cons d1 dxs => cases dxs with
      | cons d2 dxs => cases dxs with
        | cons d3 dxs =>
          cases dxs
          obtain rfl := d1.of_str
          rename_i v2 v3
          unfold smI at hsm
          simp only [Bool.and_eq_true, decide_eq_true_eq] at hsm
          obtain ⟨⟨h1, h2⟩, h3⟩ := hsm
          refine ⟨_, rfl, t, _, rfl, st, rfl, _, _, rfl, _, _, rfl, _, _, rfl, rfl, ?_⟩
          refine ⟨_, rfl, ?_⟩
          have lenK : (textK k b).length ≤ 1000 := by
            cases rr with
            | none => exact h3
            | some p =>
              change ((((if k = "flip" then textK k b else textK k b ++ " at") ++ " " ++ strI p.1) ++ " of ") ++ strI p.2).length ≤ 1000 at h3
              have h := len_left (len_left (len_left (len_left h3)))
              by_cases e : k = "flip"
              · rw [if_pos e] at h; exact h
              · rw [if_neg e] at h; exact len_left h
          cases b with
          | none =>
            obtain rfl := d2.of_none
            refine ⟨_, rfl, rfl, _, rfl, ?_⟩
            refine iteF ?_
            cases rr with
            | none =>
              obtain rfl := d3.of_none
              refine ⟨_, rfl, rfl, _, rfl, ?_⟩
              refine iteT ?_
              exact ⟨_, rfl, hQ⟩
            | some p =>
              obtain ⟨t3, x3, rfl, st3, dx3⟩ := d3.of_tuple
              refine ⟨_, rfl, rfl, _, rfl, ?_⟩
              refine iteF ?_
              cases dx3 with
              | cons e1 dx3 => cases dx3 with
                | cons e2 dx3 =>
                  cases dx3
                  obtain rfl := e1.of_int
                  obtain rfl := e2.of_int
                  simp only [Bool.and_eq_true, decide_eq_true_eq] at h2
                  refine ⟨_, rfl, rfl, _, rfl, ?_⟩
                  change Q (.str (((((if k = "flip" then textK k _ else textK k _ ++ " at") ++ " ") ++ strI p.1) ++ " of ") ++ strI p.2)) H at hQ
                  change (((((if k = "flip" then textK k _ else textK k _ ++ " at") ++ " ") ++ strI p.1) ++ " of ") ++ strI p.2).length ≤ 1000 at h3
                  refine ite_nstr (fun e => ?_) (fun e => ?_)
                  · rw [if_neg e] at hQ h3
                    refine ⟨_, rfl, _, _, rfl, rfl, len_add (len_left (len_left (len_left (len_left h3)))), ?_⟩
                    refine ⟨_, rfl, _, _, rfl, rfl, len_add (len_left (len_left (len_left h3))), _, rfl, ?_⟩
                    exact ⟨t3, _, 0, _, rfl, rfl, st3, rfl, p.1, rfl, h2.1, _, _, rfl, rfl, len_add (len_left (len_left h3)), _, _, rfl, rfl, len_add (len_left h3), _, rfl, t3, _, 1, _, rfl, rfl, st3, rfl, p.2, rfl, h2.2, _, _, rfl, rfl, len_add h3, hQ⟩
                  · rw [if_pos e] at hQ h3
                    exact ⟨_, rfl, _, _, rfl, rfl, len_add (len_left (len_left (len_left h3))), _, rfl, t3, _, 0, _, rfl, rfl, st3, rfl, p.1, rfl, h2.1, _, _, rfl, rfl, len_add (len_left (len_left h3)), _, _, rfl, rfl, len_add (len_left h3), _, rfl, t3, _, 1, _, rfl, rfl, st3, rfl, p.2, rfl, h2.2, _, _, rfl, rfl, len_add h3, hQ⟩
          | some i =>
            obtain rfl := d2.of_int
            refine ⟨_, rfl, rfl, _, rfl, ?_⟩
            refine iteT ?_
            change ((k ++ " ") ++ strI i).length ≤ 1000 at lenK
            refine ⟨_, rfl, k, " ", rfl, rfl, len_add (len_left lenK), _, rfl, i, rfl, of_decide_eq_true h1, k ++ " ", strI i, rfl, rfl, len_add lenK, ?_⟩
            cases rr with
            | none =>
              obtain rfl := d3.of_none
              refine ⟨_, rfl, rfl, _, rfl, ?_⟩
              refine iteT ?_
              exact ⟨_, rfl, hQ⟩
            | some p =>
              obtain ⟨t3, x3, rfl, st3, dx3⟩ := d3.of_tuple
              refine ⟨_, rfl, rfl, _, rfl, ?_⟩
              refine iteF ?_
              cases dx3 with
              | cons e1 dx3 => cases dx3 with
                | cons e2 dx3 =>
                  cases dx3
                  obtain rfl := e1.of_int
                  obtain rfl := e2.of_int
                  simp only [Bool.and_eq_true, decide_eq_true_eq] at h2
                  refine ⟨_, rfl, rfl, _, rfl, ?_⟩
                  change Q (.str (((((if k = "flip" then textK k _ else textK k _ ++ " at") ++ " ") ++ strI p.1) ++ " of ") ++ strI p.2)) H at hQ
                  change (((((if k = "flip" then textK k _ else textK k _ ++ " at") ++ " ") ++ strI p.1) ++ " of ") ++ strI p.2).length ≤ 1000 at h3
                  refine ite_nstr (fun e => ?_) (fun e => ?_)
                  · rw [if_neg e] at hQ h3
                    refine ⟨_, rfl, _, _, rfl, rfl, len_add (len_left (len_left (len_left (len_left h3)))), ?_⟩
                    refine ⟨_, rfl, _, _, rfl, rfl, len_add (len_left (len_left (len_left h3))), _, rfl, ?_⟩
                    exact ⟨t3, _, 0, _, rfl, rfl, st3, rfl, p.1, rfl, h2.1, _, _, rfl, rfl, len_add (len_left (len_left h3)), _, _, rfl, rfl, len_add (len_left h3), _, rfl, t3, _, 1, _, rfl, rfl, st3, rfl, p.2, rfl, h2.2, _, _, rfl, rfl, len_add h3, hQ⟩
                  · rw [if_pos e] at hQ h3
                    exact ⟨_, rfl, _, _, rfl, rfl, len_add (len_left (len_left (len_left h3))), _, rfl, t3, _, 0, _, rfl, rfl, st3, rfl, p.1, rfl, h2.1, _, _, rfl, rfl, len_add (len_left (len_left h3)), _, _, rfl, rfl, len_add (len_left h3), _, rfl, t3, _, 1, _, rfl, rfl, st3, rfl, p.2, rfl, h2.2, _, _, rfl, rfl, len_add h3, hQ⟩
end
theorem row_get {K : PySem.W.Frag} {H : Hp} {u : V} {r : Row} (hd : Dq K H u (rowD r)) : ∃ t v2 v3, u = .ref t ∧ SqT K H t [.str r.1, v2, v3] ∧ Dq K H v2 (optD r.2.1) ∧ Dq K H v3 (restD r.2.2) := by
  obtain ⟨k, b, rr⟩ := r
  obtain ⟨t, xs, rfl, st, dxs⟩ := hd.of_tuple
  cases dxs with
  | cons d1 dxs => cases dxs with
    | cons d2 dxs => cases dxs with
      | cons d3 dxs =>
        cases dxs
        obtain rfl := d1.of_str
        exact ⟨t, _, _, rfl, st, d2, d3⟩
end Aw

namespace Aw
open PySem PySem.Spec PyProof.Rows L2 NdefX
/-! ### the rows in the order in which the law makes them -/
def byL : List Int := [-3, -2, -1, 1, 2, 3]
def wholeL : List Int := [2, 3, 4]
def ofV (k : Str) (b : Option Int) (w : Int) (n : Nat) : List Row := (List.range n).map fun (j : Nat) => (k, b, some ((0 : Int) + (j : Int), w))
def row1 (k : Str) : Row := (k, none, none)
def rows0 : List Row := (["turn", "deal", "undeal", "swap", "gather", "spread"] : List Str).map row1
def rows1 : List Row := rows0 ++ [row1 "flip first", row1 "flip last"]
def inA (b : Int) (l : List Row) (w : Int) : List Row := l ++ ofV "near" (some b) w w.toNat
def inB (b : Int) (l : List Row) (w : Int) : List Row := l ++ (if b % w = 0 then ofV "sum" (some b) w w.toNat else [])
def three (b : Int) : List Row := [("roll", some b, none), ("near", some b, none), ("sum", some b, none)]
def byG (i : Nat) : Int := byL.getD i 0
def whG (j : Nat) : Int := wholeL.getD j 2
def rowsI (b : Int) (l : List Row) (j : Nat) : List Row := (wholeL.take j).foldl (fun l w => inB b (inA b l w) w) l
def rowsB : Nat → List Row
  | 0 => rows1
  | i + 1 => rowsI (byG i) (rowsB i ++ three (byG i)) 3
def rowsF : Nat → List Row
  | 0 => rowsB 6
  | i + 1 => rowsF i ++ ofV "flip" none (whG i) (whG i).toNat
theorem rows_known : rowsF 3 = known.map (·.2) := by decide +kernel
theorem rowsB_len : ∀ i < 7, (rowsB i).length ≤ 200 := by decide +kernel
theorem rowsF_len : ∀ i < 4, (rowsF i).length ≤ 200 := by decide +kernel
theorem rowsI_len : ∀ i < 6, ∀ j < 4, (rowsI (byG i) (rowsB i ++ three (byG i)) j).length ≤ 200 := by decide +kernel
theorem rowsI_at {b : Int} {l : List Row} : ∀ j < 3, rowsI b l (j + 1) = inB b (inA b (rowsI b l j) (whG j)) (whG j)
  | 0, _ => rfl
  | 1, _ => rfl
  | 2, _ => rfl
theorem wh_ok : ∀ j < 3, 0 < whG j ∧ whG j < 5 := by decide +kernel
theorem byAt {i : Nat} {x : V} (h : ([.int (-3), .int (-2), .int (-1), .int 1, .int 2, .int 3] : List V)[i]? = some x) : i < 6 ∧ x = .int (byG i) := by
  match i, h with
  | 0, h => cases h; exact ⟨by decide, rfl⟩
  | 1, h => cases h; exact ⟨by decide, rfl⟩
  | 2, h => cases h; exact ⟨by decide, rfl⟩
  | 3, h => cases h; exact ⟨by decide, rfl⟩
  | 4, h => cases h; exact ⟨by decide, rfl⟩
  | 5, h => cases h; exact ⟨by decide, rfl⟩
  | n + 6, h => simp at h
theorem whAt {i : Nat} {x : V} (h : ([.int 2, .int 3, .int 4] : List V)[i]? = some x) : i < 3 ∧ x = .int (whG i) := by
  match i, h with
  | 0, h => cases h; exact ⟨by decide, rfl⟩
  | 1, h => cases h; exact ⟨by decide, rfl⟩
  | 2, h => cases h; exact ⟨by decide, rfl⟩
  | n + 3, h => simp at h
/-- a list of rows stands at L -/
structure RowsAt (K : PySem.W.Frag) (H : Hp) (L : Addr) (ds : List PyData) : Prop where
  ex : ∃ vs, H L = some (.lst vs) ∧ DqAll K H vs ds
def rowsD (l : List Row) : List PyData := l.map rowD
theorem rowsD_app {a b : List Row} : rowsD (a ++ b) = rowsD a ++ rowsD b := List.map_append
theorem rowsD_len {a : List Row} : (rowsD a).length = a.length := List.length_map ..
def knownD : List PyData := known.map fun p => .tuple [.str p.1, rowD p.2]
def spAll (K : PySem.W.Frag) : Sp := fun vs H Q _ => vs = [] ∧ ∀ L H', Same H H' → RowsAt K H' L knownD → Q (.ref L) H'
section
variable {P : Program} {w : World} {K : PySem.W.Frag} {mg : Str → Option Value} {base : Heap}
theorem same_fresh {H H2 : Hp} {D : Addr} {o : HO} (hD : H D = none) (s2 : Same H H2) : Same H (upd H2 D o) := fun b u e => by rw [upd_ne (ne_of_none e hD)]; exact s2 _ _ e
theorem app_any {H H2 H4 : Hp} {D : Addr} {vs : List V} {v : V} {ds : List PyData} {d : PyData} (hD : H D = none) (s2 : Same H H2) (e2 : H2 D = some (.lst vs)) (d2 : DqAll K H2 vs ds) (s4 : Same H2 H4) (hv : Dq K H4 v d) :
    H4 D = some (.lst vs) ∧ Same H (upd H4 D (.lst (vs ++ [v]))) ∧ ∃ vs', upd H4 D (.lst (vs ++ [v])) D = some (.lst vs') ∧ DqAll K (upd H4 D (.lst (vs ++ [v]))) vs' (ds ++ [d]) := by
  have e4 := s4 _ _ e2
  have tk : TK H4 (upd H4 D (.lst (vs ++ [v]))) := TK.lst e4
  exact ⟨e4, same_fresh hD (s2.trans s4), _, upd_same, ((d2.keep (TK.same s4)).keep tk).append (.cons (hv.keep tk) .nil)⟩
theorem row_dq {H : Hp} {t1 t2 : Addr} {k : Str} {b : Option Int} {p q : Int} {bv : V} (hb : ∀ H', Dq K H' bv (optD b)) (h2 : upd H t1 (.tup [.int p, .int q]) t2 = none) :
    Dq K (upd (upd H t1 (.tup [.int p, .int q])) t2 (.tup [.str k, bv, .ref t1])) (.ref t2) (rowD (k, b, some (p, q))) :=
  .tup (SqT.of upd_same) (.cons (.str _) (.cons (hb _) (.cons (.tup (SqT.of (by rw [upd_ne (ne_of_none upd_same h2), upd_same])) (.cons (.int _) (.cons (.int _) .nil))) .nil)))
theorem kindAt {m : Nat} {x : V} (h : ([.str "turn", .str "deal", .str "undeal", .str "swap", .str "gather", .str "spread"] : List V)[m]? = some x) : ∃ n, x = .str n ∧ rows0.take (m + 1) = rows0.take m ++ [row1 n] := by
  match m, h with
  | 0, h => cases h; exact ⟨_, rfl, rfl⟩
  | 1, h => cases h; exact ⟨_, rfl, rfl⟩
  | 2, h => cases h; exact ⟨_, rfl, rfl⟩
  | 3, h => cases h; exact ⟨_, rfl, rfl⟩
  | 4, h => cases h; exact ⟨_, rfl, rfl⟩
  | 5, h => cases h; exact ⟨_, rfl, rfl⟩
  | n + 6, h => simp at h
theorem ofV_succ {k : Str} {b : Option Int} {w : Int} {n : Nat} : ofV k b w (n + 1) = ofV k b w n ++ [(k, b, some ((0 : Int) + (n : Int), w))] := by
  unfold ofV
  rw [List.range_succ, List.map_append]
  rfl
theorem small200 {n : Nat} (h : n ≤ 1000) : n ≤ sizeLine := Nat.le_trans h kz
theorem small200' {n : Nat} (h : n < 1000) : n < sizeLine := Nat.lt_of_lt_of_le h kz
theorem cat_rows {H : Hp} {L D : Addr} {a b : List Row} {Q : VK} (hL : RowsAt K H L (rowsD a)) (hD : RowsAt K H D (rowsD b)) (hn : a.length + b.length ≤ 1000) (k : ∀ p H', Same H H' → RowsAt K H' p (rowsD (a ++ b)) → Q (.ref p) H') : rCat (.ref L) (.ref D) H Q := by
  obtain ⟨vs, e1, d1⟩ := hL.ex
  obtain ⟨ws, e2, d2⟩ := hD.ex
  have l1 := d1.length
  have l2 := d2.length
  rw [rowsD_len] at l1 l2
  refine ⟨L, D, vs, ws, rfl, rfl, e1, e2, small200 (by omega), fun p hp => k p _ (same_upd hp) ⟨_, upd_same, ?_⟩⟩
  rw [rowsD_app]
  exact (d1.append d2).keep (TK.new hp)
theorem RowsAt.same {H H' : Hp} {L : Addr} {ds : List PyData} (h : RowsAt K H L ds) (s : Same H H') : RowsAt K H' L ds := by
  obtain ⟨vs, e, d⟩ := h.ex
  exact ⟨vs, s _ _ e, d.keep (TK.same s)⟩
theorem lc_of {te : TE} {tt : TT} {σ : Aw.St} {vs : List Nat} {H : Hp} {Q : VK} {k : Str} {b : Option Int} {w : Int} {n : Nat} {c : Bool} (hn : n ≤ 100) (hw : ∀ v, wipe ((wipe σ vs).set 4 v) vs = wipe σ vs)
    (htt : ∀ (m : Nat) H2 (Q : Bool → Hp → Prop), Q c H2 → tt ((wipe σ vs).set 4 (some (.int ((0 : Int) + (m : Int))))) H2 Q)
    (hte : ∀ (m : Nat) H2 Q, (∀ v H4, Same H2 H4 → Dq K H4 v (rowD (k, b, some ((0 : Int) + (m : Int), w))) → Q v H4) → te ((wipe σ vs).set 4 (some (.int ((0 : Int) + (m : Int))))) H2 Q)
    (hd : ∀ D H2, Same H H2 → RowsAt K H2 D (rowsD (if c = true then ofV k b w n else [])) → Q (.ref D) H2) : tLc (fun _ H R => R (Itr 0 n) H) (gName 4) tt te vs σ H Q := by
  intro D hD
  refine lc_range (lo := 0) (n := n) (fun m H2 => Same H H2 ∧ ∃ ws, H2 D = some (.lst ws) ∧ DqAll K H2 ws (rowsD (if c = true then ofV k b w m else []))) ⟨same_upd hD, [], upd_same, ?_⟩ ?_ ?_
  · cases c <;> exact .nil
  · rintro m H2 hm ⟨s2, ws, e2, d2⟩
    refine ⟨hw _, htt m H2 _ ?_⟩
    cases c with
    | false => exact ⟨s2, ws, e2, d2⟩
    | true =>
      refine hte m H2 _ fun v H4 s4 hv => ?_
      obtain ⟨z1, z2, z3⟩ := app_any hD s2 e2 d2 s4 hv
      have lv := d2.length
      have lo : (ofV k b w m).length = m := by unfold ofV; rw [List.length_map, List.length_range]
      rw [rowsD_len, if_pos rfl, lo] at lv
      refine ⟨ws, z1, small200' (by omega), z2, ?_⟩
      rw [if_pos rfl, ofV_succ, rowsD_app]
      exact z3
  · rintro H2 ⟨s2, ws, e2, d2⟩
    exact hd D H2 s2 ⟨ws, e2, d2⟩
theorem lc_cat {te : TE} {tt : TT} {σ : Aw.St} {vs : List Nat} {H : Hp} {L : Addr} {R : VK} {k : Str} {b : Option Int} {w : Int} {n : Nat} {c : Bool} {a : List Row} (rL : RowsAt K H L (rowsD a)) (hn : n ≤ 100) (ha : a.length ≤ 800)
    (hd : ∀ D H2, Same H H2 → RowsAt K H2 D (rowsD (a ++ (if c = true then ofV k b w n else []))) → R (.ref D) H2)
    (hw : ∀ v, wipe ((wipe σ vs).set 4 v) vs = wipe σ vs)
    (htt : ∀ (m : Nat) H2 (Q : Bool → Hp → Prop), Q c H2 → tt ((wipe σ vs).set 4 (some (.int ((0 : Int) + (m : Int))))) H2 Q)
    (hte : ∀ (m : Nat) H2 Q, (∀ v H4, Same H2 H4 → Dq K H4 v (rowD (k, b, some ((0 : Int) + (m : Int), w))) → Q v H4) → te ((wipe σ vs).set 4 (some (.int ((0 : Int) + (m : Int))))) H2 Q) :
    tLc (fun _ H R => R (Itr 0 n) H) (gName 4) tt te vs σ H (fun y H2 => rCat (.ref L) y H2 R) := by
  refine lc_of (c := c) hn hw htt hte fun D H2 s2 rD => ?_
  refine cat_rows (rL.same s2) rD ?_ fun p H3 s3 r3 => hd p H3 (s2.trans s3) r3
  have : (if c = true then ofV k b w n else []).length ≤ 100 := by
    split
    · unfold ofV; rw [List.length_map, List.length_range]; exact hn
    · exact Nat.zero_le _
  omega
theorem scAll : FnScope ["_law_rows", "_law_by", "_law_whole", "_law_kind", "_law_part", "_law_row"] [] (defScope sAll) := ⟨rfl, rfl, rfl, by decide +kernel, rfl, by decide +kernel, by decide +kernel⟩
theorem ok_all {f fT : Addr} {fd gd : FuncData} (F : Fun K "_law_all" "_law_all" sAll f fd) (gR : mg "range" = none) (gI : mg "int" = none) (hs : mg "str" = none) (gT : mg "_law_text" = some (.ref fT)) (G : Fun K "_law_text" "_law_text" sText fT gd) (bG : Binds K gd ["_law_step"] []) : FnOk P w K mg base CX0 2 f fd [] (spAll K) := by
  have GT : FnOk P w K mg base CX0 1 fT gd ["_law_step"] (spText K) := ok_text G hs
  refine F.ok scAll (fun vs H Q E h => ?_) (fun cdv A outer s H vs Q E hr h => ?_)
  · obtain ⟨rfl, _⟩ := h
    rfl
  · obtain ⟨rfl, k⟩ := h
    have nd := scAll.nd
    refine ⟨_, (pss_cons (ps_setLc (i := 0) (own := [("_law_kind", 3)]) (g := (gName 3)) (tt := tYes) rfl nd rfl rfl (sw_true rfl rfl (by rfl) (by decide +kernel)) (pi_tup (pe_tup (pa_cons pe_str (pa_cons pe_str (pa_cons pe_str (pa_cons pe_str (pa_cons pe_str (pa_cons pe_str pa_nil)))))))) (blkOk_by (own := [("_law_kind", 3)]) (N := ["_law_rows", "_law_by", "_law_whole", "_law_kind", "_law_part", "_law_row"]) (sc := defScope sAll) (by decide +kernel)) (fun _ _ _ _ _ => (pg_name (i := 3) nd rfl (Or.inl rfl))) (fun _ _ _ _ _ => pts_nil) (fun _ _ _ _ _ => (pe_tup (pa_cons (pv 3) (pa_cons pe_non (pa_cons pe_non pa_nil))))))
      (pss_cons (ps_set (i := 0) nd rfl (Or.inl rfl) (pe_op op_cat (pv 0) (pe_lst (pa_cons (pe_tup (pa_cons pe_str (pa_cons pe_non (pa_cons pe_non pa_nil)))) (pa_cons (pe_tup (pa_cons pe_str (pa_cons pe_non (pa_cons pe_non pa_nil)))) pa_nil)))))
      (pss_cons (ps_for PassesOwn.never rfl (pi_tup (pe_tup (pa_cons (pe_un un_neg pe_int) (pa_cons (pe_un un_neg pe_int) (pa_cons (pe_un un_neg pe_int) (pa_cons pe_int (pa_cons pe_int (pa_cons pe_int pa_nil)))))))) (pg_name (i := 1) nd rfl (Or.inr rfl))
        (pss_cons (ps_set (i := 0) nd rfl (Or.inl rfl) (pe_op op_cat (pv 0) (pe_lst (pa_cons (pe_tup (pa_cons pe_str (pa_cons (pv 1) (pa_cons pe_non pa_nil)))) (pa_cons (pe_tup (pa_cons pe_str (pa_cons (pv 1) (pa_cons pe_non pa_nil)))) (pa_cons (pe_tup (pa_cons pe_str (pa_cons (pv 1) (pa_cons pe_non pa_nil)))) pa_nil))))))
        (pss_one (ps_for PassesOwn.never rfl (pi_tup (pe_tup (pa_cons pe_int (pa_cons pe_int (pa_cons pe_int pa_nil))))) (pg_name (i := 2) nd rfl (Or.inr rfl))
          (pss_cons (ps_set (i := 0) nd rfl (Or.inl rfl) (pe_op op_cat (pv 0) (pe_lc (own := [("_law_part", 4)]) (g := (gName 4)) (tt := tYes) rfl nd (pi_range1 rfl gR (pa_cons (pv 2) pa_nil)) (blkOk_by (own := [("_law_part", 4)]) (N := ["_law_rows", "_law_by", "_law_whole", "_law_kind", "_law_part", "_law_row"]) (sc := defScope sAll) (by decide +kernel)) (fun _ _ _ _ _ => (pg_name (i := 4) nd rfl (Or.inl rfl))) (fun _ _ _ _ _ => pts_nil) (fun _ _ _ _ _ => (pe_tup (pa_cons pe_str (pa_cons (pv 1) (pa_cons (pe_tup (pa_cons (pv 4) (pa_cons (pv 2) pa_nil))) pa_nil))))))))
          (pss_one (ps_set (i := 0) nd rfl (Or.inl rfl) (pe_op op_cat (pv 0) (pe_lc (own := [("_law_part", 4)]) (g := (gName 4)) rfl nd (pi_range1 rfl gR (pa_cons (pv 2) pa_nil)) (blkOk_by (own := [("_law_part", 4)]) (N := ["_law_rows", "_law_by", "_law_whole", "_law_kind", "_law_part", "_law_row"]) (sc := defScope sAll) (by decide +kernel)) (fun _ _ _ _ _ => (pg_name (i := 4) nd rfl (Or.inl rfl))) (fun _ _ _ _ _ => pts_one (pt_cmpR op_eq (pe_op op_mod (pe_callTy call_int1 (by rfl) gI (by decide +kernel) (pa_cons (pv 1) pa_nil)) (pv 2)) pe_int (nomark _))) (fun _ _ _ _ _ => (pe_tup (pa_cons pe_str (pa_cons (pv 1) (pa_cons (pe_tup (pa_cons (pv 4) (pa_cons (pv 2) pa_nil))) pa_nil))))))))))))))
      (pss_cons (ps_for PassesOwn.never rfl (pi_tup (pe_tup (pa_cons pe_int (pa_cons pe_int (pa_cons pe_int pa_nil))))) (pg_name (i := 2) nd rfl (Or.inr rfl))
        (pss_one (ps_set (i := 0) nd rfl (Or.inl rfl) (pe_op op_cat (pv 0) (pe_lc (own := [("_law_part", 4)]) (g := (gName 4)) (tt := tYes) rfl nd (pi_range1 rfl gR (pa_cons (pv 2) pa_nil)) (blkOk_by (own := [("_law_part", 4)]) (N := ["_law_rows", "_law_by", "_law_whole", "_law_kind", "_law_part", "_law_row"]) (sc := defScope sAll) (by decide +kernel)) (fun _ _ _ _ _ => (pg_name (i := 4) nd rfl (Or.inl rfl))) (fun _ _ _ _ _ => pts_nil) (fun _ _ _ _ _ => (pe_tup (pa_cons pe_str (pa_cons pe_non (pa_cons (pe_tup (pa_cons (pv 4) (pa_cons (pv 2) pa_nil))) pa_nil))))))))))
      (pss_one (ps_ret (pe_lc (own := [("_law_row", 5)]) (g := (gName 5)) (tt := tYes) rfl nd (pi_list (pv 0)) (blkOk_by (own := [("_law_row", 5)]) (N := ["_law_rows", "_law_by", "_law_whole", "_law_kind", "_law_part", "_law_row"]) (sc := defScope sAll) (by decide +kernel)) (fun _ _ _ _ _ => (pg_name (i := 5) nd rfl (Or.inl rfl))) (fun _ _ _ _ _ => pts_nil) (fun _ _ _ _ _ => (pe_tup (pa_cons (pe_call GT hr (by rfl) gT G.kp bG .nil pass0 (pa_cons (pv 5) pa_nil)) (pa_cons (pv 5) pa_nil))))))))))), ?_⟩
    -- the six
    refine ⟨by show 6 ≤ sizeLine; decide, fun t0 ht0 => ⟨t0, rfl, ⟨_, SqT.of upd_same⟩, fun D hD => ?_⟩⟩
    have sA := same_upd (o := .tup [.str "turn", .str "deal", .str "undeal", .str "swap", .str "gather", .str "spread"]) ht0
    obtain ⟨H1, hH1⟩ : ∃ H1, upd H t0 (.tup [.str "turn", .str "deal", .str "undeal", .str "swap", .str "gather", .str "spread"]) = H1 := ⟨_, rfl⟩
    have et0 : H1 t0 = some (.tup [.str "turn", .str "deal", .str "undeal", .str "swap", .str "gather", .str "spread"]) := by rw [← hH1, upd_same]
    rw [hH1] at sA hD ⊢
    refine lc_tup (a := t0) (xs := [.str "turn", .str "deal", .str "undeal", .str "swap", .str "gather", .str "spread"]) (fun m H2 => Same H1 H2 ∧ ∃ vs', H2 D = some (.lst vs') ∧ DqAll K H2 vs' (rowsD (rows0.take m))) ⟨same_upd hD, [], upd_same, .nil⟩ (fun i H2 hi p => SqT.of (p.1 _ _ et0)) ?_ ?_
    · rintro m x H2 hx ⟨s2, vs', e2, d2⟩
      obtain ⟨n, rfl, e⟩ := kindAt hx
      have hm : m < 6 := by
        have := (List.getElem?_eq_some_iff.mp hx).1
        exact this
      refine ⟨rfl, _, rfl, by show 3 ≤ sizeLine; decide, fun t ht => ?_⟩
      obtain ⟨z1, z2, z3⟩ := app_any (v := .ref t) (d := rowD (row1 n)) hD s2 e2 d2 (same_upd ht) (.tup (SqT.of upd_same) (.cons (.str _) (.cons .non (.cons .non .nil))))
      have lv := d2.length
      rw [rowsD_len, List.length_take] at lv
      refine ⟨vs', z1, small200' (by omega), z2, ?_⟩
      rw [e, rowsD_app]
      exact z3
    · rintro H2 ⟨s2, vs0, e2, d2⟩
      have d2 : DqAll K H2 vs0 (rowsD rows0) := d2
      have lv0 : vs0.length = 6 := d2.length
      -- the two
      refine ⟨_, rfl, by show 3 ≤ sizeLine; decide, fun t1 ht1 => ⟨by show 3 ≤ sizeLine; decide, fun t2 ht2 => ⟨by show 2 ≤ sizeLine; decide, fun l hl => ?_⟩⟩⟩
      have s3 : Same H2 (upd (upd (upd H2 t1 (.tup [.str "flip first", .non, .non])) t2 (.tup [.str "flip last", .non, .non])) l (.lst [.ref t1, .ref t2])) := ((same_upd ht1).trans (same_upd ht2)).trans (same_upd hl)
      have r3 : RowsAt K (upd (upd (upd H2 t1 (.tup [.str "flip first", .non, .non])) t2 (.tup [.str "flip last", .non, .non])) l (.lst [.ref t1, .ref t2])) l (rowsD [row1 "flip first", row1 "flip last"]) := by
        have q1 := ne_of_none (show upd H2 t1 (.tup [.str "flip first", .non, .non]) t1 = some _ from upd_same) ht2
        refine ⟨_, upd_same, .cons (.tup (SqT.of (same_upd hl _ _ (same_upd ht2 _ _ upd_same))) (.cons (.str _) (.cons .non (.cons .non .nil)))) (.cons (.tup (SqT.of (same_upd hl _ _ upd_same)) (.cons (.str _) (.cons .non (.cons .non .nil)))) .nil)⟩
      refine cat_rows (RowsAt.same ⟨vs0, e2, d2⟩ s3) r3 (by decide) fun L H3 s4 rL => ?_
      have sH : Same H H3 := ((sA.trans s2).trans s3).trans s4
      -- the loop over the numbers
      refine ⟨3, rfl, 2, rfl, 1, rfl, by show 6 ≤ sizeLine; decide, fun t ht => ⟨t, rfl, ⟨_, SqT.of upd_same⟩, ?_⟩⟩
      obtain ⟨H4, hH4⟩ : ∃ H4, upd H3 t (.tup [.int (-3), .int (-2), .int (-1), .int 1, .int 2, .int 3]) = H4 := ⟨_, rfl⟩
      have et : H4 t = some (.tup [.int (-3), .int (-2), .int (-1), .int 1, .int 2, .int 3]) := by rw [← hH4, upd_same]
      have s34 : Same H3 H4 := by rw [← hH4]; exact same_upd ht
      change ∃ W : Nat → Nat → Aw.St → Hp → Prop, (∃ m, W 0 m _ (upd H3 t (.tup [.int (-3), .int (-2), .int (-1), .int 1, .int 2, .int 3]))) ∧ _
      rw [hH4]
      refine for_tup (a := t) (xs := [.int (-3), .int (-2), .int (-1), .int 1, .int 2, .int 3]) (fun i σ H5 => ∃ (L : Addr) (v1 v2 : Option V), σ = [some (.ref L), v1, v2, none, none, none] ∧ RowsAt K H5 L (rowsD (rowsB i)) ∧ Same H4 H5) ⟨L, none, none, rfl, rL.same s34, fun _ _ e => e⟩ (fun i σ H5 hi p => by
        obtain ⟨_, _, _, _, _, s5⟩ := p
        exact SqT.of (s5 _ _ et)) ?_ ?_
      · rintro i x σ H5 hx ⟨L, v1, v2, rfl, rL, s5⟩
        obtain ⟨hi, rfl⟩ := byAt hx
        have lB := rowsB_len i (by omega)
        obtain ⟨b, hb⟩ : ∃ b, byG i = b := ⟨_, rfl⟩
        have lI := rowsI_len i hi
        rw [hb] at lI ⊢
        refine ⟨_, rfl, _, rfl, by show 3 ≤ sizeLine; decide, fun t1 ht1 => ⟨_, rfl, by show 3 ≤ sizeLine; decide, fun t2 ht2 => ⟨_, rfl, by show 3 ≤ sizeLine; decide, fun t3 ht3 => ⟨by show 3 ≤ sizeLine; decide, fun l hl => ?_⟩⟩⟩⟩
        have s6 := (((same_upd (o := .tup [.str "roll", .int b, .non]) ht1).trans (same_upd (o := .tup [.str "near", .int b, .non]) ht2)).trans (same_upd (o := .tup [.str "sum", .int b, .non]) ht3)).trans (same_upd (o := .lst [.ref t1, .ref t2, .ref t3]) hl)
        have r6 : RowsAt K _ l (rowsD (three b)) := ⟨_, upd_same, .cons (.tup (SqT.of (same_upd hl _ _ (same_upd ht3 _ _ (same_upd ht2 _ _ upd_same)))) (.cons (.str _) (.cons (.int _) (.cons .non .nil))))
          (.cons (.tup (SqT.of (same_upd hl _ _ (same_upd ht3 _ _ upd_same))) (.cons (.str _) (.cons (.int _) (.cons .non .nil)))) (.cons (.tup (SqT.of (same_upd hl _ _ upd_same)) (.cons (.str _) (.cons (.int _) (.cons .non .nil)))) .nil))⟩
        refine cat_rows (rL.same s6) r6 (by show (rowsB i).length + 3 ≤ 1000; omega) fun L2 H6 s7 rL2 => ?_
        have s56 : Same H5 H6 := s6.trans s7
        -- the loop over the wholes
        refine ⟨by show 3 ≤ sizeLine; decide, fun t4 ht4 => ⟨t4, rfl, ⟨_, SqT.of upd_same⟩, ?_⟩⟩
        obtain ⟨H7, hH7⟩ : ∃ H7, upd H6 t4 (.tup [.int 2, .int 3, .int 4]) = H7 := ⟨_, rfl⟩
        have et4 : H7 t4 = some (.tup [.int 2, .int 3, .int 4]) := by rw [← hH7, upd_same]
        have s67 : Same H6 H7 := by rw [← hH7]; exact same_upd ht4
        change ∃ W : Nat → Nat → Aw.St → Hp → Prop, (∃ m, W 0 m _ (upd H6 t4 (.tup [.int 2, .int 3, .int 4]))) ∧ _
        rw [hH7]
        refine for_tup (a := t4) (xs := [.int 2, .int 3, .int 4]) (fun j σ H8 => ∃ (L : Addr) (v2 : Option V), σ = [some (.ref L), some (.int b), v2, none, none, none] ∧ RowsAt K H8 L (rowsD (rowsI b (rowsB i ++ three b) j)) ∧ Same H7 H8) ⟨L2, v2, rfl, rL2.same s67, fun _ _ e => e⟩ (fun j σ H8 hj p => by
          obtain ⟨_, _, _, _, s8⟩ := p
          exact SqT.of (s8 _ _ et4)) ?_ ?_
        · rintro j x σ H8 hx2 ⟨L3, v3, rfl, rL3, s8⟩
          obtain ⟨hj, rfl⟩ := whAt hx2
          have lJ := lI j (by omega)
          have lJ1 := lI (j + 1) (by omega)
          have eJ := rowsI_at (b := b) (l := rowsB i ++ three b) j hj
          obtain ⟨w0, w1⟩ := wh_ok j hj
          rw [eJ] at lJ1
          obtain ⟨wj, hwj⟩ : ∃ wj, whG j = wj := ⟨_, rfl⟩
          rw [hwj] at w0 w1 lJ1 eJ ⊢
          refine ⟨_, rfl, _, rfl, wj, rfl, by omega, by omega, ?_⟩
          have lA : (inA b (rowsI b (rowsB i ++ three b) j) wj).length ≤ 200 := by
            unfold inB at lJ1
            rw [List.length_append] at lJ1
            omega
          refine lc_cat (k := "near") (b := some b) (w := wj) (n := wj.toNat) (c := true) rL3 (by omega) (by omega) (fun L4 H10 s10 rL4 => ?_) ?_ ?_ (fun m H9 Q9 h9 => ?_)
          rotate_left
          · exact fun _ => rfl
          · exact fun _ _ _ h => h
          · exact ⟨_, rfl, _, rfl, _, rfl, by show 2 ≤ sizeLine; decide, fun u1 hu1 => ⟨by show 3 ≤ sizeLine; decide, fun u2 hu2 => h9 _ _ ((same_upd hu1).trans (same_upd hu2)) (row_dq (fun _ => .int _) hu2)⟩⟩
          rw [if_pos rfl] at rL4
          refine ⟨_, rfl, _, rfl, wj, rfl, by omega, by omega, ?_⟩
          refine lc_cat (k := "sum") (b := some b) (w := wj) (n := wj.toNat) (c := decide (b % wj = 0)) rL4 (by omega) (by change (inA b (rowsI b (rowsB i ++ three b) j) wj).length ≤ 800; omega) (fun L5 H12 s12 rL5 => ?_) ?_ (fun m H9 Q9 h9 => ?_) (fun m H9 Q9 h9 => ?_)
          rotate_left
          · exact fun _ => rfl
          · refine ⟨_, rfl, .inl ⟨b, rfl, _, rfl, b, wj, rfl, rfl, w0, rfl, _, rfl, ?_⟩⟩
            rw [show decide (V.int (b % wj) = V.int 0) = decide (b % wj = 0) by simp]
            exact h9
          · exact ⟨_, rfl, _, rfl, _, rfl, by show 2 ≤ sizeLine; decide, fun u1 hu1 => ⟨by show 3 ≤ sizeLine; decide, fun u2 hu2 => h9 _ _ ((same_upd hu1).trans (same_upd hu2)) (row_dq (fun _ => .int _) hu2)⟩⟩
          refine ⟨L5, _, rfl, ?_, (s8.trans s10).trans s12⟩
          rw [eJ]
          simp only [decide_eq_true_eq] at rL5
          exact rL5
        · rintro σ H8 ⟨L3, v3, rfl, rL3, s8⟩
          refine ⟨L3, _, _, rfl, ?_, ((s5.trans s56).trans s67).trans s8⟩
          show RowsAt K H8 L3 (rowsD (rowsI (byG i) (rowsB i ++ three (byG i)) 3))
          rw [hb]
          exact rL3
      · rintro σ H5 ⟨L, v1, v2, rfl, rL, s5⟩
        have rL : RowsAt K H5 L (rowsD (rowsB 6)) := rL
        have sH5 : Same H H5 := (sH.trans s34).trans s5
        -- the flips
        refine ⟨by show 3 ≤ sizeLine; decide, fun t4 ht4 => ⟨t4, rfl, ⟨_, SqT.of upd_same⟩, ?_⟩⟩
        obtain ⟨H7, hH7⟩ : ∃ H7, upd H5 t4 (.tup [.int 2, .int 3, .int 4]) = H7 := ⟨_, rfl⟩
        have et4 : H7 t4 = some (.tup [.int 2, .int 3, .int 4]) := by rw [← hH7, upd_same]
        have s67 : Same H5 H7 := by rw [← hH7]; exact same_upd ht4
        change ∃ W : Nat → Nat → Aw.St → Hp → Prop, (∃ m, W 0 m _ (upd H5 t4 (.tup [.int 2, .int 3, .int 4]))) ∧ _
        rw [hH7]
        refine for_tup (a := t4) (xs := [.int 2, .int 3, .int 4]) (fun j σ H8 => ∃ (L : Addr) (v2 : Option V), σ = [some (.ref L), v1, v2, none, none, none] ∧ RowsAt K H8 L (rowsD (rowsF j)) ∧ Same H7 H8) ⟨L, v2, rfl, rL.same s67, fun _ _ e => e⟩ (fun j σ H8 hj p => by
          obtain ⟨_, _, _, _, s8⟩ := p
          exact SqT.of (s8 _ _ et4)) ?_ ?_
        · rintro j x σ H8 hx2 ⟨L3, v3, rfl, rL3, s8⟩
          obtain ⟨hj, rfl⟩ := whAt hx2
          have lJ1 := rowsF_len (j + 1) (by omega)
          obtain ⟨w0, w1⟩ := wh_ok j hj
          have eJ : rowsF (j + 1) = rowsF j ++ ofV "flip" none (whG j) (whG j).toNat := rfl
          rw [eJ, List.length_append] at lJ1
          obtain ⟨wj, hwj⟩ : ∃ wj, whG j = wj := ⟨_, rfl⟩
          rw [hwj] at w0 w1 lJ1 eJ ⊢
          refine ⟨_, rfl, _, rfl, wj, rfl, by omega, by omega, ?_⟩
          refine lc_cat (k := "flip") (b := none) (w := wj) (n := wj.toNat) (c := true) rL3 (by omega) (by omega) (fun L4 H10 s10 rL4 => ?_) ?_ ?_ (fun m H9 Q9 h9 => ?_)
          rotate_left
          · exact fun _ => rfl
          · exact fun _ _ _ h => h
          · exact ⟨_, rfl, _, rfl, by show 2 ≤ sizeLine; decide, fun u1 hu1 => ⟨by show 3 ≤ sizeLine; decide, fun u2 hu2 => h9 _ _ ((same_upd hu1).trans (same_upd hu2)) (row_dq (fun _ => .non) hu2)⟩⟩
          rw [if_pos rfl] at rL4
          refine ⟨L4, _, rfl, ?_, s8.trans s10⟩
          rw [eJ]
          exact rL4
        · rintro σ H8 ⟨L3, v3, rfl, rL3, s8⟩
          have rL3 : RowsAt K H8 L3 (rowsD (rowsF 3)) := rL3
          obtain ⟨vs, eL, dL⟩ := rL3.ex
          refine ⟨_, rfl, L3, rfl, ⟨vs, SqL.of eL⟩, fun D4 hD4 => ?_⟩
          have lvs := dL.length
          refine lc_list (a := L3) (xs := vs) (fun m H9 => Same H8 H9 ∧ ∃ ws, H9 D4 = some (.lst ws) ∧ DqAll K H9 ws (knownD.take m)) ⟨same_upd hD4, [], upd_same, .nil⟩ (fun m H9 hm p => SqL.of (p.1 _ _ eL)) ?_ ?_
          · rintro m x H9 hx ⟨s9, ws, e9, d9⟩
            obtain ⟨d, ed, hd⟩ := (dL.keep (TK.same s9)).get hx
            rw [rowsD, rows_known, List.map_map, List.getElem?_map] at ed
            cases ek : known[m]? with
            | none => rw [ek] at ed; cases ed
            | some p =>
              rw [ek] at ed
              cases ed
              have mk : p ∈ known := List.mem_of_getElem? ek
              refine ⟨rfl, _, rfl, x, p.2, rfl, hd, known_smI p mk, _, rfl, by show 2 ≤ sizeLine; decide, fun u hu => ?_⟩
              rw [known_text p mk]
              obtain ⟨z1, z2, z3⟩ := app_any (v := .ref u) (d := .tuple [.str p.1, rowD p.2]) hD4 s9 e9 d9 (same_upd hu) (.tup (SqT.of upd_same) (.cons (.str _) (.cons (hd.keep (TK.new hu)) .nil)))
              have lw := d9.length
              have ml : m < vs.length := (List.getElem?_eq_some_iff.mp hx).1
              rw [lvs, rowsD_len] at ml
              have := rowsF_len 3 (by decide)
              rw [List.length_take] at lw
              refine ⟨ws, z1, small200' (by omega), z2, ?_⟩
              have et : knownD.take (m + 1) = knownD.take m ++ [.tuple [.str p.1, rowD p.2]] := by
                rw [List.take_succ, knownD, List.getElem?_map, ek]
                rfl
              rw [et]
              exact z3
          · rintro H9 ⟨s9, ws, e9, d9⟩
            refine k D4 H9 ((sH5.trans s67).trans (s8.trans s9)) ⟨ws, e9, ?_⟩
            have : knownD.take vs.length = knownD := List.take_of_length_le (by rw [lvs, rowsD_len, rows_known, knownD, List.length_map, List.length_map]; exact Nat.le_refl _)
            rw [this] at d9
            exact d9
end
end Aw

namespace Aw
open PySem PySem.Spec PyProof.Rows L2 NdefX
/-- a Step stands at b, or a text, or None: what isinstance tells of it -/
structure TxtE (K : PySem.W.Frag) (C : Addr) : Prop where
  ha : PySem.W.findIn K (.ref C) "__class__" = some (some (.builtin "object.__class__"))
  hn : PySem.W.specialIn K (.builtin "object.__class__") "__get__" = some (some (.builtin "getset_descriptor.__get__"))
  ht : PySem.W.takesIn K (.builtin "object.__class__") = some true
  hm : PySem.W.mroIn K C (.type "object") = some true
  me : PySem.W.kitOne K (.ref C) (.ref C) = some true
  nS : PySem.W.kitOne K (.type "str") (.ref C) = some false
  nN : PySem.W.kitOne K (.type "NoneType") (.ref C) = some false
def spEq (K : PySem.W.Frag) (C : Addr) : Sp := fun vs H Q _ => ∃ (a : Addr) (y : V) (x : Str) (r : Row), vs = [.ref a, y] ∧ StepAt K C H a x r ∧
  ((∃ (b : Addr) (x' : Str) (r' : Row), y = .ref b ∧ StepAt K C H b x' r' ∧ Q (.bl (decide (x = x'))) H) ∨ (((∃ t, y = .str t) ∨ y = .non) ∧ Q (.bl false) H))
section
variable {P : Program} {w : World} {K : PySem.W.Frag} {mg : Str → Option Value} {base : Heap} {C CB fP fI : Addr}
theorem scEq : FnScope ["self", "other"] ["self", "other"] (defScope sEq) := ⟨rfl, rfl, rfl, by decide +kernel, rfl, by decide +kernel, by decide +kernel⟩
theorem dec_strs {x y : Str} : decide (V.str x = V.str y) = decide (x = y) := by
  by_cases e : x = y
  · rw [decide_eq_true e, decide_eq_true (by rw [e])]
  · rw [decide_eq_false e, decide_eq_false (fun z => e (V.str.inj z))]
theorem ok_eq {f : Addr} {fd : FuncData} (F : Fun K "__eq__" "Step.__eq__" sEq f fd) (O : TxtO P K mg C CB fP fI) (Te : TxtE K C) (isi : mg "isinstance" = none) : FnOk P w K mg base CX0 1 f fd ["self", "other"] (spEq K C) := by
  have T : True := trivial
  refine F.ok scEq (fun vs H Q E h => ?_) (fun cdv A outer s H vs Q E hr h => ?_)
  · obtain ⟨a, y, x, r, rfl, _⟩ := h
    rfl
  · obtain ⟨a, y, x, r, rfl, sa, h⟩ := h
    have nd := scEq.nd
    refine ⟨_, (pss_one (ps_ret (pe_and (pe_callB call_isi (by rfl) isi (by decide +kernel) (pa_cons (pv 1) (pa_cons (pe_glob (v := .ref C) (by rfl) O.g rfl) pa_nil))) (pe_one (pe_cmpR op_eq (pe_fld (pv 0) rfl) (pe_fld (pv 1) rfl) (nomark _)))))), ?_⟩
    obtain ⟨dx, bv, tv, ea, _, _⟩ := sa.ex
    rcases h with ⟨b, x', r', rfl, sb, hq⟩ | ⟨hy, hq⟩
    · obtain ⟨dx', bv', tv', eb, _, _⟩ := sb.ex
      refine ⟨_, rfl, .ref b, .ref C, .ref C, .ref C, true, rfl, .own _, .base (.ins eb O.cl Te.ha Te.hn Te.ht Te.hm), Te.me, _, rfl, ?_⟩
      refine iteT ?_
      refine ⟨_, rfl, a, C, dx, _, _, rfl, ea, O.cl, O.nT, gText, _, rfl, b, C, dx', _, _, rfl, eb, O.cl, O.nT, gText, rfl, ?_⟩
      rw [dec_strs]
      exact hq
    · rcases hy with ⟨t, rfl⟩ | rfl
      · refine ⟨_, rfl, .str t, .ref C, .type "str", .ref C, false, rfl, .own _, .base (.str t), Te.nS, _, rfl, ?_⟩
        exact iteF hq
      · refine ⟨_, rfl, .non, .ref C, .type "NoneType", .ref C, false, rfl, .own _, .base .non, Te.nN, _, rfl, ?_⟩
        exact iteF hq
end
end Aw

namespace Aw
open PySem PySem.Spec PyProof.Rows L2 NdefX
/-- an integer from lo to hi, no bool -/
def numB (v : V) (lo hi : Int) : Bool := match v with
  | .int i => decide (lo ≤ i) && decide (i ≤ hi)
  | _ => false
def isIB : V → Bool
  | .int _ => true
  | .bl _ => true
  | _ => false
def isBB : V → Bool
  | .bl _ => true
  | _ => false
theorem VOk.ty {K : PySem.W.Frag} {H : Hp} {v : V} (h : VOk H v) : ∃ t, TyX K H v t ∧ PySem.W.kitOne K t (.type "int") = some (isIB v) ∧ PySem.W.kitOne K t (.type "bool") = some (isBB v) := by
  cases h with
  | str x h => exact ⟨_, .base (.str x), kit_ty (show kitB "str" "int" = some false by decide +kernel), kit_ty (show kitB "str" "bool" = some false by decide +kernel)⟩
  | non => exact ⟨_, .base .non, kit_ty (show kitB "NoneType" "int" = some false by decide +kernel), kit_ty (show kitB "NoneType" "bool" = some false by decide +kernel)⟩
  | bl b => exact ⟨_, .base (.bl b), kit_ty (show kitB "bool" "int" = some true by decide +kernel), kit_ty (show kitB "bool" "bool" = some true by decide +kernel)⟩
  | int i => exact ⟨_, .base (.int i), kit_ty (show kitB "int" "int" = some true by decide +kernel), kit_ty (show kitB "int" "bool" = some false by decide +kernel)⟩
  | lst h => exact ⟨_, .base (.lst h), kit_ty (show kitB "list" "int" = some false by decide +kernel), kit_ty (show kitB "list" "bool" = some false by decide +kernel)⟩
  | tup h => exact ⟨_, .base (.tup h), kit_ty (show kitB "tuple" "int" = some false by decide +kernel), kit_ty (show kitB "tuple" "bool" = some false by decide +kernel)⟩
  | dct h => exact ⟨_, .base (.dK h), kit_ty (show kitB "dict" "int" = some false by decide +kernel), kit_ty (show kitB "dict" "bool" = some false by decide +kernel)⟩
def spNum : Sp := fun vs H Q _ => ∃ (v : V) (lo hi : Int), vs = [v, .int lo, .int hi] ∧ VOk H v ∧ Q (.bl (numB v lo hi)) H
section
variable {P : Program} {w : World} {K : PySem.W.Frag} {mg : Str → Option Value} {base : Heap}
theorem scNum : FnScope ["value", "low", "high"] ["value", "low", "high"] (defScope sNum) := ⟨rfl, rfl, rfl, by decide +kernel, rfl, by decide +kernel, by decide +kernel⟩
theorem ok_num {f : Addr} {fd : FuncData} (F : Fun K "is_number" "is_number" sNum f fd) (isi : mg "isinstance" = none) (gI : mg "int" = none) (gB : mg "bool" = none) : FnOk P w K mg base CX0 1 f fd ["value", "low", "high"] spNum := by
  refine F.ok scNum (fun vs H Q E h => ?_) (fun cdv A outer s H vs Q E hr h => ?_)
  · obtain ⟨v, lo, hi, rfl, _⟩ := h
    rfl
  · obtain ⟨v, lo, hi, rfl, hv, hQ⟩ := h
    have nd := scNum.nd
    refine ⟨_, (pss_one (ps_ret (pe_and (pe_callB call_isi (by rfl) isi (by decide +kernel) (pa_cons (pv 0) (pa_cons (pe_bltn (v := .ty "int") (by rfl) gI (by decide +kernel) rfl) pa_nil))) (pe_and (pe_not (pe_callB call_isi (by rfl) isi (by decide +kernel) (pa_cons (pv 0) (pa_cons (pe_bltn (v := .ty "bool") (by rfl) gB (by decide +kernel) rfl) pa_nil)))) (pe_one (pe_chain op_le op_le (pv 1) (pv 0) (pv 2))))))), ?_⟩
    obtain ⟨t, ty, kI, kB⟩ := hv.ty (K := K)
    refine ⟨_, rfl, v, .ty "int", t, .type "int", isIB v, rfl, .ty _, ty, kI, _, rfl, ?_⟩
    cases hv with
    | int i =>
      refine iteT ?_
      refine ⟨_, rfl, .int i, .ty "bool", t, .type "bool", false, rfl, .ty _, ty, kB, _, rfl, _, rfl, ?_⟩
      refine iteT ?_
      refine ⟨_, rfl, _, rfl, lo, i, rfl, rfl, _, rfl, ?_⟩
      change Q (.bl (decide (lo ≤ i) && decide (i ≤ hi))) H at hQ
      refine ite_dec (fun h => ?_) (fun h => ?_)
      · refine ⟨_, rfl, i, hi, rfl, rfl, ?_⟩
        rw [decide_eq_true h, Bool.true_and] at hQ
        exact hQ
      · rw [decide_eq_false h, Bool.false_and] at hQ
        exact hQ
    | bl b =>
      refine iteT ?_
      refine ⟨_, rfl, .bl b, .ty "bool", t, .type "bool", true, rfl, .ty _, ty, kB, _, rfl, _, rfl, ?_⟩
      exact iteF hQ
    | _ => exact iteF hQ
end
end Aw

namespace Aw
open PySem PySem.Spec PyProof.Rows L2 NdefX
/-! ### lists of Steps -/
inductive StepsAt (K : PySem.W.Frag) (C : Addr) (H : Hp) : List V → List (Str × Row) → Prop
  | nil : StepsAt K C H [] []
  | cons {a : Addr} {vs : List V} {p : Str × Row} {ps : List (Str × Row)} : StepAt K C H a p.1 p.2 → StepsAt K C H vs ps → StepsAt K C H (.ref a :: vs) (p :: ps)
section
variable {K : PySem.W.Frag} {C : Addr} {H H' : Hp}
theorem StepsAt.same (s : Same H H') : ∀ {vs : List V} {ps : List (Str × Row)}, StepsAt K C H vs ps → StepsAt K C H' vs ps
  | _, _, .nil => .nil
  | _, _, .cons h r => .cons (h.same s) (StepsAt.same s r)
theorem StepsAt.length : ∀ {vs : List V} {ps : List (Str × Row)}, StepsAt K C H vs ps → vs.length = ps.length
  | _, _, .nil => rfl
  | _, _, .cons _ r => congrArg (· + 1) (StepsAt.length r)
theorem StepsAt.get : ∀ {vs : List V} {ps : List (Str × Row)} {i : Nat} {v : V}, StepsAt K C H vs ps → vs[i]? = some v → ∃ a p, ps[i]? = some p ∧ v = .ref a ∧ StepAt K C H a p.1 p.2
  | _, _, _, _, .nil, h => by simp at h
  | _, _, 0, _, .cons h _, e => ⟨_, _, rfl, by cases Option.some.inj e; rfl, h⟩
  | _, _, i + 1, _, .cons _ r, e => StepsAt.get (i := i) r (by simpa using e)
theorem StepsAt.append : ∀ {vs ws : List V} {ps qs : List (Str × Row)}, StepsAt K C H vs ps → StepsAt K C H ws qs → StepsAt K C H (vs ++ ws) (ps ++ qs)
  | _, _, _, _, .nil, s => s
  | _, _, _, _, .cons h r, s => .cons h (StepsAt.append r s)
end
theorem passE {X : Cx} (σ : Aw.St) : PassesAt (L2.CX X.prog X.w) X σ ((fun _ => E0 : Aw.St → XK) σ) := fun _ _ _ _ _ _ c => by
  obtain ⟨_, _, _, _, _, _, _, _, _, _, _, _, h⟩ := c
  exact h.elim
section
variable {K : PySem.W.Frag} {CS CB : Addr}
theorem make_parse {H : Hp} {x : Str} {r : Row} (hp : parse x = some r) (hl : x.length ≤ 1000) {G : Addr → Hp → Prop} (k : ∀ a H', Same H H' → StepAt K CS H' a x r → G a H') : ∀ y dx, H y = none → H dx = none → dx ≠ y →
    spInit K CS CB [.ref y, .str x] (upd (upd H dx (.own y)) y (.ins CS dx [])) (fun v H2 => v = .non ∧ G y H2) E0 := by
  intro y dx hy hdx ne
  have hy' : upd H dx (.own y) y = none := by rw [upd_ne (Ne.symm ne)]; exact hy
  have s2 := (same_upd (o := .own y) hdx).trans (same_upd (o := .ins CS dx []) hy')
  refine ⟨y, dx, .str x, rfl, upd_same, .str _ hl, fun hn => ?_, fun z r' hz hr H2 sb sa => ?_⟩
  · rw [show parseV (.str x) = parse x from rfl, hp] at hn
    cases hn
  · cases hz
    rw [hp] at hr
    cases hr
    exact ⟨rfl, k y H2 (fun c o e => sb c o (s2 c o e) (fun z => by rw [z, hy] at e; cases e)) sa⟩
end
theorem dec_ints {i j : Int} : decide (V.int i = V.int j) = decide (i = j) := by
  by_cases e : i = j
  · rw [decide_eq_true e, decide_eq_true (by rw [e])]
  · rw [decide_eq_false e, decide_eq_false (fun z => e (V.int.inj z))]
/-- the attribute rest -/
def restOk (t : Option (Int × Int)) : Prop := ∀ p, t = some p → 0 < p.2 ∧ p.2 < 100
/-- what is so of every known step -/
def rowOk (r : Row) : Bool := (r.1 != "roll" || r.2.1.isSome) && (!(r.1 == "near" || r.1 == "sum") || (match r.2.1 with | some b => b != 0 | none => false)) && (match r.2.2 with | some p => decide (0 < p.2) && decide (p.2 < 100) | none => true)
theorem known_ok : ∀ p ∈ known, rowOk p.2 = true := by decide +kernel
theorem known_rest {x : Str} {r : Row} (h : parse x = some r) : restOk r.2.2 := by
  have e := known_ok _ (parse_iff.mp h)
  obtain ⟨k, b, t⟩ := r
  rintro p rfl
  unfold rowOk at e
  dsimp only at e
  rw [Bool.and_eq_true, Bool.and_eq_true, Bool.and_eq_true, decide_eq_true_eq, decide_eq_true_eq] at e
  exact e.2
def dvd (M b : Int) : Bool := decide (b % M = 0)
def ownInv (r : Row) : Bool := match r.2.2 with
  | none => false
  | some p => !dvd p.2 (r.2.1.getD 0)
/-- the row of the inverse step -/
def invR (r : Row) : Row :=
  if r.1 = "roll" then ("roll", some (-(r.2.1.getD 0)), none) else if r.1 = "deal" then ("undeal", r.2.1, r.2.2) else if r.1 = "undeal" then ("deal", r.2.1, r.2.2) else
  if r.1 = "near" then (if ownInv r = true then r else ("sum", r.2.1, r.2.2)) else if r.1 = "sum" then (if ownInv r = true then r else ("near", r.2.1, r.2.2)) else r
theorem known_invR : ∀ p ∈ known, ((textOf (invR p.2), invR p.2) ∈ known) ∧ invR (invR p.2) = p.2 := by decide +kernel
end Aw

namespace Aw
open PySem PySem.Spec PyProof.Rows L2 NdefX
theorem emp_app (x : Str) : Str.empty ++ x = x := by
  cases x with
  | mk c => exact congrArg Str.mk (Array.empty_append ..)
/-- the text of a step with a number C -/
def stepT (k : Str) (b : Int) (o : Option (Int × Int)) : Str := match o with
  | none => k ++ " " ++ strI b
  | some p => k ++ " " ++ strI b ++ " at " ++ strI p.1 ++ " of " ++ strI p.2
theorem stepT_text : ∀ p ∈ known, ∀ b, p.2.2.1 = some b → stepT p.2.1 b p.2.2.2 = textOf p.2 := by decide +kernel
def smST (k : Str) (b : Int) (o : Option (Int × Int)) : Prop := b.natAbs.log2 < 1920 ∧ (∀ p, o = some p → p.1.natAbs.log2 < 1920 ∧ p.2.natAbs.log2 < 1920) ∧ (stepT k b o).length ≤ 1000
def spSText (K : PySem.W.Frag) : Sp := fun vs H Q _ => ∃ (k : Str) (b : Int) (rv : V) (o : Option (Int × Int)), vs = [.str k, .int b, rv] ∧ Dq K H rv (restD o) ∧ smST k b o ∧ Q (.str (stepT k b o)) H
def ownB (b : Option Int) (o : Option (Int × Int)) : Bool := match o with
  | none => false
  | some p => !decide ((b.getD 0) % p.2 = 0)
def spOwnI (K : PySem.W.Frag) : Sp := fun vs H Q _ => ∃ (bv rv : V) (b : Option Int) (o : Option (Int × Int)), vs = [bv, rv] ∧ Dq K H bv (optD b) ∧ Dq K H rv (restD o) ∧ restOk o ∧ (o ≠ none → b ≠ none) ∧ Q (.bl (ownB b o)) H
section
variable {P : Program} {w : World} {K : PySem.W.Frag} {mg : Str → Option Value} {base : Heap}
theorem scSText : FnScope ["kind", "by", "rest", "at", "of"] ["kind", "by", "rest"] (defScope sSText) := ⟨rfl, rfl, rfl, by decide +kernel, rfl, by decide +kernel, by decide +kernel⟩
theorem ok_stext {f : Addr} {fd : FuncData} (F : Fun K "step_text" "step_text" sSText f fd) : FnOk P w K mg base CX0 1 f fd ["kind", "by", "rest"] (spSText K) := by
  refine F.ok scSText (fun vs H Q E h => ?_) (fun cdv A outer s H vs Q E hr h => ?_)
  · obtain ⟨k, b, rv, o, rfl, _⟩ := h
    rfl
  · obtain ⟨k, b, rv, o, rfl, dr, ⟨h1, h2, h3⟩, hQ⟩ := h
    have nd := scSText.nd
    refine ⟨_, (pss_cons (ps_if (pt_cmpR op_isN (pv 2) pe_non (nomark _))
        (pss_one (ps_ret (pe_joined (.cons (pe_fmt (pv 0)) (.cons pe_str (.cons (pe_fmt (pv 1)) .nil)))))) pss_nil)
      (pss_cons (ps_asg (pv 2) (pg_tup rfl (pgs_cons (pg_name (i := 3) nd rfl (Or.inl rfl)) (pgs_cons (pg_name (i := 4) nd rfl (Or.inl rfl)) pgs_nil))))
      (pss_one (ps_ret (pe_joined (.cons (pe_fmt (pv 0)) (.cons pe_str (.cons (pe_fmt (pv 1)) (.cons pe_str (.cons (pe_fmt (pv 3)) (.cons pe_str (.cons (pe_fmt (pv 4)) .nil)))))))))))), ?_⟩
    cases o with
    | none =>
      obtain rfl := dr.of_none
      refine ⟨_, rfl, rfl, _, rfl, ?_⟩
      refine iteT ?_
      have e3 : ((k ++ " " ++ strI b : Str)).length ≤ 1000 := h3
      have hz : ∀ {x : Str}, x.length ≤ 1000 → x.length ≤ sizeLine := fun h => Nat.le_trans h kz
      refine ⟨_, rfl, .inl ⟨k, rfl, hz (len_left (len_left e3)), k, rfl, ?_, " ", rfl, ?_, _, rfl, .inr ⟨b, rfl, h1, _, rfl, ?_, ?_⟩⟩⟩
      · rw [emp_app]; exact hz (len_left (len_left e3))
      · rw [emp_app]; exact hz (len_left e3)
      · rw [emp_app]; exact hz e3
      · show Q (.str (Str.empty ++ k ++ " " ++ strI b)) H
        rw [emp_app]
        exact hQ
    | some p =>
      obtain ⟨t, xs, rfl, st, dxs⟩ := dr.of_tuple
      cases dxs with
      | cons g1 dxs => cases dxs with
        | cons g2 dxs =>
          cases dxs
          obtain rfl := g1.of_int
          obtain rfl := g2.of_int
          refine ⟨_, rfl, rfl, _, rfl, ?_⟩
          refine iteF ?_
          refine ⟨_, rfl, t, _, rfl, st, rfl, _, _, rfl, _, _, rfl, rfl, ?_⟩
          obtain ⟨q1, q2⟩ := h2 p rfl
          have e3 : ((k ++ " " ++ strI b ++ " at " ++ strI p.1 ++ " of " ++ strI p.2 : Str)).length ≤ 1000 := h3
          have hz : ∀ {x : Str}, x.length ≤ 1000 → x.length ≤ sizeLine := fun h => Nat.le_trans h kz
          have e4 := len_left e3
          have e5 := len_left e4
          have e6 := len_left e5
          have e7 := len_left e6
          have e8 := len_left e7
          have e9 := len_left e8
          refine ⟨_, rfl, .inl ⟨k, rfl, hz e9, k, rfl, ?_, " ", rfl, ?_, _, rfl, .inr ⟨b, rfl, h1, _, rfl, ?_, " at ", rfl, ?_, _, rfl, .inr ⟨p.1, rfl, q1, _, rfl, ?_, " of ", rfl, ?_, _, rfl, .inr ⟨p.2, rfl, q2, _, rfl, ?_, ?_⟩⟩⟩⟩⟩
          · rw [emp_app]; exact hz e9
          · rw [emp_app]; exact hz e8
          · rw [emp_app]; exact hz e7
          · rw [emp_app]; exact hz e6
          · rw [emp_app]; exact hz e5
          · rw [emp_app]; exact hz e4
          · rw [emp_app]; exact hz e3
          · show Q (.str (Str.empty ++ k ++ " " ++ strI b ++ " at " ++ strI p.1 ++ " of " ++ strI p.2)) H
            rw [emp_app]
            exact hQ
theorem scOwnI : FnScope ["by", "rest"] ["by", "rest"] (defScope sOwnI) := ⟨rfl, rfl, rfl, by decide +kernel, rfl, by decide +kernel, by decide +kernel⟩
theorem ok_owni {f : Addr} {fd : FuncData} (F : Fun K "is_own_inverse" "is_own_inverse" sOwnI f fd) : FnOk P w K mg base CX0 1 f fd ["by", "rest"] (spOwnI K) := by
  refine F.ok scOwnI (fun vs H Q E h => ?_) (fun cdv A outer s H vs Q E hr h => ?_)
  · obtain ⟨bv, rv, b, o, rfl, _⟩ := h
    rfl
  · obtain ⟨bv, rv, b, o, rfl, db, dr, ro, hn, hQ⟩ := h
    have nd := scOwnI.nd
    refine ⟨_, (pss_one (ps_ret (pe_and (pe_cmpR op_notN (pv 1) pe_non (nomark _)) (pe_one (pe_cmpR op_ne (pe_op op_mod (pv 0) (pe_ix ix_tup (pv 1) pe_int (fun _ _ => rfl))) pe_int (nomark _)))))), ?_⟩
    cases o with
    | none =>
      obtain rfl := dr.of_none
      refine ⟨_, rfl, rfl, _, rfl, ?_⟩
      exact iteF hQ
    | some p =>
      obtain ⟨t, xs, rfl, st, dxs⟩ := dr.of_tuple
      cases dxs with
      | cons g1 dxs => cases dxs with
        | cons g2 dxs =>
          cases dxs
          obtain rfl := g1.of_int
          obtain rfl := g2.of_int
          obtain ⟨i, rfl⟩ : ∃ i, b = some i := Option.ne_none_iff_exists'.mp (hn (by simp))
          obtain rfl := db.of_int
          refine ⟨_, rfl, rfl, _, rfl, ?_⟩
          refine iteT ?_
          refine ⟨_, rfl, _, rfl, t, _, 1, _, rfl, rfl, st, rfl, _, _, rfl, rfl, (ro p rfl).1, rfl, ?_⟩
          have hQ : Q (.bl (!decide (i % p.2 = 0))) H := hQ
          rw [dec_ints]
          exact hQ
end
end Aw

namespace Aw
open PySem PySem.Spec PyProof.Rows L2 NdefX
/-! ### ~x by an own __invert__ -/
section
variable {X : Cx} {C f : Addr} {fd : FuncData} {ps : List Str} {sp : Sp} {k : Nat} {CX : CXT}
def rInvO (C : Addr) (sp : Sp) : V → Hp → VK → Prop := fun x H Q => ∃ (a dx : Addr) (fs : List (Str × V)), x = .ref a ∧ H a = some (.ins C dx fs) ∧ sp [.ref a] H Q E0
theorem un_invO (hs : PySem.W.findIn X.K (.ref C) "__invert__" = some (some (.ref f))) (hf : PySem.W.isFn X.K (.ref f) = true) (F : FnOk X.prog X.w X.K X.mg X.base CX0 k f fd ps sp) (hr : Room k X.A) (hb : Binds X.K fd ps []) : UnR X (unaryOp .Invert) (rInvO C sp) := by
  intro pins s σ H x v Q I rx h
  obtain ⟨a, dx, fs, rfl, ha, hsp⟩ := h
  cases rx
  obtain ⟨mA, J, _⟩ := ins_get I.hok ha
  obtain ⟨od, J, _⟩ := J.look
  obtain ⟨m, hF⟩ := I.fr
  exact PySem.W.ksp_inv hF I.ok.mod.kin J hs hf (run_fn (vs := [V.ref a]) (us := [Value.ref a]) (ds := []) (dvs := []) F hr hb .nil pass0 I (.cons rfl .nil) hsp)
end
/-! ### Step.__invert__ -/
structure OthK (K : PySem.W.Frag) (w : World) (mg : Str → Option Value) (d : Addr) (es : Array DictEntry) (n : Nat) : Prop where
  g : mg "OTHER_KINDS" = some (.ref d)
  D : KDict K w d es n
  no : ∀ z, otherL.lookup z = none → PySem.W.nsIn K d z = some none
  yes : ∀ z y, otherL.lookup z = some y → ∃ u, PySem.W.nsIn K d z = some (some u) ∧ RelV (.str y) u
def invFact (p : Str × Row) : Bool := if p.2.1 = "roll" then (match p.2.2.1 with | some b => decide (stepT "roll" (-b) none = textOf (invR p.2)) && decide ((-b).natAbs.log2 < 1920) | none => false) else (match otherL.lookup p.2.1 with
  | none => decide (invR p.2 = p.2)
  | some o => if ownB p.2.2.1 p.2.2.2 = true then decide (invR p.2 = p.2) else decide (o ++ cutS p.1 (some (p.2.1.length : Nat)) none = textOf (invR p.2)) && decide (o.length ≤ 100) && (p.2.2.2.isNone || p.2.2.1.isSome))
theorem known_fact : ∀ p ∈ known, invFact p = true := by decide +kernel
def byRest (p : Str × Row) : Bool := p.2.2.2.isNone || (p.2.2.1.isSome || decide (p.2.1 = "flip"))
theorem known_byRest : ∀ p ∈ known, byRest p = true := by decide +kernel
theorem other_flip : otherL.lookup ("flip" : Str) = none := by decide +kernel
def spSInv (K : PySem.W.Frag) (CS : Addr) : Sp := fun vs H Q _ => ∃ (a : Addr) (x : Str) (r : Row), vs = [.ref a] ∧ StepAt K CS H a x r ∧ ∀ b H', Same H H' → StepAt K CS H' b (textOf (invR r)) (invR r) → Q (.ref b) H'
section
variable {P : Program} {w : World} {K : PySem.W.Frag} {mg : Str → Option Value} {base : Heap} {CS CB fP fI fTx fOw dO : Addr} {eO : Array DictEntry} {nO : Nat}
theorem scSInv : FnScope ["self", "tail"] ["self"] (defScope sSInv) := ⟨rfl, rfl, rfl, by decide +kernel, rfl, by decide +kernel, by decide +kernel⟩
theorem ok_sinv {f : Addr} {fd id td od : FuncData} (F : Fun K "__invert__" "Step.__invert__" sSInv f fd) (O : TxtO P K mg CS CB fP fI) (kO : OthK K w mg dO eO nO) (gLn : mg "len" = none)
    (GSI : FnOk P w K mg base (L2.CX P w) 3 fI id ["self", "text"] (spInit K CS CB)) (bSI : Binds K id ["self", "text"] [])
    (GTx : FnOk P w K mg base CX0 1 fTx td ["kind", "by", "rest"] (spSText K)) (FTx : Fun K "step_text" "step_text" sSText fTx td) (bTx : Binds K td ["kind", "by", "rest"] []) (gTx : mg "step_text" = some (.ref fTx))
    (GOw : FnOk P w K mg base CX0 1 fOw od ["by", "rest"] (spOwnI K)) (FOw : Fun K "is_own_inverse" "is_own_inverse" sOwnI fOw od) (bOw : Binds K od ["by", "rest"] []) (gOw : mg "is_own_inverse" = some (.ref fOw)) : FnOk P w K mg base CX0 5 f fd ["self"] (spSInv K CS) := by
  refine F.ok scSInv (fun vs H Q E h => ?_) (fun cdv A outer s H vs Q E hr h => ?_)
  · obtain ⟨a, x, r, rfl, _⟩ := h
    rfl
  · obtain ⟨a, x, r, rfl, S, hQ⟩ := h
    have nd := scSInv.nd
    refine ⟨_, (pss_cons (ps_if (pt_cmpR op_eq (pe_fld (pv 0) rfl) pe_str (nomark _))
        (pss_one (ps_ret (pe_makeS O.mkr GSI (hr.mono (by decide)) (by rfl) O.g bSI (fun σ => passE σ) (pa_cons (pe_call GTx (hr.mono (by decide)) (by rfl) gTx FTx.kp bTx .nil pass0 (pa_cons pe_str (pa_cons (pe_un un_neg (pe_fld (pv 0) rfl)) (pa_cons pe_non pa_nil)))) pa_nil)))) pss_nil)
      (pss_cons (ps_if (PW.pt (pw_or (pt_cmpR (op_notIn_kd kO.D) (pe_fld (pv 0) rfl) (pe_glob (v := .ref dO) (by rfl) kO.g rfl) (by rfl)) (pw_or1 (pt_val (pe_call GOw (hr.mono (by decide)) (by rfl) gOw FOw.kp bOw .nil pass0 (pa_cons (pe_fld (pv 0) rfl) (pa_cons (pe_fld (pv 0) rfl) pa_nil)))))))
        (pss_one (ps_ret (pv 0))) pss_nil)
      (pss_cons (ps_set (i := 1) nd rfl (Or.inl rfl) (pe_slice sl_str (pe_fld (pv 0) rfl) (po_some (pe_callB call_len_str (by rfl) gLn PySem.boot_len (pa_cons (pe_fld (pv 0) rfl) pa_nil))) po_none))
      (pss_one (ps_ret (pe_makeS O.mkr GSI (hr.mono (by decide)) (by rfl) O.g bSI (fun σ => passE σ) (pa_cons (pe_joined (.cons (pe_fmt (pe_kd kO.D (pe_glob (v := .ref dO) (by rfl) kO.g rfl) (pe_fld (pv 0) rfl) (fun _ _ => rfl))) (.cons (pe_fmt (pv 1)) .nil))) pa_nil))))))), ?_⟩
    obtain ⟨dx, bv, tv, ea, db, dt⟩ := S.ex
    have hk := parse_iff.mp S.pr
    have ex : textOf r = x := known_text _ hk
    have fact := known_fact _ hk
    have inR := (known_invR _ hk).1
    unfold invFact at fact
    obtain ⟨k, b, o⟩ := r
    dsimp only at fact ea db dt ex inR
    have hp : parse (textOf (invR (k, b, o))) = some (invR (k, b, o)) := parse_iff.mpr inR
    have hl : (textOf (invR (k, b, o))).length ≤ 1000 := Nat.le_trans (known_short _ inR) (by decide)
    refine ⟨_, rfl, a, CS, dx, _, _, rfl, ea, O.cl, O.nK, gKind, rfl, _, rfl, ?_⟩
    refine ite_str (fun e => ?_) (fun e => ?_)
    · rw [if_pos e] at fact
      subst e
      cases b with
      | none => cases fact
      | some b =>
        obtain ⟨f1, f2⟩ := Bool.and_eq_true_iff.mp fact
        have f1 := of_decide_eq_true f1
        have f2 := of_decide_eq_true f2
        obtain rfl := db.of_int
        refine ⟨_, rfl, a, CS, dx, _, _, rfl, ea, O.cl, O.nB, gBy, b, rfl, ?_⟩
        refine ⟨"roll", -b, .non, none, rfl, .non, ⟨f2, fun p h => (by cases h), by rw [f1]; exact hl⟩, ?_⟩
        rw [f1]
        exact make_parse hp hl fun c H' s' sc => hQ c H' s' sc
    rw [if_neg e] at fact
    have self : invR (k, b, o) = (k, b, o) → Q (.ref a) H := fun z => by
      refine hQ a H (fun _ _ e => e) ?_
      rw [z, ex]
      exact S
    have ro := known_rest S.pr
    have byr := known_byRest _ hk
    cases ho : otherL.lookup k with
    | none =>
      rw [ho] at fact
      refine ⟨_, rfl, a, CS, dx, _, _, rfl, ea, O.cl, O.nK, gKind, k, none, rfl, rfl, kO.no k ho, _, rfl, ?_⟩
      refine iteT ?_
      exact ⟨_, rfl, self (of_decide_eq_true fact)⟩
    | some y =>
      rw [ho] at fact
      dsimp only at fact
      obtain ⟨u, hu, ru⟩ := kO.yes k y ho
      refine ⟨_, rfl, a, CS, dx, _, _, rfl, ea, O.cl, O.nK, gKind, k, some u, rfl, rfl, hu, _, rfl, ?_⟩
      refine iteF ?_
      have hbn : o ≠ none → b ≠ none := fun z => by
        unfold byRest at byr
        dsimp only at byr
        rw [Bool.or_eq_true, Bool.or_eq_true] at byr
        rcases byr with h | h | h
        · exact absurd (Option.isNone_iff_eq_none.mp h) z
        · exact fun q => by rw [q] at h; cases h
        · have := of_decide_eq_true h
          rw [this, other_flip] at ho
          cases ho
      refine ⟨_, rfl, a, CS, dx, _, _, rfl, ea, O.cl, O.nB, gBy, _, rfl, a, CS, dx, _, _, rfl, ea, O.cl, O.nR, gRest, bv, tv, b, o, rfl, db, dt, ro, hbn, _, rfl, ?_⟩
      by_cases w : ownB b o = true
      · rw [w]
        refine iteT ?_
        rw [if_pos w] at fact
        exact ⟨_, rfl, self (of_decide_eq_true fact)⟩
      · rw [Bool.not_eq_true] at w
        rw [w]
        refine iteF ?_
        rw [if_neg (by rw [w]; decide)] at fact
        obtain ⟨f1, f3⟩ := Bool.and_eq_true_iff.mp fact
        obtain ⟨f1, f2⟩ := Bool.and_eq_true_iff.mp f1
        have f1 := of_decide_eq_true f1
        have f2 := of_decide_eq_true f2
        have lx : x.length ≤ 1000 := Nat.le_trans (known_short _ hk) (by decide)
        have lk : k.length ≤ 1000 := by
          have : ∀ p ∈ known, p.2.1.length ≤ 1000 := by decide +kernel
          exact this _ hk
        have hz : ∀ {x : Str}, x.length ≤ 1000 → x.length ≤ sizeLine := fun h => Nat.le_trans h kz
        refine ⟨_, rfl, a, CS, dx, _, _, rfl, ea, O.cl, O.nT, gText, _, rfl, a, CS, dx, _, _, rfl, ea, O.cl, O.nK, gKind, k, rfl, hz lk, _, rfl, x, rfl, hz lx, ?_⟩
        have ec : (y ++ cutS x (some (k.length : Nat)) none) = textOf (invR (k, b, o)) := f1
        have lc : (cutS x (some (k.length : Nat)) none).length ≤ 1000 := by
          have h2 : (y ++ cutS x (some (k.length : Nat)) none).length ≤ 1000 := by rw [ec]; exact hl
          rw [Str.length_append] at h2
          omega
        refine ⟨_, rfl, a, CS, dx, _, _, rfl, ea, O.cl, O.nK, gKind, k, u, .str y, rfl, rfl, hu, ru, .inl ⟨y, rfl, hz (by omega), y, rfl, ?_, _, rfl, .inl ⟨_, rfl, hz lc, _, rfl, ?_, ?_⟩⟩⟩
        · rw [emp_app]; exact hz (by omega)
        · rw [emp_app, ec]; exact hz hl
        · rw [emp_app, ec]
          exact make_parse hp hl fun c H' s' sc => hQ c H' s' sc
end
end Aw

namespace Aw
open PySem PySem.Spec PyProof.Rows L2 NdefX
/-- the number in a value -/
def iV : V → Int
  | .int i => i
  | _ => 0
def byOkB (v : V) : Bool := numB v (-3) 3 && !decide (iV v = 0)
theorem numB_int {v : V} {lo hi : Int} (h : numB v lo hi = true) : ∃ i, v = .int i ∧ lo ≤ i ∧ i ≤ hi := by
  cases v with
  | int i =>
    have h : (decide (lo ≤ i) && decide (i ≤ hi)) = true := h
    rw [Bool.and_eq_true, decide_eq_true_eq, decide_eq_true_eq] at h
    exact ⟨i, rfl, h⟩
  | _ => cases h
/-- a check of one value: refused by BadNumber of it -/
def spChk (ok : Bool) (CN : Addr) (v : V) (H : Hp) (Q : VK) (E : XK) : Prop := (ok = false → ∀ d H', Same H H' → H d = none → H' d = some (.xd [("number", v)]) → E (.ref CN) (some d) H') ∧ (ok = true → Q .non H)
def spChkBy (CN : Addr) : Sp := fun vs H Q E => ∃ v, vs = [v] ∧ VOk H v ∧ spChk (byOkB v) CN v H Q E
def spChkOf (CN : Addr) : Sp := fun vs H Q E => ∃ v lo, vs = [v, .int lo] ∧ VOk H v ∧ spChk (numB v lo 4) CN v H Q E
def spChkAt (CN : Addr) : Sp := fun vs H Q E => ∃ v i, vs = [v, .int i] ∧ VOk H v ∧ spChk (numB v 0 (i - 1)) CN v H Q E
/-- the pair of a step, or None -/
def restO (a o : Int) : Option (Int × Int) := if o = 1 then none else some (a, o)
def spRoN (K : PySem.W.Frag) : Sp := fun vs H Q _ => ∃ a o, vs = [.int a, .int o] ∧ ∀ u H', Same H H' → Dq K H' u (restD (restO a o)) → Q u H'
section
variable {P : Program} {w : World} {K : PySem.W.Frag} {mg : Str → Option Value} {base : Heap} {CN fNum : Addr}
theorem scChkBy : FnScope ["by"] ["by"] (defScope sChkBy) := ⟨rfl, rfl, rfl, by decide +kernel, rfl, by decide +kernel, by decide +kernel⟩
theorem scChkOf : FnScope ["of", "low"] ["of", "low"] (defScope sChkOf) := ⟨rfl, rfl, rfl, by decide +kernel, rfl, by decide +kernel, by decide +kernel⟩
theorem scChkAt : FnScope ["at", "of"] ["at", "of"] (defScope sChkAt) := ⟨rfl, rfl, rfl, by decide +kernel, rfl, by decide +kernel, by decide +kernel⟩
theorem scRoN : FnScope ["at", "of"] ["at", "of"] (defScope sRoN) := ⟨rfl, rfl, rfl, by decide +kernel, rfl, by decide +kernel, by decide +kernel⟩
theorem ok_chkby {f : Addr} {fd nd' : FuncData} (F : Fun K "check_by" "check_by" sChkBy f fd) (En : Err P K mg "BadNumber" "number" "number" CN)
    (GNum : FnOk P w K mg base CX0 1 fNum nd' ["value", "low", "high"] spNum) (FNum : Fun K "is_number" "is_number" sNum fNum nd') (bNum : Binds K nd' ["value", "low", "high"] []) (gNum : mg "is_number" = some (.ref fNum)) : FnOk P w K mg base (L2.CX P w) 3 f fd ["by"] (spChkBy CN) := by
  refine F.okX scChkBy (fun vs H Q E h => ?_) (fun cdv A outer s H vs Q E hr h => ?_)
  · obtain ⟨v, rfl, _⟩ := h
    rfl
  · obtain ⟨v, rfl, hv, kE, kQ⟩ := h
    have nd := scChkBy.nd
    refine ⟨_, (pss_one (ps_if (PW.pt (pw_or (pt_not (pt_val (pe_call GNum (hr.mono (by decide)) (by rfl) gNum FNum.kp bNum .nil pass0 (pa_cons (pv 0) (pa_cons (pe_un un_neg pe_int) (pa_cons pe_int pa_nil)))))) (pw_or1 (pt_cmpR op_eq (pv 0) pe_int (nomark _)))))
        (pss_one (ps_raise rfl (takes_of rfl rfl rfl rfl) (pmk_err En hr (by rfl) (pa_cons (pv 0) pa_nil)))) pss_nil)), ?_⟩
    refine ⟨_, rfl, 3, rfl, v, -3, 3, rfl, hv, _, rfl, ?_⟩
    unfold byOkB at kE kQ
    cases hb : numB v (-3) 3 with
    | false =>
      rw [hb] at kE
      refine iteT ?_
      refine ⟨_, rfl, mkS_ans fun d hd => ?_⟩
      exact kE rfl d _ (same_upd hd) hd upd_same
    | true =>
      rw [hb] at kE kQ
      obtain ⟨i, rfl, _, _⟩ := numB_int hb
      refine iteF ?_
      refine ⟨_, rfl, rfl, _, rfl, ?_⟩
      refine ite_int (fun e => ?_) (fun e => ?_)
      · refine ⟨_, rfl, mkS_ans fun d hd => ?_⟩
        refine kE ?_ d _ (same_upd hd) hd upd_same
        show (true && !decide (i = 0)) = false
        rw [decide_eq_true e]; rfl
      · refine kQ ?_
        show (true && !decide (i = 0)) = true
        rw [decide_eq_false e]; rfl
theorem ok_chkof {f : Addr} {fd nd' : FuncData} (F : Fun K "check_of" "check_of" sChkOf f fd) (En : Err P K mg "BadNumber" "number" "number" CN)
    (GNum : FnOk P w K mg base CX0 1 fNum nd' ["value", "low", "high"] spNum) (FNum : Fun K "is_number" "is_number" sNum fNum nd') (bNum : Binds K nd' ["value", "low", "high"] []) (gNum : mg "is_number" = some (.ref fNum)) : FnOk P w K mg base (L2.CX P w) 3 f fd ["of", "low"] (spChkOf CN) := by
  refine F.okX scChkOf (fun vs H Q E h => ?_) (fun cdv A outer s H vs Q E hr h => ?_)
  · obtain ⟨v, lo, rfl, _⟩ := h
    rfl
  · obtain ⟨v, lo, rfl, hv, kE, kQ⟩ := h
    have nd := scChkOf.nd
    refine ⟨_, (pss_one (ps_if (pt_not (pt_val (pe_call GNum (hr.mono (by decide)) (by rfl) gNum FNum.kp bNum .nil pass0 (pa_cons (pv 0) (pa_cons (pv 1) (pa_cons pe_int pa_nil))))))
        (pss_one (ps_raise rfl (takes_of rfl rfl rfl rfl) (pmk_err En hr (by rfl) (pa_cons (pv 0) pa_nil)))) pss_nil)), ?_⟩
    refine ⟨_, rfl, _, rfl, v, lo, 4, rfl, hv, _, rfl, ?_⟩
    cases hb : numB v lo 4 with
    | false =>
      refine iteT ?_
      refine ⟨_, rfl, mkS_ans fun d hd => ?_⟩
      exact kE hb d _ (same_upd hd) hd upd_same
    | true => exact iteF (kQ hb)
theorem ok_chkat {f : Addr} {fd nd' : FuncData} (F : Fun K "check_at" "check_at" sChkAt f fd) (En : Err P K mg "BadNumber" "number" "number" CN)
    (GNum : FnOk P w K mg base CX0 1 fNum nd' ["value", "low", "high"] spNum) (FNum : Fun K "is_number" "is_number" sNum fNum nd') (bNum : Binds K nd' ["value", "low", "high"] []) (gNum : mg "is_number" = some (.ref fNum)) : FnOk P w K mg base (L2.CX P w) 3 f fd ["at", "of"] (spChkAt CN) := by
  refine F.okX scChkAt (fun vs H Q E h => ?_) (fun cdv A outer s H vs Q E hr h => ?_)
  · obtain ⟨v, i, rfl, _⟩ := h
    rfl
  · obtain ⟨v, i, rfl, hv, kE, kQ⟩ := h
    have nd := scChkAt.nd
    refine ⟨_, (pss_one (ps_if (pt_not (pt_val (pe_call GNum (hr.mono (by decide)) (by rfl) gNum FNum.kp bNum .nil pass0 (pa_cons (pv 0) (pa_cons pe_int (pa_cons (pe_op op_sub (pv 1) pe_int) pa_nil))))))
        (pss_one (ps_raise rfl (takes_of rfl rfl rfl rfl) (pmk_err En hr (by rfl) (pa_cons (pv 0) pa_nil)))) pss_nil)), ?_⟩
    refine ⟨_, rfl, _, rfl, i, 1, rfl, rfl, v, 0, i - 1, rfl, hv, _, rfl, ?_⟩
    cases hb : numB v 0 (i - 1) with
    | false =>
      refine iteT ?_
      refine ⟨_, rfl, mkS_ans fun d hd => ?_⟩
      exact kE hb d _ (same_upd hd) hd upd_same
    | true => exact iteF (kQ hb)
theorem ok_ron {f : Addr} {fd : FuncData} (F : Fun K "rest_or_none" "rest_or_none" sRoN f fd) : FnOk P w K mg base CX0 1 f fd ["at", "of"] (spRoN K) := by
  refine F.ok scRoN (fun vs H Q E h => ?_) (fun cdv A outer s H vs Q E hr h => ?_)
  · obtain ⟨a, o, rfl, _⟩ := h
    rfl
  · obtain ⟨a, o, rfl, hQ⟩ := h
    have nd := scRoN.nd
    refine ⟨_, (pss_one (ps_ret (pe_ifExp (pt_cmpR op_eq (pv 1) pe_int (nomark _)) pe_non (pe_tup (pa_cons (pv 0) (pa_cons (pv 1) pa_nil)))))), ?_⟩
    refine ⟨_, rfl, rfl, _, rfl, ?_⟩
    unfold restO at hQ
    refine ite_int (fun e => ?_) (fun e => ?_)
    · rw [if_pos e] at hQ
      exact hQ _ H (fun _ _ z => z) .non
    · rw [if_neg e] at hQ
      refine ⟨_, rfl, _, rfl, by show 2 ≤ sizeLine; decide, fun t ht => ?_⟩
      exact hQ _ _ (same_upd ht) (.tup (SqT.of upd_same) (.cons (.int _) (.cons (.int _) .nil)))
end
end Aw

namespace Aw
open PySem PySem.Spec PyProof.Rows L2 NdefX
/-! ### f(e, .., k = v, ..), an own def that may raise within a try -/
section
variable {X : Cx} {CX : CXT} {k n : Nat} {f : Addr} {fd : FuncData} {ps ks : List Str} {sp : Sp} {E : Aw.St → XK} {x : Str} {p pos : Pos} {e : Expr} {es : List Expr} {kws : List Keyword} {t tk : TA} {g : List Value → List Value → List Value} {gV : List V → List V → List V}
def tCallNS (n m : Nat) (sp : Sp) (gV : List V → List V → List V) (E : Aw.St → XK) (t tk : TA) : TE := fun σ H Q => t σ H fun vs H1 => tk σ H1 fun zs H2 => vs.length = n ∧ zs.length = m ∧ sp (gV vs zs) H2 Q (E σ)
theorem run_fnNS {pins : List (Addr × Obj)} {σ : Aw.St} {H : Hp} {s : Shared} {Q : VK} {us ws : List Value} {vs zs : List V} (F : FnOk X.prog X.w X.K X.mg X.base CX k f fd ps sp) (hr : Room k X.A) (hb : KBn X.K fd ps n ks g gV) (hx : PassesAt CX X σ (E σ))
    (I : Inv X pins σ H s) (r : Vals vs us) (rz : Vals zs ws) (l1 : vs.length = n) (l2 : zs.length = ks.length) (h : sp (gV vs zs) H Q (E σ)) : wpAny (model X.prog X.w) X.A (call (.ref f) us (ks.zip ws)) (EP X pins σ Q) X.xe s := by
  have r2 := hb.rel r rz
  refine wpAny_call (codeAny_mono (F.run X.A X.stack s H ⟨us, ks.zip ws⟩ (g us ws) (gV vs zs) Q (E σ) hr I.env0 (hb.to s us ws I.kIn (r.length.symm.trans l1) (rz.length.symm.trans l2)) r2 h) fun r s' hq => ?_)
  cases r with
  | error e => exact hx pins H s e s' I hq
  | ok fl =>
    cases fl with
    | ret u => exact I.after hq
    | next => exact False.elim hq
    | brk => exact False.elim hq
    | cont => exact False.elim hq
theorem pe_callNS (F : FnOk X.prog X.w X.K X.mg X.base CX k f fd ps sp) (hr : Room k X.A) (hg : Gl X x) (hm : X.mg x = some (.ref f)) (hk : PySem.W.keepIn X.K (.ref f) = true) (hb : KBn X.K fd ps n ks g gV) (hx : ∀ σ, PassesAt CX X σ (E σ))
    (ha : PA X (e :: es) t) (hkw : PK X kws tk) (hall : (backToKw pos (keywordEach kws X.env)).all (·.1.isSome) = true := by rfl) (hks : (backToKw pos (keywordEach kws X.env)).filterMap (·.1) = ks := by rfl)
    (hdb : (x == ("__debug__" : Str)) = false := by decide) (he : starEach (e :: es) X.env = (false, eval e X.env) :: starEach es X.env := by rfl)
    (hpl : ((backTo pos (starEach (e :: es) X.env)).any (·.1) || (backToKw pos (keywordEach kws X.env)).any (·.1.isNone)) = false := by rfl) :
    PE X (.Call (.Name x p) (e :: es) kws pos) (tCallNS n ks.length sp gV E t tk) := by
  refine ⟨fun pins s σ H Q I h => ?_⟩
  refine wpAny_Call_Name_kw (ld_glob I hg hm ?_ hdb)
  refine PySem.W.callWith_KW (h₀ := X.base) I.ok.mod.kin hk hall (thn (ha.run pos pins s σ H _ I h) fun us s1 ⟨vs, H1, I1, r, q⟩ => ?_) hpl he
  refine thn (hkw.run pos pins s1 σ H1 _ I1 q) fun ws s2 ⟨zs, H2, I2, rz, l1, l2, q2⟩ => ⟨I2.kIn, ?_⟩
  rw [hks]
  exact run_fnNS F hr hb (hx σ) I2 r rz l1 l2 q2
theorem pe_callNS0 (F : FnOk X.prog X.w X.K X.mg X.base CX k f fd ps sp) (hr : Room k X.A) (hg : Gl X x) (hm : X.mg x = some (.ref f)) (hk : PySem.W.keepIn X.K (.ref f) = true) (hb : KBn X.K fd ps 0 ks g gV) (hx : ∀ σ, PassesAt CX X σ (E σ))
    (hkw : PK X kws tk) (hall : (backToKw pos (keywordEach kws X.env)).all (·.1.isSome) = true := by rfl) (hks : (backToKw pos (keywordEach kws X.env)).filterMap (·.1) = ks := by rfl)
    (hdb : (x == ("__debug__" : Str)) = false := by decide) (hpl : ((backTo pos (starEach [] X.env)).any (·.1) || (backToKw pos (keywordEach kws X.env)).any (·.1.isNone)) = false := by rfl) :
    PE X (.Call (.Name x p) [] kws pos) (tCallNS 0 ks.length sp gV E tNil tk) := by
  refine ⟨fun pins s σ H Q I h => ?_⟩
  refine wpAny_Call_Name_kw (ld_glob I hg hm ?_ hdb)
  refine PySem.W.callWith_KW0 (h₀ := X.base) I.ok.mod.kin hk hall ?_ hpl
  refine thn (hkw.run pos pins s σ H _ I h) fun ws s2 ⟨zs, H2, I2, rz, l1, l2, q2⟩ => ⟨I2.kIn, ?_⟩
  rw [hks]
  exact run_fnNS (us := []) (vs := []) F hr hb (hx σ) I2 .nil rz rfl l2 q2
end
end Aw

namespace Aw
open PySem PySem.Spec PyProof.Rows L2 NdefX
/-! ### the keys of a written dict of the top, walked -/
/-- the keys of the entries, in their order -/
def KeysAre (es : Array DictEntry) (zs : List Str) : Prop := es.size = zs.length ∧ ∀ i (hi : i < es.size), ∃ z t, zs[i]? = some z ∧ es[i].key = .str z t
def Itkd (zs : List Str) : It := ⟨fun i _ => i < zs.length, fun i H x H' => H' = H ∧ ∃ z, zs[i]? = some z ∧ x = .str z, fun i _ => zs.length ≤ i⟩
theorem kd_raw {X : Cx} {d : Addr} {es : Array DictEntry} {n : Nat} (D : KDict X.K X.w d es n) {pins : List (Addr × Obj)} {σ : Aw.St} {H : Hp} {s : Shared} (I : Inv X pins σ H s) : s.heap.DictRaw d es n :=
  ⟨_, I.kIn _ _ D.at_, ⟨rfl, rfl, rfl⟩, rfl⟩
theorem turn_kd {P : Program} {w : World} {K : PySem.W.Frag} {tg : Expr} {d : Addr} {es : Array DictEntry} {n : Nat} {zs : List Str} (D : KDict K w d es n) (hz : KeysAre es zs) (it : Addr) : Turn P w K tg (Itkd zs) [it] it (fun i h => h.IsKeyIter it d i es.size n) where
  mem := by simp
  obj := fun i h st b hb => by
    have e : b = it := by simpa using hb
    subst e
    obtain ⟨oi, e, c, dd⟩ := st
    exact ⟨oi, e, fun v z => by rw [dd] at z; cases z⟩
  keep := fun i h h' st k => st.at fun oi e => k it (by simp) oi e
  item := by
    intro X hP hw hK hc i pins s σ H E I hf st hg
    subst hP hw hK
    obtain ⟨f0, f1, f2, f3, f4, f5⟩ := hf it (by simp)
    have hi : i < es.size := by rw [hz.1]; exact hg
    obtain ⟨z, t, e1, e2⟩ := hz.2 i hi
    refine wpAny_pyNext_keys_item_raw st (kd_raw D I) hi fun h' st' sb => ?_
    have I1 : Inv X pins σ H { s with heap := h' } := I.turned (t' := s.toks) (fun b ob hb e => (sb.2 b hb).trans e) f0 f1 f3 f4 f5
    obtain ⟨oi, e, c, dd⟩ := id st'
    exact ⟨_, rfl, go_of (s := { s with heap := h' }) e c dd (by decide) ⟨.str z, H, I1, ⟨t, e2⟩, ⟨rfl, z, e1, rfl⟩, st', fun b hb => (hf b hb).1⟩⟩
  done := by
    intro X hP hw hK hc i pins s σ H E I hf st hg
    subst hP hw hK
    obtain ⟨f0, f1, f2, f3, f4, f5⟩ := hf it (by simp)
    exact wpAny_pyNext_keys_end_raw (I.ok.hd hc) st (kd_raw D I) (by rw [hz.1]; exact hg) fun h' eb => ⟨rfl, I.turned (t' := s.toks) (fun b ob hb e => eb b ob hb e) f0 f1 f3 f4 f5⟩
  self := fun A i s Q E st h => wpAny_pyIter_keyiter st h
theorem pi_kd {X : Cx} {tg e : Expr} {td : TE} {d : Addr} {es : Array DictEntry} {n : Nat} {zs : List Str} (D : KDict X.K X.w d es n) (hz : KeysAre es zs) (he : PE X e td) : PI X tg e (fun σ H R => td σ H fun x H1 => x = .ref d ∧ R (Itkd zs) H1) := by
  refine ⟨fun pins s σ H R I h => ?_⟩
  refine thn (he.run pins s σ H _ I h) fun u s1 ⟨x, H1, I1, rx, ex, q⟩ => ?_
  subst ex
  obtain rfl : u = Value.ref d := rx
  exact wpAny_pyIter_dict_raw D.low (kd_raw D I1) (pi_one (tk := s1.toks) I1 _ (turn_kd D hz _) ⟨_, Heap.get?_push_size _ rfl, rfl, rfl⟩ q)
theorem for_kd {zs : List Str} {g : TG} {tb : TS} {D : Ends} {σ : Aw.St} {H : Hp} (Pv : Nat → Aw.St → Hp → Prop) (h0 : Pv 0 σ H)
    (hs : ∀ i z σ H, zs[i]? = some z → Pv i σ H → g (.str z) σ H fun σ2 H2 => tb { D with nx := Pv (i + 1), ct := Pv (i + 1), bk := D.nx } σ2 H2) (hd : ∀ σ H, Pv zs.length σ H → D.nx σ H) :
    ∃ W : Nat → Nat → Aw.St → Hp → Prop, (∃ m, W 0 m σ H) ∧ ∀ i m σ H, W i m σ H →
      ((Itkd zs).stop i H ∧ D.nx σ H) ∨ ((Itkd zs).go i H ∧ ∃ N : Aw.St → Hp → Prop, (∀ σ' H', N σ' H' → ∃ m', m' < m ∧ W (i + 1) m' σ' H') ∧ ∀ x H', (Itkd zs).yld i H x H' → g x σ H' fun σ2 H2 => tb { D with nx := N, ct := N, bk := D.nx } σ2 H2) := by
  refine ⟨fun i m σ H => m = zs.length - i ∧ i ≤ zs.length ∧ Pv i σ H, ⟨zs.length, by simp, Nat.zero_le _, h0⟩, ?_⟩
  rintro i m σ H ⟨rfl, hi, p⟩
  by_cases hlt : i < zs.length
  · refine .inr ⟨hlt, Pv (i + 1), fun σ' H' p' => ⟨zs.length - (i + 1), by omega, rfl, hlt, p'⟩, fun x H' y => ?_⟩
    obtain ⟨rfl, z, e, rfl⟩ := y
    exact hs i z σ _ e p
  · have e : i = zs.length := by omega
    subst e
    exact .inl ⟨Nat.le_refl _, hd σ H p⟩
theorem lc_kd {zs : List Str} {g : TG} {tt : TT} {te : TE} {vs : List Nat} {σ : Aw.St} {H1 : Hp} {D : Addr} {Qd : Hp → Prop} (Pv : Nat → Hp → Prop) (h0 : Pv 0 (upd H1 D (.lst [])))
    (hs : ∀ i z H, zs[i]? = some z → Pv i H → g (.str z) (wipe σ vs) H fun σ2 H2 => wipe σ2 vs = wipe σ vs ∧ tt σ2 H2 fun b H3 =>
      if b = true then te σ2 H3 fun y H4 => ∃ acc, H4 D = some (.lst acc) ∧ acc.length < sizeLine ∧ Pv (i + 1) (upd H4 D (.lst (acc ++ [y]))) else Pv (i + 1) H3) (hd : ∀ H, Pv zs.length H → Qd H) :
    ∃ W : Nat → Nat → Hp → Prop, (∃ m, W 0 m (upd H1 D (.lst []))) ∧ ∀ i m H, W i m H →
      ((Itkd zs).stop i H ∧ Qd H) ∨ ((Itkd zs).go i H ∧ ∃ Nx : Hp → Prop, (∀ H', Nx H' → ∃ m', m' < m ∧ W (i + 1) m' H') ∧ ∀ x H', (Itkd zs).yld i H x H' → g x (wipe σ vs) H' fun σ2 H2 => wipe σ2 vs = wipe σ vs ∧ tt σ2 H2 fun b H3 =>
        if b = true then te σ2 H3 fun y H4 => ∃ acc, H4 D = some (.lst acc) ∧ acc.length < sizeLine ∧ Nx (upd H4 D (.lst (acc ++ [y]))) else Nx H3) := by
  refine ⟨fun i m H => m = zs.length - i ∧ i ≤ zs.length ∧ Pv i H, ⟨zs.length, by simp, Nat.zero_le _, h0⟩, ?_⟩
  rintro i m H ⟨rfl, hi, p⟩
  by_cases hlt : i < zs.length
  · refine .inr ⟨hlt, Pv (i + 1), fun H' p' => ⟨zs.length - (i + 1), by omega, rfl, hlt, p'⟩, fun x H' y => ?_⟩
    obtain ⟨rfl, z, e, rfl⟩ := y
    exact hs i z _ e p
  · have e : i = zs.length := by omega
    subst e
    exact .inl ⟨Nat.le_refl _, hd H p⟩
end Aw

namespace Aw
open PySem PySem.Spec PyProof.Rows L2 NdefX
/-! ### sorted(texts), any number of them -/
def leS (x y : Str) : Bool := decide (x.cps.toList ≤ y.cps.toList)
theorem leS_data : PySem.W.dataLe false PyData.str = leS := PySem.W.dataLe_str fun x => x
theorem leS_trans (x y z : Str) (h1 : leS x y = true) (h2 : leS y z = true) : leS x z = true := decide_eq_true (List.le_trans (of_decide_eq_true h1) (of_decide_eq_true h2))
theorem leS_total (x y : Str) : (leS x y || leS y x) = true := by
  rcases List.le_total x.cps.toList y.cps.toList with h | h
  · rw [show leS x y = true from decide_eq_true h]; rfl
  · rw [show leS y x = true from decide_eq_true h, Bool.or_true]
theorem leS_anti (x y : Str) (h1 : leS x y = true) (h2 : leS y x = true) : x = y := PySem.W.str_of_cps (List.le_antisymm (of_decide_eq_true h1) (of_decide_eq_true h2))
/-- in order -/
def srt (l : List Str) : List Str := l.mergeSort leS
theorem srt_perm (l : List Str) : (srt l).Perm l := List.mergeSort_perm l leS
theorem srt_pair (l : List Str) : (srt l).Pairwise (fun x y => leS x y = true) := List.pairwise_mergeSort (le := leS) (fun a b c => leS_trans a b c) (fun a b => leS_total a b) l
theorem srt_one {a l : List Str} (hp : a.Perm l) (ha : a.Pairwise (fun x y => leS x y = true)) : a = srt l :=
  PySem.W.Srt.the_of_perm leS leS_trans leS_total leS_anti hp ha
theorem srt_filter {a l : List Str} (p : Str → Bool) (h : (a.filter p).Perm l) : (srt a).filter p = srt l :=
  srt_one (((srt_perm a).filter p).trans h) ((srt_pair a).filter p)
def rSortedT (K : PySem.W.Frag) : List V → Hp → VK → Prop := fun vs H Q => ∃ (a : Addr) (zs : List Str), vs = [V.ref a] ∧ SqL K H a (zs.map V.str) ∧ ∀ p, H p = none → Q (.ref p) (upd H p (.lst ((srt zs).map V.str)))
theorem strs_each : ∀ {zs : List Str} {its : List Value}, Vals (zs.map V.str) its → PySem.W.EachIs (fun v (z : Str) => RelV (.str z) v) its zs
  | [], _, .nil => .nil
  | _ :: _, _, .cons r rs => .cons r (strs_each rs)
theorem each_strs : ∀ {zs : List Str} {its : List Value}, PySem.W.EachIs (fun v (z : Str) => RelV (.str z) v) its zs → Vals (zs.map V.str) its
  | _, _, .nil => .nil
  | _, _, .cons r rs => .cons r (each_strs rs)
theorem cr_sortedT {X : Cx} (hu : X.A.units + 64 < cLine) : CallR X (.builtin "sorted") (rSortedT X.K) := by
  intro pins s σ H vs us Q I r h
  obtain ⟨a, zs, rfl, hs, q⟩ := h
  obtain ⟨its, rv, hl, hz⟩ := I.list hs
  rw [Vals.ref1 r]
  have he := strs_each rv
  rw [List.length_map] at hz
  refine PySem.W.sorted_data (bs := zs) (enc := PyData.str) hl.isList he (he.mono fun v b hv => ?_) (fun d hd d' hd' => ?_) (.inr fun d hd => ?_) hz (fun b hb => ?_) fun out h1 h2 => ?_
  · obtain ⟨t, rfl⟩ := hv
    exact ⟨[], .str _ _⟩
  · obtain ⟨b, _, rfl⟩ := List.mem_map.mp hd
    obtain ⟨b', _, rfl⟩ := List.mem_map.mp hd'
    rfl
  · obtain ⟨b, _, rfl⟩ := List.mem_map.mp hd
    exact ⟨fun z => (by cases z), fun xs z => (by cases z)⟩
  · show X.A.units + 2 + (PyData.str b).depth < cLine
    have : (PyData.str b).depth ≤ 1 := by simp [PyData.depth]
    omega
  · rw [leS_data] at h2
    obtain ⟨ep, he'⟩ := PyProof.Rows.sortedAll_at s.heap its out.toArray
    have hlen : ((srt zs).map V.str).length ≤ sizeLine := by
      rw [List.length_map, (srt_perm zs).length_eq]
      exact hz
    exact ⟨.ref _, upd H (s.heap.objs.size + 1) (.lst ((srt zs).map V.str)), I.laid (t' := s.toks) (fun _ _ => PyProof.Rows.sortedAll_old) (Nat.le_succ _) ⟨hlen, out, ep, each_strs h2, he'⟩, rfl, q _ (I.hok.fresh (Nat.le_succ _))⟩
end Aw

namespace Aw
open PySem PySem.Spec PyProof.Rows L2 NdefX
/-! ### the step that is due, or the number that is refused -/
def rollDue (b : V) : V ⊕ Row := if byOkB b = false then .inl b else .inr ("roll", some (iV b), none)
def nearDue (b a o : V) : V ⊕ Row := if byOkB b = false then .inl b else if numB o 1 4 = false then .inl o else if numB a 0 (iV o - 1) = false then .inl a else .inr ("near", some (iV b), restO (iV a) (iV o))
def sumDue (b a o : V) : V ⊕ Row := if byOkB b = false then .inl b else if numB o 1 4 = false then .inl o else if ¬ iV b % iV o = 0 then .inl o else if numB a 0 (iV o - 1) = false then .inl a else .inr ("sum", some (iV b), restO (iV a) (iV o))
def flipDue (a o : V) : V ⊕ Row := if numB o 2 4 = false then .inl o else if numB a 0 (iV o - 1) = false then .inl a else .inr ("flip", none, some (iV a, iV o))
def rowGood (r : Row) : Bool := decide ((textOf r, r) ∈ known)
def byN : List Int := [-3, -2, -1, 1, 2, 3]
theorem roll_good : ∀ b ∈ byN, stepT "roll" b none = textOf ("roll", some b, none) ∧ rowGood ("roll", some b, none) = true := by decide +kernel
theorem near_good : ∀ b ∈ byN, ∀ o ∈ ([1, 2, 3, 4] : List Int), ∀ a ∈ ([0, 1, 2, 3] : List Int), a < o → stepT "near" b (restO a o) = textOf ("near", some b, restO a o) ∧ rowGood ("near", some b, restO a o) = true := by decide +kernel
theorem sum_good : ∀ b ∈ byN, ∀ o ∈ ([1, 2, 3, 4] : List Int), ∀ a ∈ ([0, 1, 2, 3] : List Int), a < o → b % o = 0 → stepT "sum" b (restO a o) = textOf ("sum", some b, restO a o) ∧ rowGood ("sum", some b, restO a o) = true := by decide +kernel
theorem flip_good : ∀ o ∈ ([2, 3, 4] : List Int), ∀ a ∈ ([0, 1, 2, 3] : List Int), a < o → ("flip " ++ strI a ++ " of " ++ strI o : Str) = textOf ("flip", none, some (a, o)) ∧ rowGood ("flip", none, some (a, o)) = true := by decide +kernel
theorem mem_by {i : Int} (h0 : -3 ≤ i) (h1 : i ≤ 3) (h : i ≠ 0) : i ∈ byN := by
  have : i = -3 ∨ i = -2 ∨ i = -1 ∨ i = 1 ∨ i = 2 ∨ i = 3 := by omega
  unfold byN
  simp only [List.mem_cons, List.not_mem_nil, or_false]
  exact this
theorem mem_o {i : Int} (h0 : 1 ≤ i) (h1 : i ≤ 4) : i ∈ ([1, 2, 3, 4] : List Int) := by
  simp only [List.mem_cons, List.not_mem_nil, or_false]
  omega
theorem mem_o2 {i : Int} (h0 : 2 ≤ i) (h1 : i ≤ 4) : i ∈ ([2, 3, 4] : List Int) := by
  simp only [List.mem_cons, List.not_mem_nil, or_false]
  omega
theorem mem_a {i : Int} (h0 : 0 ≤ i) (h1 : i ≤ 3) : i ∈ ([0, 1, 2, 3] : List Int) := by
  simp only [List.mem_cons, List.not_mem_nil, or_false]
  omega
theorem byOk_int {v : V} (h : byOkB v = true) : ∃ i, v = .int i ∧ -3 ≤ i ∧ i ≤ 3 ∧ i ≠ 0 := by
  obtain ⟨h1, h2⟩ := Bool.and_eq_true_iff.mp h
  obtain ⟨i, rfl, h3, h4⟩ := numB_int h1
  exact ⟨i, rfl, h3, h4, of_decide_eq_false ((Bool.not_eq_true' _).mp h2)⟩
theorem log_small {i : Int} (h : i.natAbs < 1000) : i.natAbs.log2 < 1920 := Nat.lt_of_le_of_lt (Nat.log2_le_self _) (by omega)
theorem row_known {r : Row} (h : rowGood r = true) : parse (textOf r) = some r ∧ (textOf r).length ≤ 1000 := by
  have hm : (textOf r, r) ∈ known := of_decide_eq_true h
  exact ⟨parse_iff.mpr hm, Nat.le_trans (known_short _ hm) (by decide)⟩
theorem smST_of {k : Str} {b : Int} {ro : Option (Int × Int)} (hb : b.natAbs < 1000) (hp : ∀ p, ro = some p → p.1.natAbs < 1000 ∧ p.2.natAbs < 1000) (hl : (stepT k b ro).length ≤ 1000) : smST k b ro :=
  ⟨log_small hb, fun p e => ⟨log_small (hp p e).1, log_small (hp p e).2⟩, hl⟩
theorem restO_small {a o : Int} (h1 : a.natAbs < 1000) (h2 : o.natAbs < 1000) : ∀ p, restO a o = some p → p.1.natAbs < 1000 ∧ p.2.natAbs < 1000 := fun p e => by
  unfold restO at e
  split at e
  · cases e
  · cases e; exact ⟨h1, h2⟩
/-- what such a function answers -/
def spMade (K : PySem.W.Frag) (CS CN : Addr) (due : V ⊕ Row) (H : Hp) (Q : VK) (E : XK) : Prop := (∀ v, due = .inl v → ∀ d H', Same H H' → H d = none → H' d = some (.xd [("number", v)]) → E (.ref CN) (some d) H') ∧
  (∀ r, due = .inr r → ∀ a H', Same H H' → StepAt K CS H' a (textOf r) r → Q (.ref a) H')
def spRoll (K : PySem.W.Frag) (CS CN : Addr) : Sp := fun vs H Q E => ∃ b, vs = [b] ∧ VOk H b ∧ spMade K CS CN (rollDue b) H Q E
def spNear (K : PySem.W.Frag) (CS CN : Addr) : Sp := fun vs H Q E => ∃ b a o, vs = [b, a, o] ∧ VOk H b ∧ VOk H a ∧ VOk H o ∧ spMade K CS CN (nearDue b a o) H Q E
def spSum (K : PySem.W.Frag) (CS CN : Addr) : Sp := fun vs H Q E => ∃ b a o, vs = [b, a, o] ∧ VOk H b ∧ VOk H a ∧ VOk H o ∧ spMade K CS CN (sumDue b a o) H Q E
def spFlipS (K : PySem.W.Frag) (CS CN : Addr) : Sp := fun vs H Q E => ∃ a o, vs = [a, o] ∧ VOk H a ∧ VOk H o ∧ spMade K CS CN (flipDue a o) H Q E
section
variable {P : Program} {w : World} {K : PySem.W.Frag} {mg : Str → Option Value} {base : Heap} {CS CB CN fP fI fTx fBy fOf fAt fRn : Addr}
theorem scRoll : FnScope ["by"] ["by"] (defScope sRoll) := ⟨rfl, rfl, rfl, by decide +kernel, rfl, by decide +kernel, by decide +kernel⟩
theorem scNearS : FnScope ["by", "at", "of"] ["by", "at", "of"] (defScope sNearS) := ⟨rfl, rfl, rfl, by decide +kernel, rfl, by decide +kernel, by decide +kernel⟩
theorem scSumS : FnScope ["by", "at", "of"] ["by", "at", "of"] (defScope sSumS) := ⟨rfl, rfl, rfl, by decide +kernel, rfl, by decide +kernel, by decide +kernel⟩
theorem scFlipS : FnScope ["at", "of"] ["at", "of"] (defScope sFlipS) := ⟨rfl, rfl, rfl, by decide +kernel, rfl, by decide +kernel, by decide +kernel⟩
/-- what these functions call -/
structure TxtSR (P : Program) (w : World) (K : PySem.W.Frag) (mg : Str → Option Value) (base : Heap) (CS CB CN fP fI fTx fBy fOf fAt fRn : Addr) (dI dTx dBy dOf dAt dRn : FuncData) : Prop where
  O : TxtO P K mg CS CB fP fI
  GI : FnOk P w K mg base (L2.CX P w) 3 fI dI ["self", "text"] (spInit K CS CB)
  bI : Binds K dI ["self", "text"] []
  GTx : FnOk P w K mg base CX0 1 fTx dTx ["kind", "by", "rest"] (spSText K)
  FTx : Fun K "step_text" "step_text" sSText fTx dTx
  bTx : Binds K dTx ["kind", "by", "rest"] []
  gTx : mg "step_text" = some (.ref fTx)
  GBy : FnOk P w K mg base (L2.CX P w) 3 fBy dBy ["by"] (spChkBy CN)
  FBy : Fun K "check_by" "check_by" sChkBy fBy dBy
  bBy : Binds K dBy ["by"] []
  gBy : mg "check_by" = some (.ref fBy)
  GOf : FnOk P w K mg base (L2.CX P w) 3 fOf dOf ["of", "low"] (spChkOf CN)
  FOf : Fun K "check_of" "check_of" sChkOf fOf dOf
  bOf : Binds K dOf ["of", "low"] []
  gOf : mg "check_of" = some (.ref fOf)
  GAt : FnOk P w K mg base (L2.CX P w) 3 fAt dAt ["at", "of"] (spChkAt CN)
  FAt : Fun K "check_at" "check_at" sChkAt fAt dAt
  bAt : Binds K dAt ["at", "of"] []
  gAt : mg "check_at" = some (.ref fAt)
  GRn : FnOk P w K mg base CX0 1 fRn dRn ["at", "of"] (spRoN K)
  FRn : Fun K "rest_or_none" "rest_or_none" sRoN fRn dRn
  bRn : Binds K dRn ["at", "of"] []
  gRn : mg "rest_or_none" = some (.ref fRn)
  En : Err P K mg "BadNumber" "number" "number" CN
theorem ok_roll {f : Addr} {fd dI dTx dBy dOf dAt dRn : FuncData} (F : Fun K "roll_step" "roll_step" sRoll f fd) (R : TxtSR P w K mg base CS CB CN fP fI fTx fBy fOf fAt fRn dI dTx dBy dOf dAt dRn) : FnOk P w K mg base (L2.CX P w) 5 f fd ["by"] (spRoll K CS CN) := by
  refine F.okX scRoll (fun vs H Q E h => ?_) (fun cdv A outer s H vs Q E hr h => ?_)
  · obtain ⟨b, rfl, _⟩ := h
    rfl
  · obtain ⟨b, rfl, hb, kE, kQ⟩ := h
    have nd := scRoll.nd
    refine ⟨_, (pss_cons (ps_expr (pe_callS R.GBy (hr.mono (by decide)) (by rfl) R.gBy R.FBy.kp R.bBy (fun σ => passAt (takes_of rfl rfl rfl rfl) σ) (pa_cons (pv 0) pa_nil)))
      (pss_one (ps_ret (pe_makeS R.O.mkr R.GI hr (by rfl) R.O.g R.bI (fun σ => passE σ) (pa_cons (pe_call R.GTx (hr.mono (by decide)) (by rfl) R.gTx R.FTx.kp R.bTx .nil pass0 (pa_cons pe_str (pa_cons (pv 0) (pa_cons pe_non pa_nil)))) pa_nil))))), ?_⟩
    unfold rollDue at kE kQ
    refine ⟨_, rfl, b, rfl, hb, fun hz => ?_, fun hz => ?_⟩
    · rw [if_pos hz] at kE
      exact kE b rfl
    · rw [if_neg (by rw [hz]; decide)] at kQ
      obtain ⟨i, rfl, h1, h2, h3⟩ := byOk_int hz
      obtain ⟨g1, g2⟩ := roll_good i (mem_by h1 h2 h3)
      obtain ⟨g3, g4⟩ := row_known g2
      refine ⟨_, rfl, "roll", i, .non, none, rfl, .non, smST_of (by omega) (fun p e => by cases e) (by rw [g1]; exact g4), ?_⟩
      rw [g1]
      exact make_parse g3 g4 fun c H' s' sc => kQ _ rfl c H' s' sc
theorem ok_nearS {f : Addr} {fd dI dTx dBy dOf dAt dRn : FuncData} {dvs : List V} {kws : List (Str × V)} (F : FunD K "near_step" "near_step" (defArgs sNearS) (defBody sNearS) (defScope sNearS) dvs kws f fd) (R : TxtSR P w K mg base CS CB CN fP fI fTx fBy fOf fAt fRn dI dTx dBy dOf dAt dRn) : FnOk P w K mg base (L2.CX P w) 5 f fd ["by", "at", "of"] (spNear K CS CN) := by
  refine F.ok scNearS (fun vs H Q E h => ?_) (fun cdv A outer s H vs Q E hr h => ?_)
  · obtain ⟨b, a, o, rfl, _⟩ := h
    rfl
  · obtain ⟨b, a, o, rfl, hb, ha, ho, kE, kQ⟩ := h
    have nd := scNearS.nd
    refine ⟨_, (pss_cons (ps_expr (pe_callS R.GBy (hr.mono (by decide)) (by rfl) R.gBy R.FBy.kp R.bBy (fun σ => passAt (takes_of rfl rfl rfl rfl) σ) (pa_cons (pv 0) pa_nil)))
      (pss_cons (ps_expr (pe_callS R.GOf (hr.mono (by decide)) (by rfl) R.gOf R.FOf.kp R.bOf (fun σ => passAt (takes_of rfl rfl rfl rfl) σ) (pa_cons (pv 2) (pa_cons pe_int pa_nil))))
      (pss_cons (ps_expr (pe_callS R.GAt (hr.mono (by decide)) (by rfl) R.gAt R.FAt.kp R.bAt (fun σ => passAt (takes_of rfl rfl rfl rfl) σ) (pa_cons (pv 1) (pa_cons (pv 2) pa_nil))))
      (pss_one (ps_ret (pe_makeS R.O.mkr R.GI hr (by rfl) R.O.g R.bI (fun σ => passE σ) (pa_cons (pe_call R.GTx (hr.mono (by decide)) (by rfl) R.gTx R.FTx.kp R.bTx .nil pass0 (pa_cons pe_str (pa_cons (pv 0) (pa_cons (pe_call R.GRn (hr.mono (by decide)) (by rfl) R.gRn R.FRn.kp R.bRn .nil pass0 (pa_cons (pv 1) (pa_cons (pv 2) pa_nil))) pa_nil)))) pa_nil))))))), ?_⟩
    unfold nearDue at kE kQ
    refine ⟨_, rfl, b, rfl, hb, fun hz => ?_, fun hz => ?_⟩
    · rw [if_pos hz] at kE
      exact kE b rfl
    rw [if_neg (by rw [hz]; decide)] at kE kQ
    refine ⟨_, rfl, o, 1, rfl, ho, fun hy => ?_, fun hy => ?_⟩
    · rw [if_pos hy] at kE
      exact kE o rfl
    rw [if_neg (by rw [hy]; decide)] at kE kQ
    obtain ⟨i, rfl, h1, h2, h3⟩ := byOk_int hz
    obtain ⟨j, rfl, h4, h5⟩ := numB_int hy
    refine ⟨_, rfl, _, rfl, a, j, rfl, ha, fun hx => ?_, fun hx => ?_⟩
    · rw [if_pos (show numB a 0 (iV (.int j) - 1) = false from hx)] at kE
      exact kE a rfl
    have hx' : ¬ numB a 0 (iV (.int j) - 1) = false := by rw [show iV (.int j) - 1 = j - 1 from rfl, hx]; decide
    rw [if_neg hx'] at kQ
    obtain ⟨l, rfl, h6, h7⟩ := numB_int hx
    obtain ⟨g1, g2⟩ := near_good i (mem_by h1 h2 h3) j (mem_o h4 h5) l (mem_a h6 (by omega)) (by omega)
    obtain ⟨g3, g4⟩ := row_known g2
    refine ⟨_, rfl, _, rfl, _, rfl, l, j, rfl, fun u H1 s1 du => ⟨"near", i, u, restO l j, rfl, du, smST_of (by omega) (restO_small (by omega) (by omega)) (by rw [g1]; exact g4), ?_⟩⟩
    rw [g1]
    exact make_parse g3 g4 fun c H' s' sc => kQ _ rfl c H' (s1.trans s') sc
theorem ok_sumS {f : Addr} {fd dI dTx dBy dOf dAt dRn : FuncData} {dvs : List V} {kws : List (Str × V)} (F : FunD K "sum_step" "sum_step" (defArgs sSumS) (defBody sSumS) (defScope sSumS) dvs kws f fd) (R : TxtSR P w K mg base CS CB CN fP fI fTx fBy fOf fAt fRn dI dTx dBy dOf dAt dRn) : FnOk P w K mg base (L2.CX P w) 5 f fd ["by", "at", "of"] (spSum K CS CN) := by
  refine F.ok scSumS (fun vs H Q E h => ?_) (fun cdv A outer s H vs Q E hr h => ?_)
  · obtain ⟨b, a, o, rfl, _⟩ := h
    rfl
  · obtain ⟨b, a, o, rfl, hb, ha, ho, kE, kQ⟩ := h
    have nd := scSumS.nd
    refine ⟨_, (pss_cons (ps_expr (pe_callS R.GBy (hr.mono (by decide)) (by rfl) R.gBy R.FBy.kp R.bBy (fun σ => passAt (takes_of rfl rfl rfl rfl) σ) (pa_cons (pv 0) pa_nil)))
      (pss_cons (ps_expr (pe_callS R.GOf (hr.mono (by decide)) (by rfl) R.gOf R.FOf.kp R.bOf (fun σ => passAt (takes_of rfl rfl rfl rfl) σ) (pa_cons (pv 2) (pa_cons pe_int pa_nil))))
      (pss_cons (ps_if (pt_cmpR op_ne (pe_op op_mod (pv 0) (pv 2)) pe_int (nomark _))
        (pss_one (ps_raise rfl (takes_of rfl rfl rfl rfl) (pmk_err R.En (hr.mono (by decide)) (by rfl) (pa_cons (pv 2) pa_nil)))) pss_nil)
      (pss_cons (ps_expr (pe_callS R.GAt (hr.mono (by decide)) (by rfl) R.gAt R.FAt.kp R.bAt (fun σ => passAt (takes_of rfl rfl rfl rfl) σ) (pa_cons (pv 1) (pa_cons (pv 2) pa_nil))))
      (pss_one (ps_ret (pe_makeS R.O.mkr R.GI hr (by rfl) R.O.g R.bI (fun σ => passE σ) (pa_cons (pe_call R.GTx (hr.mono (by decide)) (by rfl) R.gTx R.FTx.kp R.bTx .nil pass0 (pa_cons pe_str (pa_cons (pv 0) (pa_cons (pe_call R.GRn (hr.mono (by decide)) (by rfl) R.gRn R.FRn.kp R.bRn .nil pass0 (pa_cons (pv 1) (pa_cons (pv 2) pa_nil))) pa_nil)))) pa_nil)))))))), ?_⟩
    unfold sumDue at kE kQ
    refine ⟨_, rfl, b, rfl, hb, fun hz => ?_, fun hz => ?_⟩
    · rw [if_pos hz] at kE
      exact kE b rfl
    rw [if_neg (by rw [hz]; decide)] at kE kQ
    refine ⟨_, rfl, o, 1, rfl, ho, fun hy => ?_, fun hy => ?_⟩
    · rw [if_pos hy] at kE
      exact kE o rfl
    rw [if_neg (by rw [hy]; decide)] at kE kQ
    obtain ⟨i, rfl, h1, h2, h3⟩ := byOk_int hz
    obtain ⟨j, rfl, h4, h5⟩ := numB_int hy
    refine ⟨_, rfl, _, rfl, i, j, rfl, rfl, by omega, rfl, _, rfl, ?_⟩
    by_cases hm : i % j = 0
    · rw [show (!decide (V.int (i % j) = V.int 0)) = false by rw [hm]; simp]
      refine iteF ?_
      rw [if_neg (fun z => z hm)] at kE kQ
      refine ⟨_, rfl, _, rfl, a, j, rfl, ha, fun hx => ?_, fun hx => ?_⟩
      · rw [if_pos (show numB a 0 (iV (.int j) - 1) = false from hx)] at kE
        exact kE a rfl
      have hx' : ¬ numB a 0 (iV (.int j) - 1) = false := by rw [show iV (.int j) - 1 = j - 1 from rfl, hx]; decide
      rw [if_neg hx'] at kQ
      obtain ⟨l, rfl, h6, h7⟩ := numB_int hx
      obtain ⟨g1, g2⟩ := sum_good i (mem_by h1 h2 h3) j (mem_o h4 h5) l (mem_a h6 (by omega)) (by omega) hm
      obtain ⟨g3, g4⟩ := row_known g2
      refine ⟨_, rfl, _, rfl, _, rfl, l, j, rfl, fun u H1 s1 du => ⟨"sum", i, u, restO l j, rfl, du, smST_of (by omega) (restO_small (by omega) (by omega)) (by rw [g1]; exact g4), ?_⟩⟩
      rw [g1]
      exact make_parse g3 g4 fun c H' s' sc => kQ _ rfl c H' (s1.trans s') sc
    · rw [show (!decide (V.int (i % j) = V.int 0)) = true by rw [decide_eq_false (fun z => hm (V.int.inj z))]; rfl]
      refine iteT ?_
      rw [if_pos (show ¬ iV (.int i) % iV (.int j) = 0 from hm)] at kE
      refine ⟨_, rfl, mkS_ans fun d hd => ?_⟩
      exact kE (.int j) rfl d _ (same_upd hd) hd upd_same
theorem ok_flipS {f : Addr} {fd dI dTx dBy dOf dAt dRn : FuncData} (F : Fun K "flip_step" "flip_step" sFlipS f fd) (R : TxtSR P w K mg base CS CB CN fP fI fTx fBy fOf fAt fRn dI dTx dBy dOf dAt dRn) : FnOk P w K mg base (L2.CX P w) 5 f fd ["at", "of"] (spFlipS K CS CN) := by
  refine F.okX scFlipS (fun vs H Q E h => ?_) (fun cdv A outer s H vs Q E hr h => ?_)
  · obtain ⟨a, o, rfl, _⟩ := h
    rfl
  · obtain ⟨a, o, rfl, ha, ho, kE, kQ⟩ := h
    have nd := scFlipS.nd
    refine ⟨_, (pss_cons (ps_expr (pe_callS R.GOf (hr.mono (by decide)) (by rfl) R.gOf R.FOf.kp R.bOf (fun σ => passAt (takes_of rfl rfl rfl rfl) σ) (pa_cons (pv 1) (pa_cons pe_int pa_nil))))
      (pss_cons (ps_expr (pe_callS R.GAt (hr.mono (by decide)) (by rfl) R.gAt R.FAt.kp R.bAt (fun σ => passAt (takes_of rfl rfl rfl rfl) σ) (pa_cons (pv 0) (pa_cons (pv 1) pa_nil))))
      (pss_one (ps_ret (pe_makeS R.O.mkr R.GI hr (by rfl) R.O.g R.bI (fun σ => passE σ) (pa_cons (pe_joined (.cons pe_str (.cons (pe_fmt (pv 0)) (.cons pe_str (.cons (pe_fmt (pv 1)) .nil))))) pa_nil)))))), ?_⟩
    unfold flipDue at kE kQ
    refine ⟨_, rfl, o, 2, rfl, ho, fun hy => ?_, fun hy => ?_⟩
    · rw [if_pos hy] at kE
      exact kE o rfl
    rw [if_neg (by rw [hy]; decide)] at kE kQ
    obtain ⟨j, rfl, h4, h5⟩ := numB_int hy
    refine ⟨_, rfl, _, rfl, a, j, rfl, ha, fun hx => ?_, fun hx => ?_⟩
    · rw [if_pos (show numB a 0 (iV (.int j) - 1) = false from hx)] at kE
      exact kE a rfl
    have hx' : ¬ numB a 0 (iV (.int j) - 1) = false := by rw [show iV (.int j) - 1 = j - 1 from rfl, hx]; decide
    rw [if_neg hx'] at kQ
    obtain ⟨l, rfl, h6, h7⟩ := numB_int hx
    obtain ⟨g1, g2⟩ := flip_good j (mem_o2 h4 h5) l (mem_a h6 (by omega)) (by omega)
    obtain ⟨g3, g4⟩ := row_known g2
    have hz : ∀ {x : Str}, x.length ≤ 1000 → x.length ≤ sizeLine := fun h => Nat.le_trans h kz
    rw [← g1] at g4
    have e2 := len_left g4
    have e3 := len_left e2
    have e4 := len_left e3
    refine ⟨"flip ", rfl, ?_, _, rfl, .inr ⟨l, rfl, log_small (by omega), _, rfl, ?_, " of ", rfl, ?_, _, rfl, .inr ⟨j, rfl, log_small (by omega), _, rfl, ?_, ?_⟩⟩⟩
    · rw [emp_app]; exact hz e4
    · rw [emp_app]; exact hz e3
    · rw [emp_app]; exact hz e2
    · rw [emp_app]; exact hz g4
    · rw [emp_app]
      rw [← g1] at g3
      exact make_parse g3 g4 fun c H' s' sc => kQ _ rfl c H' s' (by show StepAt K CS H' c (textOf ("flip", none, some (l, j))) ("flip", none, some (l, j)); rw [← g1]; exact sc)
end
end Aw

namespace Aw
open PySem PySem.Spec PyProof.Rows L2 NdefX
/-! ### the texts that are tried, in the order in which they are made -/
def kindsL : List Str := ["roll", "near", "sum"]
def pairsL : List Str := restL.map (·.1)
def numsL : List Str := numL.map (·.1)
def blockT (k n : Str) : List Str := (k ++ " " ++ n) :: pairsL.map fun p => k ++ " " ++ n ++ " at " ++ p
def txt0 : List Str := bareL ++ pairsL.map fun p => ("flip " : Str) ++ p
def kG (i : Nat) : Str := kindsL.getD i ""
def nG (j : Nat) : Str := numsL.getD j ""
def txA (i j : Nat) : List Str := txt0 ++ ((kindsL.take i).flatMap fun k => numsL.flatMap (blockT k)) ++ ((numsL.take j).flatMap (blockT (kG i)))
theorem txA_next : ∀ i < 3, txA i 6 = txA (i + 1) 0 := by decide +kernel
theorem txA_step : ∀ i < 3, ∀ j < 6, txA i (j + 1) = txA i j ++ blockT (kG i) (nG j) := by decide +kernel
theorem txA_len : ∀ i < 4, ∀ j < 7, (txA i j).length ≤ 300 := by decide +kernel
theorem txA_start : txA 0 0 = txt0 := by decide +kernel
theorem pairs_len : pairsL.length = 9 := rfl
theorem short_pair : ∀ p ∈ pairsL, p.length ≤ 20 := by decide +kernel
theorem short_num : ∀ p ∈ numsL, p.length ≤ 20 := by decide +kernel
theorem short_kind : ∀ p ∈ kindsL, p.length ≤ 20 := by decide +kernel
theorem all_known : ((txA 3 0).filter fun t => (parse t).isSome).Perm (known.map fun p : Str × Row => p.1) := by decide +kernel
theorem all_short : ∀ t ∈ txA 3 0, t.length ≤ 100 := by decide +kernel
theorem kG_short : ∀ i < 3, (kG i).length ≤ 20 := by decide +kernel
theorem kindAt3 {i : Nat} {x : V} (h : ([.str "roll", .str "near", .str "sum"] : List V)[i]? = some x) : i < 3 ∧ x = .str (kG i) := by
  match i, h with
  | 0, h => cases h; exact ⟨by decide, rfl⟩
  | 1, h => cases h; exact ⟨by decide, rfl⟩
  | 2, h => cases h; exact ⟨by decide, rfl⟩
  | n + 3, h => simp at h
theorem map_snoc {α : Type} {f : α → V} {l : List α} {m : Nat} {x : α} (h : l[m]? = some x) : (l.take (m + 1)).map f = (l.take m).map f ++ [f x] := by
  rw [List.take_succ, h, List.map_append]
  rfl
theorem small1000 {n : Nat} (h : n ≤ 1000) : n ≤ sizeLine := Nat.le_trans h kz
theorem app1000 {x y : Str} {a b : Nat} (h1 : x.length ≤ a) (h2 : y.length ≤ b) (h : a + b ≤ 1000) : (x ++ y).length ≤ sizeLine := by
  rw [Str.length_append]
  exact small1000 (by omega)
theorem app_le {x y : Str} {a b : Nat} (h1 : x.length ≤ a) (h2 : y.length ≤ b) : (x ++ y).length ≤ a + b := by
  rw [Str.length_append]
  omega
/-- the texts in order -/
def allT : List Str := srt (known.map fun p : Str × Row => p.1)
theorem StepAt.lst {K : PySem.W.Frag} {C : Addr} {H : Hp} {a b : Addr} {x : Str} {r : Row} {ys : List V} {o : HO} (S : StepAt K C H a x r) (h : H b = some (.lst ys)) : StepAt K C (upd H b o) a x r := by
  obtain ⟨dx, bv, t, e, h1, h2⟩ := S.ex
  exact ⟨⟨dx, bv, t, by rw [upd_ne (ne_of e h (fun z => by cases z))]; exact e, h1.keep (TK.lst h), h2.keep (TK.lst h)⟩, S.pr⟩
theorem StepsAt.lst {K : PySem.W.Frag} {C : Addr} {H : Hp} {b : Addr} {ys : List V} {o : HO} (h : H b = some (.lst ys)) : ∀ {vs : List V} {ps : List (Str × Row)}, StepsAt K C H vs ps → StepsAt K C (upd H b o) vs ps
  | _, _, .nil => .nil
  | _, _, .cons s t => .cons (s.lst h) (StepsAt.lst h t)
/-- their Steps -/
def rowsT : List Str → List (Str × Row)
  | [] => []
  | x :: l => match parse x with
    | none => rowsT l
    | some r => (x, r) :: rowsT l
theorem rowsT_app : ∀ {a b : List Str}, rowsT (a ++ b) = rowsT a ++ rowsT b
  | [], _ => rfl
  | x :: l, b => by
    show (match parse x with | none => rowsT (l ++ b) | some r => (x, r) :: rowsT (l ++ b)) = (match parse x with | none => rowsT l | some r => (x, r) :: rowsT l) ++ rowsT b
    cases parse x with
    | none => exact rowsT_app
    | some r => exact congrArg ((x, r) :: ·) rowsT_app
theorem rowsT_texts : ∀ {l : List Str}, ((rowsT l).map fun p : Str × Row => p.1) = l.filter fun t => (parse t).isSome
  | [] => rfl
  | x :: l => by
    rw [List.filter_cons]
    show ((match parse x with | none => rowsT l | some r => (x, r) :: rowsT l).map fun p : Str × Row => p.1) = _
    cases parse x with
    | none => exact rowsT_texts
    | some r => exact congrArg (x :: ·) rowsT_texts
theorem rowsT_all : ((rowsT (srt (txA 3 0))).map fun p : Str × Row => p.1) = allT := by
  rw [rowsT_texts]
  exact srt_filter _ all_known
end Aw

namespace Aw
open PySem PySem.Spec PyProof.Rows L2 NdefX
def spAllS (K : PySem.W.Frag) (CS : Addr) : Sp := fun vs H Q _ => vs = [] ∧ ∀ a xs H', Same H H' → H' a = some (.tup xs) → StepsAt K CS H' xs (rowsT (srt (txA 3 0))) → Q (.ref a) H'
structure TxtAS (K : PySem.W.Frag) (w : World) (mg : Str → Option Value) (dN dR tB : Addr) (eN eR : Array DictEntry) (nN nR : Nat) : Prop where
  S : TxtS K w mg dN dR tB eN eR nN nR
  kN : KeysAre eN numsL
  kR : KeysAre eR pairsL
  list : mg "list" = none
  tup : mg "tuple" = none
  sorted : mg "sorted" = none
section
variable {P : Program} {w : World} {K : PySem.W.Frag} {mg : Str → Option Value} {base : Heap} {CS CB CN fP fI fTx fBy fOf fAt fRn dN dR tB : Addr} {eN eR : Array DictEntry} {nN nR : Nat}
theorem scAllS : FnScope ["texts", "kind", "number", "pair", "text"] [] (defScope sAllS) := ⟨rfl, rfl, rfl, by decide +kernel, rfl, by decide +kernel, by decide +kernel⟩
theorem ok_allS {f : Addr} {fd dI dP : FuncData} (F : Fun K "all_steps" "all_steps" sAllS f fd) (T : TxtAS K w mg dN dR tB eN eR nN nR) (O : TxtO P K mg CS CB fP fI)
    (GI : FnOk P w K mg base (L2.CX P w) 3 fI dI ["self", "text"] (spInit K CS CB)) (bI : Binds K dI ["self", "text"] [])
    (GP : FnOk P w K mg base CX0 1 fP dP ["text"] (spParts K)) (FP : Fun K "step_parts" "step_parts" sParts fP dP) (bP : Binds K dP ["text"] []) : FnOk P w K mg base CX0 5 f fd [] (spAllS K CS) := by
  refine F.ok scAllS (fun vs H Q E h => ?_) (fun cdv A outer s H vs Q E hr h => ?_)
  · obtain ⟨rfl, _⟩ := h
    rfl
  · obtain ⟨rfl, hQ⟩ := h
    have nd := scAllS.nd
    refine ⟨_, (pss_cons (ps_set (i := 0) nd rfl (Or.inl rfl) (pe_callTy call_list_of (by rfl) T.list (by decide +kernel) (pa_cons (pe_glob (v := .ref tB) (by rfl) T.S.gB rfl) pa_nil)))
      (pss_cons (ps_expr (pe_bm PySem.F.plainAttrs_list PySem.F.slot_list_extend PySem.F.type_list_extend mt_extend (pv 0) (pa_cons (pe_lc (own := [("pair", 3)]) (g := (gName 3)) (tt := tYes) rfl nd (pi_kd T.S.rest.D T.kR (pe_glob (v := .ref dR) (by rfl) T.S.rest.g rfl)) (blkOk_by (own := [("pair", 3)]) (N := ["texts", "kind", "number", "pair", "text"]) (sc := defScope sAllS) (by decide +kernel)) (fun _ _ _ _ _ => (pg_name (i := 3) nd rfl (Or.inl rfl))) (fun _ _ _ _ _ => pts_nil) (fun _ _ _ _ _ => (pe_joined (.cons pe_str (.cons (pe_fmt (pv 3)) .nil))))) pa_nil)))
      (pss_cons (ps_for PassesOwn.never rfl (pi_tup (pe_tup (pa_cons pe_str (pa_cons pe_str (pa_cons pe_str pa_nil))))) (pg_name (i := 1) nd rfl (Or.inr rfl))
        (pss_one (ps_for PassesOwn.never rfl (pi_kd T.S.num.D T.kN (pe_glob (v := .ref dN) (by rfl) T.S.num.g rfl)) (pg_name (i := 2) nd rfl (Or.inr rfl))
          (pss_cons (ps_expr (pe_bm PySem.F.plainAttrs_list PySem.F.slot_list_append PySem.F.type_list_append mt_append (pv 0) (pa_cons (pe_joined (.cons (pe_fmt (pv 1)) (.cons pe_str (.cons (pe_fmt (pv 2)) .nil)))) pa_nil)))
          (pss_one (ps_expr (pe_bm PySem.F.plainAttrs_list PySem.F.slot_list_extend PySem.F.type_list_extend mt_extend (pv 0) (pa_cons (pe_lc (own := [("pair", 3)]) (g := (gName 3)) (tt := tYes) rfl nd (pi_kd T.S.rest.D T.kR (pe_glob (v := .ref dR) (by rfl) T.S.rest.g rfl)) (blkOk_by (own := [("pair", 3)]) (N := ["texts", "kind", "number", "pair", "text"]) (sc := defScope sAllS) (by decide +kernel)) (fun _ _ _ _ _ => (pg_name (i := 3) nd rfl (Or.inl rfl))) (fun _ _ _ _ _ => pts_nil) (fun _ _ _ _ _ => (pe_joined (.cons (pe_fmt (pv 1)) (.cons pe_str (.cons (pe_fmt (pv 2)) (.cons pe_str (.cons (pe_fmt (pv 3)) .nil)))))))) pa_nil))))))))
      (pss_one (ps_ret (pe_callTy call_tuple_of (by rfl) T.tup (by decide +kernel) (pa_cons (pe_lc (own := [("text", 4)]) (g := (gName 4)) rfl nd (pi_list (pe_callB (cr_sortedT hr.units) (by rfl) T.sorted (by decide +kernel) (pa_cons (pv 0) pa_nil))) (blkOk_by (own := [("text", 4)]) (N := ["texts", "kind", "number", "pair", "text"]) (sc := defScope sAllS) (by decide +kernel)) (fun _ _ _ _ _ => (pg_name (i := 4) nd rfl (Or.inl rfl))) (fun _ _ _ _ _ => pts_one (pt_cmpR op_notN (pe_call GP (hr.mono (by decide)) (by rfl) O.parts FP.kp bP .nil pass0 (pa_cons (pv 4) pa_nil)) pe_non (nomark _))) (fun _ _ _ _ _ => (pe_makeS O.mkr GI hr (by rfl) O.g bI (fun σ => passE σ) (pa_cons (pv 4) pa_nil)))) pa_nil))))))), ?_⟩
    refine ⟨tB, _, rfl, .inr (T.S.bare H), fun L hL => ?_⟩
    have eL : upd H L (.lst (bareL.map V.str)) L = some (.lst (bareL.map V.str)) := upd_same
    have sL := same_upd (o := .lst (bareL.map V.str)) hL
    generalize upd H L (.lst (bareL.map V.str)) = H1 at *
    refine ⟨_, rfl, .inl ⟨rfl, _, SqL.of eL⟩, rfl, fun D hD => ?_⟩
    refine lc_kd (zs := pairsL) (te := fun σ H Q => tJs [tC (.str "flip "), tFmt (tVar 3)] Str.empty σ H fun out H1 => Q (.str out) H1) (fun m H2 => Same H1 H2 ∧ H2 D = some (.lst ((pairsL.take m).map fun p => V.str (("flip " : Str) ++ p)))) ⟨same_upd hD, upd_same⟩ ?_ ?_
    · rintro m z H2 hz ⟨s2, e2⟩
      have lz := short_pair _ (List.mem_of_getElem? hz)
      have lm : m < 9 := (List.getElem?_eq_some_iff.mp hz).1
      refine ⟨rfl, "flip ", rfl, ?_, _, rfl, .inl ⟨z, rfl, small1000 (by omega), _, rfl, ?_, ?_⟩⟩
      · rw [emp_app]; decide
      · rw [emp_app]; exact app1000 (a := 10) (by decide) lz (by decide)
      · rw [emp_app]
        refine ⟨_, e2, small200' (by rw [List.length_map, List.length_take]; omega), same_fresh hD s2, ?_⟩
        rw [upd_same, map_snoc hz]
    · rintro H2 ⟨s2, e2⟩
      refine ⟨L, D, _, _, rfl, rfl, s2 _ _ eL, e2, ?_, ?_⟩
      · decide
      have eT : upd H2 L (.lst (bareL.map V.str ++ (pairsL.take pairsL.length).map fun p => V.str (("flip " : Str) ++ p))) L = some (.lst ((txA 0 0).map V.str)) := by
        rw [upd_same, List.take_length, txA_start, txt0, List.map_append, List.map_map]
        rfl
      have sT := same_fresh (o := .lst (bareL.map V.str ++ (pairsL.take pairsL.length).map fun p => V.str (("flip " : Str) ++ p))) hL (sL.trans s2)
      obtain ⟨H3, hH3⟩ : ∃ H3, upd H2 L (.lst (bareL.map V.str ++ (pairsL.take pairsL.length).map fun p => V.str (("flip " : Str) ++ p))) = H3 := ⟨_, rfl⟩
      show tSeq _ _ _ _ (upd H2 L (.lst (bareL.map V.str ++ (pairsL.take pairsL.length).map fun p => V.str (("flip " : Str) ++ p))))
      rw [hH3] at eT sT ⊢
      refine ⟨by show 3 ≤ sizeLine; decide, fun t3 ht3 => ⟨t3, rfl, ⟨_, SqT.of upd_same⟩, ?_⟩⟩
      obtain ⟨H4, hH4⟩ : ∃ H4, upd H3 t3 (.tup [.str "roll", .str "near", .str "sum"]) = H4 := ⟨_, rfl⟩
      have et3 : H4 t3 = some (.tup [.str "roll", .str "near", .str "sum"]) := by rw [← hH4, upd_same]
      have s34 : Same H3 H4 := by rw [← hH4]; exact same_upd ht3
      change ∃ W : Nat → Nat → Aw.St → Hp → Prop, (∃ m, W 0 m _ (upd H3 t3 (.tup [.str "roll", .str "near", .str "sum"]))) ∧ _
      rw [hH4]
      have st3 : H t3 = none := by
        cases e : H t3 with
        | none => rfl
        | some o => rw [sT _ _ e] at ht3; cases ht3
      have neL : t3 ≠ L := fun z => by rw [z, eT] at ht3; cases ht3
      refine for_tup (a := t3) (xs := [.str "roll", .str "near", .str "sum"]) (fun i σ H5 => ∃ (v1 v2 : Option V), σ = [some (.ref L), v1, v2, none, none] ∧ Same H H5 ∧ H5 L = some (.lst ((txA i 0).map V.str)) ∧ H5 t3 = some (.tup [.str "roll", .str "near", .str "sum"])) ⟨none, none, rfl, sT.trans s34, s34 _ _ eT, et3⟩ (fun i σ H5 hi p => by
        obtain ⟨_, _, _, _, _, e⟩ := p
        exact SqT.of e) ?_ ?_
      · rintro i x σ H5 hx ⟨v1, v2, rfl, s5, e5, et5⟩
        obtain ⟨hi, rfl⟩ := kindAt3 hx
        have lk : (kG i).length ≤ 20 := kG_short i hi
        refine ⟨rfl, ?_⟩
        refine for_kd (zs := numsL) (fun j σ H6 => ∃ (v2 : Option V), σ = [some (.ref L), some (.str (kG i)), v2, none, none] ∧ Same H H6 ∧ H6 L = some (.lst ((txA i j).map V.str)) ∧ H6 t3 = some (.tup [.str "roll", .str "near", .str "sum"])) ⟨_, rfl, s5, e5, et5⟩ ?_ ?_
        · rintro j z σ H6 hz ⟨v2, rfl, s6, e6, et6⟩
          have lz := short_num _ (List.mem_of_getElem? hz)
          have lj : j < 6 := (List.getElem?_eq_some_iff.mp hz).1
          have ez : z = nG j := by
            show z = (numsL.getD j "")
            rw [List.getD_eq_getElem?_getD, hz]
            rfl
          have lt := txA_len i (by omega) j (by omega)
          refine ⟨_, rfl, .inl ⟨rfl, _, SqL.of e6⟩, _, rfl, .inl ⟨kG i, rfl, small1000 (by omega), _, rfl, ?_, " ", rfl, ?_, _, rfl, .inl ⟨z, rfl, small1000 (by omega), _, rfl, ?_, ?_⟩⟩⟩
          · rw [emp_app]; exact small1000 (by omega)
          · rw [emp_app]; exact app1000 lk (b := 1) (by decide) (by decide)
          · rw [emp_app]; exact app1000 (app_le lk (b := 1) (by decide)) lz (by decide)
          rw [emp_app]
          refine ⟨_, _, _, rfl, rfl, e6, small200' (by rw [List.length_map]; omega), ?_⟩
          have eA : upd H6 L (.lst ((txA i j).map V.str ++ [.str (kG i ++ " " ++ z)])) L = some (.lst ((txA i j).map V.str ++ [.str (kG i ++ " " ++ z)])) := upd_same
          have sA := same_fresh (o := .lst ((txA i j).map V.str ++ [.str (kG i ++ " " ++ z)])) hL s6
          have etA : upd H6 L (.lst ((txA i j).map V.str ++ [.str (kG i ++ " " ++ z)])) t3 = some (.tup [.str "roll", .str "near", .str "sum"]) := by rw [upd_ne neL]; exact et6
          generalize upd H6 L (.lst ((txA i j).map V.str ++ [.str (kG i ++ " " ++ z)])) = H7 at *
          refine ⟨_, rfl, .inl ⟨rfl, _, SqL.of eA⟩, rfl, fun D2 hD2 => ?_⟩
          refine lc_kd (zs := pairsL) (te := fun σ H Q => tJs [tFmt (tVar 1), tC (.str " "), tFmt (tVar 2), tC (.str " at "), tFmt (tVar 3)] Str.empty σ H fun out H1 => Q (.str out) H1) (fun m H2 => Same H7 H2 ∧ H2 D2 = some (.lst ((pairsL.take m).map fun p => V.str (kG i ++ " " ++ z ++ " at " ++ p)))) ⟨same_upd hD2, upd_same⟩ ?_ ?_
          · rintro m y H8 hy ⟨s8, e8⟩
            have ly := short_pair _ (List.mem_of_getElem? hy)
            have lm : m < 9 := (List.getElem?_eq_some_iff.mp hy).1
            refine ⟨rfl, _, rfl, .inl ⟨kG i, rfl, small1000 (by omega), _, rfl, ?_, " ", rfl, ?_, _, rfl, .inl ⟨z, rfl, small1000 (by omega), _, rfl, ?_, " at ", rfl, ?_, _, rfl, .inl ⟨y, rfl, small1000 (by omega), _, rfl, ?_, ?_⟩⟩⟩⟩
            · rw [emp_app]; exact small1000 (by omega)
            · rw [emp_app]; exact app1000 lk (b := 1) (by decide) (by decide)
            · rw [emp_app]; exact app1000 (app_le lk (b := 1) (by decide)) lz (by decide)
            · rw [emp_app]; exact app1000 (app_le (app_le lk (b := 1) (by decide)) lz) (b := 4) (by decide) (by decide)
            · rw [emp_app]; exact app1000 (app_le (app_le (app_le lk (b := 1) (by decide)) lz) (b := 4) (by decide)) ly (by decide)
            rw [emp_app]
            refine ⟨_, e8, small200' (by rw [List.length_map, List.length_take]; omega), same_fresh hD2 s8, ?_⟩
            rw [upd_same, map_snoc hy]
          · rintro H8 ⟨s8, e8⟩
            refine ⟨L, D2, _, _, rfl, rfl, s8 _ _ eA, e8, ?_, ?_⟩
            · rw [List.length_append, List.length_map, List.length_map, List.length_take, pairs_len]
              exact small1000 (by show (txA i j).length + 1 + min 9 9 ≤ 1000; omega)
            refine ⟨_, rfl, same_fresh hL (sA.trans s8), ?_, by rw [upd_ne neL]; exact s8 _ _ etA⟩
            rw [upd_same, List.take_length, txA_step i hi j lj, ← ez, blockT, List.map_append, List.map_cons, List.map_map, List.append_assoc]
            rfl
        · rintro σ H6 ⟨v2, rfl, s6, e6, et6⟩
          refine ⟨_, _, rfl, s6, ?_, et6⟩
          rw [← txA_next i hi]
          exact e6
      · rintro σ H5 ⟨v1, v2, rfl, s5, e5, et5⟩
        have e5 : H5 L = some (.lst ((txA 3 0).map V.str)) := e5
        refine ⟨_, rfl, L, _, rfl, SqL.of e5, fun S hS => ⟨S, rfl, ⟨_, SqL.of upd_same⟩, fun D hD => ?_⟩⟩
        have eS : upd H5 S (.lst ((srt (txA 3 0)).map V.str)) S = some (.lst ((srt (txA 3 0)).map V.str)) := upd_same
        have sS := s5.trans (same_upd (o := .lst ((srt (txA 3 0)).map V.str)) hS)
        have lS : (srt (txA 3 0)).length ≤ 300 := by rw [(srt_perm _).length_eq]; exact txA_len 3 (by decide) 0 (by decide)
        refine lc_list (a := S) (xs := (srt (txA 3 0)).map V.str) (fun m H6 => Same (upd H5 S (.lst ((srt (txA 3 0)).map V.str))) H6 ∧ ∃ xs, H6 D = some (.lst xs) ∧ StepsAt K CS H6 xs (rowsT ((srt (txA 3 0)).take m)) ∧ xs.length ≤ m) ⟨same_upd hD, [], upd_same, .nil, Nat.le_refl _⟩ (fun m H6 hm p => SqL.of (p.1 _ _ eS)) ?_ ?_
        · rintro m x H6 hx ⟨s6, xs, e6, st, lx⟩
          obtain ⟨z, hz, rfl⟩ : ∃ z, (srt (txA 3 0))[m]? = some z ∧ x = .str z := by
            rw [List.getElem?_map] at hx
            cases e : (srt (txA 3 0))[m]? with
            | none => rw [e] at hx; cases hx
            | some z => rw [e] at hx; cases hx; exact ⟨z, rfl, rfl⟩
          have lm : m < 300 := by have := (List.getElem?_eq_some_iff.mp hz).1; omega
          have lz : z.length ≤ 100 := all_short _ ((srt_perm _).mem_iff.mp (List.mem_of_getElem? hz))
          have et : (srt (txA 3 0)).take (m + 1) = (srt (txA 3 0)).take m ++ [z] := by rw [List.take_succ, hz]; rfl
          refine ⟨rfl, _, rfl, .str z, rfl, .str z (by omega), fun hn H7 s7 => ?_, fun r hr u H7 s7 du => ?_⟩
          · have hn : parse z = none := hn
            refine ⟨rfl, _, rfl, ?_⟩
            refine ⟨s6.trans s7, xs, s7 _ _ e6, ?_, by omega⟩
            rw [et, rowsT_app, show rowsT [z] = [] by show (match parse z with | none => rowsT [] | some r => (z, r) :: rowsT []) = []; rw [hn]; rfl, List.append_nil]
            exact st.same s7
          · have hr : parse z = some r := hr
            obtain ⟨t, ws, rfl, _⟩ := du.of_tuple
            refine ⟨rfl, _, rfl, ?_⟩
            refine ⟨_, rfl, make_parse hr (by omega) fun c H8 s8 sc => ?_⟩
            refine ⟨xs, s8 _ _ (s7 _ _ e6), small200' (by omega), same_fresh hD ((s6.trans s7).trans s8), _, upd_same, ?_, ?_⟩
            · rw [et, rowsT_app, show rowsT [z] = [(z, r)] by show (match parse z with | none => rowsT [] | some r => (z, r) :: rowsT []) = [(z, r)]; rw [hr]; rfl]
              have tk : ∀ {a x r}, StepAt K CS H8 a x r → StepAt K CS (upd H8 D (.lst (xs ++ [.ref c]))) a x r := fun s => s.lst (s8 _ _ (s7 _ _ e6))
              exact ((st.same s7).same s8).lst (s8 _ _ (s7 _ _ e6)) |>.append (.cons (tk sc) .nil)
            · rw [List.length_append]
              show xs.length + 1 ≤ m + 1
              omega
        · rintro H6 ⟨s6, xs, e6, st, lx⟩
          rw [List.length_map, List.take_length] at st
          refine ⟨D, _, rfl, .inl ⟨SqL.of e6, fun q hq => ?_⟩⟩
          exact hQ q xs _ ((sS.trans s6).trans (same_upd hq)) upd_same (st.same (same_upd hq))
end
end Aw

namespace Aw
open PySem PySem.Spec PyProof.Rows L2 NdefX
/-! ### tests and values that change nothing that stands -/
def PureT (t : TT) (σ : Aw.St) (H : Hp) (c : Bool) : Prop := ∀ Q : Bool → Hp → Prop, (∀ H', Same H H' → Q c H') → t σ H Q
def PureE (t : TE) (σ : Aw.St) (H : Hp) (v : V) : Prop := ∀ Q : VK, (∀ H', Same H H' → Q v H') → t σ H Q
theorem nxt {D : Ends} {σ : Aw.St} {H : Hp} (h : D.nx σ H) : tNext D σ H := h
theorem seq {D : Ends} {t u : TS} {σ : Aw.St} {H : Hp} (h : t { D with nx := u D } σ H) : tSeq t u D σ H := h
theorem same_refl (H : Hp) : Same H H := fun _ _ z => z
section
variable {a b : TT} {σ : Aw.St} {H : Hp} {c d : Bool}
theorem PureT.and (ha : PureT a σ H c) (hb : c = true → ∀ H', Same H H' → PureT b σ H' d) : PureT (tAnd a b) σ H (c && d) := fun Q k => ha _ fun H1 s1 => by
  cases c with
  | true => exact iteT (hb rfl H1 s1 _ fun H2 s2 => k H2 (s1.trans s2))
  | false => exact iteF (k H1 s1)
theorem PureT.or (ha : PureT a σ H c) (hb : c = false → ∀ H', Same H H' → PureT b σ H' d) : PureT (tOr a b) σ H (c || d) := fun Q k => ha _ fun H1 s1 => by
  cases c with
  | true => exact iteT (k H1 s1)
  | false => exact iteF (hb rfl H1 s1 _ fun H2 s2 => k H2 (s1.trans s2))
theorem PureT.not (ha : PureT a σ H c) : PureT (tNot a) σ H (!c) := fun Q k => ha _ fun H1 s1 => k H1 s1
theorem PureT.ite {D : Ends} {t u : TS} {p : Prop} [Decidable p] (ha : PureT a σ H c) (hp : c = decide p) (h1 : p → ∀ H', Same H H' → t D σ H') (h2 : ¬ p → ∀ H', Same H H' → u D σ H') : tIfS a t u D σ H := ha _ fun H1 s1 => by
  rw [hp]
  exact ite_dec (fun z => h1 z H1 s1) (fun z => h2 z H1 s1)
theorem PureT.ite0 {D : Ends} {t : TS} {p : Prop} [Decidable p] (ha : PureT a σ H c) (hp : c = decide p) (h1 : p → ∀ H', Same H H' → t D σ H') (h2 : ¬ p → ∀ H', Same H H' → D.nx σ H') : tIfS a t tNext D σ H := ha _ fun H1 s1 => by
  rw [hp]
  exact ite_dec (fun z => h1 z H1 s1) (fun z => h2 z H1 s1)
end
end Aw

namespace Aw
open PySem PySem.Spec PyProof.Rows L2 NdefX
theorem in_ints {x : Int} {l : List Int} : inV (.int x) (l.map V.int) = decide (x ∈ l) := by
  induction l with
  | nil => rfl
  | cons y l ih =>
    have e : inV (.int x) ((y :: l).map V.int) = (eqV (.int y) (.int x) || inV (.int x) (l.map V.int)) := rfl
    rw [e, ih]
    have e2 : eqV (.int y) (.int x) = decide (y = x) := by
      show (y == x) = decide (y = x)
      by_cases h : y = x
      · subst h
        simp
      · simp [h]
    rw [e2]
    by_cases h : y = x
    · subst h
      simp
    · have h' : ¬ x = y := fun z => h z.symm
      simp [h, h']
theorem flat_ints (l : List Int) : (l.map V.int).all flatV = true := by
  induction l with
  | nil => rfl
  | cons y l ih => simp [List.map_cons, List.all_cons, flatV, ih]
theorem ite_nint {k j : Int} {A B : Prop} (h1 : k ≠ j → A) (h2 : k = j → B) : if (!decide (V.int k = V.int j)) = true then A else B := by
  by_cases e : k = j
  · rw [decide_eq_true (by rw [e])]
    exact iteF (h2 e)
  · rw [decide_eq_false (fun z => e (V.int.inj z))]
    exact iteT (h1 e)
theorem ite_inI {x : Int} {l : List Int} {A B : Prop} (h1 : x ∈ l → A) (h2 : ¬ x ∈ l → B) : if inV (.int x) (l.map V.int) = true then A else B := by
  rw [in_ints]
  exact ite_dec h1 h2
/-! ### what is due, as the law tells it -/
def oW (way : Int) (o : V) : V := if way ∈ ([4, 5, 7] : List Int) then .int 1 else o
def aW (way : Int) (a : V) : V := if way ∈ ([4, 5, 6] : List Int) then .int 0 else a
def kW (way : Int) : Str := if way ∈ ([2, 5, 7] : List Int) then "sum" else "near"
def lawDue (way : Int) (b a o : V) : V ⊕ Row :=
  if way ≠ 3 ∧ byOkB b = false then .inl b else
  if way = 0 then .inr ("roll", some (iV b), none) else
  if numB (oW way o) 1 4 = false ∨ (way = 3 ∧ iV (oW way o) = 1) then .inl (oW way o) else
  if way ∈ ([2, 5, 7] : List Int) ∧ ¬ iV b % iV (oW way o) = 0 then .inl (oW way o) else
  if numB (aW way a) 0 (iV (oW way o) - 1) = false then .inl (aW way a) else
  if way = 3 then .inr ("flip", none, some (iV (aW way a), iV (oW way o))) else .inr (kW way, some (iV b), restO (iV (aW way a)) (iV (oW way o)))
theorem boolA (way : Int) (b : V) : (!decide (V.int way = V.int 3) && (!numB b (-3) 3 || decide (b = V.int 0))) = decide (way ≠ 3 ∧ byOkB b = false) := by
  rw [dec_ints]
  by_cases e : way = 3
  · subst e
    simp
  · rw [decide_eq_false e]
    unfold byOkB
    cases hb : numB b (-3) 3 with
    | false => simp [e]
    | true =>
      obtain ⟨i, rfl, _, _⟩ := numB_int hb
      rw [dec_ints]
      simp [e, iV]
      first | rfl | exact decide_eq_decide.mpr Iff.rfl
theorem boolC (way : Int) (o : V) : (!numB o 1 4 || (decide (V.int way = V.int 3) && decide (o = V.int 1))) = decide (numB o 1 4 = false ∨ (way = 3 ∧ iV o = 1)) := by
  rw [dec_ints]
  cases hb : numB o 1 4 with
  | false => simp
  | true =>
    obtain ⟨i, rfl, _, _⟩ := numB_int hb
    rw [dec_ints]
    by_cases e : way = 3 <;> simp [e, iV]
theorem boolD (way i j : Int) : (inV (.int way) (([2, 5, 7] : List Int).map V.int) && !decide (V.int (i % j) = V.int 0)) = decide (way ∈ ([2, 5, 7] : List Int) ∧ ¬ i % iV (.int j) = 0) := by
  rw [in_ints, dec_ints, show iV (.int j) = j from rfl, Bool.decide_and, decide_not]
/-- what stands in the answer -/
def TAt (K : PySem.W.Frag) (H : Hp) (t : Addr) : V ⊕ Row → Prop
  | .inl v => H t = some (.tup [.str "BadNumber", v]) ∧ VOk H v
  | .inr r => ∃ b rr, H t = some (.tup [.str "step", .str (textOf r), .str r.1, b, rr, .bl true]) ∧ Dq K H b (optD r.2.1) ∧ Dq K H rr (restD r.2.2)
theorem TAt.same {K : PySem.W.Frag} {H H' : Hp} {t : Addr} (s : Same H H') : ∀ {d : V ⊕ Row}, TAt K H t d → TAt K H' t d
  | .inl v, ⟨h, hv⟩ => ⟨s _ _ h, hv.same s⟩
  | .inr r, ⟨b, rr, h, h1, h2⟩ => ⟨b, rr, s _ _ h, h1.keep (TK.same s), h2.keep (TK.same s)⟩
def spToldL (K : PySem.W.Frag) : Sp := fun vs H Q _ => ∃ (u : V) (r : Row), vs = [u] ∧ Dq K H u (rowD r) ∧ rowGood r = true ∧ ∀ t H', Same H H' → TAt K H' t (.inr r) → Q (.ref t) H'
def spDueL (K : PySem.W.Frag) : Sp := fun vs H Q _ => ∃ (way : Int) (b a o : V), vs = [.int way, b, a, o] ∧ VOk H b ∧ VOk H a ∧ VOk H o ∧ ∀ t H', Same H H' → TAt K H' t (lawDue way b a o) → Q (.ref t) H'
section
variable {P : Program} {w : World} {K : PySem.W.Frag} {mg : Str → Option Value} {base : Heap}
theorem scWholeL : FnScope ["_law_value", "_law_least", "_law_most"] ["_law_value", "_law_least", "_law_most"] (defScope sWholeL) := ⟨rfl, rfl, rfl, by decide +kernel, rfl, by decide +kernel, by decide +kernel⟩
theorem ok_wholeL {f : Addr} {fd : FuncData} (F : Fun K "_law_is_whole" "_law_is_whole" sWholeL f fd) (isi : mg "isinstance" = none) (gI : mg "int" = none) (gB : mg "bool" = none) : FnOk P w K mg base CX0 1 f fd ["_law_value", "_law_least", "_law_most"] spNum := by
  refine F.ok scWholeL (fun vs H Q E h => ?_) (fun cdv A outer s H vs Q E hr h => ?_)
  · obtain ⟨v, lo, hi, rfl, _⟩ := h
    rfl
  · obtain ⟨v, lo, hi, rfl, hv, hQ⟩ := h
    have nd := scWholeL.nd
    refine ⟨_, (pss_one (ps_ret (pe_and (pe_callB call_isi (by rfl) isi (by decide +kernel) (pa_cons (pv 0) (pa_cons (pe_bltn (v := .ty "int") (by rfl) gI (by decide +kernel) rfl) pa_nil))) (pe_and (pe_not (pe_callB call_isi (by rfl) isi (by decide +kernel) (pa_cons (pv 0) (pa_cons (pe_bltn (v := .ty "bool") (by rfl) gB (by decide +kernel) rfl) pa_nil)))) (pe_one (pe_chain op_le op_le (pv 1) (pv 0) (pv 2))))))), ?_⟩
    obtain ⟨t, ty, kI, kB⟩ := hv.ty (K := K)
    refine ⟨_, rfl, v, .ty "int", t, .type "int", isIB v, rfl, .ty _, ty, kI, _, rfl, ?_⟩
    cases hv with
    | int i =>
      refine iteT ?_
      refine ⟨_, rfl, .int i, .ty "bool", t, .type "bool", false, rfl, .ty _, ty, kB, _, rfl, _, rfl, ?_⟩
      refine iteT ?_
      refine ⟨_, rfl, _, rfl, lo, i, rfl, rfl, _, rfl, ?_⟩
      change Q (.bl (decide (lo ≤ i) && decide (i ≤ hi))) H at hQ
      refine ite_dec (fun h => ?_) (fun h => ?_)
      · refine ⟨_, rfl, i, hi, rfl, rfl, ?_⟩
        rw [decide_eq_true h, Bool.true_and] at hQ
        exact hQ
      · rw [decide_eq_false h, Bool.false_and] at hQ
        exact hQ
    | bl b =>
      refine iteT ?_
      refine ⟨_, rfl, .bl b, .ty "bool", t, .type "bool", true, rfl, .ty _, ty, kB, _, rfl, _, rfl, ?_⟩
      exact iteF hQ
    | _ => exact iteF hQ
theorem scToldL : FnScope ["_law_row"] ["_law_row"] (defScope sToldL) := ⟨rfl, rfl, rfl, by decide +kernel, rfl, by decide +kernel, by decide +kernel⟩
theorem ok_toldL {f fTx : Addr} {fd dTx : FuncData} (F : Fun K "_law_told" "_law_told" sToldL f fd) (GTx : FnOk P w K mg base CX0 1 fTx dTx ["_law_step"] (spText K)) (FTx : Fun K "_law_text" "_law_text" sText fTx dTx) (bTx : Binds K dTx ["_law_step"] []) (gTx : mg "_law_text" = some (.ref fTx)) :
    FnOk P w K mg base CX0 2 f fd ["_law_row"] (spToldL K) := by
  refine F.ok scToldL (fun vs H Q E h => ?_) (fun cdv A outer s H vs Q E hr h => ?_)
  · obtain ⟨u, r, rfl, _⟩ := h
    rfl
  · obtain ⟨u, r, rfl, du, hg, hQ⟩ := h
    have nd := scToldL.nd
    refine ⟨_, (pss_one (ps_ret (pe_tup (pa_cons pe_str (pa_cons (pe_call GTx hr (by rfl) gTx FTx.kp bTx .nil pass0 (pa_cons (pv 0) pa_nil)) (pa_cons (pe_ix ix_tup (pv 0) pe_int (fun _ _ => rfl)) (pa_cons (pe_ix ix_tup (pv 0) pe_int (fun _ _ => rfl)) (pa_cons (pe_ix ix_tup (pv 0) pe_int (fun _ _ => rfl)) (pa_cons pe_bl pa_nil))))))))), ?_⟩
    have hm : (textOf r, r) ∈ known := of_decide_eq_true hg
    obtain ⟨t, v2, v3, rfl, st, d2, d3⟩ := row_get du
    refine ⟨_, rfl, _, r, rfl, du, known_smI _ hm, ?_⟩
    refine ⟨_, rfl, t, _, 0, _, rfl, rfl, st, rfl, _, rfl, t, _, 1, _, rfl, rfl, st, rfl, _, rfl, t, _, 2, _, rfl, rfl, st, rfl, by show 6 ≤ sizeLine; decide, fun q hq => ?_⟩
    exact hQ q _ (same_upd hq) ⟨v2, v3, upd_same, d2.keep (TK.new hq), d3.keep (TK.new hq)⟩
theorem scDueL : FnScope ["_law_way", "_law_by", "_law_rest", "_law_modulus", "_law_kind"] ["_law_way", "_law_by", "_law_rest", "_law_modulus"] (defScope sDueL) := ⟨rfl, rfl, rfl, by decide +kernel, rfl, by decide +kernel, by decide +kernel⟩
theorem ok_dueL {f fWh fTo : Addr} {fd dWh dTo : FuncData} (F : Fun K "_law_due" "_law_due" sDueL f fd) (gInt : mg "int" = none)
    (GWh : FnOk P w K mg base CX0 1 fWh dWh ["_law_value", "_law_least", "_law_most"] spNum) (FWh : Fun K "_law_is_whole" "_law_is_whole" sWholeL fWh dWh) (bWh : Binds K dWh ["_law_value", "_law_least", "_law_most"] []) (gWh : mg "_law_is_whole" = some (.ref fWh))
    (GTo : FnOk P w K mg base CX0 2 fTo dTo ["_law_row"] (spToldL K)) (FTo : Fun K "_law_told" "_law_told" sToldL fTo dTo) (bTo : Binds K dTo ["_law_row"] []) (gTo : mg "_law_told" = some (.ref fTo)) : FnOk P w K mg base CX0 3 f fd ["_law_way", "_law_by", "_law_rest", "_law_modulus"] (spDueL K) := by
  refine F.ok scDueL (fun vs H Q E h => ?_) (fun cdv A outer s H vs Q E hr h => ?_)
  · obtain ⟨way, b, a, o, rfl, _⟩ := h
    rfl
  · obtain ⟨way, b, a, o, rfl, hb, ha, ho, hQ⟩ := h
    have nd := scDueL.nd
    refine ⟨_, (C8.pss_cut (ps_if (pt_cmpR op_in_seq (pv 0) (pe_tup (pa_cons pe_int (pa_cons pe_int (pa_cons pe_int pa_nil)))) (by rfl))
        (pss_one (ps_set (i := 3) nd rfl (Or.inl rfl) pe_int)) pss_nil)
      (C8.pss_cut (ps_if (pt_cmpR op_in_seq (pv 0) (pe_tup (pa_cons pe_int (pa_cons pe_int (pa_cons pe_int pa_nil)))) (by rfl))
        (pss_one (ps_set (i := 2) nd rfl (Or.inl rfl) pe_int)) pss_nil)
      (pss_cons (ps_if (PW.pt (pw_and (pt_cmpR op_ne (pv 0) pe_int (nomark _)) (pw_and1 (PW.pt (pw_or (pt_not (pt_val (pe_call GWh (hr.mono (by decide)) (by rfl) gWh FWh.kp bWh .nil pass0 (pa_cons (pv 1) (pa_cons (pe_un un_neg pe_int) (pa_cons pe_int pa_nil)))))) (pw_or1 (pt_cmpR op_eq (pv 1) pe_int (nomark _))))))))
        (pss_one (ps_ret (pe_tup (pa_cons pe_str (pa_cons (pv 1) pa_nil))))) pss_nil)
      (pss_cons (ps_if (pt_cmpR op_eq (pv 0) pe_int (nomark _))
        (pss_one (ps_ret (pe_call GTo hr (by rfl) gTo FTo.kp bTo .nil pass0 (pa_cons (pe_tup (pa_cons pe_str (pa_cons (pv 1) (pa_cons pe_non pa_nil)))) pa_nil)))) pss_nil)
      (pss_cons (ps_if (PW.pt (pw_or (pt_not (pt_val (pe_call GWh (hr.mono (by decide)) (by rfl) gWh FWh.kp bWh .nil pass0 (pa_cons (pv 3) (pa_cons pe_int (pa_cons pe_int pa_nil)))))) (pw_or1 (PW.pt (pw_and (pt_cmpR op_eq (pv 0) pe_int (nomark _)) (pw_and1 (pt_cmpR op_eq (pv 3) pe_int (nomark _))))))))
        (pss_one (ps_ret (pe_tup (pa_cons pe_str (pa_cons (pv 3) pa_nil))))) pss_nil)
      (pss_cons (ps_if (PW.pt (pw_and (pt_cmpR op_in_seq (pv 0) (pe_tup (pa_cons pe_int (pa_cons pe_int (pa_cons pe_int pa_nil)))) (by rfl)) (pw_and1 (pt_cmpR op_ne (pe_op op_mod (pe_callTy call_int1 (by rfl) gInt (by decide +kernel) (pa_cons (pv 1) pa_nil)) (pv 3)) pe_int (nomark _)))))
        (pss_one (ps_ret (pe_tup (pa_cons pe_str (pa_cons (pv 3) pa_nil))))) pss_nil)
      (pss_cons (ps_if (pt_not (pt_val (pe_call GWh (hr.mono (by decide)) (by rfl) gWh FWh.kp bWh .nil pass0 (pa_cons (pv 2) (pa_cons pe_int (pa_cons (pe_op op_sub (pv 3) pe_int) pa_nil))))))
        (pss_one (ps_ret (pe_tup (pa_cons pe_str (pa_cons (pv 2) pa_nil))))) pss_nil)
      (pss_cons (ps_if (pt_cmpR op_eq (pv 0) pe_int (nomark _))
        (pss_one (ps_ret (pe_call GTo hr (by rfl) gTo FTo.kp bTo .nil pass0 (pa_cons (pe_tup (pa_cons pe_str (pa_cons pe_non (pa_cons (pe_tup (pa_cons (pv 2) (pa_cons (pv 3) pa_nil))) pa_nil)))) pa_nil)))) pss_nil)
      (pss_cons (ps_set (i := 4) nd rfl (Or.inl rfl) pe_str)
      (C8.pss_cut (ps_if (pt_cmpR op_in_seq (pv 0) (pe_tup (pa_cons pe_int (pa_cons pe_int (pa_cons pe_int pa_nil)))) (by rfl))
        (pss_one (ps_set (i := 4) nd rfl (Or.inl rfl) pe_str)) pss_nil)
      (pss_cons (ps_if (pt_cmpR op_eq (pv 3) pe_int (nomark _))
        (pss_one (ps_ret (pe_call GTo hr (by rfl) gTo FTo.kp bTo .nil pass0 (pa_cons (pe_tup (pa_cons (pv 4) (pa_cons (pv 1) (pa_cons pe_non pa_nil)))) pa_nil)))) pss_nil)
      (pss_one (ps_ret (pe_call GTo hr (by rfl) gTo FTo.kp bTo .nil pass0 (pa_cons (pe_tup (pa_cons (pv 4) (pa_cons (pv 1) (pa_cons (pe_tup (pa_cons (pv 2) (pa_cons (pv 3) pa_nil))) pa_nil)))) pa_nil))))))))))))))), ?_⟩
    refine ⟨fun σ H' => σ = [some (.int way), some b, some a, some (oW way o), none] ∧ Same H H', ?_, ?_⟩
    · refine ⟨_, rfl, by show 3 ≤ sizeLine; decide, fun t ht => ⟨t, _, rfl, .inr (SqT.of upd_same), rfl, flat_ints [4, 5, 7], _, rfl, ?_⟩⟩
      unfold oW
      refine ite_inI (l := [4, 5, 7]) (fun e => ?_) (fun e => ?_)
      · rw [if_pos e]
        exact ⟨rfl, same_upd ht⟩
      · rw [if_neg e]
        exact ⟨rfl, same_upd ht⟩
    rintro σ H1 ⟨rfl, s1⟩
    refine ⟨fun σ H' => σ = [some (.int way), some b, some (aW way a), some (oW way o), none] ∧ Same H H', ?_, ?_⟩
    · refine ⟨_, rfl, by show 3 ≤ sizeLine; decide, fun t ht => ⟨t, _, rfl, .inr (SqT.of upd_same), rfl, flat_ints [4, 5, 6], _, rfl, ?_⟩⟩
      unfold aW
      refine ite_inI (l := [4, 5, 6]) (fun e => ?_) (fun e => ?_)
      · rw [if_pos e]
        exact ⟨rfl, s1.trans (same_upd ht)⟩
      · rw [if_neg e]
        exact ⟨rfl, s1.trans (same_upd ht)⟩
    rintro σ H2 ⟨rfl, s2⟩
    have nst : ∀ {H' : Hp}, Same H H' → VOk H' b ∧ VOk H' (aW way a) ∧ VOk H' (oW way o) := fun s' => by
      refine ⟨hb.same s', ?_, ?_⟩
      · unfold aW
        split
        · exact .int 0
        · exact ha.same s'
      · unfold oW
        split
        · exact .int 1
        · exact ho.same s'
    unfold lawDue at hQ
    generalize aW way a = a' at *
    generalize oW way o = o' at *
    try dsimp only
    refine seq ?_
    refine PureT.ite0 (p := way ≠ 3 ∧ byOkB b = false) (PureT.and (c := !decide (V.int way = V.int 3)) (d := !numB b (-3) 3 || decide (b = .int 0)) (fun Q' k => ⟨_, rfl, rfl, _, rfl, k _ (same_refl _)⟩)
      fun _ H3 s3 => PureT.or (fun Q' k => ⟨_, rfl, 3, rfl, b, -3, 3, rfl, (nst (s2.trans s3)).1, _, rfl, k _ (same_refl _)⟩) fun hz H4 s4 => ?_) (boolA way b) (fun hA H3 s3 => ?_) (fun hA H3 s3 => ?_)
    · obtain ⟨i, rfl, _, _⟩ := numB_int ((Bool.not_eq_false' _).mp hz)
      exact fun Q' k => ⟨_, rfl, rfl, _, rfl, k _ (same_refl _)⟩
    · rw [if_pos hA] at hQ
      refine ⟨_, rfl, by show 2 ≤ sizeLine; decide, fun t ht => hQ t _ ((s2.trans s3).trans (same_upd ht)) ⟨upd_same, (nst ((s2.trans s3).trans (same_upd ht))).1⟩⟩
    have s3 := s2.trans s3
    rw [if_neg hA] at hQ
    have hB : way ≠ 3 → ∃ i, b = .int i ∧ -3 ≤ i ∧ i ≤ 3 ∧ i ≠ 0 := fun z => byOk_int (Bool.of_not_eq_false fun q => hA ⟨z, q⟩)
    refine ⟨_, rfl, rfl, _, rfl, ?_⟩
    refine ite_int (fun e0 => ?_) (fun e0 => ?_)
    · rw [if_pos e0] at hQ
      obtain ⟨i, rfl, h1, h2, h3⟩ := hB (by omega)
      refine ⟨_, rfl, by show 3 ≤ sizeLine; decide, fun u hu => ⟨_, ("roll", some i, none), rfl, .tup (SqT.of upd_same) (.cons (.str _) (.cons (.int _) (.cons .non .nil))), (roll_good i (mem_by h1 h2 h3)).2, fun t H4 s4 ht => hQ t H4 ((s3.trans (same_upd hu)).trans s4) ht⟩⟩
    rw [if_neg e0] at hQ
    refine nxt ?_
    try dsimp only
    refine seq ?_
    refine PureT.ite0 (p := numB o' 1 4 = false ∨ (way = 3 ∧ iV o' = 1)) (PureT.or (c := !numB o' 1 4) (d := decide (V.int way = V.int 3) && decide (o' = .int 1)) (fun Q' k => ⟨_, rfl, o', 1, 4, rfl, (nst s3).2.2, _, rfl, k _ (same_refl _)⟩)
      fun hz H4 s4 => PureT.and (fun Q' k => ⟨_, rfl, rfl, _, rfl, k _ (same_refl _)⟩) fun _ H5 s5 => ?_) (boolC way o') (fun hC H4 s4 => ?_) (fun hC H4 s4 => ?_)
    · obtain ⟨i, rfl, _, _⟩ := numB_int ((Bool.not_eq_false' _).mp hz)
      exact fun Q' k => ⟨_, rfl, rfl, _, rfl, k _ (same_refl _)⟩
    · rw [if_pos hC] at hQ
      refine ⟨_, rfl, by show 2 ≤ sizeLine; decide, fun t ht => hQ t _ ((s3.trans s4).trans (same_upd ht)) ⟨upd_same, (nst ((s3.trans s4).trans (same_upd ht))).2.2⟩⟩
    have s4 := s3.trans s4
    rw [if_neg hC] at hQ
    obtain ⟨j, rfl, h4, h5⟩ := numB_int (Bool.of_not_eq_false fun q => hC (.inl q))
    try dsimp only
    refine seq ?_
    refine PureT.ite0 (p := way ∈ ([2, 5, 7] : List Int) ∧ ¬ iV b % iV (.int j) = 0) (PureT.and (c := inV (.int way) (([2, 5, 7] : List Int).map V.int)) (d := !decide (V.int (iV b % j) = .int 0)) (fun Q' k => ⟨_, rfl, by show 3 ≤ sizeLine; decide, fun t ht => ⟨t, _, rfl, .inr (SqT.of upd_same), rfl, flat_ints [2, 5, 7], _, rfl, k _ (same_upd ht)⟩⟩)
      fun hz H5 s5 => ?_) (boolD way (iV b) j) (fun hD H5 s5 => ?_) (fun hD H5 s5 => ?_)
    · rw [in_ints] at hz
      have hz := of_decide_eq_true hz
      obtain ⟨i, rfl, _, _⟩ := hB (fun z => by rw [z] at hz; revert hz; decide)
      exact fun Q' k => ⟨_, rfl, .inl ⟨i, rfl, _, rfl, i, j, rfl, rfl, by omega, rfl, _, rfl, k _ (same_refl _)⟩⟩
    · rw [if_pos hD] at hQ
      refine ⟨_, rfl, by show 2 ≤ sizeLine; decide, fun t ht => hQ t _ ((s4.trans s5).trans (same_upd ht)) ⟨upd_same, .int j⟩⟩
    have s5 := s4.trans s5
    rw [if_neg hD] at hQ
    refine ⟨_, rfl, _, rfl, j, 1, rfl, rfl, a', 0, j - 1, rfl, (nst s5).2.1, _, rfl, ?_⟩
    cases hE : numB a' 0 (j - 1) with
    | false =>
      rw [if_pos (show numB a' 0 (iV (.int j) - 1) = false from hE)] at hQ
      refine iteT ?_
      refine ⟨_, rfl, by show 2 ≤ sizeLine; decide, fun t ht => hQ t _ (s5.trans (same_upd ht)) ⟨upd_same, (nst (s5.trans (same_upd ht))).2.1⟩⟩
    | true =>
    rw [if_neg (by rw [show iV (.int j) - 1 = j - 1 from rfl, hE]; decide)] at hQ
    obtain ⟨l, rfl, h6, h7⟩ := numB_int hE
    refine iteF ?_
    refine ⟨_, rfl, rfl, _, rfl, ?_⟩
    refine ite_int (fun e3 => ?_) (fun e3 => ?_)
    · rw [if_pos e3] at hQ
      have hj : 2 ≤ j := by
        rcases Int.lt_or_le j 2 with z | z
        · exact absurd (.inr ⟨e3, (by show j = 1; omega)⟩) hC
        · exact z
      refine ⟨_, rfl, _, rfl, by show 2 ≤ sizeLine; decide, fun u hu => ⟨by show 3 ≤ sizeLine; decide, fun u2 hu2 => ⟨_, ("flip", none, some (l, j)), rfl, row_dq (fun _ => .non) hu2, (flip_good j (mem_o2 hj h5) l (mem_a h6 (by omega)) (by omega)).2, fun t H6 s6 ht => hQ t H6 (((s5.trans (same_upd hu)).trans (same_upd hu2)).trans s6) ht⟩⟩⟩
    rw [if_neg e3] at hQ
    obtain ⟨i, rfl, h1, h2, h3⟩ := hB e3
    have good : rowGood (kW way, some i, restO l j) = true := by
      unfold kW
      split
      · rename_i hk
        exact (sum_good i (mem_by h1 h2 h3) j (mem_o h4 h5) l (mem_a h6 (by omega)) (by omega) (Classical.byContradiction fun z => hD ⟨hk, z⟩)).2
      · exact (near_good i (mem_by h1 h2 h3) j (mem_o h4 h5) l (mem_a h6 (by omega)) (by omega)).2
    refine ⟨fun σ H' => σ = [some (.int way), some (.int i), some (.int l), some (.int j), some (.str (kW way))] ∧ Same H H', ?_, ?_⟩
    · refine ⟨_, rfl, by show 3 ≤ sizeLine; decide, fun t ht => ⟨t, _, rfl, .inr (SqT.of upd_same), rfl, flat_ints [2, 5, 7], _, rfl, ?_⟩⟩
      unfold kW
      refine ite_inI (l := [2, 5, 7]) (fun e => ?_) (fun e => ?_)
      · rw [if_pos e]
        exact ⟨rfl, s5.trans (same_upd ht)⟩
      · rw [if_neg e]
        exact ⟨rfl, s5.trans (same_upd ht)⟩
    rintro σ H6 ⟨rfl, s6⟩
    refine ⟨_, rfl, rfl, _, rfl, ?_⟩
    refine ite_int (fun e => ?_) (fun e => ?_)
    · have er : restO l j = none := if_pos e
      refine ⟨_, rfl, _, rfl, by show 3 ≤ sizeLine; decide, fun u hu => ⟨_, (kW way, some i, none), rfl, .tup (SqT.of upd_same) (.cons (.str _) (.cons (.int _) (.cons .non .nil))), by rw [← er]; exact good, fun t H7 s7 ht => ?_⟩⟩
      refine hQ t H7 ((s6.trans (same_upd hu)).trans s7) ?_
      show TAt K H7 t (.inr (kW way, some i, restO l j))
      rw [er]
      exact ht
    · have er : restO l j = some (l, j) := if_neg e
      refine ⟨_, rfl, _, rfl, _, rfl, _, rfl, by show 2 ≤ sizeLine; decide, fun u hu => ⟨by show 3 ≤ sizeLine; decide, fun u2 hu2 => ⟨_, (kW way, some i, some (l, j)), rfl, row_dq (fun _ => .int _) hu2, by rw [← er]; exact good, fun t H7 s7 ht => ?_⟩⟩⟩
      refine hQ t H7 (((s6.trans (same_upd hu)).trans (same_upd hu2)).trans s7) ?_
      show TAt K H7 t (.inr (kW way, some i, restO l j))
      rw [er]
      exact ht
end
end Aw

namespace Aw
open PySem PySem.Spec PyProof.Rows L2 NdefX
/-! ### calls with keywords: what is bound -/
def sw {α : Type} : List α → List α
  | [x, y] => [y, x]
  | l => l
def gA {α : Type} (us mv ws : List α) : List α := us ++ ws
def gB {α : Type} (us mv ws : List α) : List α := us ++ (mv ++ ws)
def gC {α : Type} (us mv ws : List α) : List α := us ++ (ws ++ mv)
def gS {α : Type} (us mv ws : List α) : List α := us ++ sw ws
theorem vals_sw {zs : List V} {ws : List Value} (h : Vals zs ws) : Vals (sw zs) (sw ws) := by
  cases h with
  | nil => exact .nil
  | cons r1 h => cases h with
    | nil => exact .cons r1 .nil
    | cons r2 h => cases h with
      | nil => exact .cons r2 (.cons r1 .nil)
      | cons r3 h => exact .cons r1 (.cons r2 (.cons r3 h))
theorem kbindsN {K : PySem.W.Frag} {x qual : Str} {params : Arguments} {body : List Stmt} {scope : Scope} {f : Addr} {fd : FuncData} {ps : List Str} {g : List Value → List Value → List Value} {gV : List V → List V → List V} (F : FunD K x qual params body scope [] [] f fd) (n : Nat) (ks : List Str)
    (hrel : ∀ {vs zs : List V} {us ws : List Value}, Vals vs us → Vals zs ws → Vals (gV vs zs) (g us ws))
    (h : ∀ (kV doc pm : Value) (an : Option Addr) (cdv ct : Value) (us ws : List Value), us.length = n → ws.length = ks.length → bindArgs (PySem.W.fnOf x qual params body scope .none kV doc pm an cdv ct) ⟨us, ks.zip ws⟩ = pure (ps.zip (g us ws))) : KBn K fd ps n ks g gV := by
  obtain ⟨oc, od, dV, kV, doc, pm, an, cdv, ct, osl, rfl, lk, hcd, hD, hK⟩ := F.ex
  rcases hD with ⟨_, rfl⟩ | ⟨e, _⟩
  · exact ⟨fun s us ws X l1 l2 => .of_eq (h kV doc pm an cdv ct us ws l1 l2), fun r1 r2 => hrel r1 r2⟩
  · exact absurd rfl e
def dueW (way : Int) (b a o : V) : V ⊕ Row := if way = 0 then rollDue b else if way = 1 then nearDue b a o else if way = 2 then sumDue b a o else if way = 3 then flipDue a o else
  if way = 4 then nearDue b (.int 0) (.int 1) else if way = 5 then sumDue b (.int 0) (.int 1) else if way = 6 then nearDue b (.int 0) o else sumDue b a (.int 1)
theorem numB14 {o : V} {lo : Int} (h : lo = 1) : (numB o 1 4 = false ∨ ((3 : Int) = 3 ∧ iV o = lo)) ↔ numB o 2 4 = false := by
  subst h
  cases o with
  | int i =>
    show ((decide (1 ≤ i) && decide (i ≤ 4)) = false ∨ (3 : Int) = 3 ∧ i = 1) ↔ (decide (2 ≤ i) && decide (i ≤ 4)) = false
    have e : ∀ l : Int, (decide (l ≤ i) && decide (i ≤ 4)) = false ↔ ¬ (l ≤ i ∧ i ≤ 4) := fun l => by
      rw [← Bool.decide_and]
      exact decide_eq_false_iff_not
    rw [e, e]
    omega
  | _ => exact ⟨fun _ => rfl, fun _ => .inl rfl⟩
theorem lawDue_eq {way : Int} {b a o : V} (h0 : 0 ≤ way) (h1 : way < 8) : lawDue way b a o = dueW way b a o := by
  have : way = 0 ∨ way = 1 ∨ way = 2 ∨ way = 3 ∨ way = 4 ∨ way = 5 ∨ way = 6 ∨ way = 7 := by omega
  rcases this with rfl | rfl | rfl | rfl | rfl | rfl | rfl | rfl
  · cases hb : byOkB b <;> simp [lawDue, dueW, rollDue, hb]
  · cases hb : byOkB b <;> simp [lawDue, dueW, nearDue, hb, oW, aW, kW]
  · cases hb : byOkB b <;> simp [lawDue, dueW, sumDue, hb, oW, aW, kW]
  · have e := numB14 (o := o) (lo := 1) rfl
    show (if (3 : Int) ≠ 3 ∧ byOkB b = false then .inl b else if (3 : Int) = 0 then _ else if numB o 1 4 = false ∨ ((3 : Int) = 3 ∧ iV o = 1) then .inl o else _) = flipDue a o
    unfold flipDue
    rw [if_neg (fun z => z.1 rfl), if_neg (by decide)]
    by_cases h : numB o 2 4 = false
    · rw [if_pos (e.mpr h), if_pos h]
    · rw [if_neg (fun z => h (e.mp z)), if_neg h]
      simp [oW, aW, kW]
  · cases hb : byOkB b <;> simp [lawDue, dueW, nearDue, hb, oW, aW, kW]
  · cases hb : byOkB b <;> simp [lawDue, dueW, sumDue, hb, oW, aW, kW]
  · cases hb : byOkB b <;> simp [lawDue, dueW, nearDue, hb, oW, aW, kW]
  · cases hb : byOkB b <;> simp [lawDue, dueW, sumDue, hb, oW, aW, kW]
theorem due_in {way : Int} {b a o v : V} (h : lawDue way b a o = .inl v) : v = b ∨ v = aW way a ∨ v = oW way o := by
  unfold lawDue at h
  split at h
  · cases h; exact .inl rfl
  split at h
  · cases h
  split at h
  · cases h; exact .inr (.inr rfl)
  split at h
  · cases h; exact .inr (.inr rfl)
  split at h
  · cases h; exact .inr (.inl rfl)
  split at h <;> cases h
theorem due_vok {way : Int} {b a o v : V} {H : Hp} (hb : VOk H b) (ha : VOk H a) (ho : VOk H o) (h : lawDue way b a o = .inl v) : VOk H v := by
  rcases due_in h with rfl | rfl | rfl
  · exact hb
  · unfold aW
    split
    · exact .int 0
    · exact ha
  · unfold oW
    split
    · exact .int 1
    · exact ho
def gVN2 : List V → List V → List V := fun vs zs => gA vs [] zs
def gVN1 : List V → List V → List V := fun vs zs => gB vs [.int 0] zs
def gVS2 : List V → List V → List V := fun vs zs => gS vs [] zs
def gVS1 : List V → List V → List V := fun vs zs => gC vs [.int 1] zs
def wIs (n : Int) : TT := tTest (tOp rEq (tVar 0) (tC (.int n)))
def tb_built (K : PySem.W.Frag) (CS CN : Addr) (W : WX) : TS :=
  tSeq (tIfS (wIs 0) (tAsg (tCallS (spRoll K CS CN) (WE W) (tCons (tVar 1) tNil)) (gName 5))
    (tIfS (wIs 1) (tAsg (tCallNS 1 2 (spNear K CS CN) gVN2 (WE W) (tCons (tVar 1) tNil) (tCons (tVar 2) (tCons (tVar 3) tNil))) (gName 5))
    (tIfS (wIs 2) (tAsg (tCallNS 1 2 (spSum K CS CN) gVS2 (WE W) (tCons (tVar 1) tNil) (tCons (tVar 3) (tCons (tVar 2) tNil))) (gName 5))
    (tIfS (wIs 3) (tAsg (tCallNS 0 2 (spFlipS K CS CN) gVN2 (WE W) tNil (tCons (tVar 2) (tCons (tVar 3) tNil))) (gName 5))
    (tIfS (wIs 4) (tAsg (tCallSD (spNear K CS CN) [.int 0, .int 1] (WE W) (tCons (tVar 1) tNil)) (gName 5))
    (tIfS (wIs 5) (tAsg (tCallSD (spSum K CS CN) [.int 0, .int 1] (WE W) (tCons (tVar 1) tNil)) (gName 5))
    (tIfS (wIs 6) (tAsg (tCallNS 1 1 (spNear K CS CN) gVN1 (WE W) (tCons (tVar 1) tNil) (tCons (tVar 3) tNil)) (gName 5))
      (tAsg (tCallNS 1 1 (spSum K CS CN) gVS1 (WE W) (tCons (tVar 1) tNil) (tCons (tVar 2) tNil)) (gName 5)))))))))
    (tAsg (tTup (tCons (tC (.str "step")) (tCons (tFld K (tVar 5) "text") (tCons (tFld K (tVar 5) "kind") (tCons (tFld K (tVar 5) "by") (tCons (tFld K (tVar 5) "rest") (tCons (tCB (rIsi K) (tCons (tVar 5) (tCons (tC (.ref CS)) tNil))) tNil))))))) (gName 4))
def ts_built (K : PySem.W.Frag) (CN : Addr) (a : Addr) (cls : Value) (d : Option Addr) : TS :=
  tIfS (tB (tCB (rIsP K a cls d) (tCons (tVar 6) (tCons (tC (.ref CN)) tNil)))) (tAsg (tTup (tCons (tC (.str "BadNumber")) (tCons (tXp K a cls d "number" (tVar 6)) tNil))) (gName 4)) tNext
def spBuilt (K : PySem.W.Frag) : Sp := fun vs H Q _ => ∃ (way : Int) (b a o : V), vs = [.int way, b, a, o] ∧ 0 ≤ way ∧ way < 8 ∧ VOk H b ∧ VOk H a ∧ VOk H o ∧ ∀ t H', Same H H' → TAt K H' t (dueW way b a o) → Q (.ref t) H'
section
variable {P : Program} {w : World} {K : PySem.W.Frag} {mg : Str → Option Value} {base : Heap} {CS CB CN CW fP fI fRo fNe fSu fFl : Addr}
structure TxtLB (P : Program) (w : World) (K : PySem.W.Frag) (mg : Str → Option Value) (base : Heap) (CS CN fRo fNe fSu fFl : Addr) (dRo dNe dSu dFl : FuncData) : Prop where
  GRo : FnOk P w K mg base (L2.CX P w) 5 fRo dRo ["by"] (spRoll K CS CN)
  kRo : PySem.W.keepIn K (.ref fRo) = true
  bRo : Binds K dRo ["by"] []
  gRo : mg "roll_step" = some (.ref fRo)
  GNe : FnOk P w K mg base (L2.CX P w) 5 fNe dNe ["by", "at", "of"] (spNear K CS CN)
  kNe : PySem.W.keepIn K (.ref fNe) = true
  gNe : mg "near_step" = some (.ref fNe)
  GSu : FnOk P w K mg base (L2.CX P w) 5 fSu dSu ["by", "at", "of"] (spSum K CS CN)
  kSu : PySem.W.keepIn K (.ref fSu) = true
  gSu : mg "sum_step" = some (.ref fSu)
  GFl : FnOk P w K mg base (L2.CX P w) 5 fFl dFl ["at", "of"] (spFlipS K CS CN)
  kFl : PySem.W.keepIn K (.ref fFl) = true
  gFl : mg "flip_step" = some (.ref fFl)
theorem scBuilt : FnScope ["_law_way", "_law_by", "_law_rest", "_law_modulus", "_law_found", "_law_made", "e"] ["_law_way", "_law_by", "_law_rest", "_law_modulus"] (defScope sBuilt) := ⟨rfl, rfl, rfl, by decide +kernel, rfl, by decide +kernel, by decide +kernel⟩
theorem ok_built {f : Addr} {fd dRo dNe dSu dFl : FuncData} {g1 g2 g3 g4 g5 : List Value → List Value → List Value} {dvN dvS : List Value} (F : Fun K "_law_built" "_law_built" sBuilt f fd) (O : TxtO P K mg CS CB fP fI) (Te : TxtE K CS) (gW : mg "WordsError" = some (.ref CW)) (isi : mg "isinstance" = none) (En : Err P K mg "BadNumber" "number" "number" CN)
    (B : TxtLB P w K mg base CS CN fRo fNe fSu fFl dRo dNe dSu dFl)
    (k1 : KBn K dNe ["by", "at", "of"] 1 ["at", "of"] g1 gVN2) (k2 : KBn K dSu ["by", "at", "of"] 1 ["of", "at"] g2 gVS2) (k3 : KBn K dFl ["at", "of"] 0 ["at", "of"] g3 gVN2) (k4 : KBn K dNe ["by", "at", "of"] 1 ["of"] g4 gVN1) (k5 : KBn K dSu ["by", "at", "of"] 1 ["at"] g5 gVS1)
    (vN : Vals [.int 0, .int 1] dvN) (bN : Binds K dNe ["by", "at", "of"] dvN) (vS : Vals [.int 0, .int 1] dvS) (bS : Binds K dSu ["by", "at", "of"] dvS)
    (kNN : PySem.W.kitOne K (.ref CN) (.ref CN) = some true) (xN : PySem.W.exmOne K (.ref CN) (.ref CW) = some true) : FnOk P w K mg base CX0 6 f fd ["_law_way", "_law_by", "_law_rest", "_law_modulus"] (spBuilt K) := by
  refine F.ok scBuilt (fun vs H Q E h => ?_) (fun cdv A outer s H vs Q E hr h => ?_)
  · obtain ⟨way, b, a, o, rfl, _⟩ := h
    rfl
  · obtain ⟨way, b, a, o, rfl, w0, w1, hb, ha, ho, hQ⟩ := h
    have nd := scBuilt.nd
    refine ⟨_, (pss_cons (ps_set (i := 4) nd rfl (Or.inl rfl) (pe_tup (pa_cons pe_str (pa_cons pe_non pa_nil))))
      (pss_cons (ps_try_as (i := 6) (tb := fun W => tb_built K CS CN W) (ts := fun a cls d => ts_built K CN a cls d) (Wout := fun _ _ _ _ => False) rfl rfl nd rfl rfl ⟨rfl, by decide, Or.inl gW⟩ takes0
        (fun W pn xe tk _ => (pss_cons (ps_if (pt_cmpR op_eq (pv 0) pe_int (nomark _))
          (pss_one (ps_set (i := 5) nd rfl (Or.inl rfl) (pe_callS B.GRo (hr.mono (by decide)) (by rfl) B.gRo B.kRo B.bRo (fun σ => passAt tk σ) (pa_cons (pv 1) pa_nil))))
          (pss_one (ps_if (pt_cmpR op_eq (pv 0) pe_int (nomark _))
            (pss_one (ps_set (i := 5) nd rfl (Or.inl rfl) (pe_callNS B.GNe (hr.mono (by decide)) (by rfl) B.gNe B.kNe k1 (fun σ => passAt tk σ) (pa_cons (pv 1) pa_nil) (pk_cons (pv 2) (pk_cons (pv 3) pk_nil)))))
            (pss_one (ps_if (pt_cmpR op_eq (pv 0) pe_int (nomark _))
              (pss_one (ps_set (i := 5) nd rfl (Or.inl rfl) (pe_callNS B.GSu (hr.mono (by decide)) (by rfl) B.gSu B.kSu k2 (fun σ => passAt tk σ) (pa_cons (pv 1) pa_nil) (pk_cons (pv 3) (pk_cons (pv 2) pk_nil)))))
              (pss_one (ps_if (pt_cmpR op_eq (pv 0) pe_int (nomark _))
                (pss_one (ps_set (i := 5) nd rfl (Or.inl rfl) (pe_callNS0 B.GFl (hr.mono (by decide)) (by rfl) B.gFl B.kFl k3 (fun σ => passAt tk σ) (pk_cons (pv 2) (pk_cons (pv 3) pk_nil)))))
                (pss_one (ps_if (pt_cmpR op_eq (pv 0) pe_int (nomark _))
                  (pss_one (ps_set (i := 5) nd rfl (Or.inl rfl) (pe_callSD B.GNe (hr.mono (by decide)) (by rfl) B.gNe B.kNe bN vN (fun σ => passAt tk σ) (pa_cons (pv 1) pa_nil))))
                  (pss_one (ps_if (pt_cmpR op_eq (pv 0) pe_int (nomark _))
                    (pss_one (ps_set (i := 5) nd rfl (Or.inl rfl) (pe_callSD B.GSu (hr.mono (by decide)) (by rfl) B.gSu B.kSu bS vS (fun σ => passAt tk σ) (pa_cons (pv 1) pa_nil))))
                    (pss_one (ps_if (pt_cmpR op_eq (pv 0) pe_int (nomark _))
                      (pss_one (ps_set (i := 5) nd rfl (Or.inl rfl) (pe_callNS B.GNe (hr.mono (by decide)) (by rfl) B.gNe B.kNe k4 (fun σ => passAt tk σ) (pa_cons (pv 1) pa_nil) (pk_cons (pv 3) pk_nil))))
                      (pss_one (ps_set (i := 5) nd rfl (Or.inl rfl) (pe_callNS B.GSu (hr.mono (by decide)) (by rfl) B.gSu B.kSu k5 (fun σ => passAt tk σ) (pa_cons (pv 1) pa_nil) (pk_cons (pv 2) pk_nil)))))))))))))))))
        (pss_one (ps_set (i := 4) nd rfl (Or.inl rfl) (pe_tup (pa_cons pe_str (pa_cons (pe_fld (pv 5) rfl) (pa_cons (pe_fld (pv 5) rfl) (pa_cons (pe_fld (pv 5) rfl) (pa_cons (pe_fld (pv 5) rfl) (pa_cons (pe_callB call_isi rfl isi (by decide +kernel) (pa_cons (pv 5) (pa_cons (pe_glob (v := .ref CS) rfl O.g rfl) pa_nil))) pa_nil)))))))))))
        (fun a oe cls d pn hz hf => (pss_one (ps_if (pt_val (pe_callB (call_isP (List.mem_cons_self ..) hz hf) rfl isi (by decide +kernel) (pa_cons (pv 6) (pa_cons (pe_glob (v := .ref CN) rfl En.g rfl) pa_nil))))
          (pss_one (ps_set (i := 4) nd rfl (Or.inl rfl) (pe_tup (pa_cons pe_str (pa_cons (pe_xp (List.mem_cons_self ..) hz hf (pv 6)) pa_nil))))) pss_nil))))
      (pss_one (ps_ret (pv 4))))), ?_⟩
    refine ⟨by show 2 ≤ sizeLine; decide, fun t0 ht0 => ?_⟩
    have s0 := same_upd (o := .tup [.str "none", .non]) ht0
    obtain ⟨H1, hH1⟩ : ∃ H1, upd H t0 (.tup [.str "none", .non]) = H1 := ⟨_, rfl⟩
    change tb_built K CS CN _ _ _ (upd H t0 (.tup [.str "none", .non]))
    rw [hH1] at s0 ⊢
    have hb1 := hb.same s0
    have ha1 := ha.same s0
    have ho1 := ho.same s0
    have : way = 0 ∨ way = 1 ∨ way = 2 ∨ way = 3 ∨ way = 4 ∨ way = 5 ∨ way = 6 ∨ way = 7 := by omega
    rcases this with rfl | rfl | rfl | rfl | rfl | rfl | rfl | rfl
    · refine ⟨_, rfl, rfl, _, rfl, iteT ?_⟩
      refine ⟨_, rfl, b, rfl, hb1, fun v hv d H2 s2 hd0 hd => ?_, fun r hr a' H2 s2 sa => ?_⟩
      · have vv : VOk H2 v := (due_vok hb1 ha1 ho1 ((lawDue_eq (way := 0) (by decide) (by decide)).trans (show dueW 0 b a o = .inl v from hv))).same s2
        refine ⟨true, xN, fun _ ax hax => ?_, fun z => Bool.noConfusion z⟩
        refine ⟨_, rfl, CN, .ref CN, .ref CN, true, rfl, rfl, En.D, (fun dd e => ⟨_, by cases e; exact hd⟩), .own _, kNN, _, rfl, ?_⟩
        refine iteT ?_
        refine ⟨_, rfl, rfl, CN, d, _, _, rfl, En.D, En.hno, rfl, hd, rfl, by show 2 ≤ sizeLine; decide, fun t ht => ?_⟩
        refine ⟨_, rfl, hQ t _ ((s0.trans s2).trans (same_upd ht)) ?_⟩
        rw [show dueW 0 b a o = .inl v from hv]
        exact ⟨upd_same, vv.same (same_upd ht)⟩
      · obtain ⟨dx, bv, tv, ea, db, dt⟩ := sa.ex
        refine ⟨_, rfl, a', CS, dx, _, _, rfl, ea, O.cl, O.nT, gText, _, rfl, a', CS, dx, _, _, rfl, ea, O.cl, O.nK, gKind, _, rfl, a', CS, dx, _, _, rfl, ea, O.cl, O.nB, gBy, _, rfl, a', CS, dx, _, _, rfl, ea, O.cl, O.nR, gRest, _, rfl, .ref a', .ref CS, .ref CS, .ref CS, true, rfl, .own _, .base (.ins ea O.cl Te.ha Te.hn Te.ht Te.hm), Te.me, by show 6 ≤ sizeLine; decide, fun t ht => ?_⟩
        refine ⟨_, rfl, hQ t _ ((s0.trans s2).trans (same_upd ht)) ?_⟩
        rw [show dueW 0 b a o = .inr r from hr]
        exact ⟨bv, tv, upd_same, db.keep (TK.new ht), dt.keep (TK.new ht)⟩
    · refine ⟨_, rfl, rfl, _, rfl, iteF ?_⟩
      refine ⟨_, rfl, rfl, _, rfl, iteT ?_⟩
      refine ⟨_, rfl, _, rfl, _, rfl, rfl, rfl, b, a, o, rfl, hb1, ha1, ho1, fun v hv d H2 s2 hd0 hd => ?_, fun r hr a' H2 s2 sa => ?_⟩
      · have vv : VOk H2 v := (due_vok hb1 ha1 ho1 ((lawDue_eq (way := 1) (by decide) (by decide)).trans (show dueW 1 b a o = .inl v from hv))).same s2
        refine ⟨true, xN, fun _ ax hax => ?_, fun z => Bool.noConfusion z⟩
        refine ⟨_, rfl, CN, .ref CN, .ref CN, true, rfl, rfl, En.D, (fun dd e => ⟨_, by cases e; exact hd⟩), .own _, kNN, _, rfl, ?_⟩
        refine iteT ?_
        refine ⟨_, rfl, rfl, CN, d, _, _, rfl, En.D, En.hno, rfl, hd, rfl, by show 2 ≤ sizeLine; decide, fun t ht => ?_⟩
        refine ⟨_, rfl, hQ t _ ((s0.trans s2).trans (same_upd ht)) ?_⟩
        rw [show dueW 1 b a o = .inl v from hv]
        exact ⟨upd_same, vv.same (same_upd ht)⟩
      · obtain ⟨dx, bv, tv, ea, db, dt⟩ := sa.ex
        refine ⟨_, rfl, a', CS, dx, _, _, rfl, ea, O.cl, O.nT, gText, _, rfl, a', CS, dx, _, _, rfl, ea, O.cl, O.nK, gKind, _, rfl, a', CS, dx, _, _, rfl, ea, O.cl, O.nB, gBy, _, rfl, a', CS, dx, _, _, rfl, ea, O.cl, O.nR, gRest, _, rfl, .ref a', .ref CS, .ref CS, .ref CS, true, rfl, .own _, .base (.ins ea O.cl Te.ha Te.hn Te.ht Te.hm), Te.me, by show 6 ≤ sizeLine; decide, fun t ht => ?_⟩
        refine ⟨_, rfl, hQ t _ ((s0.trans s2).trans (same_upd ht)) ?_⟩
        rw [show dueW 1 b a o = .inr r from hr]
        exact ⟨bv, tv, upd_same, db.keep (TK.new ht), dt.keep (TK.new ht)⟩
    · refine ⟨_, rfl, rfl, _, rfl, iteF ?_⟩
      refine ⟨_, rfl, rfl, _, rfl, iteF ?_⟩
      refine ⟨_, rfl, rfl, _, rfl, iteT ?_⟩
      refine ⟨_, rfl, _, rfl, _, rfl, rfl, rfl, b, a, o, rfl, hb1, ha1, ho1, fun v hv d H2 s2 hd0 hd => ?_, fun r hr a' H2 s2 sa => ?_⟩
      · have vv : VOk H2 v := (due_vok hb1 ha1 ho1 ((lawDue_eq (way := 2) (by decide) (by decide)).trans (show dueW 2 b a o = .inl v from hv))).same s2
        refine ⟨true, xN, fun _ ax hax => ?_, fun z => Bool.noConfusion z⟩
        refine ⟨_, rfl, CN, .ref CN, .ref CN, true, rfl, rfl, En.D, (fun dd e => ⟨_, by cases e; exact hd⟩), .own _, kNN, _, rfl, ?_⟩
        refine iteT ?_
        refine ⟨_, rfl, rfl, CN, d, _, _, rfl, En.D, En.hno, rfl, hd, rfl, by show 2 ≤ sizeLine; decide, fun t ht => ?_⟩
        refine ⟨_, rfl, hQ t _ ((s0.trans s2).trans (same_upd ht)) ?_⟩
        rw [show dueW 2 b a o = .inl v from hv]
        exact ⟨upd_same, vv.same (same_upd ht)⟩
      · obtain ⟨dx, bv, tv, ea, db, dt⟩ := sa.ex
        refine ⟨_, rfl, a', CS, dx, _, _, rfl, ea, O.cl, O.nT, gText, _, rfl, a', CS, dx, _, _, rfl, ea, O.cl, O.nK, gKind, _, rfl, a', CS, dx, _, _, rfl, ea, O.cl, O.nB, gBy, _, rfl, a', CS, dx, _, _, rfl, ea, O.cl, O.nR, gRest, _, rfl, .ref a', .ref CS, .ref CS, .ref CS, true, rfl, .own _, .base (.ins ea O.cl Te.ha Te.hn Te.ht Te.hm), Te.me, by show 6 ≤ sizeLine; decide, fun t ht => ?_⟩
        refine ⟨_, rfl, hQ t _ ((s0.trans s2).trans (same_upd ht)) ?_⟩
        rw [show dueW 2 b a o = .inr r from hr]
        exact ⟨bv, tv, upd_same, db.keep (TK.new ht), dt.keep (TK.new ht)⟩
    · refine ⟨_, rfl, rfl, _, rfl, iteF ?_⟩
      refine ⟨_, rfl, rfl, _, rfl, iteF ?_⟩
      refine ⟨_, rfl, rfl, _, rfl, iteF ?_⟩
      refine ⟨_, rfl, rfl, _, rfl, iteT ?_⟩
      refine ⟨_, rfl, _, rfl, rfl, rfl, a, o, rfl, ha1, ho1, fun v hv d H2 s2 hd0 hd => ?_, fun r hr a' H2 s2 sa => ?_⟩
      · have vv : VOk H2 v := (due_vok hb1 ha1 ho1 ((lawDue_eq (way := 3) (by decide) (by decide)).trans (show dueW 3 b a o = .inl v from hv))).same s2
        refine ⟨true, xN, fun _ ax hax => ?_, fun z => Bool.noConfusion z⟩
        refine ⟨_, rfl, CN, .ref CN, .ref CN, true, rfl, rfl, En.D, (fun dd e => ⟨_, by cases e; exact hd⟩), .own _, kNN, _, rfl, ?_⟩
        refine iteT ?_
        refine ⟨_, rfl, rfl, CN, d, _, _, rfl, En.D, En.hno, rfl, hd, rfl, by show 2 ≤ sizeLine; decide, fun t ht => ?_⟩
        refine ⟨_, rfl, hQ t _ ((s0.trans s2).trans (same_upd ht)) ?_⟩
        rw [show dueW 3 b a o = .inl v from hv]
        exact ⟨upd_same, vv.same (same_upd ht)⟩
      · obtain ⟨dx, bv, tv, ea, db, dt⟩ := sa.ex
        refine ⟨_, rfl, a', CS, dx, _, _, rfl, ea, O.cl, O.nT, gText, _, rfl, a', CS, dx, _, _, rfl, ea, O.cl, O.nK, gKind, _, rfl, a', CS, dx, _, _, rfl, ea, O.cl, O.nB, gBy, _, rfl, a', CS, dx, _, _, rfl, ea, O.cl, O.nR, gRest, _, rfl, .ref a', .ref CS, .ref CS, .ref CS, true, rfl, .own _, .base (.ins ea O.cl Te.ha Te.hn Te.ht Te.hm), Te.me, by show 6 ≤ sizeLine; decide, fun t ht => ?_⟩
        refine ⟨_, rfl, hQ t _ ((s0.trans s2).trans (same_upd ht)) ?_⟩
        rw [show dueW 3 b a o = .inr r from hr]
        exact ⟨bv, tv, upd_same, db.keep (TK.new ht), dt.keep (TK.new ht)⟩
    · refine ⟨_, rfl, rfl, _, rfl, iteF ?_⟩
      refine ⟨_, rfl, rfl, _, rfl, iteF ?_⟩
      refine ⟨_, rfl, rfl, _, rfl, iteF ?_⟩
      refine ⟨_, rfl, rfl, _, rfl, iteF ?_⟩
      refine ⟨_, rfl, rfl, _, rfl, iteT ?_⟩
      refine ⟨_, rfl, b, .int 0, .int 1, rfl, hb1, .int 0, .int 1, fun v hv d H2 s2 hd0 hd => ?_, fun r hr a' H2 s2 sa => ?_⟩
      · have vv : VOk H2 v := (due_vok hb1 ha1 ho1 ((lawDue_eq (way := 4) (by decide) (by decide)).trans (show dueW 4 b a o = .inl v from hv))).same s2
        refine ⟨true, xN, fun _ ax hax => ?_, fun z => Bool.noConfusion z⟩
        refine ⟨_, rfl, CN, .ref CN, .ref CN, true, rfl, rfl, En.D, (fun dd e => ⟨_, by cases e; exact hd⟩), .own _, kNN, _, rfl, ?_⟩
        refine iteT ?_
        refine ⟨_, rfl, rfl, CN, d, _, _, rfl, En.D, En.hno, rfl, hd, rfl, by show 2 ≤ sizeLine; decide, fun t ht => ?_⟩
        refine ⟨_, rfl, hQ t _ ((s0.trans s2).trans (same_upd ht)) ?_⟩
        rw [show dueW 4 b a o = .inl v from hv]
        exact ⟨upd_same, vv.same (same_upd ht)⟩
      · obtain ⟨dx, bv, tv, ea, db, dt⟩ := sa.ex
        refine ⟨_, rfl, a', CS, dx, _, _, rfl, ea, O.cl, O.nT, gText, _, rfl, a', CS, dx, _, _, rfl, ea, O.cl, O.nK, gKind, _, rfl, a', CS, dx, _, _, rfl, ea, O.cl, O.nB, gBy, _, rfl, a', CS, dx, _, _, rfl, ea, O.cl, O.nR, gRest, _, rfl, .ref a', .ref CS, .ref CS, .ref CS, true, rfl, .own _, .base (.ins ea O.cl Te.ha Te.hn Te.ht Te.hm), Te.me, by show 6 ≤ sizeLine; decide, fun t ht => ?_⟩
        refine ⟨_, rfl, hQ t _ ((s0.trans s2).trans (same_upd ht)) ?_⟩
        rw [show dueW 4 b a o = .inr r from hr]
        exact ⟨bv, tv, upd_same, db.keep (TK.new ht), dt.keep (TK.new ht)⟩
    · refine ⟨_, rfl, rfl, _, rfl, iteF ?_⟩
      refine ⟨_, rfl, rfl, _, rfl, iteF ?_⟩
      refine ⟨_, rfl, rfl, _, rfl, iteF ?_⟩
      refine ⟨_, rfl, rfl, _, rfl, iteF ?_⟩
      refine ⟨_, rfl, rfl, _, rfl, iteF ?_⟩
      refine ⟨_, rfl, rfl, _, rfl, iteT ?_⟩
      refine ⟨_, rfl, b, .int 0, .int 1, rfl, hb1, .int 0, .int 1, fun v hv d H2 s2 hd0 hd => ?_, fun r hr a' H2 s2 sa => ?_⟩
      · have vv : VOk H2 v := (due_vok hb1 ha1 ho1 ((lawDue_eq (way := 5) (by decide) (by decide)).trans (show dueW 5 b a o = .inl v from hv))).same s2
        refine ⟨true, xN, fun _ ax hax => ?_, fun z => Bool.noConfusion z⟩
        refine ⟨_, rfl, CN, .ref CN, .ref CN, true, rfl, rfl, En.D, (fun dd e => ⟨_, by cases e; exact hd⟩), .own _, kNN, _, rfl, ?_⟩
        refine iteT ?_
        refine ⟨_, rfl, rfl, CN, d, _, _, rfl, En.D, En.hno, rfl, hd, rfl, by show 2 ≤ sizeLine; decide, fun t ht => ?_⟩
        refine ⟨_, rfl, hQ t _ ((s0.trans s2).trans (same_upd ht)) ?_⟩
        rw [show dueW 5 b a o = .inl v from hv]
        exact ⟨upd_same, vv.same (same_upd ht)⟩
      · obtain ⟨dx, bv, tv, ea, db, dt⟩ := sa.ex
        refine ⟨_, rfl, a', CS, dx, _, _, rfl, ea, O.cl, O.nT, gText, _, rfl, a', CS, dx, _, _, rfl, ea, O.cl, O.nK, gKind, _, rfl, a', CS, dx, _, _, rfl, ea, O.cl, O.nB, gBy, _, rfl, a', CS, dx, _, _, rfl, ea, O.cl, O.nR, gRest, _, rfl, .ref a', .ref CS, .ref CS, .ref CS, true, rfl, .own _, .base (.ins ea O.cl Te.ha Te.hn Te.ht Te.hm), Te.me, by show 6 ≤ sizeLine; decide, fun t ht => ?_⟩
        refine ⟨_, rfl, hQ t _ ((s0.trans s2).trans (same_upd ht)) ?_⟩
        rw [show dueW 5 b a o = .inr r from hr]
        exact ⟨bv, tv, upd_same, db.keep (TK.new ht), dt.keep (TK.new ht)⟩
    · refine ⟨_, rfl, rfl, _, rfl, iteF ?_⟩
      refine ⟨_, rfl, rfl, _, rfl, iteF ?_⟩
      refine ⟨_, rfl, rfl, _, rfl, iteF ?_⟩
      refine ⟨_, rfl, rfl, _, rfl, iteF ?_⟩
      refine ⟨_, rfl, rfl, _, rfl, iteF ?_⟩
      refine ⟨_, rfl, rfl, _, rfl, iteF ?_⟩
      refine ⟨_, rfl, rfl, _, rfl, iteT ?_⟩
      refine ⟨_, rfl, _, rfl, rfl, rfl, b, .int 0, o, rfl, hb1, .int 0, ho1, fun v hv d H2 s2 hd0 hd => ?_, fun r hr a' H2 s2 sa => ?_⟩
      · have vv : VOk H2 v := (due_vok hb1 ha1 ho1 ((lawDue_eq (way := 6) (by decide) (by decide)).trans (show dueW 6 b a o = .inl v from hv))).same s2
        refine ⟨true, xN, fun _ ax hax => ?_, fun z => Bool.noConfusion z⟩
        refine ⟨_, rfl, CN, .ref CN, .ref CN, true, rfl, rfl, En.D, (fun dd e => ⟨_, by cases e; exact hd⟩), .own _, kNN, _, rfl, ?_⟩
        refine iteT ?_
        refine ⟨_, rfl, rfl, CN, d, _, _, rfl, En.D, En.hno, rfl, hd, rfl, by show 2 ≤ sizeLine; decide, fun t ht => ?_⟩
        refine ⟨_, rfl, hQ t _ ((s0.trans s2).trans (same_upd ht)) ?_⟩
        rw [show dueW 6 b a o = .inl v from hv]
        exact ⟨upd_same, vv.same (same_upd ht)⟩
      · obtain ⟨dx, bv, tv, ea, db, dt⟩ := sa.ex
        refine ⟨_, rfl, a', CS, dx, _, _, rfl, ea, O.cl, O.nT, gText, _, rfl, a', CS, dx, _, _, rfl, ea, O.cl, O.nK, gKind, _, rfl, a', CS, dx, _, _, rfl, ea, O.cl, O.nB, gBy, _, rfl, a', CS, dx, _, _, rfl, ea, O.cl, O.nR, gRest, _, rfl, .ref a', .ref CS, .ref CS, .ref CS, true, rfl, .own _, .base (.ins ea O.cl Te.ha Te.hn Te.ht Te.hm), Te.me, by show 6 ≤ sizeLine; decide, fun t ht => ?_⟩
        refine ⟨_, rfl, hQ t _ ((s0.trans s2).trans (same_upd ht)) ?_⟩
        rw [show dueW 6 b a o = .inr r from hr]
        exact ⟨bv, tv, upd_same, db.keep (TK.new ht), dt.keep (TK.new ht)⟩
    · refine ⟨_, rfl, rfl, _, rfl, iteF ?_⟩
      refine ⟨_, rfl, rfl, _, rfl, iteF ?_⟩
      refine ⟨_, rfl, rfl, _, rfl, iteF ?_⟩
      refine ⟨_, rfl, rfl, _, rfl, iteF ?_⟩
      refine ⟨_, rfl, rfl, _, rfl, iteF ?_⟩
      refine ⟨_, rfl, rfl, _, rfl, iteF ?_⟩
      refine ⟨_, rfl, rfl, _, rfl, iteF ?_⟩
      refine ⟨_, rfl, _, rfl, rfl, rfl, b, a, .int 1, rfl, hb1, ha1, .int 1, fun v hv d H2 s2 hd0 hd => ?_, fun r hr a' H2 s2 sa => ?_⟩
      · have vv : VOk H2 v := (due_vok hb1 ha1 ho1 ((lawDue_eq (way := 7) (by decide) (by decide)).trans (show dueW 7 b a o = .inl v from hv))).same s2
        refine ⟨true, xN, fun _ ax hax => ?_, fun z => Bool.noConfusion z⟩
        refine ⟨_, rfl, CN, .ref CN, .ref CN, true, rfl, rfl, En.D, (fun dd e => ⟨_, by cases e; exact hd⟩), .own _, kNN, _, rfl, ?_⟩
        refine iteT ?_
        refine ⟨_, rfl, rfl, CN, d, _, _, rfl, En.D, En.hno, rfl, hd, rfl, by show 2 ≤ sizeLine; decide, fun t ht => ?_⟩
        refine ⟨_, rfl, hQ t _ ((s0.trans s2).trans (same_upd ht)) ?_⟩
        rw [show dueW 7 b a o = .inl v from hv]
        exact ⟨upd_same, vv.same (same_upd ht)⟩
      · obtain ⟨dx, bv, tv, ea, db, dt⟩ := sa.ex
        refine ⟨_, rfl, a', CS, dx, _, _, rfl, ea, O.cl, O.nT, gText, _, rfl, a', CS, dx, _, _, rfl, ea, O.cl, O.nK, gKind, _, rfl, a', CS, dx, _, _, rfl, ea, O.cl, O.nB, gBy, _, rfl, a', CS, dx, _, _, rfl, ea, O.cl, O.nR, gRest, _, rfl, .ref a', .ref CS, .ref CS, .ref CS, true, rfl, .own _, .base (.ins ea O.cl Te.ha Te.hn Te.ht Te.hm), Te.me, by show 6 ≤ sizeLine; decide, fun t ht => ?_⟩
        refine ⟨_, rfl, hQ t _ ((s0.trans s2).trans (same_upd ht)) ?_⟩
        rw [show dueW 7 b a o = .inr r from hr]
        exact ⟨bv, tv, upd_same, db.keep (TK.new ht), dt.keep (TK.new ht)⟩
end
end Aw

namespace Aw
open PySem PySem.Spec PyProof.Rows L2 NdefX
def spLaw (K : PySem.W.Frag) : Sp := fun vs H Q _ => ∃ (a : Addr) (ns : List Int), vs = [.ref a] ∧ SqL K H a (ns.map V.int) ∧ ns.length ≤ 63 ∧ ∀ H', Q (.bl true) H'
theorem VOk.but {H H' : Hp} {p : Addr} {v : V} (b : But p H H') (hn : v ≠ .ref p) (h : VOk H v) : VOk H' v := by
  cases h with
  | str x h => exact .str x h
  | non => exact .non
  | bl b => exact .bl b
  | int i => exact .int i
  | lst h => exact .lst (b _ _ h (fun z => hn (congrArg V.ref z)))
  | tup h => exact .tup (b _ _ h (fun z => hn (congrArg V.ref z)))
  | dct h => exact .dct (b _ _ h (fun z => hn (congrArg V.ref z)))
theorem strs_dp {K : PySem.W.Frag} {H : Hp} (l : List Str) : DpAll K H (l.map V.str) (l.map PyData.str) := by
  induction l with
  | nil => exact .nil
  | cons x l ih => exact .cons (.str x) ih
theorem strs_shaped {l : List Str} (h : ∀ z ∈ l, PyData.strOk z = true) : SeqAt.shaped (.list (l.map PyData.str)) = true := by
  have h1 : ∀ l : List Str, (∀ z ∈ l, PyData.strOk z = true) → PyData.canLayAll0 (l.map PyData.str) = true := fun l => by
    induction l with
    | nil => exact fun _ => rfl
    | cons x l ih =>
      intro hz
      have a := hz x (List.mem_cons_self ..)
      have b := ih fun z hz' => hz z (List.mem_cons_of_mem _ hz')
      simp only [List.map_cons, PyData.canLayAll0, PyData.canLay0, a, b, Bool.and_self]
  have h2 : ∀ l : List Str, PyData.depthAll (l.map PyData.str) ≤ 1 := fun l => by
    induction l with
    | nil => simp [PyData.depthAll]
    | cons x l ih => simp [PyData.depthAll, PyData.depth]; omega
  unfold SeqAt.shaped
  refine Bool.and_eq_true_iff.mpr ⟨h1 l h, decide_eq_true ?_⟩
  have := h2 l
  simp only [PyData.depth]
  omega
theorem canLay_shaped {d : PyData} (h : SeqAt.shaped d = true) : PyData.eqv d d = true := SeqAt.eqv_refl d (SeqAt.canLay_of_shaped h)
theorem known_strOk : ∀ p ∈ known, PyData.strOk p.1 = true := by decide +kernel
theorem mem_allT {t : Str} : t ∈ allT ↔ ∃ p ∈ known, p.1 = t := by
  rw [allT, (srt_perm _).mem_iff, List.mem_map]
theorem allT_shaped : SeqAt.shaped (.list (allT.map PyData.str)) = true := strs_shaped fun z hz => by
  obtain ⟨p, hp, rfl⟩ := mem_allT.mp hz
  exact known_strOk p hp
theorem allT_len : allT.length = 99 := by rw [allT, (srt_perm _).length_eq, List.length_map]; exact known_length
theorem knownAt {K : PySem.W.Frag} {H : Hp} {vs : List V} {r : Nat} {v : V} (d : DqAll K H vs knownD) (h : vs[r]? = some v) : ∃ p a rv, known[r]? = some p ∧ v = .ref a ∧ SqT K H a [.str p.1, rv] ∧ Dq K H rv (rowD p.2) := by
  obtain ⟨e, ed, hd⟩ := d.get h
  rw [knownD, List.getElem?_map] at ed
  cases ek : known[r]? with
  | none => rw [ek] at ed; cases ed
  | some p =>
    rw [ek] at ed
    cases ed
    obtain ⟨a, xs, rfl, sq, dxs⟩ := hd.of_tuple
    cases dxs with
    | cons d1 dxs => cases dxs with
      | cons d2 dxs =>
        cases dxs
        obtain rfl := d1.of_str
        exact ⟨p, a, _, rfl, rfl, sq, d2⟩
theorem knownD_len : knownD.length = 99 := by rw [knownD, List.length_map]; exact known_length
/-- a value that is no pen -/
def VP (p : Addr) (H : Hp) (v : V) : Prop := VOk H v ∧ v ≠ .ref p
theorem VP.same {p : Addr} {H H' : Hp} {v : V} (h : VP p H v) (s : Same H H') : VP p H' v := ⟨h.1.same s, h.2⟩
theorem VP.but {p : Addr} {H H' : Hp} {v : V} (h : VP p H v) (b : But p H H') : VP p H' v := ⟨h.1.but b h.2, h.2⟩
theorem VP.int {p : Addr} {H : Hp} (i : Int) : VP p H (.int i) := ⟨.int i, fun z => by cases z⟩
theorem VP.fl {p : Addr} {H : Hp} {v : V} (h : VOk H v) (hn : flatB v = true) : VP p H v := ⟨h, fun z => by rw [z] at hn; cases hn⟩
theorem mem5 {α : Type} {P : α → Prop} {a b c d e v : α} (h : v ∈ [a, b, c, d, e]) (h1 : P a) (h2 : P b) (h3 : P c) (h4 : P d) (h5 : P e) : P v := by
  simp only [List.mem_cons, List.not_mem_nil, or_false] at h
  rcases h with rfl | rfl | rfl | rfl | rfl <;> assumption
theorem al_v {K : PySem.W.Frag} {H : Hp} {n : Nat} {v : V} (h : VOk H v) : Al K H (n + 1) v v := by
  cases h with
  | str x h => exact Al.flat rfl
  | non => exact Al.flat rfl
  | bl b => exact Al.flat rfl
  | int i => exact Al.flat rfl
  | lst h => exact Al.ref
  | tup h => exact Al.ref
  | dct h => exact Al.ref
theorem al_opt {K : PySem.W.Frag} {H : Hp} {n : Nat} {o : Option Int} {b b' : V} (h : Dq K H b (optD o)) (h' : Dq K H b' (optD o)) : Al K H (n + 1) b b' := by
  cases o with
  | none => obtain rfl := h.of_none; obtain rfl := h'.of_none; exact Al.flat rfl
  | some i => obtain rfl := h.of_int; obtain rfl := h'.of_int; exact Al.flat rfl
theorem al_rest {K : PySem.W.Frag} {H : Hp} {n : Nat} {o : Option (Int × Int)} {b b' : V} (h : Dq K H b (restD o)) (h' : Dq K H b' (restD o)) : Al K H (n + 2) b b' := by
  cases o with
  | none => obtain rfl := h.of_none; obtain rfl := h'.of_none; exact Al.flat rfl
  | some p =>
    obtain ⟨a, xs, rfl, sq, d⟩ := h.of_tuple
    obtain ⟨a', xs', rfl, sq', d'⟩ := h'.of_tuple
    cases d with
    | cons d1 d => cases d with
      | cons d2 d =>
        cases d
        cases d' with
        | cons d1' d' => cases d' with
          | cons d2' d' =>
            cases d'
            obtain rfl := d1.of_int; obtain rfl := d2.of_int; obtain rfl := d1'.of_int; obtain rfl := d2'.of_int
            exact .inr (.inr ⟨a, a', _, _, rfl, rfl, sq, sq', .cons (Al.flat rfl) (.cons (Al.flat rfl) .nil)⟩)
section
variable {P : Program} {w : World} {K : PySem.W.Frag} {mg : Str → Option Value} {base : Heap} {CS CB CN fP fI fE fDraw : Addr}
theorem told_eq {H : Hp} {t t' : Addr} {d : V ⊕ Row} {Q : VK} (h : TAt K H t d) (h' : TAt K H t' d) (q : Q (.bl false) H) : rNeAl K (.ref t) (.ref t') H Q := by
  cases d with
  | inl v =>
    obtain ⟨e, hv⟩ := h
    obtain ⟨e', _⟩ := h'
    exact ⟨3, t, t', _, _, by decide, rfl, rfl, SqT.of e, SqT.of e', .cons (Al.flat rfl) (.cons (al_v hv) .nil), q⟩
  | inr r =>
    obtain ⟨b, rr, e, h1, h2⟩ := h
    obtain ⟨b', rr', e', h1', h2'⟩ := h'
    exact ⟨4, t, t', _, _, by decide, rfl, rfl, SqT.of e, SqT.of e', .cons (Al.flat rfl) (.cons (Al.flat rfl) (.cons (Al.flat rfl) (.cons (al_opt h1 h1') (.cons (al_rest h2 h2') (.cons (Al.flat rfl) .nil))))), q⟩
theorem StepAt.pen {H H' : Hp} {a p c : Addr} {n : Nat} {x : Str} {r : Row} (S : StepAt K CS H a x r) (b : But p H H') (P : Pen H p c n) : StepAt K CS H' a x r := by
  obtain ⟨dx, bv, t, e, h1, h2⟩ := S.ex
  obtain ⟨cells, i, l, e1, _⟩ := id P.ex
  exact ⟨⟨dx, bv, t, b _ _ e (ne_of e e1 (fun z => by cases z)), h1.keep (TK.but b P), h2.keep (TK.but b P)⟩, S.pr⟩
theorem own_eq {H : Hp} {a b : Addr} {x y : Str} {r r' : Row} (A : StepAt K CS H a x r) (B : StepAt K CS H b y r') {Q : VK} (q : Q (.bl (decide (x = y))) H) : rOwn K CS (spEq K CS) false (.ref a) (.ref b) H Q := by
  obtain ⟨dx, bv, tv, e, _⟩ := A.ex
  obtain ⟨dx', bv', tv', e', _⟩ := B.ex
  exact ⟨a, dx, _, rfl, e, .inl ⟨b, _, _, rfl, e'⟩, a, .ref b, x, r, rfl, A, .inl ⟨b, y, r', rfl, B, _, rfl, q⟩⟩
theorem scLaw : FnScope ["_law_script", "_law_pen_here", "_law_k", "_law_way", "_law_by", "_law_rest", "_law_modulus", "_law_odd", "_law_found", "_law_texts", "_law_spot", "_law_step", "_law_text_here", "_law_row"] ["_law_script"] (defScope sLaw) := ⟨rfl, rfl, rfl, by decide +kernel, rfl, by decide +kernel, by decide +kernel⟩
theorem ok_law {f fPen fPick fAll fBu fDu fAS fSI : Addr} {fd dPen dDraw dPick dAll dBu dDu dAS dI dE dSI : FuncData} (F : Fun K "law" "law" sLaw f fd) (T : TxtP mg fDraw) (gR : mg "range" = none) (isi : mg "isinstance" = none) (gTu : mg "tuple" = none) (gSo : mg "sorted" = none)
    (FPen : Fun K "_law_pen" "_law_pen" sPen fPen dPen) (bPen : Binds K dPen ["_law_script"] []) (gPen : mg "_law_pen" = some (.ref fPen))
    (FDraw : Fun K "_law_draw" "_law_draw" sDraw fDraw dDraw) (bDraw : Binds K dDraw ["_law_pen_here", "_law_many"] [])
    (FPick : Fun K "_law_pick" "_law_pick" sPick fPick dPick) (bPick : Binds K dPick ["_law_pen_here", "_law_some"] []) (gPick : mg "_law_pick" = some (.ref fPick))
    (FAll : Fun K "_law_all" "_law_all" sAll fAll dAll) (bAll : Binds K dAll [] []) (gAll : mg "_law_all" = some (.ref fAll)) (GAll : FnOk P w K mg base CX0 2 fAll dAll [] (spAll K))
    (FBu : Fun K "_law_built" "_law_built" sBuilt fBu dBu) (bBu : Binds K dBu ["_law_way", "_law_by", "_law_rest", "_law_modulus"] []) (gBu : mg "_law_built" = some (.ref fBu)) (GBu : FnOk P w K mg base CX0 6 fBu dBu ["_law_way", "_law_by", "_law_rest", "_law_modulus"] (spBuilt K))
    (FDu : Fun K "_law_due" "_law_due" sDueL fDu dDu) (bDu : Binds K dDu ["_law_way", "_law_by", "_law_rest", "_law_modulus"] []) (gDu : mg "_law_due" = some (.ref fDu)) (GDu : FnOk P w K mg base CX0 3 fDu dDu ["_law_way", "_law_by", "_law_rest", "_law_modulus"] (spDueL K))
    (FAS : Fun K "all_steps" "all_steps" sAllS fAS dAS) (bAS : Binds K dAS [] []) (gAS : mg "all_steps" = some (.ref fAS)) (GAS : FnOk P w K mg base CX0 5 fAS dAS [] (spAllS K CS))
    (O : TxtO P K mg CS CB fP fI) (GI : FnOk P w K mg base (L2.CX P w) 3 fI dI ["self", "text"] (spInit K CS CB)) (bI : Binds K dI ["self", "text"] [])
    (TE : EqTxt K CS fE) (GE : FnOk P w K mg base CX0 1 fE dE ["self", "other"] (spEq K CS)) (bE : Binds K dE ["self", "other"] []) (nS : PySem.W.notFirst K CS (.type "str") = true) (nN : PySem.W.notFirst K CS (.type "NoneType") = true)
    (hsI : PySem.W.findIn K (.ref CS) "__invert__" = some (some (.ref fSI))) (hfI : PySem.W.isFn K (.ref fSI) = true) (GSI : FnOk P w K mg base CX0 5 fSI dSI ["self"] (spSInv K CS)) (bSI : Binds K dSI ["self"] []) :
    FnOk P w K mg base CX0 7 f fd ["_law_script"] (spLaw K) := by
  have GPen : FnOk P w K mg base CX0 1 fPen dPen ["_law_script"] (spPen K) := ok_pen FPen T
  have GDraw : FnOk P w K mg base CX0 1 fDraw dDraw ["_law_pen_here", "_law_many"] spDraw := ok_draw FDraw T
  have GPick : FnOk P w K mg base CX0 2 fPick dPick ["_law_pen_here", "_law_some"] (spPick K) := ok_pick FPick T FDraw bDraw
  refine F.ok scLaw (fun vs H Q E h => ?_) (fun cdv A outer s H vs Q E hr h => ?_)
  · obtain ⟨a, ns, rfl, _⟩ := h
    rfl
  · obtain ⟨a, ns, rfl, hS, hlen, k⟩ := h
    have nd := scLaw.nd
    refine ⟨_, (pss_cons (ps_set (i := 1) nd rfl (Or.inl rfl) (pe_call GPen (hr.mono (by decide)) (by rfl) gPen FPen.kp bPen .nil pass0 (pa_cons (pv 0) pa_nil)))
      (pss_cons (ps_for PassesOwn.never rfl (pi_range1 rfl gR (pa_cons pe_int pa_nil)) (pg_name (i := 2) nd rfl (Or.inl rfl))
        (pss_cons (ps_asg (pe_tup (pa_cons (pe_call GDraw (hr.mono (by decide)) (by rfl) T.draw FDraw.kp bDraw .nil pass0 (pa_cons (pv 1) (pa_cons pe_int pa_nil))) (pa_cons (pe_op op_sub (pe_call GDraw (hr.mono (by decide)) (by rfl) T.draw FDraw.kp bDraw .nil pass0 (pa_cons (pv 1) (pa_cons pe_int pa_nil))) pe_int) (pa_cons (pe_op op_sub (pe_call GDraw (hr.mono (by decide)) (by rfl) T.draw FDraw.kp bDraw .nil pass0 (pa_cons (pv 1) (pa_cons pe_int pa_nil))) pe_int) (pa_cons (pe_op op_sub (pe_call GDraw (hr.mono (by decide)) (by rfl) T.draw FDraw.kp bDraw .nil pass0 (pa_cons (pv 1) (pa_cons pe_int pa_nil))) pe_int) pa_nil))))) (pg_tup rfl (pgs_cons (pg_name (i := 3) nd rfl (Or.inl rfl)) (pgs_cons (pg_name (i := 4) nd rfl (Or.inl rfl)) (pgs_cons (pg_name (i := 5) nd rfl (Or.inl rfl)) (pgs_cons (pg_name (i := 6) nd rfl (Or.inl rfl)) pgs_nil))))))
        (C8.pss_cut (ps_if (pt_cmpR op_eq (pe_call GDraw (hr.mono (by decide)) (by rfl) T.draw FDraw.kp bDraw .nil pass0 (pa_cons (pv 1) (pa_cons pe_int pa_nil))) pe_int (nomark _))
          (pss_one (ps_par3 (i := 4) (j := 5) (l := 6) rfl nd rfl rfl rfl (by decide) (by decide) (by decide) rfl rfl rfl (pa_cons (pe_call GPick (hr.mono (by decide)) (by rfl) gPick FPick.kp bPick .nil pass0 (pa_cons (pv 1) (pa_cons (pe_lst (pa_cons (pe_un un_neg pe_int) (pa_cons (pe_un un_neg pe_int) (pa_cons (pe_un un_neg pe_int) (pa_cons pe_int (pa_cons pe_int (pa_cons pe_int pa_nil))))))) pa_nil))) (pa_cons (pe_call GDraw (hr.mono (by decide)) (by rfl) T.draw FDraw.kp bDraw .nil pass0 (pa_cons (pv 1) (pa_cons pe_int pa_nil))) (pa_cons (pe_op op_add pe_int (pe_call GDraw (hr.mono (by decide)) (by rfl) T.draw FDraw.kp bDraw .nil pass0 (pa_cons (pv 1) (pa_cons pe_int pa_nil)))) pa_nil))) (by rfl))) pss_nil)
        (pss_cons (ps_set (i := 7) nd rfl (Or.inl rfl) (pe_call GDraw (hr.mono (by decide)) (by rfl) T.draw FDraw.kp bDraw .nil pass0 (pa_cons (pv 1) (pa_cons pe_int pa_nil))))
        (C8.pss_cut (ps_if (pt_cmpR op_eq (pv 7) pe_int (nomark _))
          (pss_one (ps_set (i := 4) nd rfl (Or.inl rfl) (pe_call GPick (hr.mono (by decide)) (by rfl) gPick FPick.kp bPick .nil pass0 (pa_cons (pv 1) (pa_cons (pe_lst (pa_cons pe_non (pa_cons pe_bl (pa_cons pe_str (pa_cons (pe_op op_pow pe_int pe_int) (pa_cons (pe_tup (pa_cons pe_int pa_nil)) pa_nil)))))) pa_nil))))) pss_nil)
        (C8.pss_cut (ps_if (pt_cmpR op_lt (pv 7) pe_int (nomark _))
          (pss_one (ps_set (i := 6) nd rfl (Or.inl rfl) (pe_call GPick (hr.mono (by decide)) (by rfl) gPick FPick.kp bPick .nil pass0 (pa_cons (pv 1) (pa_cons (pe_lst (pa_cons pe_non (pa_cons pe_bl (pa_cons pe_str (pa_cons (pe_op op_pow pe_int pe_int) (pa_cons (pe_lst (pa_cons pe_int pa_nil)) pa_nil)))))) pa_nil))))) pss_nil)
        (C8.pss_cut (ps_if (pt_cmpR op_lt (pv 7) pe_int (nomark _))
          (pss_one (ps_set (i := 5) nd rfl (Or.inl rfl) (pe_call GPick (hr.mono (by decide)) (by rfl) gPick FPick.kp bPick .nil pass0 (pa_cons (pv 1) (pa_cons (pe_lst (pa_cons pe_non (pa_cons pe_bl (pa_cons pe_str (pa_cons (pe_un un_neg pe_int) (pa_cons (pe_op op_pow pe_int pe_int) pa_nil)))))) pa_nil))))) pss_nil)
        (pss_one (ps_if (pt_cmpR (op_neAl hr.units) (pe_call GBu hr (by rfl) gBu FBu.kp bBu .nil pass0 (pa_cons (pv 3) (pa_cons (pv 4) (pa_cons (pv 5) (pa_cons (pv 6) pa_nil))))) (pe_call GDu (hr.mono (by decide)) (by rfl) gDu FDu.kp bDu .nil pass0 (pa_cons (pv 3) (pa_cons (pv 4) (pa_cons (pv 5) (pa_cons (pv 6) pa_nil))))) (nomark _))
          (pss_one (ps_ret pe_bl)) pss_nil)))))))))
      (pss_cons (ps_set (i := 8) nd rfl (Or.inl rfl) (pe_call0 GAS (hr.mono (by decide)) (by rfl) gAS FAS.kp bAS .nil pass0))
      (pss_cons (ps_setLc (i := 9) (own := [("_law_step", 11)]) (g := (gName 11)) (tt := tYes) (te := tFld K (tVar 11) "text") rfl nd rfl rfl (sw_true rfl rfl (by rfl) (by decide +kernel)) (pi_tup (pv 8)) (blkOk_by (own := [("_law_step", 11)]) (N := ["_law_script", "_law_pen_here", "_law_k", "_law_way", "_law_by", "_law_rest", "_law_modulus", "_law_odd", "_law_found", "_law_texts", "_law_spot", "_law_step", "_law_text_here", "_law_row"]) (sc := defScope sLaw) (by decide +kernel)) (fun _ _ _ _ _ => (pg_name (i := 11) nd rfl (Or.inl rfl))) (fun _ _ _ _ _ => pts_nil) (fun _ _ _ _ _ => (pe_fld (pv 11) rfl)))
      (pss_cons (ps_if (PW.pt (pw_or (pt_not (pt_val (pe_callB (show CallR _ (.builtin "isinstance") (rIsi K) from call_isi) (by rfl) isi (by decide +kernel) (pa_cons (pv 8) (pa_cons (pe_bltn (v := .ty "tuple") (by rfl) gTu (by decide +kernel) rfl) pa_nil))))) (pw_or (pt_cmpR op_ne (pe_callB call_len_seq (by rfl) T.len PySem.boot_len (pa_cons (pv 8) pa_nil)) pe_int (nomark _)) (pw_or1 (pt_cmpR (op_neD hr.units) (pv 9) (pe_callB (cr_sortedT hr.units) (by rfl) gSo (by decide +kernel) (pa_cons (pe_lc (own := [("_law_text_here", 12), ("_law_row", 13)]) (g := (gTup _ 2 (gCons (gName 12) (gCons (gName 13) gNil)))) (tt := tYes) rfl nd (pi_list (pe_call0 GAll (hr.mono (by decide)) (by rfl) gAll FAll.kp bAll .nil pass0)) (blkOk_by (own := [("_law_text_here", 12), ("_law_row", 13)]) (N := ["_law_script", "_law_pen_here", "_law_k", "_law_way", "_law_by", "_law_rest", "_law_modulus", "_law_odd", "_law_found", "_law_texts", "_law_spot", "_law_step", "_law_text_here", "_law_row"]) (sc := defScope sLaw) (by decide +kernel)) (fun _ _ _ _ _ => (pg_tup rfl (pgs_cons (pg_name (i := 12) nd rfl (Or.inl rfl)) (pgs_cons (pg_name (i := 13) nd rfl (Or.inl rfl)) pgs_nil)))) (fun _ _ _ _ _ => pts_nil) (fun _ _ _ _ _ => (pv 12))) pa_nil)) (nomark _))))))
        (pss_one (ps_ret pe_bl)) pss_nil)
      (pss_cons (ps_set (i := 10) nd rfl (Or.inl rfl) (pe_call GDraw (hr.mono (by decide)) (by rfl) T.draw FDraw.kp bDraw .nil pass0 (pa_cons (pv 1) (pa_cons pe_int pa_nil))))
      (pss_one (ps_ret (pe_and (pe_cmpR op_in_seq (pe_fld (pe_un (un_invO hsI hfI GSI (hr.mono (by decide)) bSI) (pe_ix ix_tup (pv 8) (pv 10) (fun _ _ => rfl))) rfl) (pv 9) (by rfl)) (pe_one (pe_cmpR op_isBl (pe_cmpR (op_eqOwn TE nS nN GE (hr.mono (by decide)) bE) (pe_ix ix_tup (pv 8) (pv 10) (fun _ _ => rfl)) (pe_makeS O.mkr GI (hr.mono (by decide)) (by rfl) O.g bI (fun σ => passE σ) (pa_cons (pe_ix ix_list (pv 9) (pv 10) (fun _ _ => rfl)) pa_nil)) (nomark _)) pe_bl (nomark _)))))))))))), ?_⟩
    refine ⟨_, rfl, a, ns, rfl, hS, hlen, fun p c H0 s0 hp hc Pn0 => ?_⟩
    refine ⟨6, rfl, by decide, by decide, for_range (n := 6) (fun i σ H2 => ∃ (v2 v3 v4 v5 v6 v7 : Option V), σ = [some (.ref a), some (.ref p), v2, v3, v4, v5, v6, v7, none, none, none, none, none, none] ∧ Pen H2 p c (15 * i)) ⟨none, none, none, none, none, none, rfl, Pn0⟩ ?_ ?_⟩
    · rintro i σ H2 hi ⟨v2, v3, v4, v5, v6, v7, rfl, Pn⟩
      have hi6 : i < 6 := hi
      refine ⟨_, rfl, p, c, 8, _, rfl, Pn, by omega, by decide, by decide, fun way H3 w0 w1 b3 P3 => ?_⟩
      refine ⟨_, rfl, p, c, 11, _, rfl, P3, by omega, by decide, by decide, fun by1 H4 _ _ b4 P4 => ?_⟩
      refine ⟨_, _, rfl, rfl, ?_⟩
      refine ⟨_, rfl, p, c, 9, _, rfl, P4, by omega, by decide, by decide, fun re1 H5 _ _ b5 P5 => ?_⟩
      refine ⟨_, _, rfl, rfl, ?_⟩
      refine ⟨_, rfl, p, c, 8, _, rfl, P5, by omega, by decide, by decide, fun mo1 H6 _ _ b6 P6 => ?_⟩
      refine ⟨_, _, rfl, rfl, by show 4 ≤ sizeLine; decide, fun t6 ht6 => ⟨t6, _, rfl, SqT.of upd_same, rfl, _, _, rfl, _, _, rfl, _, _, rfl, _, _, rfl, rfl, ?_⟩⟩
      have P7 := P6.new (o := .tup [.int way, .int (by1 - 5), .int (re1 - 2), .int (mo1 - 1)]) ht6
      generalize upd H6 t6 (.tup [.int way, .int (by1 - 5), .int (re1 - 2), .int (mo1 - 1)]) = H7 at *
      have mk : ∀ {b r m : V} {σ : Aw.St} {H : Hp}, σ = [some (.ref a), some (.ref p), some (.int ((0 : Int) + (i : Int))), some (.int way), some b, some r, some m, v7, none, none, none, none, none, none] → Pen H p c (15 * i + 8) → VP p H b → VP p H r → VP p H m →
        ∃ b r m, σ = [some (.ref a), some (.ref p), some (.int ((0 : Int) + (i : Int))), some (.int way), some b, some r, some m, v7, none, none, none, none, none, none] ∧ Pen H p c (15 * i + 8) ∧ VP p H b ∧ VP p H r ∧ VP p H m := fun e P h1 h2 h3 => ⟨_, _, _, e, P, h1, h2, h3⟩
      refine ⟨fun σ H => ∃ b r m, σ = [some (.ref a), some (.ref p), some (.int ((0 : Int) + (i : Int))), some (.int way), some b, some r, some m, v7, none, none, none, none, none, none] ∧ Pen H p c (15 * i + 8) ∧ VP p H b ∧ VP p H r ∧ VP p H m, ?_, ?_⟩
      · refine ⟨_, rfl, p, c, 2, _, rfl, P7, by omega, by decide, by decide, fun u H8 _ _ b8 P8 => ?_⟩
        refine ⟨rfl, _, rfl, ?_⟩
        refine ite_int (fun _ => ?_) (fun _ => ?_)
        · refine ⟨_, rfl, 3, rfl, 2, rfl, 1, rfl, by show 6 ≤ sizeLine; decide, fun l9 hl9 => ?_⟩
          refine ⟨p, c, l9, [.int (-3), .int (-2), .int (-1), .int 1, .int 2, .int 3], _, rfl, P8.new hl9, by omega, SqL.of upd_same, by show 0 < 6; decide, by show 6 ≤ 1000000; decide, fun ix b H9 hv b9 P9 => ?_⟩
          have Vb : VP p H9 b := by
            match ix, hv with
            | 0, hv => cases hv; exact .int _
            | 1, hv => cases hv; exact .int _
            | 2, hv => cases hv; exact .int _
            | 3, hv => cases hv; exact .int _
            | 4, hv => cases hv; exact .int _
            | 5, hv => cases hv; exact .int _
            | n + 6, hv => simp at hv
          refine ⟨_, rfl, p, c, 3, _, rfl, P9, by omega, by decide, by decide, fun r H10 _ _ b10 P10 => ?_⟩
          refine ⟨_, rfl, p, c, 4, _, rfl, P10, by omega, by decide, by decide, fun m H11 _ _ b11 P11 => ?_⟩
          refine ⟨1, m, rfl, rfl, _, _, _, rfl, ?_⟩
          exact mk rfl (P11.mono (by omega)) ((Vb.but b10).but b11) (.int _) (.int _)
        · exact mk rfl (P8.mono (by omega)) (.int _) (.int _) (.int _)
      rintro σ H9 ⟨b, r, m, rfl, P9, Vb, Vr, Vm⟩
      refine ⟨_, rfl, p, c, 9, _, rfl, P9, by omega, by decide, by decide, fun od H10 _ _ b10 P10 => ?_⟩
      have Vb := Vb.but b10
      have Vr := Vr.but b10
      have Vm := Vm.but b10
      have mk : ∀ {q : Nat} {b r m : V} {σ : Aw.St} {H : Hp}, σ = [some (.ref a), some (.ref p), some (.int ((0 : Int) + (i : Int))), some (.int way), some b, some r, some m, some (.int od), none, none, none, none, none, none] → Pen H p c (15 * i + q) → VP p H b → VP p H r → VP p H m →
        ∃ b r m, σ = [some (.ref a), some (.ref p), some (.int ((0 : Int) + (i : Int))), some (.int way), some b, some r, some m, some (.int od), none, none, none, none, none, none] ∧ Pen H p c (15 * i + q) ∧ VP p H b ∧ VP p H r ∧ VP p H m := fun e P h1 h2 h3 => ⟨_, _, _, e, P, h1, h2, h3⟩
      refine ⟨fun σ H => ∃ b r m, σ = [some (.ref a), some (.ref p), some (.int ((0 : Int) + (i : Int))), some (.int way), some b, some r, some m, some (.int od), none, none, none, none, none, none] ∧ Pen H p c (15 * i + 10) ∧ VP p H b ∧ VP p H r ∧ VP p H m, ?_, ?_⟩
      · refine ⟨_, rfl, rfl, _, rfl, ?_⟩
        refine ite_int (fun _ => ?_) (fun _ => ?_)
        · refine ⟨_, rfl, 10, 30, rfl, rfl, ⟨by decide, by decide, by decide⟩, by show 1 ≤ sizeLine; decide, fun t1 ht1 => ⟨by show 5 ≤ sizeLine; decide, fun l2 hl2 => ?_⟩⟩
          have s12 := (same_upd (o := .tup [.int 1]) ht1).trans (same_upd (o := .lst [.non, .bl true, .str "1", .int ((10 : Int) ^ (30 : Int).toNat), .ref t1]) hl2)
          have P12 := P10.same s12
          refine ⟨p, c, l2, [.non, .bl true, .str "1", .int ((10 : Int) ^ (30 : Int).toNat), .ref t1], _, rfl, P12, by omega, SqL.of upd_same, by show 0 < 5; decide, by show 5 ≤ 1000000; decide, fun ix v H13 hv b13 P13 => ?_⟩
          have Vv := mem5 (P := VP p (upd (upd H10 t1 (.tup [.int 1])) l2 (.lst [.non, .bl true, .str "1", .int ((10 : Int) ^ (30 : Int).toNat), .ref t1]))) (List.mem_of_getElem? hv) (.fl .non rfl) (.fl (.bl _) rfl) (.fl (.str _ (by decide)) rfl) (.int _)
            ⟨.tup (same_upd hl2 _ _ upd_same), fun z => by obtain ⟨o, e⟩ := P10.some1; rw [V.ref.inj z] at ht1; rw [ht1] at e; cases e⟩
          exact mk rfl (P13.mono (by omega)) (Vv.but b13) ((Vr.same s12).but b13) ((Vm.same s12).but b13)
        · exact mk rfl (P10.mono (by omega)) Vb Vr Vm
      clear P10 Vb Vr Vm
      rintro σ H11 ⟨b, r, m, rfl, P11, Vb, Vr, Vm⟩
      refine ⟨fun σ H => ∃ b r m, σ = [some (.ref a), some (.ref p), some (.int ((0 : Int) + (i : Int))), some (.int way), some b, some r, some m, some (.int od), none, none, none, none, none, none] ∧ Pen H p c (15 * i + 11) ∧ VP p H b ∧ VP p H r ∧ VP p H m, ?_, ?_⟩
      · refine ⟨_, rfl, od, 2, rfl, rfl, _, rfl, ?_⟩
        refine ite_dec (fun _ => ?_) (fun _ => ?_)
        · refine ⟨_, rfl, 10, 30, rfl, rfl, ⟨by decide, by decide, by decide⟩, by show 1 ≤ sizeLine; decide, fun t1 ht1 => ⟨by show 5 ≤ sizeLine; decide, fun l2 hl2 => ?_⟩⟩
          have s12 := (same_upd (o := .lst [.int 3]) ht1).trans (same_upd (o := .lst [.non, .bl true, .str "2", .int ((10 : Int) ^ (30 : Int).toNat), .ref t1]) hl2)
          have P12 := P11.same s12
          refine ⟨p, c, l2, [.non, .bl true, .str "2", .int ((10 : Int) ^ (30 : Int).toNat), .ref t1], _, rfl, P12, by omega, SqL.of upd_same, by show 0 < 5; decide, by show 5 ≤ 1000000; decide, fun ix v H13 hv b13 P13 => ?_⟩
          have Vv := mem5 (P := VP p (upd (upd H11 t1 (.lst [.int 3])) l2 (.lst [.non, .bl true, .str "2", .int ((10 : Int) ^ (30 : Int).toNat), .ref t1]))) (List.mem_of_getElem? hv) (.fl .non rfl) (.fl (.bl _) rfl) (.fl (.str _ (by decide)) rfl) (.int _)
            ⟨.lst (same_upd hl2 _ _ upd_same), fun z => by obtain ⟨o, e⟩ := P11.some1; rw [V.ref.inj z] at ht1; rw [ht1] at e; cases e⟩
          exact mk rfl (P13.mono (by omega)) ((Vb.same s12).but b13) ((Vr.same s12).but b13) (Vv.but b13)
        · exact mk rfl (P11.mono (by omega)) Vb Vr Vm
      clear P11 Vb Vr Vm
      rintro σ H12 ⟨b, r, m, rfl, P12, Vb, Vr, Vm⟩
      refine ⟨fun σ H => ∃ b r m, σ = [some (.ref a), some (.ref p), some (.int ((0 : Int) + (i : Int))), some (.int way), some b, some r, some m, some (.int od), none, none, none, none, none, none] ∧ Pen H p c (15 * i + 12) ∧ VP p H b ∧ VP p H r ∧ VP p H m, ?_, ?_⟩
      · refine ⟨_, rfl, od, 3, rfl, rfl, _, rfl, ?_⟩
        refine ite_dec (fun _ => ?_) (fun _ => ?_)
        · refine ⟨_, rfl, 1, rfl, 10, 30, rfl, rfl, ⟨by decide, by decide, by decide⟩, by show 5 ≤ sizeLine; decide, fun l2 hl2 => ?_⟩
          have s12 := same_upd (o := .lst [.non, .bl false, .str "0", .int (-1), .int ((10 : Int) ^ (30 : Int).toNat)]) hl2
          have P13 := P12.same s12
          refine ⟨p, c, l2, [.non, .bl false, .str "0", .int (-1), .int ((10 : Int) ^ (30 : Int).toNat)], _, rfl, P13, by omega, SqL.of upd_same, by show 0 < 5; decide, by show 5 ≤ 1000000; decide, fun ix v H13 hv b13 P13 => ?_⟩
          have Vv := mem5 (P := VP p H13) (List.mem_of_getElem? hv) (.fl .non rfl) (.fl (.bl _) rfl) (.fl (.str _ (by decide)) rfl) (.int _) (.int _)
          exact mk rfl (P13.mono (by omega)) ((Vb.same s12).but b13) Vv ((Vm.same s12).but b13)
        · exact mk rfl (P12.mono (by omega)) Vb Vr Vm
      clear P12 Vb Vr Vm
      rintro σ H13 ⟨b, r, m, rfl, P13, Vb, Vr, Vm⟩
      refine ⟨_, rfl, _, rfl, _, rfl, _, rfl, way, b, r, m, rfl, w0, w1, Vb.1, Vr.1, Vm.1, fun t1 H14 s14 e1 => ?_⟩
      refine ⟨_, rfl, _, rfl, _, rfl, _, rfl, way, b, r, m, rfl, (Vb.same s14).1, (Vr.same s14).1, (Vm.same s14).1, fun t2 H15 s15 e2 => ?_⟩
      rw [lawDue_eq w0 w1] at e2
      refine told_eq (e1.same s15) e2 ⟨_, rfl, ?_⟩
      refine iteF ?_
      exact ⟨_, _, _, _, _, _, rfl, ((P13.same s14).same s15).mono (by omega)⟩
    · rintro σ H2 ⟨v2, v3, v4, v5, v6, v7, rfl, Pn⟩
      have Pn : Pen H2 p c 90 := Pn
      refine ⟨rfl, fun F xs H3 s3 eF st => ?_⟩
      have P3 := Pn.same s3
      have eR := rowsT_all
      generalize rowsT (srt (txA 3 0)) = R at *
      have lR : R.length = 99 := by rw [← allT_len, ← eR, List.length_map]
      have lx := st.length
      refine ⟨_, rfl, F, rfl, ⟨_, SqT.of eF⟩, fun D hD => ?_⟩
      refine lc_tup (a := F) (xs := xs) (fun m H4 => Same H3 H4 ∧ H4 D = some (.lst ((R.take m).map fun q => V.str q.1))) ⟨same_upd hD, upd_same⟩ (fun m H4 hm z => SqT.of (z.1 _ _ eF)) ?_ ?_
      · rintro m x H4 hx ⟨s4, e4⟩
        obtain ⟨b, q, iq, rfl, sb⟩ := (st.same s4).get hx
        obtain ⟨dx, bv, tv, eb, _, _⟩ := sb.ex
        refine ⟨rfl, _, rfl, b, CS, dx, _, _, rfl, eb, O.cl, O.nT, gText, _, e4, small200' (by rw [List.length_map, List.length_take]; omega), same_fresh hD s4, ?_⟩
        rw [upd_same, map_snoc iq]
      rintro H4 ⟨s4, e4⟩
      have eD : H4 D = some (.lst (allT.map V.str)) := by
        rw [e4, List.take_of_length_le (by omega), ← eR, List.map_map]
        rfl
      have P4 := P3.same s4
      have eF4 := s4 _ _ eF
      have st4 := st.same s4
      refine ⟨_, rfl, .ref F, .ty "tuple", .type "tuple", .type "tuple", true, rfl, .ty _, .base (.tup eF4), kit_ty (show kitB "tuple" "tuple" = some true by decide +kernel), _, rfl, ?_⟩
      refine iteF ?_
      refine ⟨_, rfl, F, xs, rfl, .inr (SqT.of eF4), rfl, _, rfl, ?_⟩
      rw [show (!decide (V.int (xs.length : Nat) = V.int 99)) = false by rw [lx, lR]; rfl]
      refine iteF ?_
      refine ⟨_, rfl, rfl, fun L H5 s5 rL => ?_⟩
      obtain ⟨ws, eL, dL⟩ := rL.ex
      have lw := dL.length
      rw [knownD_len] at lw
      refine ⟨L, rfl, ⟨_, SqL.of eL⟩, fun D2 hD2 => ?_⟩
      refine lc_list (a := L) (xs := ws) (fun m H6 => Same H5 H6 ∧ H6 D2 = some (.lst ((known.take m).map fun q => V.str q.1))) ⟨same_upd hD2, upd_same⟩ (fun m H6 hm z => SqL.of (z.1 _ _ eL)) ?_ ?_
      · rintro m x H6 hx ⟨s6, e6⟩
        obtain ⟨q, y, rv, iq, rfl, sq, _⟩ := knownAt (dL.keep (TK.same s6)) hx
        have hm : m < 99 := by rw [← known_length]; exact (List.getElem?_eq_some_iff.mp iq).1
        refine ⟨y, _, rfl, sq, rfl, _, _, rfl, _, _, rfl, rfl, rfl, _, rfl, _, e6, small200' (by rw [List.length_map, List.length_take]; omega), same_fresh hD2 s6, ?_⟩
        rw [upd_same, map_snoc iq]
      rintro H6 ⟨s6, e6⟩
      have e6 : H6 D2 = some (.lst ((known.map fun p : Str × Row => p.1).map V.str)) := by
        rw [e6, List.take_of_length_le (by rw [known_length]; omega), List.map_map]
        rfl
      have s46 := s5.trans s6
      refine ⟨D2, _, rfl, SqL.of e6, fun S hS => ?_⟩
      have s47 := s46.trans (same_upd (o := .lst ((srt (known.map fun p : Str × Row => p.1)).map V.str)) hS)
      refine ⟨.list (allT.map PyData.str), .list (allT.map PyData.str), .lst (SqL.of (s47 _ _ eD)) (strs_dp _), .lst (SqL.of upd_same) (strs_dp _), allT_shaped, allT_shaped, _, rfl, ?_⟩
      rw [canLay_shaped allT_shaped]
      refine iteF ?_
      obtain ⟨H7, hH7⟩ : ∃ H7, upd H6 S (.lst ((srt (known.map fun p : Str × Row => p.1)).map V.str)) = H7 := ⟨_, rfl⟩
      rw [hH7] at s47
      refine nxt ?_
      dsimp only
      rw [hH7]
      have P7 := P4.same s47
      have eD7 := s47 _ _ eD
      have eF7 := s47 _ _ eF4
      have st7 := st4.same s47
      refine ⟨_, rfl, p, c, 99, 90, rfl, P7, by omega, by decide, by decide, fun sp H8 p0 p1 b8 P8 => ?_⟩
      obtain ⟨j, rfl⟩ : ∃ j : Nat, sp = (j : Int) := ⟨sp.toNat, by omega⟩
      have hj : j < xs.length := by omega
      obtain ⟨u, hu⟩ : ∃ u, xs[j]? = some u := ⟨xs[j], List.getElem?_eq_getElem hj⟩
      obtain ⟨b, q, iq, rfl, sb7⟩ := st7.get hu
      have sb := sb7.pen b8 P7
      have hq : allT[j]? = some q.1 := by rw [← eR, List.getElem?_map, iq]; rfl
      have hk : q ∈ known := by
        have := parse_iff.mp sb7.pr
        exact this
      have eD8 : H8 D = some (.lst (allT.map V.str)) := b8.lst eD7 (fun z => by
        obtain ⟨cells, i, l, e1, _⟩ := P7.ex
        rw [z, e1] at eD7
        cases eD7)
      have eF8 : SqT K H8 F xs := b8.tup P7 (SqT.of eF7)
      obtain ⟨dx, bv, tv, eb, _, _⟩ := sb.ex
      refine ⟨_, rfl, _, rfl, F, xs, (j : Int), .ref b, rfl, rfl, eF8, atI_nat hu, b, dx, _, rfl, eb, b, q.1, q.2, rfl, sb, fun c2 H9 s9 sc => ?_⟩
      obtain ⟨dx2, bv2, tv2, ec, _, _⟩ := sc.ex
      refine ⟨c2, CS, dx2, _, _, rfl, ec, O.cl, O.nT, gText, _, rfl, D, _, rfl, .inl (SqL.of (s9 _ _ eD8)), rfl, flat_strs _, _, rfl, ?_⟩
      rw [in_strs, decide_eq_true (mem_allT.mpr ⟨_, (known_invR q hk).1, rfl⟩)]
      refine iteT ?_
      have eD9 := s9 _ _ eD8
      have hat : atI (allT.map V.str) (j : Int) = some (.str q.1) := atI_nat (by rw [List.getElem?_map, hq]; rfl)
      refine ⟨_, rfl, _, rfl, F, xs, (j : Int), .ref b, rfl, rfl, eF8.elim (fun h => h.elim (fun h => .inl (.inl (s9 _ _ h))) fun ⟨o, h⟩ => .inl (.inr ⟨o, s9 _ _ h⟩)) .inr, atI_nat hu, ?_⟩
      refine ⟨_, rfl, _, rfl, D, _, (j : Int), _, rfl, rfl, SqL.of eD9, hat, make_parse sb7.pr (by have := known_short q hk; omega) fun c3 H10 s10 sd => ?_⟩
      refine own_eq ((sb.same s9).same s10) sd ?_
      rw [decide_eq_true rfl]
      exact ⟨true, true, rfl, rfl, k _⟩
end
end Aw

namespace Aw
open PySem PySem.Spec PyProof.Rows L2 NdefX
theorem keyEq_ok : ∀ {l : List DictEntry} {zs : List Str}, keyEq l zs = true → l.length = zs.length ∧ ∀ i (hi : i < l.length), ∃ z t, zs[i]? = some z ∧ l[i].key = .str z t
  | [], [], _ => ⟨rfl, fun i hi => absurd hi (Nat.not_lt_zero _)⟩
  | e :: es, z :: zs, h => by
    unfold keyEq at h
    obtain ⟨h1, h2⟩ := Bool.and_eq_true_iff.mp h
    obtain ⟨h3, h4⟩ := keyEq_ok h2
    refine ⟨congrArg (· + 1) h3, fun i hi => ?_⟩
    cases i with
    | zero =>
      split at h1
      · rename_i x t ek
        have := of_decide_eq_true h1
        subst this
        exact ⟨_, t, rfl, ek⟩
      · cases h1
    | succ i => exact h4 i (by simpa using hi)
  | [], _ :: _, h => by cases h
  | _ :: _, [], h => by cases h
theorem keysO_ok {K : PySem.W.Frag} {w : World} {d : Addr} {es : Array DictEntry} {n : Nat} {L : List Str} (D : KDict K w d es n) (h : keysO K d L = true) : KeysAre es L := by
  unfold keysO at h
  rw [D.at_] at h
  obtain ⟨h1, h2⟩ := keyEq_ok h
  rw [Array.length_toList] at h1
  exact ⟨h1, fun i hi => by
    obtain ⟨z, t, e1, e2⟩ := h2 i (by rw [Array.length_toList]; exact hi)
    exact ⟨z, t, e1, by rw [← e2, Array.getElem_toList]⟩⟩
end Aw

namespace Aw
open PySem PySem.Spec PyProof.Rows L2 NdefX He5
open He (eqO eqO_ok ga ma Fa cls_ok noat_ok meth_ok mkr_ok exm_ok int_ok tupB tupB_ok valsB valsB_ok Dv relAll relAll_ok)
-- LATE
theorem txteB_ok {K : PySem.W.Frag} {C : Addr} (h : txteB K C = true) : TxtE K C := by
  obtain ⟨h1, h⟩ := bo h
  obtain ⟨h2, h⟩ := bo h
  obtain ⟨h3, h⟩ := bo h
  obtain ⟨h4, h⟩ := bo h
  obtain ⟨h5, h⟩ := bo h
  obtain ⟨h6, h7⟩ := bo h
  exact ⟨eqO_ok h1, eqO_ok h2, of_decide_eq_true h3, of_decide_eq_true h4, of_decide_eq_true h5, of_decide_eq_true h6, of_decide_eq_true h7⟩
theorem owneqB_ok {K : PySem.W.Frag} {C : Addr} (h : owneqB K C = true) : EqTxt K C (ma K C "__eq__") ∧ PySem.W.notFirst K C (.type "str") = true ∧ PySem.W.notFirst K C (.type "NoneType") = true := by
  obtain ⟨h1, h⟩ := bo h
  obtain ⟨h2, h⟩ := bo h
  obtain ⟨h3, h⟩ := bo h
  obtain ⟨h4, h⟩ := bo h
  obtain ⟨h5, h6⟩ := bo h
  exact ⟨⟨eqO_ok h1, h2, eqO_ok h3, of_decide_eq_true h4⟩, h5, h6⟩
theorem facts {w : World} {K : PySem.W.Frag} {h : Heap} {mg : Str → Option Value} {f : Addr} (X : K.In h) (G : h.Ns mainGlobals mg) (hfa : mg ("law" : Str) = some (.ref f)) (c : SaysZ fns sus tabs exB w K) :
    ∃ fd : FuncData, (∀ (s : Shared) (v : Value), BindsTo s fd ⟨[v], []⟩ [("_law_script", v)]) ∧ ∀ base : Heap, K.In base → base.Ns mainGlobals mg → FnOk (PySem.Challenge.rw_allwordlengths_k12_steps_built_from_numb).prog w K mg base CX0 7 f fd ["_law_script"] (spLaw K) := by
  obtain ⟨c1, m⟩ := bo c.more
  obtain ⟨c2, m⟩ := bo m
  obtain ⟨c3, m⟩ := bo m
  obtain ⟨c4, c5⟩ := bo m
  have gl : ∀ x ∈ globs, mg x = some (.ref (ga K x)) := fun x hx => glo_of X G (List.all_eq_true.mp c1 x hx)
  have fr : ∀ x ∈ frees, mg x = none := fun x hx => fre_of X G (List.all_eq_true.mp c2 x hx)
  have so : ∀ d ∈ sus, d.ok PySem.Challenge.pw_allwordlengths_k12_steps_built_from_numb.main.file K = true := fun d hd => List.all_eq_true.mp c3 d hd
  have fa : ∀ x ∈ fas, x.ok K = true := fun x hx => List.all_eq_true.mp c4 x hx
  have exk : ∀ f ∈ exs, f K = true := fun f hf => List.all_eq_true.mp c5 f hf
  have htop : ((PySem.Challenge.rw_allwordlengths_k12_steps_built_from_numb).prog.main.scope.names.lookup ("super" : Str)).isSome = false := by decide +kernel
  have E0 : Err (PySem.Challenge.rw_allwordlengths_k12_steps_built_from_numb).prog K mg "BadText" "text" "text" (ga K "BadText") := sup_err X G ss0 htop (c.sup 0) (so su0 (by simp [sus]))
  have E1 : Err (PySem.Challenge.rw_allwordlengths_k12_steps_built_from_numb).prog K mg "BadNumber" "number" "number" (ga K "BadNumber") := sup_err X G ss1 htop (c.sup 1) (so su1 (by simp [sus]))
  have T : TxtP mg (ga K "_law_draw") := ⟨fr _ (by simp [frees]), fr _ (by simp [frees]), fr _ (by simp [frees]), gl _ (by simp [globs])⟩
  obtain ⟨eN, nn, kN⟩ := c.tab 0 (t := (fun K => ga K "NUMBERS", numL.map (·.1))) rfl
  obtain ⟨eR, nr, kR⟩ := c.tab 1 (t := (fun K => ga K "RESTS", restL.map (·.1))) rfl
  have xT : xTup K = true := exk _ (by simp [exs])
  have xN : xNum K = true := exk _ (by simp [exs])
  have xNK : xNumK K = true := exk _ (by simp [exs])
  have xR : xRest K = true := exk _ (by simp [exs])
  have xRK : xRestK K = true := exk _ (by simp [exs])
  have TS : TxtS K w mg (ga K "NUMBERS") (ga K "RESTS") (ga K "BARE_KINDS") eN eR nn nr :=
    { isi := fr _ (by simp [frees]), str := fr _ (by simp [frees]), gB := gl _ (by simp [globs]), bare := fun H => tupB_ok xT H,
      num := { g := gl _ (by simp [globs]), D := kN, no := fun z hz => keysB_ok xNK (lookup_none1 hz), yes := fun z i hz => valsB_ok (q := (z, .int i)) xN (List.mem_map.mpr ⟨_, lookup_mem1 hz, rfl⟩) },
      rest := { g := gl _ (by simp [globs]), D := kR, no := fun z hz => keysB_ok xRK (lookup_none1 hz), yes := fun z p hz => restB_ok xR (lookup_mem1 hz) } }
  have h_xTS : xTS K = true := exk _ (by simp [exs])
  have h_xES : xES K = true := exk _ (by simp [exs])
  have h_xIS : xIS K = true := exk _ (by simp [exs])
  have h_xOth : xOth K = true := exk _ (by simp [exs])
  have h_xOthK : xOthK K = true := exk _ (by simp [exs])
  have h_xKN : xKN K = true := exk _ (by simp [exs])
  have h_xKR : xKR K = true := exk _ (by simp [exs])
  have h_xKE : xKE K = true := exk _ (by simp [exs])
  obtain ⟨dPen, DPen⟩ := c.def_ 0 (d := defG "_law_pen" sPen) rfl
  have FPen : Fun K "_law_pen" "_law_pen" sPen (ga K "_law_pen") dPen := fun_of (kws := []) DPen
  have bPen := FPen.binds (ps := ["_law_script"]) fun _ _ _ _ _ _ us hl => match us, hl with | [_], _ => rfl
  obtain ⟨dDraw, DDraw⟩ := c.def_ 1 (d := defG "_law_draw" sDraw) rfl
  have FDraw : Fun K "_law_draw" "_law_draw" sDraw (ga K "_law_draw") dDraw := fun_of (kws := []) DDraw
  have bDraw := FDraw.binds (ps := ["_law_pen_here", "_law_many"]) fun _ _ _ _ _ _ us hl => match us, hl with | [_, _], _ => rfl
  obtain ⟨dPick, DPick⟩ := c.def_ 2 (d := defG "_law_pick" sPick) rfl
  have FPick : Fun K "_law_pick" "_law_pick" sPick (ga K "_law_pick") dPick := fun_of (kws := []) DPick
  have bPick := FPick.binds (ps := ["_law_pen_here", "_law_some"]) fun _ _ _ _ _ _ us hl => match us, hl with | [_, _], _ => rfl
  obtain ⟨dText, DText⟩ := c.def_ 3 (d := defG "_law_text" sText) rfl
  have FText : Fun K "_law_text" "_law_text" sText (ga K "_law_text") dText := fun_of (kws := []) DText
  have bText := FText.binds (ps := ["_law_step"]) fun _ _ _ _ _ _ us hl => match us, hl with | [_], _ => rfl
  obtain ⟨dAll, DAll⟩ := c.def_ 4 (d := defG "_law_all" sAll) rfl
  have FAll : Fun K "_law_all" "_law_all" sAll (ga K "_law_all") dAll := fun_of (kws := []) DAll
  have bAll := FAll.binds (ps := []) fun _ _ _ _ _ _ us hl => match us, hl with | [], _ => rfl
  obtain ⟨dBuilt, DBuilt⟩ := c.def_ 5 (d := defG "_law_built" sBuilt) rfl
  have FBuilt : Fun K "_law_built" "_law_built" sBuilt (ga K "_law_built") dBuilt := fun_of (kws := []) DBuilt
  have bBuilt := FBuilt.binds (ps := ["_law_way", "_law_by", "_law_rest", "_law_modulus"]) fun _ _ _ _ _ _ us hl => match us, hl with | [_, _, _, _], _ => rfl
  obtain ⟨dWholeL, DWholeL⟩ := c.def_ 6 (d := defG "_law_is_whole" sWholeL) rfl
  have FWholeL : Fun K "_law_is_whole" "_law_is_whole" sWholeL (ga K "_law_is_whole") dWholeL := fun_of (kws := []) DWholeL
  have bWholeL := FWholeL.binds (ps := ["_law_value", "_law_least", "_law_most"]) fun _ _ _ _ _ _ us hl => match us, hl with | [_, _, _], _ => rfl
  obtain ⟨dDueL, DDueL⟩ := c.def_ 7 (d := defG "_law_due" sDueL) rfl
  have FDueL : Fun K "_law_due" "_law_due" sDueL (ga K "_law_due") dDueL := fun_of (kws := []) DDueL
  have bDueL := FDueL.binds (ps := ["_law_way", "_law_by", "_law_rest", "_law_modulus"]) fun _ _ _ _ _ _ us hl => match us, hl with | [_, _, _, _], _ => rfl
  obtain ⟨dToldL, DToldL⟩ := c.def_ 8 (d := defG "_law_told" sToldL) rfl
  have FToldL : Fun K "_law_told" "_law_told" sToldL (ga K "_law_told") dToldL := fun_of (kws := []) DToldL
  have bToldL := FToldL.binds (ps := ["_law_row"]) fun _ _ _ _ _ _ us hl => match us, hl with | [_], _ => rfl
  obtain ⟨dLaw, DLaw⟩ := c.def_ 9 (d := defG "law" sLaw) rfl
  have FLaw : Fun K "law" "law" sLaw (ga K "law") dLaw := fun_of (kws := []) DLaw
  have bLaw := FLaw.binds (ps := ["_law_script"]) fun _ _ _ _ _ _ us hl => match us, hl with | [_], _ => rfl
  obtain ⟨dParts, DParts⟩ := c.def_ 10 (d := defG "step_parts" sParts) rfl
  have FParts : Fun K "step_parts" "step_parts" sParts (ga K "step_parts") dParts := fun_of (kws := []) DParts
  have bParts := FParts.binds (ps := ["text"]) fun _ _ _ _ _ _ us hl => match us, hl with | [_], _ => rfl
  obtain ⟨dNum, DNum⟩ := c.def_ 11 (d := defG "is_number" sNum) rfl
  have FNum : Fun K "is_number" "is_number" sNum (ga K "is_number") dNum := fun_of (kws := []) DNum
  have bNum := FNum.binds (ps := ["value", "low", "high"]) fun _ _ _ _ _ _ us hl => match us, hl with | [_, _, _], _ => rfl
  obtain ⟨dSText, DSText⟩ := c.def_ 12 (d := defG "step_text" sSText) rfl
  have FSText : Fun K "step_text" "step_text" sSText (ga K "step_text") dSText := fun_of (kws := []) DSText
  have bSText := FSText.binds (ps := ["kind", "by", "rest"]) fun _ _ _ _ _ _ us hl => match us, hl with | [_, _, _], _ => rfl
  obtain ⟨dOwnI, DOwnI⟩ := c.def_ 13 (d := defG "is_own_inverse" sOwnI) rfl
  have FOwnI : Fun K "is_own_inverse" "is_own_inverse" sOwnI (ga K "is_own_inverse") dOwnI := fun_of (kws := []) DOwnI
  have bOwnI := FOwnI.binds (ps := ["by", "rest"]) fun _ _ _ _ _ _ us hl => match us, hl with | [_, _], _ => rfl
  obtain ⟨dChkBy, DChkBy⟩ := c.def_ 14 (d := defG "check_by" sChkBy) rfl
  have FChkBy : Fun K "check_by" "check_by" sChkBy (ga K "check_by") dChkBy := fun_of (kws := []) DChkBy
  have bChkBy := FChkBy.binds (ps := ["by"]) fun _ _ _ _ _ _ us hl => match us, hl with | [_], _ => rfl
  obtain ⟨dChkOf, DChkOf⟩ := c.def_ 15 (d := defG "check_of" sChkOf) rfl
  have FChkOf : Fun K "check_of" "check_of" sChkOf (ga K "check_of") dChkOf := fun_of (kws := []) DChkOf
  have bChkOf := FChkOf.binds (ps := ["of", "low"]) fun _ _ _ _ _ _ us hl => match us, hl with | [_, _], _ => rfl
  obtain ⟨dChkAt, DChkAt⟩ := c.def_ 16 (d := defG "check_at" sChkAt) rfl
  have FChkAt : Fun K "check_at" "check_at" sChkAt (ga K "check_at") dChkAt := fun_of (kws := []) DChkAt
  have bChkAt := FChkAt.binds (ps := ["at", "of"]) fun _ _ _ _ _ _ us hl => match us, hl with | [_, _], _ => rfl
  obtain ⟨dRoN, DRoN⟩ := c.def_ 17 (d := defG "rest_or_none" sRoN) rfl
  have FRoN : Fun K "rest_or_none" "rest_or_none" sRoN (ga K "rest_or_none") dRoN := fun_of (kws := []) DRoN
  have bRoN := FRoN.binds (ps := ["at", "of"]) fun _ _ _ _ _ _ us hl => match us, hl with | [_, _], _ => rfl
  obtain ⟨dRoll, DRoll⟩ := c.def_ 18 (d := defG "roll_step" sRoll) rfl
  have FRoll : Fun K "roll_step" "roll_step" sRoll (ga K "roll_step") dRoll := fun_of (kws := []) DRoll
  have bRoll := FRoll.binds (ps := ["by"]) fun _ _ _ _ _ _ us hl => match us, hl with | [_], _ => rfl
  obtain ⟨dAllS, DAllS⟩ := c.def_ 19 (d := defG "all_steps" sAllS) rfl
  have FAllS : Fun K "all_steps" "all_steps" sAllS (ga K "all_steps") dAllS := fun_of (kws := []) DAllS
  have bAllS := FAllS.binds (ps := []) fun _ _ _ _ _ _ us hl => match us, hl with | [], _ => rfl
  obtain ⟨dSInit, DSInit⟩ := c.def_ 20 (d := defM "Step" "__init__" "Step.__init__" sInit) rfl
  have FSInit : Fun K "__init__" "Step.__init__" sInit (ma K (ga K "Step") "__init__") dSInit := fun_of (kws := []) DSInit
  have bSInit := FSInit.binds (ps := ["self", "text"]) fun _ _ _ _ _ _ us hl => match us, hl with | [_, _], _ => rfl
  obtain ⟨dSEq, DSEq⟩ := c.def_ 21 (d := defM "Step" "__eq__" "Step.__eq__" sEq) rfl
  have FSEq : Fun K "__eq__" "Step.__eq__" sEq (ma K (ga K "Step") "__eq__") dSEq := fun_of (kws := []) DSEq
  have bSEq := FSEq.binds (ps := ["self", "other"]) fun _ _ _ _ _ _ us hl => match us, hl with | [_, _], _ => rfl
  obtain ⟨dSInv, DSInv⟩ := c.def_ 22 (d := defM "Step" "__invert__" "Step.__invert__" sSInv) rfl
  have FSInv : Fun K "__invert__" "Step.__invert__" sSInv (ma K (ga K "Step") "__invert__") dSInv := fun_of (kws := []) DSInv
  have bSInv := FSInv.binds (ps := ["self"]) fun _ _ _ _ _ _ us hl => match us, hl with | [_], _ => rfl
  obtain ⟨dNearS, DNearS0⟩ := c.def_ 23 (d := ddNearS) rfl
  have FNearS : L2.FunD K "near_step" "near_step" (defArgs sNearS) (defBody sNearS) (defScope sNearS) [] [("at", V.int 0), ("of", V.int 1)] (ga K "near_step") dNearS := DNearS0
  obtain ⟨dSumS, DSumS0⟩ := c.def_ 24 (d := ddSumS) rfl
  have FSumS : L2.FunD K "sum_step" "sum_step" (defArgs sSumS) (defBody sSumS) (defScope sSumS) [] [("at", V.int 0), ("of", V.int 1)] (ga K "sum_step") dSumS := DSumS0
  obtain ⟨dFlipS, DFlipS0⟩ := c.def_ 25 (d := ddFlipS) rfl
  have FFlipS : L2.FunD K "flip_step" "flip_step" (defArgs sFlipS) (defBody sFlipS) (defScope sFlipS) [] [] (ga K "flip_step") dFlipS := DFlipS0
  have e := hfa.symm.trans (gl "law" (by simp [globs]))
  cases e
  refine ⟨dLaw, fun s v => by
      have hb := FunD.bindsA (ps := ["_law_script"]) DLaw fun _ _ _ _ _ _ us hl => match us, hl with | [_], _ => rfl
      exact hb s [v] rfl, fun base _ _ => ?_⟩
  have clS : Cls K (ga K "Step") := cls_ok (fa (.cls "Step") (by simp [fas]))
  have sT : NoAttr K (ga K "Step") "text" := noat_ok (fa (.noat "Step" "text") (by simp [fas]))
  have sK : NoAttr K (ga K "Step") "kind" := noat_ok (fa (.noat "Step" "kind") (by simp [fas]))
  have O : TxtO (PySem.Challenge.rw_allwordlengths_k12_steps_built_from_numb).prog K mg (ga K "Step") (ga K "BadText") (ga K "step_parts") (ma K (ga K "Step") "__init__") :=
    { parts := (gl _ (by simp [globs])), bt := E0, cl := clS, nT := sT, nK := sK, nB := noat_ok (fa (.noat "Step" "by") (by simp [fas])), nR := noat_ok (fa (.noat "Step" "rest") (by simp [fas])), g := (gl _ (by simp [globs])), mkr := mkr_ok (fa (.mkr "Step") (by simp [fas])) }
  have TeS := txteB_ok h_xTS
  obtain ⟨ES, nSs, nSn⟩ := owneqB_ok h_xES
  obtain ⟨iS, fiS, _⟩ := spmB_ok h_xIS
  obtain ⟨eO, nO, kOt⟩ := c.tab 2 (t := (fun K => ga K "OTHER_KINDS", otherL.map (·.1))) rfl
  have kO : OthK K w mg (ga K "OTHER_KINDS") eO nO := { g := (gl _ (by simp [globs])), D := kOt, no := fun z hz => keysB_ok h_xOthK (lookup_none1 hz), yes := fun z y hz => valsB_ok (q := (z, .str y)) h_xOth (List.mem_map.mpr ⟨_, lookup_mem1 hz, rfl⟩) }
  have kNN : PySem.W.kitOne K (.ref (ga K "BadNumber")) (.ref (ga K "BadNumber")) = some true := of_decide_eq_true h_xKE
  have xN : PySem.W.exmOne K (.ref (ga K "BadNumber")) (.ref (ga K "WordsError")) = some true := exm_ok (fa (.exm "BadNumber" "WordsError" true) (by simp [fas]))
  have GSI := ok_init (w := w) (base := base) FSInit O TS FParts bParts
  have GP := ok_parts (P := (PySem.Challenge.rw_allwordlengths_k12_steps_built_from_numb).prog) (base := base) FParts TS
  have GST := ok_stext (P := (PySem.Challenge.rw_allwordlengths_k12_steps_built_from_numb).prog) (w := w) (base := base) (mg := mg) FSText
  have GOw := ok_owni (P := (PySem.Challenge.rw_allwordlengths_k12_steps_built_from_numb).prog) (w := w) (base := base) (mg := mg) FOwnI
  have GSV := ok_sinv (w := w) (base := base) FSInv O kO (fr _ (by simp [frees])) GSI bSInit GST FSText bSText (gl _ (by simp [globs])) GOw FOwnI bOwnI (gl _ (by simp [globs]))
  have GSE := ok_eq (P := (PySem.Challenge.rw_allwordlengths_k12_steps_built_from_numb).prog) (w := w) (base := base) FSEq O TeS (fr _ (by simp [frees]))
  have GNum := ok_num (P := (PySem.Challenge.rw_allwordlengths_k12_steps_built_from_numb).prog) (w := w) (base := base) FNum (fr _ (by simp [frees])) (fr _ (by simp [frees])) (fr _ (by simp [frees]))
  have GBy := ok_chkby (w := w) (base := base) FChkBy E1 GNum FNum bNum (gl _ (by simp [globs]))
  have GOf := ok_chkof (w := w) (base := base) FChkOf E1 GNum FNum bNum (gl _ (by simp [globs]))
  have GAt := ok_chkat (w := w) (base := base) FChkAt E1 GNum FNum bNum (gl _ (by simp [globs]))
  have GRn := ok_ron (P := (PySem.Challenge.rw_allwordlengths_k12_steps_built_from_numb).prog) (w := w) (base := base) (mg := mg) FRoN
  have SR : TxtSR (PySem.Challenge.rw_allwordlengths_k12_steps_built_from_numb).prog w K mg base (ga K "Step") (ga K "BadText") (ga K "BadNumber") (ga K "step_parts") (ma K (ga K "Step") "__init__") (ga K "step_text") (ga K "check_by") (ga K "check_of") (ga K "check_at") (ga K "rest_or_none") dSInit dSText dChkBy dChkOf dChkAt dRoN :=
    { O := O, GI := GSI, bI := bSInit, GTx := GST, FTx := FSText, bTx := bSText, gTx := (gl _ (by simp [globs])), GBy := GBy, FBy := FChkBy, bBy := bChkBy, gBy := (gl _ (by simp [globs])), GOf := GOf, FOf := FChkOf, bOf := bChkOf, gOf := (gl _ (by simp [globs])), GAt := GAt, FAt := FChkAt, bAt := bChkAt, gAt := (gl _ (by simp [globs])), GRn := GRn, FRn := FRoN, bRn := bRoN, gRn := (gl _ (by simp [globs])), En := E1 }
  have GRo := ok_roll FRoll SR
  have GNe := ok_nearS FNearS SR
  have GSu := ok_sumS FSumS SR
  have GFl := ok_flipS (fun_of (kws := []) FFlipS) SR
  have B : TxtLB (PySem.Challenge.rw_allwordlengths_k12_steps_built_from_numb).prog w K mg base (ga K "Step") (ga K "BadNumber") (ga K "roll_step") (ga K "near_step") (ga K "sum_step") (ga K "flip_step") dRoll dNearS dSumS dFlipS :=
    { GRo := GRo, kRo := FRoll.kp, bRo := bRoll, gRo := (gl _ (by simp [globs])), GNe := GNe, kNe := FNearS.kp, gNe := (gl _ (by simp [globs])), GSu := GSu, kSu := FSumS.kp, gSu := (gl _ (by simp [globs])), GFl := GFl, kFl := FFlipS.kp, gFl := (gl _ (by simp [globs])) }
  obtain ⟨m1, k1⟩ := FunD.kbinds0 (ps := ["by", "at", "of"]) FNearS 1 ["at", "of"] [] gA (fun z => by cases z) (fun q hq => by cases hq) (fun r1 _ r3 => r1.append r3) (fun D doc pm an cdv ct us mv ws hu hm hw => match us, hu, mv, hm, ws, hw with | [_], _, [], _, [_, _], _ => rfl)
  obtain ⟨m2, k2⟩ := FunD.kbinds0 (ps := ["by", "at", "of"]) FSumS 1 ["of", "at"] [] gS (fun z => by cases z) (fun q hq => by cases hq) (fun r1 _ r3 => r1.append (vals_sw r3)) (fun D doc pm an cdv ct us mv ws hu hm hw => match us, hu, mv, hm, ws, hw with | [_], _, [], _, [_, _], _ => rfl)
  have k3 : KBn K dFlipS ["at", "of"] 0 ["at", "of"] (fun us ws => gA us [] ws) gVN2 := kbindsN FFlipS 0 ["at", "of"] (fun r1 r3 => r1.append r3) (fun kV doc pm an cdv ct us ws hu hw => match us, hu, ws, hw with | [], _, [_, _], _ => rfl)
  obtain ⟨m4, k4⟩ := FunD.kbinds0 (ps := ["by", "at", "of"]) FNearS 1 ["of"] [("at", .int 0)] gB (fun z => by cases z) (fun q hq => by simp at hq; simp [hq]) (fun r1 r2 r3 => r1.append (r2.append r3)) (fun D doc pm an cdv ct us mv ws hu hm hw => match us, hu, mv, hm, ws, hw with | [_], _, [_], _, [_], _ => ⟨_, _, _, _, _, _, rfl, rfl, rfl⟩)
  obtain ⟨m5, k5⟩ := FunD.kbinds0 (ps := ["by", "at", "of"]) FSumS 1 ["at"] [("of", .int 1)] gC (fun z => by cases z) (fun q hq => by simp at hq; simp [hq]) (fun r1 r2 r3 => r1.append (r3.append r2)) (fun D doc pm an cdv ct us mv ws hu hm hw => match us, hu, mv, hm, ws, hw with | [_], _, [_], _, [_], _ => ⟨_, _, _, _, _, _, rfl, rfl, rfl⟩)
  obtain ⟨dN, vN, bN⟩ := FunD.binds0 (ps := ["by", "at", "of"]) FNearS 1 (fun z => by cases z) rfl (fun D doc pm an cdv ct us ks hu hk => match us, hu, ks, hk with | [_], _, [_, _], _ => ⟨_, _, _, _, _, _, rfl, rfl, ⟨_, _, _, _, _, _, rfl, rfl, rfl⟩⟩)
  obtain ⟨dS, vS, bS⟩ := FunD.binds0 (ps := ["by", "at", "of"]) FSumS 1 (fun z => by cases z) rfl (fun D doc pm an cdv ct us ks hu hk => match us, hu, ks, hk with | [_], _, [_, _], _ => ⟨_, _, _, _, _, _, rfl, rfl, ⟨_, _, _, _, _, _, rfl, rfl, rfl⟩⟩)
  have GTx := ok_text (P := (PySem.Challenge.rw_allwordlengths_k12_steps_built_from_numb).prog) (w := w) (base := base) FText (fr _ (by simp [frees]))
  have GAl := ok_all (P := (PySem.Challenge.rw_allwordlengths_k12_steps_built_from_numb).prog) (w := w) (base := base) FAll (fr _ (by simp [frees])) (fr _ (by simp [frees])) (fr _ (by simp [frees])) (gl _ (by simp [globs])) FText bText
  have GWh := ok_wholeL (P := (PySem.Challenge.rw_allwordlengths_k12_steps_built_from_numb).prog) (w := w) (base := base) FWholeL (fr _ (by simp [frees])) (fr _ (by simp [frees])) (fr _ (by simp [frees]))
  have GTo := ok_toldL (P := (PySem.Challenge.rw_allwordlengths_k12_steps_built_from_numb).prog) (w := w) (base := base) FToldL GTx FText bText (gl _ (by simp [globs]))
  have GDu := ok_dueL (P := (PySem.Challenge.rw_allwordlengths_k12_steps_built_from_numb).prog) (w := w) (base := base) FDueL (fr _ (by simp [frees])) GWh FWholeL bWholeL (gl _ (by simp [globs])) GTo FToldL bToldL (gl _ (by simp [globs]))
  have GBu := ok_built (w := w) (base := base) (CW := ga K "WordsError") FBuilt O TeS (gl _ (by simp [globs])) (fr _ (by simp [frees])) E1 B k1 k2 k3 k4 k5 vN bN vS bS kNN xN
  have TA : TxtAS K w mg (ga K "NUMBERS") (ga K "RESTS") (ga K "BARE_KINDS") eN eR nn nr := { S := TS, kN := keysO_ok kN h_xKN, kR := keysO_ok kR h_xKR, list := (fr _ (by simp [frees])), tup := (fr _ (by simp [frees])), sorted := (fr _ (by simp [frees])) }
  have GAS := ok_allS (w := w) (base := base) FAllS TA O GSI bSInit GP FParts bParts
  exact ok_law FLaw T (fr _ (by simp [frees])) (fr _ (by simp [frees])) (fr _ (by simp [frees])) (fr _ (by simp [frees])) FPen bPen (gl _ (by simp [globs])) FDraw bDraw FPick bPick (gl _ (by simp [globs])) FAll bAll (gl _ (by simp [globs])) GAl FBuilt bBuilt (gl _ (by simp [globs])) GBu FDueL bDueL (gl _ (by simp [globs])) GDu FAllS bAllS (gl _ (by simp [globs])) GAS O GSI bSInit ES GSE bSEq nSs nSn iS fiS GSV bSInv
end Aw

open PySem PySem.W PySem.Calls PyProof.Rows
set_option maxRecDepth 100000 in
set_option maxHeartbeats 0 in
theorem PySem.Challenge.cw_allwordlengths_k12_steps_built_from_numb_holds : PySem.Challenge.rw_allwordlengths_k12_steps_built_from_numb.Holds := by
  w_on; o_law
  refine HandSHeadRun.head_any (r := OpenLaw.row PySem.Challenge.rw_allwordlengths_k12_steps_built_from_numb) (q := view (OpenLaw.row PySem.Challenge.rw_allwordlengths_k12_steps_built_from_numb).prog [35]) (H := Aw.hk) (ob := Aw.ob) (M := 12000) (loose := Aw.loose) (d := HandSHeadRun.topDef (OpenLaw.row PySem.Challenge.rw_allwordlengths_k12_steps_built_from_numb).prog 35) (kwd := []) Aw.ob_eq
    (by kernel_rfl) (fun s => by kernel_rfl) Aw.run (by kernel_rfl) (by kernel_rfl) (by kernel_rfl) (by rfl) (by first | assumption | decide +kernel) (by decide +kernel) ⟨rfl, rfl, rfl, rfl, rfl, by decide +kernel⟩ ?hw ?hc
  case hw => w_witness2
  case hc =>
    refine L2.walk_ofE (l := PySem.Challenge.rw_allwordlengths_k12_steps_built_from_numb) (n := 63) (k := 7) (x := "_law_script") (CX := L2.CX0) rfl (by decide) (by kernel_rfl) ⟨rfl, by decide, by decide⟩ ?F (fun _ _ _ _ z => z)
    intro w mg fa h Y G hmg0
    obtain ⟨K, KX, c⟩ := Y
    have hmg : mg ("law" : PySem.Str) = some (.ref fa) := by
      have e : (HandSHeadRun.topDef (OpenLaw.row PySem.Challenge.rw_allwordlengths_k12_steps_built_from_numb).prog 35).name = ("law" : PySem.Str) := by kernel_rfl
      rw [← e]
      exact hmg0
    obtain ⟨fd, hb, hF⟩ := Aw.facts (w := w) KX G hmg c
    exact ⟨K, fd, Aw.spLaw K, KX, hb, fun H a ns hl _ hS => ⟨a, ns, rfl, hS, hl, fun _ => rfl⟩, hF⟩
#print axioms PySem.Challenge.cw_allwordlengths_k12_steps_built_from_numb_holds

