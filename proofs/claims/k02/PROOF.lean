import PyProof.Rows.All
import Wide.All
import OpenK.AllK
import Wide.FinOn
import KE.KExcSuper
import KE.KExcIs
import HandS.ForMost
import HandS.ForSpec
import HandS.ExcInit
import HandS.Nested
import HandS.IsInst
import HandS.HotCalls
import HandS.ExcValue
import HandS.ExcIs
import HandS.ExcField
import HandS.Head0
import HandS.Head1
import HandS.Head2
import HandS.HeadNt
import HandS.HeadEnd
import HandS.HeadHook4
import HandS.WrittenGet
import HandS.Style
import HandS.FStr
import HandS.Conv
import HandS.OwnEq
import HandS.Defaults
import HandS.MakeKw
import KE.GoesMore
import HandS.ClsMeth
import HandS.IterVal
import PySem.Challenge.RW_allwordlengths_k02_programs_are_read
set_option Elab.async false
set_option linter.all false
set_option maxRecDepth 100000
set_option maxHeartbeats 4000000
namespace Aw
open PySem PySem.Spec PyProof.Rows L2 NdefX

def supBody (z y fld : Str) (j : Nat) (p0 p1 p2 p3 p4 p5 p6 p7 p8 p9 : Pos) : List Stmt :=
  [.Expr (.Call (.Attribute (.Call (.Name "super" p0) [] [] p1) "__init__" p2) [.Constant (.str z) j p3] [] p4) p5,
   .Assign [.Attribute (.Name "self" p6) fld p7] (.Name y p8) p9]

/-- the promise of such an __init__ -/
def spSup (C : Addr) (fld : Str) : Sp := fun vs H Q _ => ∃ (a : Addr) (v : V), vs = [.ref a, v] ∧ H a = some (exo a C none) ∧
  ∀ dx, H dx = none → dx ≠ a → Q .non (upd (upd H dx (exd dx [(fld, v)])) a (exo a C (some dx)))

/-- what the written part says of the class's __init__ -/
structure SupTxt (P : Program) (K : PySem.W.Frag) (mg : Str → Option Value) (C f cc cda : Addr) (qual y fld : Str) (args : Arguments) (body : List Stmt) (scope : Scope) (fd : FuncData) : Prop where
  T : OexC K C
  fdE : ∃ dV kV doc pm an ct, fd = PySem.W.fnX "__init__" qual args body scope [("__class__", cc)] dV kV doc pm an (.ref cda) ct
  lk : ∃ oc od osl, K.lookup f = some ⟨oc, od, .func fd, osl⟩
  cd : PySem.W.codeIn K (.ref cda) qual = true
  file : ∃ ccl cdd vs ccs fl tf, K.lookup cda = some ⟨ccl, cdd, .fields vs, ccs⟩ ∧ vs[2]? = some (.str fl tf) ∧ ((P.main.file : Str) == fl) = true
  cell : ∃ cl cld csl, K.lookup cc = some ⟨cl, cld, .cell (some (.ref C)), csl⟩
  hm : PySem.W.ks_superIn K C C "__init__" = some (some (.builtin "ValueError.__init__"))
  hB : PySem.W.subIn K (.ref C) (.type "ValueError") = some true
  hself : PySem.W.mroIn K C (.ref C) = some true
  ho : PySem.W.nsIn K cStatics "thirdparty.any" = some none
  hno : PySem.W.findIn K (.ref C) fld = some none
  hsup : mg "super" = none
  htop : (P.main.scope.names.lookup ("super" : Str)).isSome = false
  bd : ∃ z j p0 p1 p2 p3 p4 p5 p6 p7 p8 p9, body = supBody z y fld j p0 p1 p2 p3 p4 p5 p6 p7 p8 p9 ∧ (p2.endLine == p4.line) = true
  ar : (args.posonlyargs ++ args.args).head?.map (·.arg) = some "self"
  sc : NScope ["self", y, "__class__"] ["self", y] ["__class__"] scope
  scs : scope.names.lookup ("super" : Str) = some .globalImplicit
  ny : (y == ("__debug__" : Str)) = false ∧ (y == ("__classdict__" : Str)) = false

section
variable {X : Cx} {C f cc cda a : Addr} {v : V} {y fld z : Str} {j : Nat} {p0 p1 p2 p3 p4 p5 p6 p7 p8 p9 : Pos} {H : Hp} {s : Shared} {fd : FuncData} {body : List Stmt} {D : Ends} {Q : Flow → Shared → Prop}
/-- what the body's context is -/
structure SupCx (X : Cx) (C f cc cda : Addr) (y : Str) (fd : FuncData) : Prop where
  n0 : X.N[0]? = some ("self" : Str)
  n1 : X.N[1]? = some y
  ks : X.env.kindOf "super" = some .globalImplicit
  kc : X.env.kindOf "__class__" = some .free
  k0 : X.env.kindOf "self" = some .local
  k1 : X.env.kindOf y = some .local
  fn : X.env.func = some f
  co : X.env.code = .ref cda
  ce : X.env.cells = ([("__class__", cc)] : List (Str × Addr))
  lk : ∃ oc od osl, X.K.lookup f = some ⟨oc, od, .func fd, osl⟩
  ar : (fd.params.posonlyargs ++ fd.params.args).head?.map (·.arg) = some "self"
  file : ∃ ccl cdd vs ccs fl tf, X.K.lookup cda = some ⟨ccl, cdd, .fields vs, ccs⟩ ∧ vs[2]? = some (.str fl tf) ∧ ((X.prog.main.file : Str) == fl) = true
  cell : ∃ cl cld csl, X.K.lookup cc = some ⟨cl, cld, .cell (some (.ref C)), csl⟩
  hm : PySem.W.ks_superIn X.K C C "__init__" = some (some (.builtin "ValueError.__init__"))
  hB : PySem.W.subIn X.K (.ref C) (.type "ValueError") = some true
  hself : PySem.W.mroIn X.K C (.ref C) = some true
  ho : PySem.W.nsIn X.K cStatics "thirdparty.any" = some none
  hsup : X.mg "super" = none
  htop : (X.prog.main.scope.names.lookup ("super" : Str)).isSome = false
  T : OexC X.K C

theorem sup_eval {env : Env} (hp : (p2.endLine == p4.line) = true) : eval (.Call (.Attribute (.Call (.Name "super" p0) [] [] p1) "__init__" p2) [.Constant (.str z) j p3] [] p4) env = (do
      let ov ← attributeBase (.Call (.Name "super" p0) [] [] p1) "__init__" env (eval (.Call (.Name "super" p0) [] [] p1) env)
      standAt p2.atName
      let (f, first) ← holding [ov] (getMethod ov "__init__" (do return (← importBound (.Call (.Name "super" p0) [] [] p1) env).getD true))
      callWith p4 f first (backTo p4 (starEach [.Constant (.str z) j p3] env)) []) := by
  have e : ∀ few, methodCallPos few (.Call (.Name "super" p0) [] [] p1) env p2 p4 = pure p4 := fun few => by
    unfold methodCallPos
    rw [hp, Bool.or_true]
    rfl
  rw [eval]
  unfold methodCall
  simp only [e]
  rfl
theorem sup_first (hp4 : (p2.endLine == p4.line) = true) (S : SupCx X C f cc cda y fd) (I : Inv X [] [some (V.ref a), some v, some (V.ref C)] H s) (ha : H a = some (exo a C none))
    (h : ∀ s', Inv X [] [some (V.ref a), some v, some (V.ref C)] H s' → Q .next s') : 
    PySem.wpAt (model X.prog X.w) X.A (.func body X.env) (exec (.Expr (.Call (.Attribute (.Call (.Name "super" p0) [] [] p1) "__init__" p2) [.Constant (.str z) j p3] [] p4) p5) X.env) Q X.xe s := by
  obtain ⟨oc, od, osl, lk⟩ := S.lk
  obtain ⟨ccl, cdd, fvs, ccs, fl, tf, lkc, hvs, hfile⟩ := S.file
  obtain ⟨cl, cld, csl, lkcc⟩ := S.cell
  obtain ⟨ar, har, harg⟩ : ∃ ar : Arg, (fd.params.posonlyargs ++ fd.params.args).head? = some ar ∧ ar.arg = "self" := by
    have h := S.ar
    cases e : (fd.params.posonlyargs ++ fd.params.args).head? with
    | none => rw [e] at h; cases h
    | some ar => rw [e] at h; exact ⟨ar, rfl, Option.some.inj h⟩
  obtain ⟨nm, q, N, bs, bm, sn, sub, ab, col, dd, k0, k1, k2, k3, k5, hC, hbm⟩ := S.T.cls
  have hcl : PySem.W.clsIn X.K C = some { name := nm, bases := bs, mro := .ref C :: bm, ns := N, qualname := q, hasDict := true, slotNames := sn, subclasses := sub, abstract := ab, collection := col, hasDel := false } := by unfold PySem.W.clsIn; rw [hC] <;> rfl
  have KX := I.kIn
  have hCs := KX _ _ hC
  obtain ⟨t1, hoa⟩ := exo_at I.hok ha
  refine PySem.ks_wpAt_Expr_any (PySem.ks_wpAt_MethodCall (PySem.ks_wpAt_super_base S.ks S.kc (by decide) S.fn (KX _ _ lk) rfl har S.co (KX _ _ lkc) rfl hvs hfile S.htop ?_) (sup_eval hp4)) I.quiet (by rfl)
  obtain ⟨mb, hb1, hb2⟩ := I.mod.blt
  refine PySem.W.ks_loadName_global I.ok.kind S.ks (Calls.loadGlobal_builtin (by rw [I.ok.glob]; exact I.mod.glob.keeps I.bk) S.hsup (by rw [I.ok.blt]; exact hb1.keeps I.bk) ((hb2 _ (by decide)).trans (by decide +kernel : bootBuiltins "super" = some (.type "super"))) ⟨rfl, ?_⟩)
  refine wpAny_loadName_free I.ok.kind S.kc (by rw [S.ce]; rfl) ⟨_, KX _ _ lkcc, rfl⟩ ?_
  rw [harg]
  obtain ⟨m, hm, hl⟩ := I.loc
  obtain ⟨u0, ru0, lu0⟩ := hl 0 "self" (V.ref a) S.n0 rfl (.inl S.k0)
  obtain rfl : u0 = Value.ref a := ru0
  have hms : m "self" = some (.ref a) := by
    rcases lu0 with ⟨_, h⟩ | ⟨h, _⟩
    · exact h
    · rw [S.k0] at h
      rcases h with h | h <;> cases h
  refine wpAny_loadName_local I.ok.kind S.k0 hm hms ?_
  refine PySem.ks_wpAny_isType_cls hCs rfl ⟨rfl, ?_⟩
  obtain ⟨hp, g, dr, tk, os⟩ := s
  refine PySem.ks_wpAny_call_super hCs rfl hoa rfl (fun c e => by cases e) (PySem.W.looks_mroIn KX S.hself) (fun h' e k => ?_)
  have I1 := I.kept (t' := tk) k
  have hoa' := k _ _ hoa
  have KX' := I1.kIn
  have hnaC : a ≠ C := fun z => by
    have q1 := (I.bs C _ (I.ok.mod.kin _ _ hC)).2
    rw [← z, ha] at q1
    cases q1
  have J : PySem.W.InstAt h' a { cls := .ref C, dict := none, data := .fields #[.ref t1, .none, .none, .none, .bool false, .none] } C none := ⟨hoa', rfl, rfl, trivial⟩
  have hsup := S.hm
  unfold PySem.W.ks_superIn at hsup
  rw [hcl] at hsup
  refine PySem.W.kxs_getMethod PySem.W.kxs_ValueError e (PySem.W.looks_opaque KX' S.ho) (fun A Q E s k q => wpAny_bind ((PySem.W.looks_clsIn KX' hcl) A _ E s k (wpAny_pure q))) rfl KX' hsup (J.type.andThen (PySem.W.looks_subIn KX' S.hB)) hnaC (by decide) ?_
  have k2 : ∀ b o, h'.get? b = some o → (h'.push (PySem.W.kxs_mw "ValueError.__init__" a)).get? b = some o := fun b o e => Heap.get?_push_of_some _ e
  have hu : (h'.push (PySem.W.kxs_mw "ValueError.__init__" a)).get? h'.objs.size = some (PySem.W.kxs_mw "ValueError.__init__" a) := Heap.get?_push_at rfl rfl
  have I2 := I1.kept (t' := tk + 1) k2
  have I3 : Inv X [(h'.objs.size, PySem.W.kxs_mw "ValueError.__init__" a)] [some (V.ref a), some v, some (V.ref C)] H ⟨h'.push (PySem.W.kxs_mw "ValueError.__init__" a), g, dr, tk + 1, os⟩ := I2.pins_of fun p hp => by
    have ep : p = (h'.objs.size, PySem.W.kxs_mw "ValueError.__init__" a) := by simpa using hp
    subst ep
    exact ⟨hu, I1.hok.fresh (Nat.le_refl _), Nat.ne_of_gt I1.lt, I1.nofs (Nat.le_refl _), fun v => by simp [PySem.W.kxs_mw]⟩
  refine PySem.W.kxs_callWith (i := "ValueError.__init__") (x := a) rfl (PySem.Calls.evalArgs_plain (thn ((pa_cons pe_str pa_nil).run p4 [(h'.objs.size, PySem.W.kxs_mw "ValueError.__init__" a)] _ _ H (fun vs H1 => H1 = H ∧ vs = [V.str z]) I3 ⟨rfl, rfl⟩) fun us s1 hq => ?_))
  obtain ⟨vs, H1, I4, rv, rfl, rfl⟩ := hq
  have hu4 := (I4.pin (h'.objs.size, PySem.W.kxs_mw "ValueError.__init__" a) (List.mem_append_right _ List.mem_cons_self)).1
  refine ⟨hu4, ?_⟩
  have I5 : Inv X [] [some (V.ref a), some v, some (V.ref C)] H1 s1 := I4.pins_of fun p hp => by cases hp
  obtain ⟨t5, hoa5⟩ := exo_at I5.hok ha
  have hC5 := I5.kIn _ _ hC
  have hlen : us.length ≤ sizeLine := by
    rw [← Paired.length rv, sizeLine_eq]
    show 1 ≤ 16777216
    decide
  obtain ⟨hp5, g5, dr5, tk5, os5⟩ := s1
  show wpAny (model X.prog X.w) X.A (call (Value.ref h'.objs.size) us) _ _ _
  refine wpAny_call (codeAny_of_tree ?_)
  show wpAny _ X.A.in1 (callAny (.ref h'.objs.size) ⟨us, []⟩) _ _ _
  simp only [callAny]
  refine wpAny_bind (wpAny_load hu4 ?_)
  simp only [PySem.W.kxs_mw, show (Value.type "method-wrapper" == Value.type "method" || Value.type "method-wrapper" == Value.type "builtin_function_or_method" || Value.type "method-wrapper" == Value.type "method-wrapper") = true by decide, if_true]
  refine PySem.W.KFB.if_so (by decide) ?_
  refine wpAny_bind (PySem.W.check_bound_init F.excBase_ValueError.toExcCallFacts hC5 hoa5 rfl ?_)
  refine wpAny_bind (wpAny_pure (wpAny_pure ?_))
  refine ⟨plainId_quiet F.excBase_ValueError.init.plain _, codeAny_builtin F.excBase_ValueError.initEntry ?_⟩
  refine PySem.W.exc_init_tree (cls := .ref C) (t0 := t5) (dv := none) (c2 := .none) (c3 := .none) (b4 := .bool false) hoa5 hlen fun h6 k6 e6 _ => ?_
  have J6 := I5.write (t' := tk5) (x := a) (e := a) (o := exo a C none) (by rw [ha]; exact True.intro) (.inl rfl) k6 ⟨_, e6⟩ (exo_ok e6)
  have eu : upd H1 a (exo a C none) = H1 := by
    funext b
    by_cases hb : b = a
    · rw [hb, upd_same, ha]
    · rw [upd_ne hb]
  rw [eu] at J6
  exact h _ J6
end

section
variable {P : Program} {w : World} {K : PySem.W.Frag} {mg : Str → Option Value} {base : Heap} {C f cc cda : Addr} {qual y fld : Str} {args : Arguments} {body : List Stmt} {scope : Scope} {fd : FuncData}
theorem ok_sup (S : SupTxt P K mg C f cc cda qual y fld args body scope fd) : FnOk P w K mg base CX0 1 f fd ["self", y] (spSup C fld) := by
  refine ⟨fun vs H Q E h => ?_, fun A outer s H as us vs Q E hr e0 hb r hsp => ?_⟩
  · obtain ⟨a, v, rfl, _⟩ := h
    rfl
  obtain ⟨a, v, rfl, ha, q⟩ := hsp
  obtain ⟨dV, kV, doc, pm, an, ct, rfl⟩ := S.fdE
  obtain ⟨oc, od, osl, lk⟩ := S.lk
  obtain ⟨ccl, cdd, fvs, ccs, fl, tf, lkc, hvs, hfile⟩ := S.file
  obtain ⟨cl, cld, csl, lkcc⟩ := S.cell
  obtain ⟨z, j, p0, p1, p2, p3, p4, p5, p6, p7, p8, p9, rfl, hp4⟩ := S.bd
  obtain ⟨ar, har, harg⟩ : ∃ ar : Arg, (args.posonlyargs ++ args.args).head? = some ar ∧ ar.arg = "self" := by
    have h := S.ar
    cases e : (args.posonlyargs ++ args.args).head? with
    | none => rw [e] at h; cases h
    | some ar => rw [e] at h; exact ⟨ar, rfl, Option.some.inj h⟩
  have KX : K.In s.heap := e0.mod.kin.keeps fun b o e => (e0.bs b o e).1
  have lim : s.heap.NoLimit := e0.mod.nolimit.keeps fun b o e => (e0.bs b o e).1
  have hcc : H cc = none := (e0.bs cc _ (e0.mod.kin _ _ lkcc)).2
  have hC0 : H C = none := by
    obtain ⟨nm, q, N, bs, bm, sn, sub, ab, col, dd, k0, k1, k2, k3, k5, hC, hbm⟩ := S.T.cls
    exact (e0.bs C _ (e0.mod.kin _ _ hC)).2
  have r' := r
  let F : NF := ⟨"__init__", qual, args, supBody z y fld j p0 p1 p2 p3 p4 p5 p6 p7 p8 p9, scope, [("__class__", cc)], cda⟩
  have Ce : CellsAt F.cl ["__class__"] [some (V.ref C)] s.heap H := by
    have one : ∀ (x : Str) (c : Addr), ([("__class__", cc)] : List (Str × Addr)).lookup x = some c → x = "__class__" ∧ c = cc := fun x c e => by
      have h := PySem.mem_of_lookup e
      simp at h
      exact h
    refine ⟨rfl, fun x c e => ?_, fun x1 x2 c e1 e2 => ?_, fun i x e => ?_⟩
    · obtain ⟨_, rfl⟩ := one x c e
      exact ⟨hcc, _, _, KX _ _ lkcc, rfl⟩
    · rw [(one _ _ e1).1, (one _ _ e2).1]
    · cases i with
      | zero =>
        have e' : ("__class__" : Str) = x := Option.some.inj e
        subst e'
        refine ⟨cc, by simp [F, List.lookup], fun v e => ?_⟩
        have e'' : V.ref C = v := Option.some.inj (Option.some.inj e)
        subst e''
        exact ⟨.ref C, rfl, _, KX _ _ lkcc, rfl⟩
      | succ i => simp at e
  refine PySem.ks_codeAny_call_defAt (fd := PySem.W.fnX "__init__" qual args (supBody z y fld j p0 p1 p2 p3 p4 p5 p6 p7 p8 p9) scope [("__class__", cc)] dV kV doc pm an (.ref cda) ct) (body := supBody z y fld j p0 p1 p2 p3 p4 p5 p6 p7 p8 p9) (binds := (["self", y] : List Str).zip us)
    hr.depth (KX _ _ lk) rfl lim (PySem.W.codeRec_of KX S.cd) rfl hb S.sc.nocell (fun ⟨n, _⟩ hy => S.sc.par n (List.of_mem_zip hy).1) (fun h₁ hns kp => ?_) S.sc.co S.sc.gen S.sc.kind
  have I : Inv (ncx CX0 P w K mg base ["self", y, "__class__"] F f A outer s H E) [] (startF ["self", y, "__class__"] [V.ref a, v] [some (V.ref C)]) H { s with heap := h₁, toks := s.toks + ((["self", y] : List Str).zip us).length } := inv_startN S.sc hr.hd e0 rfl r Ce hns kp
  show PySem.wpAt (model P w) (A.deeper (envF F f s.heap.objs.size)) (.func F.body (envF F f s.heap.objs.size)) (execs F.body (envF F f s.heap.objs.size)) _ (ncx CX0 P w K mg base ["self", y, "__class__"] F f A outer s H E).xe _
  have SC : SupCx (ncx CX0 P w K mg base ["self", y, "__class__"] F f A outer s H E) C f cc cda y (PySem.W.fnX "__init__" qual args (supBody z y fld j p0 p1 p2 p3 p4 p5 p6 p7 p8 p9) scope [("__class__", cc)] dV kV doc pm an (.ref cda) ct) := {
    n0 := rfl, n1 := rfl, ks := S.scs, kc := S.sc.frk _ List.mem_cons_self, k0 := S.sc.par _ List.mem_cons_self, k1 := S.sc.par _ (List.mem_cons_of_mem _ List.mem_cons_self), fn := rfl, co := rfl, ce := rfl,
    lk := ⟨oc, od, osl, lk⟩, ar := S.ar, file := ⟨ccl, cdd, fvs, ccs, fl, tf, lkc, hvs, hfile⟩, cell := ⟨cl, cld, csl, lkcc⟩, hm := S.hm, hB := S.hB, hself := S.hself, ho := S.ho, hsup := S.hsup, htop := S.htop, T := S.T }
  refine PySem.ks_wpAt_execs_cons (sup_first hp4 SC I ha fun s' I' => ?_)
  refine PySem.ks_wpAt_execs_cons (wpAt_of_wpAny (wpAny_mono ((ps_ost (f := fld) (pe_var (i := 0) rfl (.inl SC.k0)) (pe_var (i := 1) rfl (.inl SC.k1) S.ny.1 S.ny.2)).run [] s' _ H { nx := fun _ H' => Q .non H', rt := fun _ _ => False } I' ?_) (fun fl s2 hs => ?_) fun _ _ z => z))
  · exact ⟨v, rfl, V.ref a, rfl, a, C, rfl, S.T, S.hno, .inl ⟨ha, fun dx hd hne => q dx hd hne⟩⟩
  · cases fl with
    | next =>
      obtain ⟨σ', H', J, hq⟩ := hs
      refine wpAt_of_wpAny (wpAny_pure ?_)
      exact ⟨V.non, H', J.os, J.bare, J.base, J.hok, rfl, hq⟩
    | ret u => obtain ⟨_, _, _, _, _, q⟩ := hs; exact False.elim q
    | brk => obtain ⟨_, _, _, q⟩ := hs; exact False.elim q
    | cont => obtain ⟨_, _, _, q⟩ := hs; exact False.elim q
end
end Aw

namespace Aw
open PySem PySem.Spec PyProof.Rows L2 NdefX
abbrev St := L2.St

/-! ### X(v) made: raised, or held as a value -/
/-- what pmk_oex asks behind the argument, answered -/
theorem mkS_ans {C : Addr} {fld : Str} {v : V} {H1 : Hp} {Q : XK} (q : ∀ d, H1 d = none → Q (.ref C) (some d) (upd H1 d (.xd [(fld, v)]))) :
    ([v] : List V).length ≤ 1000 ∧ ∀ a, H1 a = none → spSup C fld (.ref a :: ([v] ++ [])) (upd H1 a (exo a C none))
      (fun v H2 => v = .non ∧ ∃ (d : Addr) (fs : List (Str × V)), H2 a = some (exo a C (some d)) ∧ H2 d = some (exd d fs) ∧ H1 d = none ∧ Q (.ref C) (some d) (upd (del H2 a) d (.xd fs))) (fun _ _ _ => False) := by
  refine ⟨by show 1 ≤ 1000; decide, fun a hn => ⟨a, v, rfl, upd_same, fun dx hd hne => ⟨rfl, dx, [(fld, v)], upd_same, ?_, ?_, ?_⟩⟩⟩
  · rw [upd_ne hne, upd_same]
  · have := hd
    rw [upd_ne hne] at this
    exact this
  · have hd' : H1 dx = none := by
      have := hd
      rw [upd_ne hne] at this
      exact this
    have eh : upd (del (upd (upd (upd H1 a (exo a C none)) dx (exd dx [(fld, v)])) a (exo a C (some dx))) a) dx (.xd [(fld, v)]) = upd H1 dx (.xd [(fld, v)]) := by
      funext b
      by_cases hb : b = dx
      · rw [hb, upd_same, upd_same]
      · rw [upd_ne hb, upd_ne hb]
        by_cases hba : b = a
        · rw [hba, del_same, hn]
        · rw [del_ne hba, upd_ne hba, upd_ne hb, upd_ne hba]
    rw [eh]
    exact q dx hd'
section
variable {X : Cx} {C f cc cda : Addr} {qual y fld x : Str} {args : Arguments} {body : List Stmt} {scope : Scope} {fd : FuncData} {e : Expr} {es : List Expr} {ta : TA} {p pos : Pos}
/-- X(v), to be raised: the reading is tMkO C (spSup C fld) [] ta; behind the argument: mkS_ans -/
theorem pmk_sup (S : SupTxt X.prog X.K X.mg C f cc cda qual y fld args body scope fd) (iC : PySem.W.findIn X.K (.ref C) "__init__" = some (some (.ref f))) (tI : PySem.W.typeIn X.K (.ref f) = some (.type "function"))
    (hb : Binds X.K fd ["self", y] []) (hr : Room 2 X.A) (hg : Gl X x) (hm : X.mg x = some (.ref C)) (ha : PA X (e :: es) ta)
    (hdb : (x == ("__debug__" : Str)) = false := by decide) (he : starEach (e :: es) X.env = (false, eval e X.env) :: starEach es X.env := by rfl) (hpl : (backTo pos (starEach es X.env)).any (·.1) = false := by rfl) :
    PMk X (.Call (.Name x p) (e :: es) [] pos) (tMkO C (spSup C fld) [] ta) :=
  pmk_oex (ds := []) (dvs := []) (CX := CX0) S.T iC tI (ok_sup S) hr hb .nil pass0 hg hm ha hdb he hpl

/-- X(v) as a value -/
def tVaS (C : Addr) (fld : Str) (ta : TA) : TE := fun σ H Q => ta σ H fun vs H1 => ∃ v, vs = [v] ∧ ∀ a d, H1 a = none → H1 d = none → d ≠ a → Q (.ref a) (upd (upd H1 d (exd d [(fld, v)])) a (exo a C (some d)))
theorem pe_sup (S : SupTxt X.prog X.K X.mg C f cc cda qual y fld args body scope fd) (iC : PySem.W.findIn X.K (.ref C) "__init__" = some (some (.ref f))) (tI : PySem.W.typeIn X.K (.ref f) = some (.type "function"))
    (hb : Binds X.K fd ["self", y] []) (hr : Room 2 X.A) (hg : Gl X x) (hm : X.mg x = some (.ref C)) (ha : PA X (e :: es) ta)
    (hdb : (x == ("__debug__" : Str)) = false := by decide) (he : starEach (e :: es) X.env = (false, eval e X.env) :: starEach es X.env := by rfl) (hpl : (backTo pos (starEach es X.env)).any (·.1) = false := by rfl) :
    PE X (.Call (.Name x p) (e :: es) [] pos) (tVaS C fld ta) := by
  have T := S.T
  have F1 : FnOk X.prog X.w X.K X.mg X.base CX0 1 f fd ["self", y] (spSup C fld) := ok_sup S
  refine ⟨fun pins s σ H Q I h => ?_⟩
  obtain ⟨nm, q, N, bs, bm, sn, sub, ab, col, dd, k0, k1, k2, k3, k5, hC, hbm⟩ := T.cls
  refine wpAny_Call_Name_kw (ld_glob I hg hm ?_ hdb)
  refine PySem.W.callWith_K (h₀ := X.base) I.ok.mod.kin T.kC (thn (ha.run pos pins s σ H _ I h) fun us s1 ⟨vs, H1, I1, r1, v, ev, q1⟩ => ⟨I1.kIn, ?_⟩) he hpl
  subst ev
  show wpAny _ _ (call (.ref C) us) _ _ _
  obtain ⟨hp, g, dr, tk, os⟩ := s1
  have hsz : hp.objs.size ≤ hp.objs.size + 1 := Nat.le_succ _
  have hn : H1 (hp.objs.size + 1) = none := I1.hok.fresh hsz
  have kk : ∀ b o, hp.get? b = some o → ((hp.push (PySem.W.kdv_tup us)).push (PySem.HandSPX.excO C hp.objs.size)).get? b = some o := fun b o e => Heap.get?_push_of_some _ (Heap.get?_push_of_some _ e)
  have hget : ((hp.push (PySem.W.kdv_tup us)).push (PySem.HandSPX.excO C hp.objs.size)).get? (hp.objs.size + 1) = some (PySem.HandSPX.excO C hp.objs.size) := by heap_get
  have I2 : Inv X pins σ (upd H1 (hp.objs.size + 1) (exo (hp.objs.size + 1) C none)) ⟨(hp.push (PySem.W.kdv_tup us)).push (PySem.HandSPX.excO C hp.objs.size), g, dr, tk, os⟩ :=
    I1.laid (t' := tk) (a := hp.objs.size + 1) (o := exo (hp.objs.size + 1) C none) (h' := (hp.push (PySem.W.kdv_tup us)).push (PySem.HandSPX.excO C hp.objs.size)) kk hsz (exo_ok hget)
  have r2 : Vals (V.ref (hp.objs.size + 1) :: [v]) (Value.ref (hp.objs.size + 1) :: us) := .cons rfl r1
  have hus : us.length ≤ sizeLine := by
    rw [← Paired.length r1, sizeLine_eq]
    show 1 ≤ 16777216
    decide
  have hq : spSup C fld (V.ref (hp.objs.size + 1) :: [v]) (upd H1 (hp.objs.size + 1) (exo (hp.objs.size + 1) C none)) (fun w H2 => w = .non ∧ Q (.ref (hp.objs.size + 1)) H2) (fun _ _ _ => False) := by
    refine ⟨hp.objs.size + 1, v, rfl, upd_same, fun dx hd hne => ⟨rfl, ?_⟩⟩
    have hd' : H1 dx = none := by
      have := hd
      rw [upd_ne hne] at this
      exact this
    have eh : upd (upd (upd H1 (hp.objs.size + 1) (exo (hp.objs.size + 1) C none)) dx (exd dx [(fld, v)])) (hp.objs.size + 1) (exo (hp.objs.size + 1) C (some dx)) = upd (upd H1 dx (exd dx [(fld, v)])) (hp.objs.size + 1) (exo (hp.objs.size + 1) C (some dx)) := by
      funext b
      by_cases hb : b = hp.objs.size + 1
      · rw [hb, upd_same, upd_same]
      · rw [upd_ne hb, upd_ne hb]
        by_cases hbd : b = dx
        · rw [hbd, upd_same, upd_same]
        · rw [upd_ne hbd, upd_ne hbd, upd_ne hb]
    rw [eh]
    exact q1 _ dx hn hd' hne
  have hl : (Value.ref (hp.objs.size + 1) :: us ++ []).length = (["self", y] : List Str).length := by
    have e := r2.length
    rw [List.append_nil]
    rw [← e]
    rfl
  have bb := hb _ (Value.ref (hp.objs.size + 1) :: us) I2.kIn hl
  rw [List.append_nil] at bb
  refine wpAny_call (PySem.HandSPX.call_own F.excBase_ValueError (fun Y => PySem.HandSPX.refsVE_contains Y bm hbm) (I1.kIn _ _ hC) (PySem.W.looks_findIn I1.kIn iC) (fun self => PySem.W.bind_fn I1.kIn self tI) hus
    (codeAny_mono (F1.run _ X.stack _ _ ⟨Value.ref (hp.objs.size + 1) :: us, []⟩ (Value.ref (hp.objs.size + 1) :: us) _ _ (fun _ _ _ => False) (hr.make C us []) (I2.env0.make C us []) bb r2 hq) fun r s' hq' => ?_))
  cases r with
  | error er => exact pass0 pins σ _ _ er s' I2 hq'
  | ok fl =>
    cases fl with
    | ret u =>
      have ea := I2.after hq'
      obtain ⟨w', H2, I3, rv, ew, q2⟩ := ea
      subst ew
      exact ⟨rv, .ref (hp.objs.size + 1), H2, I3, rfl, q2⟩
    | next => exact False.elim hq'
    | brk => exact False.elim hq'
    | cont => exact False.elim hq'
end
end Aw

namespace Aw
open PySem PySem.Spec PyProof.Rows L2 NdefX

/-! ### what an exception class says, for isinstance and for its fields -/
structure ExcD (K : PySem.W.Frag) (C : Addr) : Prop where
  ga : PySem.W.findIn K (.ref C) "__getattribute__" = some (some (.builtin "BaseException.__getattribute__"))
  gg : PySem.W.findIn K (.ref C) "__getattr__" = some none
  exC : PySem.W.subIn K (.ref C) (.type "BaseException") = some true
  hdC : PySem.W.hasDictIn K C = true
  ha : PySem.W.findIn K (.ref C) "__class__" = some (some (.builtin "object.__class__"))
  hn : PySem.W.specialIn K (.builtin "object.__class__") "__get__" = some (some (.builtin "getset_descriptor.__get__"))
  ht : PySem.W.takesIn K (.builtin "object.__class__") = some true
  hm : PySem.W.mroIn K C (.type "object") = some true
theorem ExcD.cl {K : PySem.W.Frag} {C : Addr} (E : ExcD K C) : (PySem.W.clsIn K C).isSome = true := by
  obtain ⟨cd, hc, _⟩ := PySem.W.any_some E.hdC
  rw [hc]
  rfl
section
variable {K : PySem.W.Frag} {X : Cx} {a C d : Addr} {fs : List (Str × V)} {f : Str} {v : V} {oe : Obj} {H : Hp} {pins : List (Addr × Obj)} {σ : Aw.St} {s : Shared} {A : Around} {E : Value → Shared → Prop}
/-- isinstance(e, c) of an exception in hand, at a -/
def rIsV (K : PySem.W.Frag) : List V → Hp → VK → Prop := fun xs H Q => ∃ (a C : Addr) (d : Option Addr) (c : V) (cv : Value) (b : Bool), xs = [.ref a, c] ∧ ExcD K C ∧ H a = some (exo a C d) ∧ (∀ dd, d = some dd → ∃ fs, H dd = some (exd dd fs)) ∧ ClsV c cv ∧ PySem.W.kitOne K (.ref C) cv = some b ∧ Q (.bl b) H
theorem inst_exo (I : Inv X pins σ H s) {d : Option Addr} (ha : H a = some (exo a C d)) (hd : ∀ dd, d = some dd → ∃ fs, H dd = some (exd dd fs)) : ∃ oe od, PySem.W.InstAt s.heap a oe C od := by
  obtain ⟨t1, ho⟩ := exo_at I.hok ha
  cases d with
  | none => exact ⟨_, none, ho, rfl, rfl, trivial⟩
  | some dd =>
    obtain ⟨fs, hf⟩ := hd dd rfl
    obtain ⟨mA, hns, rel⟩ := exd_at I.hok hf
    obtain ⟨o, es, ep, ho', _⟩ := hns
    exact ⟨_, some o, ho, rfl, rfl, ho'⟩
theorem call_isV : CallR X (.builtin "isinstance") (rIsV X.K) := by
  intro pins s σ H xs us Q I r h
  obtain ⟨a, C, d, c, cv, b, rfl, D, ha, hd, hc, e, q⟩ := h
  cases r with
  | cons rx rr =>
    cases rr with
    | cons rt rr =>
      cases rr
      cases rx
      have ec := hc.eq rt
      subst ec
      obtain ⟨oe, od, J⟩ := inst_exo I ha hd
      exact PySem.W.kia_one (PySem.W.kitx_exc D.cl D.ga D.gg D.exC D.ha D.hn D.ht D.hm) I.kIn J e (fun z => nomatch z) fun tk => ⟨.bl b, H, I.kept (t' := tk) fun _ _ z => z, rfl, q⟩
/-- e.f of an exception in hand -/
def tXv (K : PySem.W.Frag) (f : Str) (te : TE) : TE := fun σ H Q => te σ H fun x H1 => ∃ (a C d : Addr) (fs : List (Str × V)) (v : V), x = .ref a ∧ ExcD K C ∧ PySem.W.findIn K (.ref C) f = some none ∧ H1 a = some (exo a C (some d)) ∧ H1 d = some (exd d fs) ∧ fs.lookup f = some v ∧ Q v H1
theorem pe_xv {e : Expr} {te : TE} {pos : Pos} {n : Str} (he : PE X e te) (hb : attributeBase e n X.env (eval e X.env) = eval e X.env := by rfl) : PE X (.Attribute e n pos) (tXv X.K n te) := by
  refine ⟨fun pins s σ H Q I h => ?_⟩
  refine attr_of hb (thn (he.run pins s σ H _ I h) fun u s1 hh => ?_)
  obtain ⟨x, H1, I1, rx, a, C, d, fs, v, ex, D, hno, ha, hd, l, q⟩ := hh
  subst ex
  obtain rfl : u = Value.ref a := rx
  obtain ⟨t1, ho⟩ := exo_at I1.hok ha
  obtain ⟨mA, hns, hr⟩ := exd_at I1.hok hd
  obtain ⟨od, hod, hl⟩ := lookIn_ns hns
  obtain ⟨u, hu, ru⟩ := RelO.some_of (v := v) (o := mA n) (by rw [← l]; exact hr n)
  have J : PySem.W.InstAt s1.heap a _ C (some od) := ⟨ho, rfl, rfl, hod⟩
  exact HandSPX.exc_get I1.kIn J D.ga D.gg D.exC (PySem.W.findObj_own D.hdC hno rfl (by rw [hl, hu])) (handed_of ru) ⟨v, H1, I1.tok _, ru, q⟩

/-! ### the same of an exception that is handled (pinned) -/
theorem inst_pin (I : Inv X pins σ H s) (hp : (a, oe) ∈ X.pn) {cls : Value} {d : Option Addr} (hz : Zc cls d oe) (hf : ∃ vs, oe.data = .fields vs) (ec : cls = .ref C) (hd : ∀ dd, d = some dd → ∃ fs, H dd = some (.xd fs)) : ∃ od, PySem.W.InstAt s.heap a oe C od := by
  obtain ⟨ha, _⟩ := I.pin (a, oe) (List.mem_append_left _ hp)
  obtain ⟨vs, hv⟩ := hf
  obtain ⟨z1, z2⟩ := hz
  have hn : PySem.W.notCls oe = true := by unfold PySem.W.notCls; rw [hv] <;> rfl
  cases d with
  | none => exact ⟨none, ha, z1.trans ec, hn, by rw [z2]; exact trivial⟩
  | some dd =>
    obtain ⟨fs, h⟩ := hd dd rfl
    have hx : ObjOk X.prog X.w H s.heap dd (.xd fs) := I.hok dd _ h
    obtain ⟨mA, ⟨o, es, ep, ho, _⟩, _⟩ := hx
    exact ⟨some o, ha, z1.trans ec, hn, by rw [z2]; exact ho⟩
def rIsP (K : PySem.W.Frag) (a : Addr) (cls : Value) (d : Option Addr) : List V → Hp → VK → Prop := fun xs H Q => ∃ (C : Addr) (c : V) (cv : Value) (b : Bool), xs = [.ref a, c] ∧ cls = .ref C ∧ ExcD K C ∧ (∀ dd, d = some dd → ∃ fs, H dd = some (.xd fs)) ∧ ClsV c cv ∧ PySem.W.kitOne K (.ref C) cv = some b ∧ Q (.bl b) H
theorem call_isP {cls : Value} {d : Option Addr} (hp : (a, oe) ∈ X.pn) (hz : Zc cls d oe) (hf : ∃ vs, oe.data = .fields vs) : CallR X (.builtin "isinstance") (rIsP X.K a cls d) := by
  intro pins s σ H xs us Q I r h
  obtain ⟨C, c, cv, b, rfl, ec, D, hd, hc, e, q⟩ := h
  cases r with
  | cons rx rr =>
    cases rr with
    | cons rt rr =>
      cases rr
      cases rx
      have eq := hc.eq rt
      subst eq
      obtain ⟨od, J⟩ := inst_pin I hp hz hf ec hd
      exact PySem.W.kia_one (PySem.W.kitx_exc D.cl D.ga D.gg D.exC D.ha D.hn D.ht D.hm) I.kIn J e (fun z => nomatch z) fun tk => ⟨.bl b, H, I.kept (t' := tk) fun _ _ z => z, rfl, q⟩
def tXp (K : PySem.W.Frag) (a : Addr) (cls : Value) (d : Option Addr) (f : Str) (te : TE) : TE := fun σ H Q => te σ H fun x H1 => x = .ref a ∧ ∃ (C dd : Addr) (fs : List (Str × V)) (v : V), cls = .ref C ∧ ExcD K C ∧ PySem.W.findIn K (.ref C) f = some none ∧ d = some dd ∧ H1 dd = some (.xd fs) ∧ fs.lookup f = some v ∧ Q v H1
theorem pe_xp {cls : Value} {d : Option Addr} {e : Expr} {te : TE} {pos : Pos} {n : Str} (hp : (a, oe) ∈ X.pn) (hz : Zc cls d oe) (hf : ∃ vs, oe.data = .fields vs) (he : PE X e te) (hb : attributeBase e n X.env (eval e X.env) = eval e X.env := by rfl) : PE X (.Attribute e n pos) (tXp X.K a cls d n te) := by
  refine ⟨fun pins s σ H Q I h => ?_⟩
  refine attr_of hb (thn (he.run pins s σ H _ I h) fun u s1 hh => ?_)
  obtain ⟨x, H1, I1, rx, ex, C, dd, fs, v, ec, D, hno, ed, ea, l, q⟩ := hh
  subst ex
  obtain rfl : u = Value.ref a := rx
  subst ec ed
  obtain ⟨ha, _⟩ := I1.pin (a, oe) (List.mem_append_left _ hp)
  obtain ⟨vs, hd⟩ := hf
  have hx : ObjOk X.prog X.w H1 s1.heap dd (.xd fs) := I1.hok dd _ ea
  obtain ⟨mA, hns, hr⟩ := hx
  obtain ⟨od, ho, hl⟩ := lookIn_ns hns
  obtain ⟨u, hu, ru⟩ := RelO.some_of (v := v) (o := mA n) (by rw [← l]; exact hr n)
  have J : PySem.W.InstAt s1.heap a oe C (some od) := ⟨ha, hz.1, by unfold PySem.W.notCls; rw [hd] <;> rfl, by rw [hz.2]; exact ho⟩
  exact HandSPX.exc_get I1.kIn J D.ga D.gg D.exC (PySem.W.findObj_own D.hdC hno rfl (by rw [hl, hu])) (handed_of ru) ⟨v, H1, I1.tok _, ru, q⟩
end
/-! ### a def that is called within an except suite, with the exception handled as argument -/
structure FnE (P : Program) (w : World) (K : PySem.W.Frag) (mg : Str → Option Value) (base : Heap) (k : Nat) (f : Addr) (fd : FuncData) (ps : List Str) (sp : Addr → Value → Option Addr → Sp) : Prop where
  len : ∀ a c d vs H Q E, sp a c d vs H Q E → vs.length = ps.length
  run : ∀ (A : Around) (outer : List Env) (s : Shared) (H : Hp) (args : Args) (us : List Value) (vs : List V) (Q : VK) (E : XK) (p : Addr × Obj) (cls : Value) (d : Option Addr), L2H.RoomH k A → L2H.PinOk outer H s p → Zc cls d p.2 → (∃ vs, p.2.data = .fields vs) → Env0 P w K mg base A outer s H → BindsTo s fd args (ps.zip us) → Vals vs us → sp p.1 cls d vs H Q E →
    codeAny (model P w) A (.call (.ref f) args) (CR CX0 outer P w H s Q E) s
theorem fn_ofE {P : Program} {w : World} {K : PySem.W.Frag} {mg : Str → Option Value} {base : Heap} {k : Nat} {f : Addr} {name qual : Str} {params : Arguments} {body : List Stmt} {scope : Scope} {dV kV doc pm cdv ct oc : Value} {an od : Option Addr}
    {osl : Array (Option Value)} {N ps : List Str} {sp : Addr → Value → Option Addr → Sp} (lk : K.lookup f = some ⟨oc, od, .func (PySem.W.fnOf name qual params body scope dV kV doc pm an cdv ct), osl⟩) (hcd : PySem.W.codeIn K cdv qual = true) (S : FnScope N ps scope)
    (len : ∀ a c d vs H Q E, sp a c d vs H Q E → vs.length = ps.length)
    (hbody : ∀ (A : Around) (outer : List Env) (s : Shared) (H : Hp) (vs : List V) (Q : VK) (E : XK) (p : Addr × Obj) (cls : Value) (d : Option Addr), Zc cls d p.2 → (∃ vs, p.2.data = .fields vs) → L2H.RoomH k (A.deeper (envOfC qual scope s.heap.objs.size f cdv)) → sp p.1 cls d vs H Q E →
      ∃ t, PSs (L2H.cxH CX0 P w K mg base N qual scope f cdv A outer s H E p) body t ∧ t { nx := fun _ H' => Q .non H', rt := Q } (L2.start N vs) H) :
    FnE P w K mg base (k + 1) f (PySem.W.fnOf name qual params body scope dV kV doc pm an cdv ct) ps sp := by
  refine ⟨len, fun A outer s H args us vs Q E p cls d hr hpin hz hf e0 hb r hsp => ?_⟩
  have hl := len _ _ _ _ _ _ _ hsp
  have KX : K.In s.heap := e0.mod.kin.keeps fun b o e => (e0.bs b o e).1
  have lim : s.heap.NoLimit := e0.mod.nolimit.keeps fun b o e => (e0.bs b o e).1
  have hkind : ∀ y ∈ ps.zip us, scope.names.lookup y.1 = some .local ∨ (scope.names.lookup y.1 = some .cell ∧ ((cellsFrom (s.heap.objs.size + 1) scope.names []).lookup y.1).isSome = true) := fun ⟨n, v⟩ hy => by
    rcases S.par n (List.of_mem_zip hy).1 with q | q
    · exact .inl q
    · exact .inr ⟨q, PySem.W.cellsFrom_some _ _ _ (.inl q)⟩
  refine codeAny_call_function hr.depth (KX _ _ lk) rfl S.co S.gen rfl (PySem.W.codeRec_of KX hcd) (hb _ _ _ _ ?_)
  refine wpAny_newFunctionEnv_cells S.kind hkind fun env he s1 x => ?_
  subst he
  refine ⟨lim.keeps x.toInCall.keep, codeAny_func ?_⟩
  obtain ⟨t, ht, hq⟩ := hbody A outer s H vs Q E p cls d hz hf (hr.deeper _) hsp
  have I : Inv (L2H.cxH CX0 P w K mg base N qual scope f cdv A outer s H E p) [] (L2.start N vs) H s1 := L2H.inv_startH S hpin e0 hl r x
  refine wpAny_mono (ht.run [] s1 (L2.start N vs) H _ I hq) (fun fl s' hs => ?_) fun e s' hs => hs
  have fin : ∀ {σ' : Aw.St} {H' : Hp} {v : V} {u : Value}, Inv (L2H.cxH CX0 P w K mg base N qual scope f cdv A outer s H E p) [] σ' H' s' → RelV v u → Q v H' → CE outer P w H s Q u s' :=
    fun {σ' H' v u} J rv q => ⟨v, H', J.os, J.bare, J.base, J.hok, rv, q⟩
  cases fl with
  | ret u =>
    obtain ⟨v, σ', H', J, rv, q⟩ := hs
    exact fin J rv q
  | next =>
    obtain ⟨σ', H', J, q⟩ := hs
    exact fin (v := V.non) (u := Value.none) J rfl q
  | brk =>
    obtain ⟨_, _, _, q⟩ := hs
    exact False.elim q
  | cont =>
    obtain ⟨_, _, _, q⟩ := hs
    exact False.elim q
section
variable {X : Cx} {k : Nat} {f : Addr} {fd : FuncData} {ps : List Str} {sp : Addr → Value → Option Addr → Sp} {x : Str} {q pos : Pos} {e : Expr} {es : List Expr} {t : TA} {a : Addr} {oe : Obj}
/-- f(.., e, ..) in the suite -/
theorem pe_callE {cls : Value} {d : Option Addr} (F : FnE X.prog X.w X.K X.mg X.base k f fd ps sp) (hr : L2H.RoomH k X.A) (hp : (a, oe) ∈ X.pn) (hz : Zc cls d oe) (hf : ∃ vs, oe.data = .fields vs) (hg : Gl X x) (hm : X.mg x = some (.ref f)) (hk : PySem.W.keepIn X.K (.ref f) = true) (hb : Binds X.K fd ps [])
    (ha : PA X (e :: es) t) (hdb : (x == ("__debug__" : Str)) = false := by decide) (he : starEach (e :: es) X.env = (false, eval e X.env) :: starEach es X.env := by rfl) (hpl : (backTo pos (starEach es X.env)).any (·.1) = false := by rfl) :
    PE X (.Call (.Name x q) (e :: es) [] pos) (fun σ H Q => t σ H fun vs H1 => sp a cls d vs H1 Q E0) := by
  refine ⟨fun pins s σ H Q I h => ?_⟩
  refine wpAny_Call_Name_kw (ld_glob I hg hm ?_ hdb)
  refine PySem.W.callWith_K (h₀ := X.base) I.ok.mod.kin hk (thn (ha.run pos pins s σ H _ I h) fun us s1 ⟨vs, H1, I1, r, q⟩ => ⟨I1.kIn, ?_⟩) he hpl
  have hl : us.length = ps.length := by rw [← r.length]; exact F.len _ _ _ _ _ _ _ q
  have b := hb s1 us I1.kIn (by rw [List.append_nil]; exact hl)
  rw [List.append_nil] at b
  have P1 := I1.pin (a, oe) (List.mem_append_left _ hp)
  have hpin : L2H.PinOk X.stack H1 s1 (a, oe) := ⟨P1.1, P1.2.1, fun hm => (List.mem_cons.mp (I1.stkSub a hm)).elim P1.2.2.1 P1.2.2.2.1, P1.2.2.2.2⟩
  refine wpAny_call (codeAny_mono (F.run X.A X.stack s1 H1 ⟨us, []⟩ us vs Q E0 (a, oe) cls d hr hpin hz hf I1.env0 b r q) fun r s' hq => ?_)
  cases r with
  | error e => exact False.elim hq
  | ok fl =>
    cases fl with
    | ret u => exact I1.after hq
    | next => exact False.elim hq
    | brk => exact False.elim hq
    | cont => exact False.elim hq
end
/-- room within the suite -/
theorem roomH_suite {X : Cx} {k : Nat} (r : Room k X.A) {a : Addr} {pn : List (Addr × Obj)} : L2H.RoomH k (X.suite a pn).A := ⟨r.dp, r.un⟩
end Aw

namespace Aw
open PySem PySem.Spec PyProof.Rows L2 NdefX
def top (i : Nat) : Stmt := PySem.Challenge.pw_allwordlengths_k02_programs_are_read.main.body.getD i (.Pass ⟨0, 0, 0, 0⟩)
end Aw

namespace Aw
open PySem PySem.Spec PyProof.Rows L2 NdefX
abbrev sPen : Stmt := (top 26)
abbrev sDraw : Stmt := (top 27)
/-! ### the pen of a law -/
def penL (c : Addr) (i l : Int) : List (Key × V) := [(.inr "cells", .ref c), (.inr "at", .int i), (.inr "left", .int l)]
theorem ne_ca : ¬ ((Sum.inr "cells" : Key) = .inr "at") := by decide +kernel
theorem ne_cl : ¬ ((Sum.inr "cells" : Key) = .inr "left") := by decide +kernel
theorem ne_al : ¬ ((Sum.inr "at" : Key) = .inr "left") := by decide +kernel
theorem pen_cells {c : Addr} {i l : Int} : valV (penL c i l) (.inr "cells") = some (.ref c) := valV_pos rfl
theorem pen_at {c : Addr} {i l : Int} : valV (penL c i l) (.inr "at") = some (.int i) := (valV_neg ne_ca).trans (valV_pos rfl)
theorem pen_left {c : Addr} {i l : Int} : valV (penL c i l) (.inr "left") = some (.int l) := (valV_neg ne_cl).trans ((valV_neg ne_al).trans (valV_pos rfl))
theorem pen_putat {c : Addr} {i l j : Int} : putK (penL c i l) (.inr "at") (.int j) = penL c j l := by
  unfold putK
  rw [if_pos (by rw [valV_any, pen_at]; rfl)]
  simp only [penL, List.map_cons, List.map_nil, if_neg ne_ca, if_neg (fun z : (Sum.inr "left" : Key) = .inr "at" => ne_al z.symm), if_pos]
theorem pen_putleft {c : Addr} {i l j : Int} : putK (penL c i l) (.inr "left") (.int j) = penL c i j := by
  unfold putK
  rw [if_pos (by rw [valV_any, pen_left]; rfl)]
  simp only [penL, List.map_cons, List.map_nil, if_neg ne_cl, if_neg ne_al, if_pos]
/-- a pen stands at p, its cells at c; it has been drawn from at most n times -/
structure Pen (H : Hp) (p c : Addr) (n : Nat) : Prop where
  ex : ∃ (cells : List Int) (i l : Int), H p = some (.dK (penL c i l)) ∧ H c = some (.lst (cells.map V.int)) ∧ cells.length ≤ 63 ∧ 0 ≤ i ∧ i ≤ n ∧ 0 ≤ l
theorem Pen.pc {H : Hp} {p c : Addr} {n : Nat} (P : Pen H p c n) : p ≠ c := by
  obtain ⟨cells, i, l, h1, h2, _⟩ := P.ex
  exact ne_of h1 h2 (fun z => by cases z)
theorem Pen.mono {H : Hp} {p c : Addr} {n m : Nat} (P : Pen H p c n) (h : n ≤ m) : Pen H p c m := by
  obtain ⟨cells, i, l, h1, h2, h3, h4, h5, h6⟩ := P.ex
  exact ⟨cells, i, l, h1, h2, h3, h4, by omega, h6⟩
theorem Pen.same {H H' : Hp} {p c : Addr} {n : Nat} (P : Pen H p c n) (s : Same H H') : Pen H' p c n := by
  obtain ⟨cells, i, l, h1, h2, h3⟩ := P.ex
  exact ⟨cells, i, l, s _ _ h1, s _ _ h2, h3⟩
theorem Pen.upd {H : Hp} {p c a : Addr} {n : Nat} {o : HO} (P : Pen H p c n) (h1 : a ≠ p) (h2 : a ≠ c) : Pen (upd H a o) p c n := by
  obtain ⟨cells, i, l, e1, e2, h3⟩ := P.ex
  exact ⟨cells, i, l, by rw [upd_ne h1.symm]; exact e1, by rw [upd_ne h2.symm]; exact e2, h3⟩
theorem Pen.some1 {H : Hp} {p c : Addr} {n : Nat} (P : Pen H p c n) : ∃ o, H p = some o := by
  obtain ⟨cells, i, l, e1, e2, h3⟩ := P.ex
  exact ⟨_, e1⟩
theorem Pen.some2 {H : Hp} {p c : Addr} {n : Nat} (P : Pen H p c n) : ∃ o, H c = some o := by
  obtain ⟨cells, i, l, e1, e2, h3⟩ := P.ex
  exact ⟨_, e2⟩
theorem Pen.new {H : Hp} {p c a : Addr} {n : Nat} {o : HO} (P : Pen H p c n) (h : H a = none) : Pen (L2.upd H a o) p c n := by
  obtain ⟨o1, e1⟩ := P.some1
  obtain ⟨o2, e2⟩ := P.some2
  exact P.upd (ne_of_none e1 h).symm (ne_of_none e2 h).symm
/-- all but p is as it was -/
def But (p : Addr) (H H' : Hp) : Prop := ∀ b o, H b = some o → b ≠ p → H' b = some o
theorem But.trans {p : Addr} {H H1 H2 : Hp} (a : But p H H1) (b : But p H1 H2) : But p H H2 := fun c o e n => b c o (a c o e n) n
theorem But.same {p : Addr} {H H1 : Hp} (a : Same H H1) : But p H H1 := fun c o e _ => a c o e
theorem But.lst {p a : Addr} {H H1 : Hp} {xs : List V} (k : But p H H1) (h : H a = some (.lst xs)) (hp : a ≠ p) : H1 a = some (.lst xs) := k a _ h hp
theorem same_upd {H : Hp} {a : Addr} {o : HO} (h : H a = none) : Same H (upd H a o) := fun b u e => by rw [upd_ne (ne_of_none e h)]; exact e
/-- _law_pen: a new pen -/
def spPen (K : PySem.W.Frag) : Sp := fun vs H Q _ => ∃ (a : Addr) (ns : List Int), vs = [.ref a] ∧ SqL K H a (ns.map V.int) ∧ ns.length ≤ 63 ∧ ∀ p c H', Same H H' → H p = none → H c = none → Pen H' p c 0 → Q (.ref p) H'
/-- _law_draw: a number below many -/
def spDraw : Sp := fun vs H Q _ => ∃ (p c : Addr) (many : Int) (n : Nat), vs = [.ref p, .int many] ∧ Pen H p c n ∧ n ≤ 1000000 ∧ 0 < many ∧ many < 1073741824 ∧
  ∀ r H', 0 ≤ r → r < many → But p H H' → Pen H' p c (n + 1) → Q (.int r) H'
/-- what the walk asks of the top's names -/
structure TxtP (mg : Str → Option Value) (fDraw : Addr) : Prop where
  list : mg "list" = none
  int : mg "int" = none
  len : mg "len" = none
  draw : mg "_law_draw" = some (.ref fDraw)
section
variable {P : Program} {w : World} {K : PySem.W.Frag} {mg : Str → Option Value} {base : Heap}
theorem scPen : FnScope ["_law_script"] ["_law_script"] (defScope sPen) := ⟨rfl, rfl, rfl, by decide +kernel, rfl, by decide +kernel, by decide +kernel⟩
theorem ok_pen {f g : Addr} {fd : FuncData} (F : Fun K "_law_pen" "_law_pen" sPen f fd) (T : TxtP mg g) : FnOk P w K mg base CX0 1 f fd ["_law_script"] (spPen K) := by
  refine F.ok scPen (fun vs H Q E h => ?_) (fun cdv A outer s H vs Q E hr h => ?_)
  · obtain ⟨p, c, rfl, _⟩ := h
    rfl
  · obtain ⟨a, ns, rfl, hS, hl, k⟩ := h
    refine ⟨_, pss_one (ps_ret (pe_disp (pps_cons pe_str (pe_callTy call_list_of (by rfl) T.list (by decide +kernel) (pa_cons (pe_slice sl_list (pv 0) po_none (po_some pe_int)) pa_nil))
      (pps_cons pe_str pe_int (pps_cons pe_str pe_int pps_nil))) (by rfl) (by rfl) (fun z => by cases z) (by decide))), ?_⟩
    intro p hp
    have hS1 : SqL K (upd H p (.dK [])) a (ns.map V.int) := (same_upd hp).seq hS
    refine ⟨_, rfl, 63, rfl, a, _, rfl, hS1, fun q hq => ?_⟩
    have e63 : cutV (ns.map V.int) none (some (63 : Int)) = ns.map V.int := by
      unfold cutV
      rw [List.length_map, HT.sIx_none ns.length 0, List.drop_zero]
      have : HT.sIx ns.length ns.length (some (63 : Int)) = ns.length := by
        show (if (63 : Int) < 0 then ((63 : Int) + (ns.length : Int)).toNat else min (63 : Int).toNat ns.length) = ns.length
        rw [if_neg (by decide)]
        exact Nat.min_eq_right (by omega)
      rw [this, Nat.sub_zero]
      exact List.take_of_length_le (by rw [List.length_map]; exact Nat.le_refl ns.length)
    rw [e63]
    refine ⟨q, _, rfl, .inl (SqL.of upd_same), fun c hc => ?_⟩
    have hpq : p ≠ q := ne_of_none upd_same hq
    have hpc : p ≠ c := ne_of_none (show upd (upd H p (.dK [])) q (.lst (ns.map V.int)) p = some (.dK []) by rw [upd_ne hpq, upd_same]) hc
    have hcp : upd H p (.dK []) c = none := by
      by_cases e : c = q
      · rw [e, upd_same] at hc; cases hc
      · rw [upd_ne e] at hc; exact hc
    have hcn : H c = none := by
      rw [upd_ne hpc.symm] at hcp
      exact hcp
    refine ⟨by rw [upd_ne hpc, upd_ne hpq, upd_same], penL c 0 0, rfl, by show 3 ≤ 15; decide, ?_⟩
    have em : mergeK [] (penL c 0 0) = penL c 0 0 := by
      unfold mergeK penL
      simp only [List.foldl_cons, List.foldl_nil]
      rw [putK_new _ (show valV ([] : List (Key × V)) _ = none from rfl), putK_new, putK_new]
      · rfl
      · exact (valV_neg ne_ca).trans rfl
      · exact (valV_neg ne_cl).trans ((valV_neg ne_al).trans rfl)
    rw [em]
    refine k p c _ (fun b o e => ?_) hp hcn ⟨⟨ns, 0, 0, upd_same, ?_, hl, by decide, by decide, by decide⟩⟩
    · have hbp : b ≠ p := ne_of_none e hp
      have hbq : b ≠ q := ne_of_none (show upd H p (.dK []) b = some o by rw [upd_ne hbp]; exact e) hq
      rw [upd_ne hbp, upd_ne (ne_of_none e hcn), upd_ne hbq, upd_ne hbp]
      exact e
    · rw [upd_ne hpc.symm, upd_same]

theorem scDraw : FnScope ["_law_pen_here", "_law_many", "_law_digit", "_law_spot", "_law_cell", "_law_mixed"] ["_law_pen_here", "_law_many"] (defScope sDraw) := ⟨rfl, rfl, rfl, by decide +kernel, rfl, by decide +kernel, by decide +kernel⟩
theorem ints_flat {H : Hp} (ns : List Int) : DpAll K H (ns.map V.int) (ns.map PyData.int) := by
  induction ns with
  | nil => exact .nil
  | cons n ns ih => exact .cons (.int n) ih
theorem ints_shaped (ns : List Int) : SeqAt.shaped (.list (ns.map PyData.int)) = true := by
  have h1 : ∀ l : List Int, PyData.canLayAll0 (l.map PyData.int) = true := fun l => by
    induction l with
    | nil => rfl
    | cons n l ih => simp [PyData.canLayAll0, PyData.canLay0, ih]
  have h2 : ∀ l : List Int, PyData.depthAll (l.map PyData.int) ≤ 1 := fun l => by
    induction l with
    | nil => simp [PyData.depthAll]
    | cons n l ih => simp [PyData.depthAll, PyData.depth]; omega
  unfold SeqAt.shaped
  refine Bool.and_eq_true_iff.mpr ⟨h1 ns, decide_eq_true ?_⟩
  have := h2 ns
  simp only [PyData.depth]
  omega
theorem gCells {H : Hp} {p c : Addr} {i l : Int} (e : H p = some (.dK (penL c i l))) : DGet H p (.str "cells") (some (.ref c)) := by
  have h := DGet.k (k := .inr "cells") e
  rw [pen_cells] at h
  exact h
theorem gAt {H : Hp} {p c : Addr} {i l : Int} (e : H p = some (.dK (penL c i l))) : DGet H p (.str "at") (some (.int i)) := by
  have h := DGet.k (k := .inr "at") e
  rw [pen_at] at h
  exact h
theorem gLeft {H : Hp} {p c : Addr} {i l : Int} (e : H p = some (.dK (penL c i l))) : DGet H p (.str "left") (some (.int l)) := by
  have h := DGet.k (k := .inr "left") e
  rw [pen_left] at h
  exact h
theorem sAt {H : Hp} {p c : Addr} {i l j : Int} (e : H p = some (.dK (penL c i l))) : DPut H p (.str "at") (.int j) (upd H p (.dK (penL c j l))) := by
  have h := DPut.k (k := .inr "at") (v := .int j) e (by show 3 < sizeLine; decide)
  rw [pen_putat] at h
  exact h
theorem sLeft {H : Hp} {p c : Addr} {i l j : Int} (e : H p = some (.dK (penL c i l))) : DPut H p (.str "left") (.int j) (upd H p (.dK (penL c i j))) := by
  have h := DPut.k (k := .inr "left") (v := .int j) e (by show 3 < sizeLine; decide)
  rw [pen_putleft] at h
  exact h
theorem lt64 {x : Int} (h0 : 0 ≤ x) (h : x < 4294967296) : -(2 ^ 64) < x ∧ x < 2 ^ 64 := ⟨by omega, by omega⟩
theorem ok_draw {f : Addr} {fd : FuncData} (F : Fun K "_law_draw" "_law_draw" sDraw f fd) (T : TxtP mg f) : FnOk P w K mg base CX0 1 f fd ["_law_pen_here", "_law_many"] spDraw := by
  refine F.ok scDraw (fun vs H Q E h => ?_) (fun cdv A outer s H vs Q E hr h => ?_)
  · obtain ⟨p, c, many, n, rfl, _⟩ := h
    rfl
  · obtain ⟨p, c, many, n, rfl, Pn, hn, hm, hm2, k⟩ := h
    have hu := hu_of hr
    have nd := scDraw.nd
    refine ⟨_, (pss_cons (ps_if (pt_cmpR op_ge (pe_dget hu (pv 0) pe_str (fun _ _ => rfl)) (pv 1) (nomark _))
        (pss_cons (ps_set (i := 2) nd rfl (Or.inl rfl) (pe_op op_mod (pe_callTy call_int1 (by rfl) T.int (by decide +kernel) (pa_cons (pe_dget hu (pv 0) pe_str (fun _ _ => rfl)) pa_nil)) (pv 1)))
        (pss_cons (ps_dput hu (pv 0) pe_str (pe_op op_fdiv (pe_dget hu (pv 0) pe_str (fun _ _ => rfl)) (pv 1)) rfl)
        (pss_one (ps_ret (pv 2))))) pss_nil)
      (pss_cons (ps_set (i := 3) nd rfl (Or.inl rfl) (pe_dget hu (pv 0) pe_str (fun _ _ => rfl)))
      (pss_cons (ps_dput hu (pv 0) pe_str (pe_op op_add (pv 3) pe_int) rfl)
      (pss_cons (ps_if (pt_cmpR (op_eqD hr.units) (pe_dget hu (pv 0) pe_str (fun _ _ => rfl)) (pe_lst pa_nil) (nomark _))
        (pss_one (ps_ret (pe_op op_mod (pe_callTy call_int1 (by rfl) T.int (by decide +kernel) (pa_cons (pe_op op_add (pe_op op_mul pe_int (pv 3)) pe_int) pa_nil)) (pv 1)))) pss_nil)
      (pss_cons (ps_set (i := 4) nd rfl (Or.inl rfl) (pe_ix ix_list (pe_dget hu (pv 0) pe_str (fun _ _ => rfl)) (pe_op op_mod (pe_callTy call_int1 (by rfl) T.int (by decide +kernel) (pa_cons (pv 3) pa_nil)) (pe_callB call_len_seq (by rfl) T.len PySem.boot_len (pa_cons (pe_dget hu (pv 0) pe_str (fun _ _ => rfl)) pa_nil))) (fun _ _ => rfl)))
      (pss_cons (ps_if (PW.pt (pw_and (pt_cmpR op_lt (pv 3) (pe_callB call_len_seq (by rfl) T.len PySem.boot_len (pa_cons (pe_dget hu (pv 0) pe_str (fun _ _ => rfl)) pa_nil)) (nomark _)) (pw_and1 (pt_cmpR op_ge (pv 4) (pe_op op_pow pe_int pe_int) (nomark _)))))
        (pss_cons (ps_dput hu (pv 0) pe_str (pe_op op_fdiv (pe_op op_sub (pv 4) (pe_op op_pow pe_int pe_int)) (pv 1)) rfl)
        (pss_one (ps_ret (pe_op op_mod (pe_callTy call_int1 (by rfl) T.int (by decide +kernel) (pa_cons (pe_op op_sub (pv 4) (pe_op op_pow pe_int pe_int)) pa_nil)) (pv 1))))) pss_nil)
      (pss_cons (ps_set (i := 5) nd rfl (Or.inl rfl) (pe_op op_add (pe_op op_add (pe_op op_mul (pe_op op_add (pe_op op_mod (pe_callTy call_int1 (by rfl) T.int (by decide +kernel) (pa_cons (pv 4) pa_nil)) pe_int) pe_int) (pe_op op_add (pe_op op_mul pe_int (pv 3)) pe_int)) (pe_op op_mul (pe_op op_mul pe_int (pv 3)) (pv 3))) pe_int))
      (pss_cons (ps_set (i := 5) nd rfl (Or.inl rfl) (pe_op op_mod (pe_callTy call_int1 (by rfl) T.int (by decide +kernel) (pa_cons (pv 5) pa_nil)) pe_int))
      (pss_cons (ps_set (i := 5) nd rfl (Or.inl rfl) (pe_op op_mod (pe_callTy call_int1 (by rfl) T.int (by decide +kernel) (pa_cons (pe_op op_mul (pv 5) (pe_op op_add (pv 5) pe_int)) pa_nil)) pe_int))
      (pss_cons (ps_set (i := 5) nd rfl (Or.inl rfl) (pe_op op_mod (pe_callTy call_int1 (by rfl) T.int (by decide +kernel) (pa_cons (pe_op op_mul (pv 5) (pv 5)) pa_nil)) pe_int))
      (pss_one (ps_ret (pe_op op_mod (pe_callTy call_int1 (by rfl) T.int (by decide +kernel) (pa_cons (pe_op op_fdiv (pv 5) pe_int) pa_nil)) (pv 1)))))))))))))), ?_⟩
    obtain ⟨cells, i, l, e1, e2, hl, hi, hi2, hl0⟩ := Pn.ex
    have pc : p ≠ c := Pn.pc
    refine ⟨_, rfl, p, .int l, rfl, gLeft e1, _, rfl, l, many, rfl, rfl, _, rfl, ?_⟩
    by_cases hlm : many ≤ l
    · rw [decide_eq_true hlm]
      refine iteT ?_
      -- the digit
      refine ⟨_, rfl, p, .int l, rfl, gLeft e1, .inl ⟨l, rfl, _, rfl, l, many, rfl, rfl, hm, ?_⟩⟩
      refine ⟨_, rfl, p, .int l, rfl, gLeft e1, _, rfl, l, many, rfl, rfl, ⟨hm, hm2⟩, _, rfl, p, _, rfl, sLeft e1, ?_⟩
      refine ⟨_, rfl, k _ _ (Int.emod_nonneg _ (by omega)) (Int.emod_lt_of_pos _ hm) (fun b o e hb => by rw [upd_ne hb]; exact e) ⟨cells, i, l / many, upd_same, by rw [upd_ne pc.symm]; exact e2, hl, hi, by omega, Int.ediv_nonneg hl0 (by omega)⟩⟩
    · rw [decide_eq_false hlm]
      refine iteF ?_
      -- the place
      refine ⟨_, rfl, p, .int i, rfl, gAt e1, ?_⟩
      refine ⟨_, rfl, i, 1, rfl, rfl, _, rfl, p, _, rfl, sAt e1, ?_⟩
      generalize eH : upd H p (.dK (penL c (i + 1) l)) = H1
      have e1' : H1 p = some (.dK (penL c (i + 1) l)) := by rw [← eH, upd_same]
      have e2' : H1 c = some (.lst (cells.map V.int)) := by rw [← eH, upd_ne pc.symm]; exact e2
      have bt : But p H H1 := fun b o e hb => by rw [← eH, upd_ne hb]; exact e
      refine ⟨_, rfl, p, .ref c, rfl, gCells e1', by show 0 ≤ sizeLine; decide, fun q hq => ?_⟩
      have bt2 : But p H (upd H1 q (.lst [])) := bt.trans (But.same (same_upd hq))
      have e1q : upd H1 q (.lst []) p = some (.dK (penL c (i + 1) l)) := by rw [upd_ne (ne_of_none e1' hq)]; exact e1'
      have e2q : upd H1 q (.lst []) c = some (.lst (cells.map V.int)) := by rw [upd_ne (ne_of_none e2' hq)]; exact e2'
      refine ⟨.list (cells.map PyData.int), .list [], .lst (SqL.of e2q) (ints_flat _), .lst (SqL.of upd_same) .nil, ints_shaped _, by decide, _, rfl, ?_⟩
      cases cells with
      | nil =>
        refine iteT ?_
        refine ⟨_, rfl, 7, i, rfl, rfl, .inl ⟨by decide, by decide⟩, 7 * i, 3, rfl, rfl, .inl ⟨_, rfl, _, rfl, _, many, rfl, rfl, hm, ?_⟩⟩
        exact k _ _ (Int.emod_nonneg _ (by omega)) (Int.emod_lt_of_pos _ hm) bt2 ⟨[], i + 1, l, e1q, e2q, hl, by omega, by omega, hl0⟩
      | cons n0 rest =>
        refine iteF ?_
        generalize hcs : n0 :: rest = cs at *
        have hpos : 0 < cs.length := by rw [← hcs]; exact Nat.succ_pos _
        have fin : ∀ r l', 0 ≤ r → r < many → 0 ≤ l' → ∀ H', But p H H' → H' p = some (.dK (penL c (i + 1) l')) → H' c = some (.lst (cs.map V.int)) → Q (.int r) H' := fun r l' h1 h2 h3 H' b a1 a2 =>
          k r H' h1 h2 b ⟨cs, i + 1, l', a1, a2, hl, by omega, by omega, h3⟩
        have hlen : (cs.map V.int).length = cs.length := List.length_map ..
        obtain ⟨j, hj⟩ : ∃ j : Nat, i % (((cs.map V.int).length : Nat) : Int) = (j : Int) := ⟨(i % (((cs.map V.int).length : Nat) : Int)).toNat, by
          have := Int.emod_nonneg i (show (((cs.map V.int).length : Nat) : Int) ≠ 0 by rw [hlen]; omega)
          omega⟩
        have hjl : j < cs.length := by
          have := Int.emod_lt_of_pos i (show (0 : Int) < (((cs.map V.int).length : Nat) : Int) by rw [hlen]; omega)
          rw [hj, hlen] at this
          omega
        obtain ⟨x, hx⟩ : ∃ x, cs[j]? = some x := ⟨cs[j], List.getElem?_eq_getElem hjl⟩
        have hat : atI (cs.map V.int) (i % (((cs.map V.int).length : Nat) : Int)) = some (.int x) := by
          rw [hj]
          exact atI_nat (by rw [List.getElem?_map, hx]; rfl)
        refine ⟨_, rfl, p, .ref c, rfl, gCells e1q, _, rfl, .inl ⟨i, rfl, _, rfl, p, .ref c, rfl, gCells e1q, c, _, rfl, .inl (SqL.of e2q), i, _, rfl, rfl, by rw [hlen]; omega, c, _, _, .int x, rfl, rfl, SqL.of e2q, hat, ?_⟩⟩
        have hle : (0 : Int) ≤ 18 ∧ (18 : Int) ≤ 1000000 ∧ (10 : Int).natAbs < 2 ^ 64 := ⟨by decide, by decide, by decide⟩
        refine ⟨_, rfl, _, rfl, p, .ref c, rfl, gCells e1q, c, _, rfl, .inl (SqL.of e2q), i, _, rfl, rfl, _, rfl, ?_⟩
        have tail : ∀ {y : Int}, 0 ≤ y → y < 2147483648 → -(2 ^ 64) < y ∧ y < 2 ^ 64 := fun h1 h2 => ⟨by omega, by omega⟩
        have mods : ∀ (y m : Int), 0 < m → m < 2147483648 → 0 ≤ y % m ∧ y % m < 2147483648 := fun y m h1 h2 => ⟨Int.emod_nonneg _ (by omega), Int.lt_trans (Int.emod_lt_of_pos _ h1) h2⟩
        by_cases a1 : i < (((cs.map V.int).length : Nat) : Int)
        rw [decide_eq_true a1]
        refine iteT ?_
        refine ⟨_, rfl, 10, 18, rfl, rfl, hle, x, _, rfl, rfl, _, rfl, ?_⟩
        by_cases a2 : (10 : Int) ^ (18 : Int).toNat ≤ x
        · rw [decide_eq_true a2]
          refine iteT ?_
          refine ⟨_, rfl, 10, 18, rfl, rfl, hle, x, _, rfl, rfl, _, rfl, _, many, rfl, rfl, ⟨hm, hm2⟩, _, rfl, p, _, rfl, sLeft e1q, ?_⟩
          refine ⟨_, rfl, 10, 18, rfl, rfl, hle, x, _, rfl, rfl, .inl ⟨_, rfl, _, rfl, _, many, rfl, rfl, hm, ?_⟩⟩
          exact fin _ _ (Int.emod_nonneg _ (by omega)) (Int.emod_lt_of_pos _ hm) (Int.ediv_nonneg (by omega) (by omega)) _ (bt2.trans fun b o e hb => by rw [upd_ne hb]; exact e) upd_same (by rw [upd_ne pc.symm]; exact e2q)
        rw [decide_eq_false a2]
        refine iteF ?_
        rotate_left
        rw [decide_eq_false a1]
        refine iteF ?_
        refine iteF ?_
        all_goals
          obtain ⟨b1, b2⟩ := mods x 2147483629 (by decide) (by decide)
          refine ⟨_, rfl, .inl ⟨x, rfl, x, 2147483629, rfl, rfl, (by show (0 : Int) < 2147483629; decide), _, 1, rfl, rfl, _, rfl, 97, i, rfl, rfl, .inl ⟨by decide, by decide⟩, _, 40693, rfl, rfl, _, _, rfl, rfl, .inl ⟨by omega, by omega⟩,
            _, rfl, 69623, i, rfl, rfl, .inl ⟨by decide, by decide⟩, _, rfl, _, i, rfl, rfl, .inl ⟨by omega, by omega⟩, _, _, rfl, rfl, _, 11, rfl, rfl, ?_⟩⟩
          obtain ⟨y1, hy1⟩ : ∃ y, (x % 2147483629 + 1) * (97 * i + 40693) + 69623 * i * i + 11 = y := ⟨_, rfl⟩
          refine ⟨_, rfl, .inl ⟨y1, by rw [← hy1], y1, 2147483647, rfl, rfl, (by show (0 : Int) < 2147483647; decide), ?_⟩⟩
          obtain ⟨c1, c2⟩ := mods y1 2147483647 (by decide) (by decide)
          obtain ⟨y2, hy2⟩ : ∃ y, y1 % 2147483647 = y := ⟨_, rfl⟩
          rw [hy2] at c1 c2
          refine ⟨_, rfl, _, rfl, y2, 16811, by rw [← hy2], rfl, y2, _, by rw [← hy2], rfl, .inl (tail c1 c2), .inl ⟨_, rfl, _, 2147483587, rfl, rfl, (by show (0 : Int) < 2147483587; decide), ?_⟩⟩
          obtain ⟨y4, hy4⟩ : ∃ y, y2 * (y2 + 16811) % 2147483587 = y := ⟨_, rfl⟩
          obtain ⟨d1, d2⟩ := mods (y2 * (y2 + 16811)) 2147483587 (by decide) (by decide)
          rw [hy4] at d1 d2
          refine ⟨_, rfl, _, rfl, y4, y4, by rw [← hy4], by rw [← hy4], .inl (tail d1 d2), .inl ⟨_, rfl, _, 2147483563, rfl, rfl, (by show (0 : Int) < 2147483563; decide), ?_⟩⟩
          refine ⟨_, rfl, _, 64, rfl, rfl, ⟨by decide, by decide⟩, .inl ⟨_, rfl, _, rfl, _, many, rfl, rfl, hm, ?_⟩⟩
          exact fin _ l (Int.emod_nonneg _ (by omega)) (Int.emod_lt_of_pos _ hm) hl0 _ bt2 e1q e2q
end
end Aw

namespace Aw
open PySem PySem.Spec PyProof.Rows L2 NdefX
abbrev sPick : Stmt := (top 28)
/-- what But keeps -/
theorem But.seq {K : PySem.W.Frag} {p c : Addr} {n : Nat} {H H' : Hp} {a : Addr} {xs : List V} (b : But p H H') (P : Pen H p c n) (h : SqL K H a xs) : SqL K H' a xs := by
  obtain ⟨cells, i, l, e1, _⟩ := P.ex
  rcases h with (h | ⟨o, h⟩) | h
  · exact .inl (.inl (b _ _ h (ne_of h e1 (fun z => by cases z))))
  · exact .inl (.inr ⟨o, b _ _ h (ne_of h e1 (fun z => by cases z))⟩)
  · exact .inr h
theorem But.tup {K : PySem.W.Frag} {p c : Addr} {n : Nat} {H H' : Hp} {a : Addr} {xs : List V} (b : But p H H') (P : Pen H p c n) (h : SqT K H a xs) : SqT K H' a xs := by
  obtain ⟨cells, i, l, e1, _⟩ := P.ex
  rcases h with (h | ⟨o, h⟩) | h
  · exact .inl (.inl (b _ _ h (ne_of h e1 (fun z => by cases z))))
  · exact .inl (.inr ⟨o, b _ _ h (ne_of h e1 (fun z => by cases z))⟩)
  · exact .inr h
/-- _law_pick of a list -/
def spPick (K : PySem.W.Frag) : Sp := fun vs H Q _ => ∃ (p c l : Addr) (xs : List V) (n : Nat), vs = [.ref p, .ref l] ∧ Pen H p c n ∧ n ≤ 1000000 ∧ SqL K H l xs ∧ 0 < xs.length ∧ xs.length ≤ 1000000 ∧
  ∀ (r : Nat) (v : V) (H' : Hp), xs[r]? = some v → But p H H' → Pen H' p c (n + 1) → Q v H'
section
variable {P : Program} {w : World} {K : PySem.W.Frag} {mg : Str → Option Value} {base : Heap}
theorem scPick : FnScope ["_law_pen_here", "_law_some"] ["_law_pen_here", "_law_some"] (defScope sPick) := ⟨rfl, rfl, rfl, by decide +kernel, rfl, by decide +kernel, by decide +kernel⟩
theorem ok_pick {f g : Addr} {fd gd : FuncData} (F : Fun K "_law_pick" "_law_pick" sPick f fd) (T : TxtP mg g) (G : Fun K "_law_draw" "_law_draw" sDraw g gd) (bG : Binds K gd ["_law_pen_here", "_law_many"] []) : FnOk P w K mg base CX0 2 f fd ["_law_pen_here", "_law_some"] (spPick K) := by
  have GD : FnOk P w K mg base CX0 1 g gd ["_law_pen_here", "_law_many"] spDraw := ok_draw G T
  refine F.ok scPick (fun vs H Q E h => ?_) (fun cdv A outer s H vs Q E hr h => ?_)
  · obtain ⟨p, c, l, xs, n, rfl, _⟩ := h
    rfl
  · obtain ⟨p, c, l, xs, n, rfl, Pn, hn, hS, h0, h1, k⟩ := h
    refine ⟨_, (pss_one (ps_ret (pe_ix ix_list (pv 1) (pe_call GD hr (by rfl) T.draw G.kp bG .nil pass0 (pa_cons (pv 0) (pa_cons (pe_callB call_len_seq (by rfl) T.len PySem.boot_len (pa_cons (pv 1) pa_nil)) pa_nil))) (fun _ _ => rfl)))), ?_⟩
    refine ⟨_, rfl, _, rfl, _, rfl, l, xs, rfl, .inl hS, p, c, xs.length, n, rfl, Pn, hn, by omega, by omega, fun r H' hr0 hr1 b Pn' => ?_⟩
    obtain ⟨j, rfl⟩ : ∃ j : Nat, r = (j : Int) := ⟨r.toNat, by omega⟩
    obtain ⟨v, hv⟩ : ∃ v, xs[j]? = some v := ⟨xs[j]'(by omega), List.getElem?_eq_getElem (by omega)⟩
    exact ⟨l, xs, _, v, rfl, rfl, b.seq Pn hS, atI_nat hv, k j v H' hv b Pn'⟩
end
end Aw

namespace Aw
open PySem PySem.Spec PyProof.Rows L2 NdefX
/-! ### what tuples hold stays -/
/-- tuples are as they were -/
def TK (H H' : Hp) : Prop := (∀ a xs, H a = some (.tup xs) → H' a = some (.tup xs)) ∧ ∀ a o xs, H a = some (.frz o (.tup xs)) → H' a = some (.frz o (.tup xs))
theorem TK.refl (H : Hp) : TK H H := ⟨fun _ _ e => e, fun _ _ _ e => e⟩
theorem TK.trans {H H1 H2 : Hp} (a : TK H H1) (b : TK H1 H2) : TK H H2 := ⟨fun c xs e => b.1 c xs (a.1 c xs e), fun c o xs e => b.2 c o xs (a.2 c o xs e)⟩
theorem TK.same {H H' : Hp} (s : Same H H') : TK H H' := ⟨fun _ _ e => s _ _ e, fun _ _ _ e => s _ _ e⟩
theorem TK.but {H H' : Hp} {p c : Addr} {n : Nat} (b : But p H H') (P : Pen H p c n) : TK H H' := by
  obtain ⟨cells, i, l, e1, _⟩ := P.ex
  exact ⟨fun a xs e => b a _ e (ne_of e e1 (fun z => by cases z)), fun a o xs e => b a _ e (ne_of e e1 (fun z => by cases z))⟩
theorem TK.lst {H : Hp} {a : Addr} {xs : List V} {o : HO} (h : H a = some (.lst xs)) : TK H (upd H a o) :=
  ⟨fun b ys e => by rw [upd_ne (ne_of e h (fun z => by cases z))]; exact e, fun b u ys e => by rw [upd_ne (ne_of e h (fun z => by cases z))]; exact e⟩
theorem TK.new {H : Hp} {a : Addr} {o : HO} (h : H a = none) : TK H (upd H a o) := TK.same (same_upd h)
theorem TK.tup {K : PySem.W.Frag} {H H' : Hp} {a : Addr} {xs : List V} (t : TK H H') (h : SqT K H a xs) : SqT K H' a xs := by
  rcases h with (h | ⟨o, h⟩) | h
  · exact .inl (.inl (t.1 _ _ h))
  · exact .inl (.inr ⟨o, t.2 _ _ _ h⟩)
  · exact .inr h
mutual
/-- a value of plain data, tuples inside -/
inductive Dq (K : PySem.W.Frag) (H : Hp) : V → PyData → Prop
  | non : Dq K H .non .none
  | bl (b : Bool) : Dq K H (.bl b) (.bool b)
  | int (i : Int) : Dq K H (.int i) (.int i)
  | str (x : Str) : Dq K H (.str x) (.str x)
  | tup {a : Addr} {xs : List V} {ds : List PyData} : SqT K H a xs → DqAll K H xs ds → Dq K H (.ref a) (.tuple ds)
inductive DqAll (K : PySem.W.Frag) (H : Hp) : List V → List PyData → Prop
  | nil : DqAll K H [] []
  | cons {v : V} {vs : List V} {d : PyData} {ds : List PyData} : Dq K H v d → DqAll K H vs ds → DqAll K H (v :: vs) (d :: ds)
end
section
variable {K : PySem.W.Frag} {H H' : Hp}
mutual
theorem Dq.keep (t : TK H H') : ∀ {v : V} {d : PyData}, Dq K H v d → Dq K H' v d
  | _, _, .non => .non
  | _, _, .bl b => .bl b
  | _, _, .int i => .int i
  | _, _, .str x => .str x
  | _, _, .tup h r => .tup (t.tup h) (DqAll.keep t r)
theorem DqAll.keep (t : TK H H') : ∀ {vs : List V} {ds : List PyData}, DqAll K H vs ds → DqAll K H' vs ds
  | _, _, .nil => .nil
  | _, _, .cons h r => .cons (Dq.keep t h) (DqAll.keep t r)
end
mutual
theorem Dq.dp : ∀ {v : V} {d : PyData}, Dq K H v d → Dp K H v d
  | _, _, .non => .non
  | _, _, .bl b => .bl b
  | _, _, .int i => .int i
  | _, _, .str x => .str x
  | _, _, .tup h r => .tup h (DqAll.dp r)
theorem DqAll.dp : ∀ {vs : List V} {ds : List PyData}, DqAll K H vs ds → DpAll K H vs ds
  | _, _, .nil => .nil
  | _, _, .cons h r => .cons (Dq.dp h) (DqAll.dp r)
end
theorem DqAll.length : ∀ {vs : List V} {ds : List PyData}, DqAll K H vs ds → vs.length = ds.length
  | _, _, .nil => rfl
  | _, _, .cons _ r => congrArg (· + 1) (DqAll.length r)
theorem DqAll.get : ∀ {vs : List V} {ds : List PyData} {i : Nat} {v : V}, DqAll K H vs ds → vs[i]? = some v → ∃ d, ds[i]? = some d ∧ Dq K H v d
  | _, _, _, _, .nil, h => by simp at h
  | _, _, 0, _, .cons h _, e => ⟨_, rfl, by cases Option.some.inj e; exact h⟩
  | _, _, i + 1, _, .cons _ r, e => DqAll.get (i := i) r (by simpa using e)
theorem DqAll.append : ∀ {vs ws : List V} {ds es : List PyData}, DqAll K H vs ds → DqAll K H ws es → DqAll K H (vs ++ ws) (ds ++ es)
  | _, _, _, _, .nil, s => s
  | _, _, _, _, .cons h r, s => .cons h (DqAll.append r s)
theorem DqAll.split {v : V} {vs : List V} {d : PyData} {ds : List PyData} : DqAll K H (v :: vs) (d :: ds) → Dq K H v d ∧ DqAll K H vs ds
  | .cons h r => ⟨h, r⟩
theorem Dq.of_tuple {v : V} {ds : List PyData} (h : Dq K H v (.tuple ds)) : ∃ a xs, v = .ref a ∧ SqT K H a xs ∧ DqAll K H xs ds := by
  cases h with
  | tup h r => exact ⟨_, _, rfl, h, r⟩
theorem Dq.of_str {v : V} {x : Str} (h : Dq K H v (.str x)) : v = .str x := by cases h; rfl
theorem Dq.of_int {v : V} {i : Int} (h : Dq K H v (.int i)) : v = .int i := by cases h; rfl
theorem Dq.of_none {v : V} (h : Dq K H v .none) : v = .non := by cases h; rfl
theorem Dq.of_bool {v : V} {b : Bool} (h : Dq K H v (.bool b)) : v = .bl b := by cases h; rfl
end
/-! ### values that are alike: the same, or tuples of alike ones -/
def Al (K : PySem.W.Frag) (H : Hp) : Nat → V → V → Prop
  | 0 => fun _ _ => False
  | n + 1 => fun x y => (x = y ∧ flatB x = true) ∨ (∃ a, x = .ref a ∧ y = .ref a) ∨ ∃ a b xs ys, x = .ref a ∧ y = .ref b ∧ SqT K H a xs ∧ SqT K H b ys ∧ Paired (Al K H n) xs ys
theorem Al.flat {K : PySem.W.Frag} {H : Hp} {n : Nat} {x : V} (h : flatB x = true) : Al K H (n + 1) x x := .inl ⟨rfl, h⟩
theorem Al.ref {K : PySem.W.Frag} {H : Hp} {n : Nat} {a : Addr} : Al K H (n + 1) (.ref a) (.ref a) := .inr (.inl ⟨a, rfl, rfl⟩)
theorem Al.self {K : PySem.W.Frag} {H : Hp} {n : Nat} : ∀ {x : V}, (∀ a, x = .ref a ∨ flatB x = true) → Al K H (n + 1) x x := fun {x} h => by
  cases x with
  | ref a => exact Al.ref
  | _ => exact Al.flat ((h 0).resolve_left (fun z => by cases z))
section
variable {X : Cx} {pins : List (Addr × Obj)} {σ : Aw.St} {H : Hp} {s : Shared}
theorem al_items {F : V → V → Prop} {A : Around} (ih : ∀ x y v u, F x y → RelV x v → RelV y u → SeqAt.EqAt A s v u true) : ∀ {xs ys : List V} {us ws : List Value}, Paired F xs ys → Vals xs us → Vals ys ws → ∀ j (h1 : j < us.length) (h2 : j < ws.length), SeqAt.EqAt A s us[j] ws[j] true
  | _, _, _, _, .nil, .nil, .nil, _, h1, _ => absurd h1 (Nat.not_lt_zero _)
  | _, _, _, _, .cons f _, .cons r1 _, .cons r2 _, 0, _, _ => ih _ _ _ _ f r1 r2
  | _, _, _, _, .cons _ p, .cons _ q1, .cons _ q2, j + 1, h1, h2 => al_items ih p q1 q2 j (Nat.lt_of_succ_lt_succ h1) (Nat.lt_of_succ_lt_succ h2)
theorem all_true (n : Nat) : ((List.range n).all fun _ => true) = true := List.all_eq_true.mpr fun _ _ => rfl
theorem al_run (I : Inv X pins σ H s) : ∀ (n : Nat) (A : Around), A.units + n < cLine → ∀ (x y : V) (v u : Value), Al X.K H n x y → RelV x v → RelV y u → SeqAt.EqAt A s v u true
  | 0, _, _, _, _, _, _, h, _, _ => (show False from h).elim
  | n + 1, A, hu, x, y, v, u, h, rx, ry => by
    rcases h with ⟨rfl, f⟩ | ⟨a, rfl, rfl⟩ | ⟨a, b, xs, ys, rfl, rfl, ha, hb, hp⟩
    · exact eqAt_same rx ry f
    · cases (show v = Value.ref a from rx)
      cases (show u = Value.ref a from ry)
      exact SeqAt.EqAt.same _
    · cases (show v = Value.ref a from rx)
      cases (show u = Value.ref b from ry)
      obtain ⟨us, r1, p1, _⟩ := I.tuple ha
      obtain ⟨ws, r2, p2, _⟩ := I.tuple hb
      have hsz : us.length = ws.length := by
        rw [← r1.length, ← r2.length]
        exact Paired.length hp
      have step := al_items (A := A.in1) (fun x y v u f => al_run I n A.in1 (by show A.units + 1 + n < cLine; omega) x y v u f) hp r1 r2
      have rc := SeqAt.RcAt.tuples (A := A) (s := s) (l := a) (b := b) (items := us.toArray) (items2 := ws.toArray) (e := fun _ => true) p1 p2 (by omega) (fun j h1 h2 => by simpa using step j (by simpa using h1) (by simpa using h2))
      by_cases e : a = b
      · subst e
        exact SeqAt.EqAt.same _
      · intro prog w E Q hq
        unfold eqBool
        refine wpAny_holding ?_
        refine wpAny_ite_split (fun hab => absurd (Value.ref.inj (eq_of_beq hab)) e) (fun _ => ?_)
        refine wpAny_bind (rc prog w E _ (wpAny_truthy_bool ?_))
        have e1 : ((List.range (min us.toArray.size ws.toArray.size)).all (fun _ => true) && us.toArray.size == ws.toArray.size) = true := by
          rw [all_true, List.size_toArray, List.size_toArray, hsz]
          simp
        rw [e1]
        exact hq
/-- x != y, two tuples that are alike -/
def rNeAl (K : PySem.W.Frag) : R2 := fun x y H Q => ∃ n a b xs ys, n ≤ 60 ∧ x = .ref a ∧ y = .ref b ∧ SqT K H a xs ∧ SqT K H b ys ∧ Paired (Al K H n) xs ys ∧ Q (.bl false) H
theorem op_neAl (hu : X.A.units + 64 < cLine) : OpR X (compareOp .NotEq) (rNeAl X.K) := by
  intro pins s σ H x y v u Q I rx ry h
  obtain ⟨n, a, b, xs, ys, hn, rfl, rfl, ha, hb, hp, q⟩ := h
  cases (show v = Value.ref a from rx)
  cases (show u = Value.ref b from ry)
  obtain ⟨us, r1, p1, _⟩ := I.tuple ha
  obtain ⟨ws, r2, p2, _⟩ := I.tuple hb
  have hsz : us.length = ws.length := by
    rw [← r1.length, ← r2.length]
    exact Paired.length hp
  have step := al_items (A := X.A.in1) (s := s) (fun x y v u f => al_run I n X.A.in1 (by show X.A.units + 1 + n < cLine; omega) x y v u f) hp r1 r2
  refine SeqAt.RcNeAt.tuples (A := X.A) (s := s) (l := a) (b := b) (items := us.toArray) (items2 := ws.toArray) (e := fun _ => true) p1 p2 (by omega) (fun j h1 h2 => by simpa using step j (by simpa using h1) (by simpa using h2)) X.prog X.w _ _ ?_
  have e1 : (!((List.range (min us.toArray.size ws.toArray.size)).all (fun _ => true) && us.toArray.size == ws.toArray.size)) = false := by
    rw [all_true, List.size_toArray, List.size_toArray, hsz]
    simp
  rw [e1]
  exact ⟨.bl false, H, I, rfl, q⟩
end
end Aw

namespace Aw
open PySem PySem.Spec PyProof.Rows L2 NdefX
/-! ### the texts of steps: the reader's mirror, the 99 rows -/
/-- kind, number, rest -/
abbrev Row : Type := Str × Option Int × Option (Int × Int)
def bareL : List Str := ["turn", "deal", "undeal", "swap", "gather", "spread", "flip first", "flip last"]
def numL : List (Str × Int) := [("-3", -3), ("-2", -2), ("-1", -1), ("1", 1), ("2", 2), ("3", 3)]
def restL : List (Str × (Int × Int)) := [("0 of 2", (0, 2)), ("1 of 2", (1, 2)), ("0 of 3", (0, 3)), ("1 of 3", (1, 3)), ("2 of 3", (2, 3)), ("0 of 4", (0, 4)), ("1 of 4", (1, 4)), ("2 of 4", (2, 4)), ("3 of 4", (3, 4))]
/-- behind the number -/
def parseB (kind : Str) (by_ : Int) (between pair : Str) : Option Row :=
  if between = "" then (if kind ∈ (["roll", "near", "sum"] : List Str) then some (kind, some by_, none) else none)
  else if kind ∈ (["near", "sum"] : List Str) then
    match restL.lookup pair with
    | none => none
    | some r => if kind = "sum" ∧ by_ % r.2 ≠ 0 then none else some (kind, some by_, some r)
  else none
def parse (x : Str) : Option Row :=
  if x ∈ bareL then some (x, none, none)
  else if (Txt.partition x " ").1 = "flip" ∧ (restL.lookup (Txt.partition x " ").2.2).isSome = true then (restL.lookup (Txt.partition x " ").2.2).map fun r => ("flip", none, some r)
  else match numL.lookup (Txt.partition (Txt.partition x " ").2.2 " at ").1 with
    | none => none
    | some b => parseB (Txt.partition x " ").1 b (Txt.partition (Txt.partition x " ").2.2 " at ").2.1 (Txt.partition (Txt.partition x " ").2.2 " at ").2.2
def kr (t k : Str) (b : Option Int) (r : Option (Int × Int)) : Str × Row := (t, (k, b, r))
def known : List (Str × Row) := [
  kr "turn" "turn" (none) (none),
  kr "deal" "deal" (none) (none),
  kr "undeal" "undeal" (none) (none),
  kr "swap" "swap" (none) (none),
  kr "gather" "gather" (none) (none),
  kr "spread" "spread" (none) (none),
  kr "flip first" "flip first" (none) (none),
  kr "flip last" "flip last" (none) (none),
  kr "roll -3" "roll" (some (-3)) (none),
  kr "near -3" "near" (some (-3)) (none),
  kr "sum -3" "sum" (some (-3)) (none),
  kr "near -3 at 0 of 2" "near" (some (-3)) (some (0, 2)),
  kr "near -3 at 1 of 2" "near" (some (-3)) (some (1, 2)),
  kr "near -3 at 0 of 3" "near" (some (-3)) (some (0, 3)),
  kr "near -3 at 1 of 3" "near" (some (-3)) (some (1, 3)),
  kr "near -3 at 2 of 3" "near" (some (-3)) (some (2, 3)),
  kr "sum -3 at 0 of 3" "sum" (some (-3)) (some (0, 3)),
  kr "sum -3 at 1 of 3" "sum" (some (-3)) (some (1, 3)),
  kr "sum -3 at 2 of 3" "sum" (some (-3)) (some (2, 3)),
  kr "near -3 at 0 of 4" "near" (some (-3)) (some (0, 4)),
  kr "near -3 at 1 of 4" "near" (some (-3)) (some (1, 4)),
  kr "near -3 at 2 of 4" "near" (some (-3)) (some (2, 4)),
  kr "near -3 at 3 of 4" "near" (some (-3)) (some (3, 4)),
  kr "roll -2" "roll" (some (-2)) (none),
  kr "near -2" "near" (some (-2)) (none),
  kr "sum -2" "sum" (some (-2)) (none),
  kr "near -2 at 0 of 2" "near" (some (-2)) (some (0, 2)),
  kr "near -2 at 1 of 2" "near" (some (-2)) (some (1, 2)),
  kr "sum -2 at 0 of 2" "sum" (some (-2)) (some (0, 2)),
  kr "sum -2 at 1 of 2" "sum" (some (-2)) (some (1, 2)),
  kr "near -2 at 0 of 3" "near" (some (-2)) (some (0, 3)),
  kr "near -2 at 1 of 3" "near" (some (-2)) (some (1, 3)),
  kr "near -2 at 2 of 3" "near" (some (-2)) (some (2, 3)),
  kr "near -2 at 0 of 4" "near" (some (-2)) (some (0, 4)),
  kr "near -2 at 1 of 4" "near" (some (-2)) (some (1, 4)),
  kr "near -2 at 2 of 4" "near" (some (-2)) (some (2, 4)),
  kr "near -2 at 3 of 4" "near" (some (-2)) (some (3, 4)),
  kr "roll -1" "roll" (some (-1)) (none),
  kr "near -1" "near" (some (-1)) (none),
  kr "sum -1" "sum" (some (-1)) (none),
  kr "near -1 at 0 of 2" "near" (some (-1)) (some (0, 2)),
  kr "near -1 at 1 of 2" "near" (some (-1)) (some (1, 2)),
  kr "near -1 at 0 of 3" "near" (some (-1)) (some (0, 3)),
  kr "near -1 at 1 of 3" "near" (some (-1)) (some (1, 3)),
  kr "near -1 at 2 of 3" "near" (some (-1)) (some (2, 3)),
  kr "near -1 at 0 of 4" "near" (some (-1)) (some (0, 4)),
  kr "near -1 at 1 of 4" "near" (some (-1)) (some (1, 4)),
  kr "near -1 at 2 of 4" "near" (some (-1)) (some (2, 4)),
  kr "near -1 at 3 of 4" "near" (some (-1)) (some (3, 4)),
  kr "roll 1" "roll" (some (1)) (none),
  kr "near 1" "near" (some (1)) (none),
  kr "sum 1" "sum" (some (1)) (none),
  kr "near 1 at 0 of 2" "near" (some (1)) (some (0, 2)),
  kr "near 1 at 1 of 2" "near" (some (1)) (some (1, 2)),
  kr "near 1 at 0 of 3" "near" (some (1)) (some (0, 3)),
  kr "near 1 at 1 of 3" "near" (some (1)) (some (1, 3)),
  kr "near 1 at 2 of 3" "near" (some (1)) (some (2, 3)),
  kr "near 1 at 0 of 4" "near" (some (1)) (some (0, 4)),
  kr "near 1 at 1 of 4" "near" (some (1)) (some (1, 4)),
  kr "near 1 at 2 of 4" "near" (some (1)) (some (2, 4)),
  kr "near 1 at 3 of 4" "near" (some (1)) (some (3, 4)),
  kr "roll 2" "roll" (some (2)) (none),
  kr "near 2" "near" (some (2)) (none),
  kr "sum 2" "sum" (some (2)) (none),
  kr "near 2 at 0 of 2" "near" (some (2)) (some (0, 2)),
  kr "near 2 at 1 of 2" "near" (some (2)) (some (1, 2)),
  kr "sum 2 at 0 of 2" "sum" (some (2)) (some (0, 2)),
  kr "sum 2 at 1 of 2" "sum" (some (2)) (some (1, 2)),
  kr "near 2 at 0 of 3" "near" (some (2)) (some (0, 3)),
  kr "near 2 at 1 of 3" "near" (some (2)) (some (1, 3)),
  kr "near 2 at 2 of 3" "near" (some (2)) (some (2, 3)),
  kr "near 2 at 0 of 4" "near" (some (2)) (some (0, 4)),
  kr "near 2 at 1 of 4" "near" (some (2)) (some (1, 4)),
  kr "near 2 at 2 of 4" "near" (some (2)) (some (2, 4)),
  kr "near 2 at 3 of 4" "near" (some (2)) (some (3, 4)),
  kr "roll 3" "roll" (some (3)) (none),
  kr "near 3" "near" (some (3)) (none),
  kr "sum 3" "sum" (some (3)) (none),
  kr "near 3 at 0 of 2" "near" (some (3)) (some (0, 2)),
  kr "near 3 at 1 of 2" "near" (some (3)) (some (1, 2)),
  kr "near 3 at 0 of 3" "near" (some (3)) (some (0, 3)),
  kr "near 3 at 1 of 3" "near" (some (3)) (some (1, 3)),
  kr "near 3 at 2 of 3" "near" (some (3)) (some (2, 3)),
  kr "sum 3 at 0 of 3" "sum" (some (3)) (some (0, 3)),
  kr "sum 3 at 1 of 3" "sum" (some (3)) (some (1, 3)),
  kr "sum 3 at 2 of 3" "sum" (some (3)) (some (2, 3)),
  kr "near 3 at 0 of 4" "near" (some (3)) (some (0, 4)),
  kr "near 3 at 1 of 4" "near" (some (3)) (some (1, 4)),
  kr "near 3 at 2 of 4" "near" (some (3)) (some (2, 4)),
  kr "near 3 at 3 of 4" "near" (some (3)) (some (3, 4)),
  kr "flip 0 of 2" "flip" (none) (some (0, 2)),
  kr "flip 1 of 2" "flip" (none) (some (1, 2)),
  kr "flip 0 of 3" "flip" (none) (some (0, 3)),
  kr "flip 1 of 3" "flip" (none) (some (1, 3)),
  kr "flip 2 of 3" "flip" (none) (some (2, 3)),
  kr "flip 0 of 4" "flip" (none) (some (0, 4)),
  kr "flip 1 of 4" "flip" (none) (some (1, 4)),
  kr "flip 2 of 4" "flip" (none) (some (2, 4)),
  kr "flip 3 of 4" "flip" (none) (some (3, 4))]
theorem known_parse : ∀ p ∈ known, parse p.1 = some p.2 := by decide +kernel
theorem known_nodup : (known.map (·.1)).Nodup := by decide +kernel
theorem known_length : known.length = 99 := by decide +kernel
theorem known_short : ∀ p ∈ known, p.1.length ≤ 40 := by decide +kernel
theorem part_cases (x y : Str) : ((Txt.partition x y).2.1 = y ∨ ((Txt.partition x y).2.1 = Str.empty ∧ (Txt.partition x y).2.2 = Str.empty)) ∧ (Txt.partition x y).1 ++ (Txt.partition x y).2.1 ++ (Txt.partition x y).2.2 = x := by
  refine ⟨?_, StrLaws.partition_sum x y⟩
  unfold Txt.partition
  cases Builtin.Str.occurrences x y 0 x.length 1 with
  | nil => exact .inr ⟨rfl, rfl⟩
  | cons i r => exact .inl rfl
theorem look_mem {α : Type} {k : Str} {v : α} {l : List (Str × α)} (h : l.lookup k = some v) : (k, v) ∈ l := PySem.mem_of_lookup h
theorem bare_known : ∀ k ∈ bareL, (k, ((k, none, none) : Row)) ∈ known := by decide +kernel
theorem flip_known : ∀ p ∈ restL, (("flip" : Str) ++ " " ++ p.1, (("flip", none, some p.2) : Row)) ∈ known := by decide +kernel
theorem one_known : ∀ k ∈ (["roll", "near", "sum"] : List Str), ∀ n ∈ numL, (k ++ " " ++ (n.1 ++ Str.empty ++ Str.empty), ((k, some n.2, none) : Row)) ∈ known := by decide +kernel
theorem near_known : ∀ n ∈ numL, ∀ p ∈ restL, (("near" : Str) ++ " " ++ (n.1 ++ " at " ++ p.1), (("near", some n.2, some p.2) : Row)) ∈ known := by decide +kernel
theorem sum_known : ∀ n ∈ numL, ∀ p ∈ restL, n.2 % p.2.2 = 0 → (("sum" : Str) ++ " " ++ (n.1 ++ " at " ++ p.1), (("sum", some n.2, some p.2) : Row)) ∈ known := by decide +kernel
theorem at_ne : ¬ ((" at " : Str) = "") := by decide +kernel
theorem empty_eq : (Str.empty : Str) = "" := by decide +kernel
theorem no_rest : restL.lookup (Str.empty : Str) = none := by decide +kernel
theorem no_num : numL.lookup (Txt.partition (Str.empty : Str) " at ").1 = none := by decide +kernel
/-- what is read is one of the 99 -/
theorem parse_known {x : Str} {r : Row} (h : parse x = some r) : (x, r) ∈ known := by
  unfold parse at h
  split at h
  · rename_i hb
    cases h
    exact bare_known x hb
  · obtain ⟨c1, e1⟩ := part_cases x " "
    generalize Txt.partition x " " = q at *
    obtain ⟨kind, sep, told⟩ := q
    dsimp only at *
    split at h
    · rename_i hf
      obtain ⟨rfl, hs⟩ := hf
      obtain ⟨p, hp⟩ := Option.isSome_iff_exists.mp hs
      rw [hp] at h
      cases h
      rcases c1 with rfl | ⟨rfl, rfl⟩
      · rw [← e1]
        exact flip_known _ (look_mem hp)
      · rw [no_rest] at hp
        cases hp
    · obtain ⟨c2, e2⟩ := part_cases told " at "
      rcases c1 with rfl | ⟨rfl, rfl⟩
      · generalize Txt.partition told " at " = q2 at *
        obtain ⟨number, between, pair⟩ := q2
        dsimp only at *
        cases hn : numL.lookup number with
        | none => rw [hn] at h; cases h
        | some b =>
          rw [hn] at h
          have hm := look_mem hn
          dsimp only at h
          unfold parseB at h
          split at h
          · rename_i hbt
            split at h
            · rename_i hk
              cases h
              rcases c2 with rfl | ⟨rfl, rfl⟩
              · exact absurd hbt at_ne
              · rw [← e1, ← e2]
                exact one_known kind hk _ hm
            · cases h
          · rename_i hbt
            split at h
            · rename_i hk
              rcases c2 with rfl | ⟨rfl, rfl⟩
              · split at h
                · cases h
                · rename_i p hp
                  split at h
                  · cases h
                  · rename_i hz
                    cases h
                    rw [← e1, ← e2]
                    simp only [List.mem_cons, List.not_mem_nil, or_false] at hk
                    rcases hk with rfl | rfl
                    · exact near_known _ hm _ (look_mem hp)
                    · refine sum_known _ hm _ (look_mem hp) ?_
                      by_cases z : b % p.2 = 0
                      · exact z
                      · exact absurd ⟨rfl, z⟩ hz
              · exact absurd empty_eq hbt
            · cases h
      · rw [no_num] at h
        cases h
theorem parse_iff {x : Str} {r : Row} : parse x = some r ↔ (x, r) ∈ known := ⟨parse_known, fun h => known_parse _ h⟩
end Aw

namespace Aw
open PySem PySem.Spec PyProof.Rows L2 NdefX
/-- an own error class, made by X(v), with one field -/
structure Err (P : Program) (K : PySem.W.Frag) (mg : Str → Option Value) (x y fld : Str) (C : Addr) : Prop where
  ex : ∃ (f cc cda : Addr) (qual : Str) (args : Arguments) (body : List Stmt) (scope : Scope) (fd : FuncData), SupTxt P K mg C f cc cda qual y fld args body scope fd ∧ PySem.W.findIn K (.ref C) "__init__" = some (some (.ref f)) ∧ PySem.W.typeIn K (.ref f) = some (.type "function") ∧ Binds K fd ["self", y] []
  g : mg x = some (.ref C)
  D : ExcD K C
  hno : PySem.W.findIn K (.ref C) fld = some none
section
variable {X : Cx} {C : Addr} {y fld x : Str} {e : Expr} {es : List Expr} {ta : TA} {p pos : Pos}
theorem pe_err (Ex : Err X.prog X.K X.mg x y fld C) (hr : Room 2 X.A) (hg : Gl X x) (ha : PA X (e :: es) ta)
    (hdb : (x == ("__debug__" : Str)) = false := by decide) (he : starEach (e :: es) X.env = (false, eval e X.env) :: starEach es X.env := by rfl) (hpl : (backTo pos (starEach es X.env)).any (·.1) = false := by rfl) :
    PE X (.Call (.Name x p) (e :: es) [] pos) (tVaS C fld ta) := by
  obtain ⟨f, cc, cda, qual, args, body, scope, fd, S, iC, tI, hb⟩ := Ex.ex
  exact pe_sup S iC tI hb hr hg Ex.g ha hdb he hpl
theorem pmk_err (Ex : Err X.prog X.K X.mg x y fld C) (hr : Room 2 X.A) (hg : Gl X x) (ha : PA X (e :: es) ta)
    (hdb : (x == ("__debug__" : Str)) = false := by decide) (he : starEach (e :: es) X.env = (false, eval e X.env) :: starEach es X.env := by rfl) (hpl : (backTo pos (starEach es X.env)).any (·.1) = false := by rfl) :
    PMk X (.Call (.Name x p) (e :: es) [] pos) (tMkO C (spSup C fld) [] ta) := by
  obtain ⟨f, cc, cda, qual, args, body, scope, fd, S, iC, tI, hb⟩ := Ex.ex
  exact pmk_sup S iC tI hb hr hg Ex.g ha hdb he hpl
end
/-- an own error class without own __init__, made by X() -/
structure Err0 (K : PySem.W.Frag) (mg : Str → Option Value) (x : Str) (C : Addr) : Prop where
  q : PySem.W.excIn K C PySem.HandSPX.veTail "ValueError.__new__" = true
  kC : PySem.W.keepIn K (.ref C) = true
  g : mg x = some (.ref C)
  D : ExcD K C
section
variable {X : Cx} {C : Addr} {x : Str} {p pos : Pos}
theorem pe_err0 (Ex : Err0 X.K X.mg x C) (hg : Gl X x) (hdb : (x == ("__debug__" : Str)) = false := by decide) : PE X (.Call (.Name x p) [] [] pos) (fun _ H Q => ∀ a, H a = none → Q (.ref a) (upd H a (exo a C none))) := by
  refine ⟨fun pins s σ H Q I h => ?_⟩
  refine wpAny_Call_Name_kw (ld_glob I hg Ex.g ?_ hdb)
  refine PySem.W.callWith_K0 I.kIn Ex.kC ?_
  show wpAny _ _ (call (.ref C) []) _ _ _
  obtain ⟨bm, N, nm, qn, bs, hdct, sn, sub, ab, col, dd, k0, k1, k2, k3, k5, mN, hC, hN, hni, T⟩ := exc_obj I.kIn Ex.q
  refine wpAny_call_exc_subT F.excBase_ValueError T hC hN hni (fun h' a hm => ?_) (by show 0 ≤ sizeLine; omega)
  have hn : H a = none := I.hok.gone hm.new
  obtain ⟨t, ht, _, _⟩ := hm.there
  exact ⟨.ref a, upd H a (exo a C none), I.laidN hm.keeps hm.new hn (exo_ok ht), rfl, h a hn⟩
end
theorem ite_int {k j : Int} {A B : Prop} (h1 : k = j → A) (h2 : k ≠ j → B) : if decide (V.int k = V.int j) = true then A else B := by
  by_cases e : k = j
  · rw [decide_eq_true (by rw [e])]
    exact iteT (h1 e)
  · rw [decide_eq_false (fun z => e (V.int.inj z))]
    exact iteF (h2 e)
theorem ite_str {x y : Str} {A B : Prop} (h1 : x = y → A) (h2 : x ≠ y → B) : if decide (V.str x = V.str y) = true then A else B := by
  by_cases e : x = y
  · rw [decide_eq_true (by rw [e])]
    exact iteT (h1 e)
  · rw [decide_eq_false (fun z => e (V.str.inj z))]
    exact iteF (h2 e)
theorem ite_dec {c : Prop} [Decidable c] {A B : Prop} (h1 : c → A) (h2 : ¬ c → B) : if decide c = true then A else B := by
  by_cases e : c
  · rw [decide_eq_true e]
    exact iteT (h1 e)
  · rw [decide_eq_false e]
    exact iteF (h2 e)
theorem ite_ndec {c : Prop} [Decidable c] {A B : Prop} (h1 : ¬ c → A) (h2 : c → B) : if (!decide c) = true then A else B := by
  by_cases e : c
  · rw [decide_eq_true e]
    exact iteF (h2 e)
  · rw [decide_eq_false e]
    exact iteT (h1 e)
end Aw

namespace Aw
open PySem PySem.Spec PyProof.Rows L2 NdefX
/-! ### an object whose __init__ may raise, made within a try -/
section
variable {X : Cx} {CX : CXT} {k : Nat} {f C : Addr} {fd : FuncData} {ps : List Str} {sp : Sp} {E : Aw.St → XK} {x : Str} {p pos : Pos} {e : Expr} {es : List Expr} {t : TA}
def tMakeS (C : Addr) (sp : Sp) (E : Aw.St → XK) (t : TA) : TE := fun σ H Q => t σ H fun vs H1 => ∀ x dx, H1 x = none → H1 dx = none → dx ≠ x →
  sp (.ref x :: vs) (upd (upd H1 dx (.own x)) x (.ins C dx [])) (fun v H2 => v = .non ∧ Q (.ref x) H2) (E σ)
theorem pe_makeS (M : Mk X.K C f) (F : FnOk X.prog X.w X.K X.mg X.base CX k f fd ps sp) (hr : Room (k + 1) X.A) (hg : Gl X x) (hm : X.mg x = some (.ref C)) (hb : Binds X.K fd ps []) (hx : ∀ σ, PassesAt CX X σ (E σ))
    (ha : PA X (e :: es) t) (hdb : (x == ("__debug__" : Str)) = false := by decide) (he : starEach (e :: es) X.env = (false, eval e X.env) :: starEach es X.env := by rfl) (hpl : (backTo pos (starEach es X.env)).any (·.1) = false := by rfl) :
    PE X (.Call (.Name x p) (e :: es) [] pos) (tMakeS C sp E t) := by
  refine ⟨fun pins s σ H Q I h => ?_⟩
  refine wpAny_Call_Name_kw (ld_glob I hg hm ?_ hdb)
  refine PySem.W.callWith_K (h₀ := X.base) I.ok.mod.kin M.kp (thn (ha.run pos pins s σ H _ I h) fun us s1 ⟨vs, H1, I1, r, q⟩ => ⟨I1.kIn, ?_⟩) he hpl
  have hq := q (s1.heap.objs.size + 1) s1.heap.objs.size (I1.hok.fresh (Nat.le_succ _)) (I1.hok.fresh (Nat.le_refl _)) (Nat.ne_of_lt (Nat.lt_succ_self _))
  have I2 := Inv.made (C := C) I1
  have r2 : Vals (V.ref (s1.heap.objs.size + 1) :: vs) (Value.ref (s1.heap.objs.size + 1) :: us) := .cons rfl r
  have hl : (Value.ref (s1.heap.objs.size + 1) :: us ++ []).length = ps.length := by
    have e := r2.length
    rw [F.len _ _ _ _ hq] at e
    rw [List.append_nil]
    exact e.symm
  have bb := hb _ (Value.ref (s1.heap.objs.size + 1) :: us) I2.kIn hl
  rw [List.append_nil] at bb
  refine wpAny_call (make_map (f := f) I1.kIn M.makes M.init (beq_iff_eq.mp M.fn) (codeAny_mono (F.run _ X.stack _ _ ⟨Value.ref (s1.heap.objs.size + 1) :: us, []⟩ (Value.ref (s1.heap.objs.size + 1) :: us) _ _ (E σ) (hr.make C us [])
    (I2.env0.make C us []) bb r2 hq) fun r s' hq' => ?_))
  cases r with
  | error e => exact hx σ pins _ _ e s' I2 hq'
  | ok fl =>
    cases fl with
    | ret u =>
      obtain ⟨v, H', I3, rv, ev, q3⟩ := I2.after hq'
      subst ev
      exact ⟨rv, ⟨V.ref (s1.heap.objs.size + 1), H', I3, rfl, q3⟩⟩
    | next => exact False.elim hq'
    | brk => exact False.elim hq'
    | cont => exact False.elim hq'
end
/-! ### a written dict with text keys -/
/-- d[x], d the dict of the top at a -/
def tKd (K : PySem.W.Frag) (d : Addr) (ta tb : TE) : TE := fun σ H Q => ta σ H fun x H1 => tb σ H1 fun y H2 => ∃ (z : Str) (u0 : Value) (v0 : V), x = .ref d ∧ y = .str z ∧ PySem.W.nsIn K d z = some (some u0) ∧ RelV v0 u0 ∧ Q v0 H2
theorem pe_kd {X : Cx} {d : Addr} {es : Array DictEntry} {n : Nat} {a b : Expr} {ta tb : TE} {pos : Pos} (D : KDict X.K X.w d es n) (ha : PE X a ta) (hb : PE X b tb) (hs : NoSl b) : PE X (.Subscript a b pos) (tKd X.K d ta tb) := by
  refine ⟨fun pins s σ H Q I h => ?_⟩
  refine subD_of PySem.F.slot_dict_getitem.lookup hs (thn (ha.run pins s σ H _ I h) fun u s1 ⟨x, H1, I1, rx, q1⟩ => thn (hb.run pins s1 σ H1 _ I1 q1) fun iv s2 ⟨y, H2, I2, ry, z, u0, v0, ex, ey, e, r, q2⟩ => ?_)
  subst ex
  obtain rfl : u = Value.ref d := rx
  exact ⟨kd_type D I2, op_item_kd D pins s2 σ H2 (.ref d) y (.ref d) iv Q I2 rfl ry ⟨z, u0, v0, rfl, ey, e, r, q2⟩⟩
/-- NUMBERS -/
structure NumK (K : PySem.W.Frag) (w : World) (mg : Str → Option Value) (d : Addr) (es : Array DictEntry) (n : Nat) : Prop where
  g : mg "NUMBERS" = some (.ref d)
  D : KDict K w d es n
  no : ∀ z, numL.lookup z = none → PySem.W.nsIn K d z = some none
  yes : ∀ z i, numL.lookup z = some i → ∃ u, PySem.W.nsIn K d z = some (some u) ∧ RelV (.int i) u
/-- RESTS -/
structure RestK (K : PySem.W.Frag) (w : World) (mg : Str → Option Value) (d : Addr) (es : Array DictEntry) (n : Nat) : Prop where
  g : mg "RESTS" = some (.ref d)
  D : KDict K w d es n
  no : ∀ z, restL.lookup z = none → PySem.W.nsIn K d z = some none
  yes : ∀ z p, restL.lookup z = some p → ∃ t, PySem.W.nsIn K d z = some (some (.ref t)) ∧ ∀ H, SqT K H t [.int p.1, .int p.2]
/-- what step_parts asks of the top -/
structure TxtS (K : PySem.W.Frag) (w : World) (mg : Str → Option Value) (dN dR tB : Addr) (eN eR : Array DictEntry) (nN nR : Nat) : Prop where
  isi : mg "isinstance" = none
  str : mg "str" = none
  gB : mg "BARE_KINDS" = some (.ref tB)
  bare : ∀ H, SqT K H tB (bareL.map V.str)
  num : NumK K w mg dN eN nN
  rest : RestK K w mg dR eR nR
/-! ### values that are handed to Step, and their types -/
/-- a value whose type is known; whether it is a text -/
inductive VOk (H : Hp) : V → Prop
  | str (x : Str) (h : x.length ≤ 1000) : VOk H (.str x)
  | non : VOk H .non
  | bl (b : Bool) : VOk H (.bl b)
  | int (i : Int) : VOk H (.int i)
  | lst {a : Addr} {xs : List V} (h : H a = some (.lst xs)) : VOk H (.ref a)
  | tup {a : Addr} {xs : List V} (h : H a = some (.tup xs)) : VOk H (.ref a)
  | dct {a : Addr} {kvs : List (Key × V)} (h : H a = some (.dK kvs)) : VOk H (.ref a)
theorem VOk.same {H H' : Hp} (s : Same H H') : ∀ {v : V}, VOk H v → VOk H' v
  | _, .str x h => .str x h
  | _, .non => .non
  | _, .bl b => .bl b
  | _, .int i => .int i
  | _, .lst h => .lst (s _ _ h)
  | _, .tup h => .tup (s _ _ h)
  | _, .dct h => .dct (s _ _ h)
def isStr : V → Bool
  | .str _ => true
  | _ => false
theorem VOk.isi {K : PySem.W.Frag} {H : Hp} {v : V} (h : VOk H v) : ∃ t, TyX K H v t ∧ PySem.W.kitOne K t (.type "str") = some (isStr v) := by
  cases h with
  | str x h => exact ⟨_, .base (.str x), kit_ty (show kitB "str" "str" = some true by decide +kernel)⟩
  | non => exact ⟨_, .base .non, kit_ty (show kitB "NoneType" "str" = some false by decide +kernel)⟩
  | bl b => exact ⟨_, .base (.bl b), kit_ty (show kitB "bool" "str" = some false by decide +kernel)⟩
  | int i => exact ⟨_, .base (.int i), kit_ty (show kitB "int" "str" = some false by decide +kernel)⟩
  | lst h => exact ⟨_, .base (.lst h), kit_ty (show kitB "list" "str" = some false by decide +kernel)⟩
  | tup h => exact ⟨_, .base (.tup h), kit_ty (show kitB "tuple" "str" = some false by decide +kernel)⟩
  | dct h => exact ⟨_, .base (.dK h), kit_ty (show kitB "dict" "str" = some false by decide +kernel)⟩
def parseV : V → Option Row
  | .str x => parse x
  | _ => none
def optD : Option Int → PyData
  | none => .none
  | some i => .int i
def restD : Option (Int × Int) → PyData
  | none => .none
  | some p => .tuple [.int p.1, .int p.2]
def rowD (r : Row) : PyData := .tuple [.str r.1, optD r.2.1, restD r.2.2]
/-- step_parts -/
def spParts (K : PySem.W.Frag) : Sp := fun vs H Q _ => ∃ v, vs = [v] ∧ VOk H v ∧ (parseV v = none → ∀ H', Same H H' → Q .non H') ∧ (∀ r, parseV v = some r → ∀ u H', Same H H' → Dq K H' u (rowD r) → Q u H')
abbrev sParts : Stmt := (top 15)
theorem in_strs {x : Str} {l : List Str} : inV (.str x) (l.map V.str) = decide (x ∈ l) := by
  induction l with
  | nil => rfl
  | cons y l ih =>
    have e : inV (.str x) ((y :: l).map V.str) = (eqV (.str y) (.str x) || inV (.str x) (l.map V.str)) := rfl
    rw [e, ih]
    have e2 : eqV (.str y) (.str x) = decide (y = x) := by
      show (y == x) = decide (y = x)
      by_cases h : y = x
      · subst h
        simp
      · simp [h]
    rw [e2]
    by_cases h : y = x
    · subst h
      simp
    · have h' : ¬ x = y := fun z => h z.symm
      simp [h, h']
theorem rest_pos : ∀ p ∈ restL, (0 : Int) < p.2.2 := by decide +kernel
theorem flat_strs (l : List Str) : (l.map V.str).all flatV = true := by
  induction l with
  | nil => rfl
  | cons y l ih => simp [List.map_cons, List.all_cons, flatV, ih]
section
variable {P : Program} {w : World} {K : PySem.W.Frag} {mg : Str → Option Value} {base : Heap} {dN dR tB : Addr} {eN eR : Array DictEntry} {nN nR : Nat}
theorem scParts : FnScope ["text", "kind", "_", "told", "number", "between", "pair", "by", "rest"] ["text"] (defScope sParts) := ⟨rfl, rfl, rfl, by decide +kernel, rfl, by decide +kernel, by decide +kernel⟩
theorem ok_parts {f : Addr} {fd : FuncData} (F : Fun K "step_parts" "step_parts" sParts f fd) (T : TxtS K w mg dN dR tB eN eR nN nR) : FnOk P w K mg base CX0 1 f fd ["text"] (spParts K) := by
  refine F.ok scParts (fun vs H Q E h => ?_) (fun cdv A outer s H vs Q E hr h => ?_)
  · obtain ⟨v, rfl, _⟩ := h
    rfl
  · obtain ⟨v, rfl, hv, kn, ks⟩ := h
    have hu := hu_of hr
    have nd := scParts.nd
    refine ⟨_, (pss_cons (ps_if (pt_not (pt_val (pe_callB call_isi (by rfl) T.isi (by decide +kernel) (pa_cons (pv 0) (pa_cons (pe_bltn (v := .ty "str") (by rfl) T.str (by decide +kernel) rfl) pa_nil)))))
        (pss_one (ps_ret pe_non)) pss_nil)
      (pss_cons (ps_if (pt_cmpR op_in_seq (pv 0) (pe_glob (v := .ref tB) (by rfl) T.gB rfl) (by rfl))
        (pss_one (ps_ret (pe_tup (pa_cons (pv 0) (pa_cons pe_non (pa_cons pe_non pa_nil)))))) pss_nil)
      (pss_cons (ps_asg (pe_partition (pv 0) pe_str) (pg_tup rfl (pgs_cons (pg_name (i := 1) nd rfl (Or.inl rfl)) (pgs_cons (pg_name (i := 2) nd rfl (Or.inl rfl)) (pgs_cons (pg_name (i := 3) nd rfl (Or.inl rfl)) pgs_nil)))))
      (pss_cons (ps_if (PW.pt (pw_and (pt_cmpR op_eq (pv 1) pe_str (nomark _)) (pw_and1 (pt_cmpR (op_in_kd T.rest.D) (pv 3) (pe_glob (v := .ref dR) (by rfl) T.rest.g rfl) (by rfl)))))
        (pss_one (ps_ret (pe_tup (pa_cons (pv 1) (pa_cons pe_non (pa_cons (pe_kd T.rest.D (pe_glob (v := .ref dR) (by rfl) T.rest.g rfl) (pv 3) (fun _ _ => rfl)) pa_nil)))))) pss_nil)
      (pss_cons (ps_asg (pe_partition (pv 3) pe_str) (pg_tup rfl (pgs_cons (pg_name (i := 4) nd rfl (Or.inl rfl)) (pgs_cons (pg_name (i := 5) nd rfl (Or.inl rfl)) (pgs_cons (pg_name (i := 6) nd rfl (Or.inl rfl)) pgs_nil)))))
      (pss_cons (ps_if (pt_cmpR (op_notIn_kd T.num.D) (pv 4) (pe_glob (v := .ref dN) (by rfl) T.num.g rfl) (by rfl))
        (pss_one (ps_ret pe_non)) pss_nil)
      (pss_cons (ps_set (i := 7) nd rfl (Or.inl rfl) (pe_kd T.num.D (pe_glob (v := .ref dN) (by rfl) T.num.g rfl) (pv 4) (fun _ _ => rfl)))
      (pss_cons (ps_if (pt_cmpR op_eq (pv 5) pe_str (nomark _))
        (pss_one (ps_ret (pe_ifExp (pt_cmpR op_in_seq (pv 1) (pe_tup (pa_cons pe_str (pa_cons pe_str (pa_cons pe_str pa_nil)))) (by rfl)) (pe_tup (pa_cons (pv 1) (pa_cons (pv 7) (pa_cons pe_non pa_nil)))) pe_non))) pss_nil)
      (pss_cons (ps_if (PW.pt (pw_or (pt_cmpR op_notIn_seq (pv 1) (pe_tup (pa_cons pe_str (pa_cons pe_str pa_nil))) (by rfl)) (pw_or1 (pt_cmpR (op_notIn_kd T.rest.D) (pv 6) (pe_glob (v := .ref dR) (by rfl) T.rest.g rfl) (by rfl)))))
        (pss_one (ps_ret pe_non)) pss_nil)
      (pss_cons (ps_set (i := 8) nd rfl (Or.inl rfl) (pe_kd T.rest.D (pe_glob (v := .ref dR) (by rfl) T.rest.g rfl) (pv 6) (fun _ _ => rfl)))
      (pss_cons (ps_if (PW.pt (pw_and (pt_cmpR op_eq (pv 1) pe_str (nomark _)) (pw_and1 (pt_cmpR op_ne (pe_op op_mod (pv 7) (pe_ix ix_tup (pv 8) pe_int (fun _ _ => rfl))) pe_int (nomark _)))))
        (pss_one (ps_ret pe_non)) pss_nil)
      (pss_one (ps_ret (pe_tup (pa_cons (pv 1) (pa_cons (pv 7) (pa_cons (pv 8) pa_nil))))))))))))))))), ?_⟩
    obtain ⟨t, ty, kt⟩ := hv.isi (K := K)
    refine ⟨_, rfl, v, .ty "str", t, .type "str", isStr v, rfl, .ty _, ty, kt, _, rfl, ?_⟩
    cases hv with
    | str x hx =>
      refine iteF ?_
      replace kn : parse x = none → ∀ H', Same H H' → Q .non H' := kn
      replace ks : ∀ r, parse x = some r → ∀ u H', Same H H' → Dq K H' u (rowD r) → Q u H' := ks
      refine ⟨_, rfl, tB, _, rfl, .inr (T.bare H), rfl, flat_strs _, _, rfl, ?_⟩
      show if inV (.str x) (bareL.map V.str) = true then _ else _
      rw [in_strs]
      by_cases hb : x ∈ bareL
      · rw [decide_eq_true hb]
        refine iteT ?_
        refine ⟨_, rfl, (by show 3 ≤ sizeLine; decide), fun t ht => ?_⟩
        exact ks (x, none, none) (if_pos hb) _ _ (same_upd ht) (.tup (SqT.of upd_same) (.cons (.str _) (.cons .non (.cons .non .nil))))
      rw [decide_eq_false hb]
      refine iteF ?_
      have hpar : parse x = _ := if_neg hb
      rw [hpar] at kn ks
      have hsz : (1000 : Nat) ≤ sizeLine := by decide
      refine ⟨_, rfl, ⟨_, rfl⟩, x, " ", rfl, rfl, (by decide +kernel), Nat.le_trans hx hsz, fun p hp => ?_⟩
      have hl1 : (Txt.partition x " ").2.2.length ≤ 1000 := by
        have e := congrArg Str.length (part_cases x " ").2
        rw [Str.length_append, Str.length_append] at e
        omega
      generalize Txt.partition x " " = q at *
      obtain ⟨kind, sep, told⟩ := q
      dsimp only at kn ks hl1
      refine ⟨p, _, rfl, SqT.of upd_same, rfl, _, _, rfl, _, _, rfl, _, _, rfl, rfl, ?_⟩
      have s1 : Same H (upd H p (.tup [.str kind, .str sep, .str told])) := same_upd hp
      generalize upd H p (.tup [.str kind, .str sep, .str told]) = H1 at *
      -- the way on behind the flips
      have goon : ∀ (D : Ends) (σ : Aw.St) (G : Prop), G → G := fun _ _ _ h => h
      have num : (¬ (kind = "flip" ∧ (restL.lookup told).isSome = true)) → _ := fun hf => by
        rw [if_neg hf] at kn ks
        exact (⟨kn, ks⟩ : _ ∧ _)
      refine ⟨_, rfl, rfl, _, rfl, ?_⟩
      refine ite_str (fun hk => ?_) (fun hk => ?_)
      · change kind = "flip" at hk
        cases hl : restL.lookup told with
        | some pr =>
          obtain ⟨t', e', sq⟩ := T.rest.yes told pr hl
          refine ⟨_, rfl, told, _, rfl, rfl, e', _, rfl, ?_⟩
          refine iteT ?_
          refine ⟨_, rfl, _, rfl, told, _, .ref t', rfl, rfl, e', rfl, (by show 3 ≤ sizeLine; decide), fun u hu' => ?_⟩
          have hf : kind = "flip" ∧ (restL.lookup told).isSome = true := ⟨hk, by rw [hl]; rfl⟩
          rw [if_pos hf] at ks
          rw [hl] at ks
          rw [hk]
          exact ks ("flip", none, some pr) rfl _ _ (s1.trans (same_upd hu')) (.tup (SqT.of upd_same) (.cons (.str _) (.cons .non (.cons (.tup (sq _) (.cons (.int _) (.cons (.int _) .nil))) .nil))))
        | none =>
          refine ⟨_, rfl, told, _, rfl, rfl, T.rest.no told hl, _, rfl, ?_⟩
          refine iteF ?_
          obtain ⟨kn, ks⟩ := num (fun z => by rw [hl] at z; exact absurd z.2 (by decide))
          refine ⟨_, rfl, ⟨_, rfl⟩, told, " at ", rfl, rfl, (by decide +kernel), Nat.le_trans hl1 hsz, fun p2 hp2 => ?_⟩
          generalize Txt.partition told " at " = q2 at *
          obtain ⟨number, between, pair⟩ := q2
          dsimp only at kn ks
          refine ⟨p2, _, rfl, SqT.of upd_same, rfl, _, _, rfl, _, _, rfl, _, _, rfl, rfl, ?_⟩
          have s2 : Same H (upd H1 p2 (.tup [.str number, .str between, .str pair])) := s1.trans (same_upd hp2)
          generalize upd H1 p2 (.tup [.str number, .str between, .str pair]) = H2 at *
          cases hn : numL.lookup number with
          | none =>
            refine ⟨_, rfl, number, _, rfl, rfl, T.num.no number hn, _, rfl, ?_⟩
            refine iteT ?_
            rw [hn] at kn
            exact kn rfl _ s2
          | some b =>
          obtain ⟨u0, eu, ru⟩ := T.num.yes number b hn
          rw [hn] at kn ks
          dsimp only at kn ks
          refine ⟨_, rfl, number, _, rfl, rfl, eu, _, rfl, ?_⟩
          refine iteF ?_
          refine ⟨_, rfl, number, u0, .int b, rfl, rfl, eu, ru, ?_⟩
          unfold parseB at kn ks
          refine ⟨_, rfl, rfl, _, rfl, ?_⟩
          refine ite_str (fun hbt => ?_) (fun hbt => ?_)
          · change between = "" at hbt
            rw [if_pos hbt] at kn ks
            refine ⟨_, rfl, (by show 3 ≤ sizeLine; decide), fun t1 ht1 => ⟨t1, _, rfl, .inr (SqT.of upd_same), rfl, (by decide +kernel), _, rfl, ?_⟩⟩
            show if inV (.str kind) ((["roll", "near", "sum"] : List Str).map V.str) = true then _ else _
            rw [in_strs]
            have s3 := s2.trans (same_upd (o := .tup [.str "roll", .str "near", .str "sum"]) ht1)
            refine ite_dec (fun hin => ?_) (fun hin => ?_)
            · rw [if_pos hin] at ks
              refine ⟨_, rfl, _, rfl, (by show 3 ≤ sizeLine; decide), fun t2 ht2 => ?_⟩
              exact ks _ rfl _ _ (s3.trans (same_upd ht2)) (.tup (SqT.of upd_same) (.cons (.str _) (.cons (.int _) (.cons .non .nil))))
            · rw [if_neg hin] at kn
              exact kn rfl _ s3
          · change ¬ between = "" at hbt
            rw [if_neg hbt] at kn ks
            refine ⟨_, rfl, (by show 2 ≤ sizeLine; decide), fun t1 ht1 => ⟨t1, _, rfl, .inr (SqT.of upd_same), rfl, (by decide +kernel), _, rfl, ?_⟩⟩
            show if (!inV (.str kind) ((["near", "sum"] : List Str).map V.str)) = true then _ else _
            rw [in_strs]
            have s3 := s2.trans (same_upd (o := .tup [.str "near", .str "sum"]) ht1)
            generalize upd H2 t1 (.tup [.str "near", .str "sum"]) = H3 at *
            refine ite_ndec (fun hin => ?_) (fun hin => ?_)
            · rw [if_neg hin] at kn
              refine iteT ?_
              exact kn rfl _ s3
            · rw [if_pos hin] at kn ks
              cases hl2 : restL.lookup pair with
              | none =>
                refine ⟨_, rfl, pair, _, rfl, rfl, T.rest.no pair hl2, _, rfl, ?_⟩
                refine iteT ?_
                rw [hl2] at kn
                exact kn rfl _ s3
              | some pr =>
                rw [hl2] at kn ks
                dsimp only at kn ks
                obtain ⟨t', e', sq⟩ := T.rest.yes pair pr hl2
                refine ⟨_, rfl, pair, _, rfl, rfl, e', _, rfl, ?_⟩
                refine iteF ?_
                refine ⟨_, rfl, pair, _, .ref t', rfl, rfl, e', rfl, ?_⟩
                have h0 : (0 : Int) < pr.2 := rest_pos _ (look_mem hl2)
                refine ⟨_, rfl, rfl, _, rfl, ?_⟩
                refine ite_str (fun hs => ?_) (fun hs => ?_)
                · change kind = "sum" at hs
                  refine ⟨_, rfl, _, rfl, t', _, 1, .int pr.2, rfl, rfl, sq _, rfl, b, pr.2, rfl, rfl, h0, rfl, _, rfl, ?_⟩
                  by_cases hz : b % pr.2 = 0
                  · rw [if_neg (fun z => z.2 hz)] at ks
                    rw [show (!decide (V.int (b % pr.2) = V.int 0)) = false by rw [hz]; simp]
                    refine iteF ?_
                    refine ⟨_, rfl, _, rfl, _, rfl, (by show 3 ≤ sizeLine; decide), fun t2 ht2 => ?_⟩
                    exact ks _ rfl _ _ (s3.trans (same_upd ht2)) (.tup (SqT.of upd_same) (.cons (.str _) (.cons (.int _) (.cons (.tup (sq _) (.cons (.int _) (.cons (.int _) .nil))) .nil))))
                  · rw [if_pos ⟨hs, hz⟩] at kn
                    rw [show (!decide (V.int (b % pr.2) = V.int 0)) = true by rw [decide_eq_false (fun z => hz (V.int.inj z))]; rfl]
                    refine iteT ?_
                    exact kn rfl _ s3
                · change kind ≠ "sum" at hs
                  rw [if_neg (fun z => hs z.1)] at ks
                  refine iteF ?_
                  refine ⟨_, rfl, _, rfl, _, rfl, (by show 3 ≤ sizeLine; decide), fun t2 ht2 => ?_⟩
                  exact ks _ rfl _ _ (s3.trans (same_upd ht2)) (.tup (SqT.of upd_same) (.cons (.str _) (.cons (.int _) (.cons (.tup (sq _) (.cons (.int _) (.cons (.int _) .nil))) .nil))))
      · change kind ≠ "flip" at hk
        refine iteF ?_
        obtain ⟨kn, ks⟩ := num (fun z => hk z.1)
        refine ⟨_, rfl, ⟨_, rfl⟩, told, " at ", rfl, rfl, (by decide +kernel), Nat.le_trans hl1 hsz, fun p2 hp2 => ?_⟩
        generalize Txt.partition told " at " = q2 at *
        obtain ⟨number, between, pair⟩ := q2
        dsimp only at kn ks
        refine ⟨p2, _, rfl, SqT.of upd_same, rfl, _, _, rfl, _, _, rfl, _, _, rfl, rfl, ?_⟩
        have s2 : Same H (upd H1 p2 (.tup [.str number, .str between, .str pair])) := s1.trans (same_upd hp2)
        generalize upd H1 p2 (.tup [.str number, .str between, .str pair]) = H2 at *
        cases hn : numL.lookup number with
        | none =>
          refine ⟨_, rfl, number, _, rfl, rfl, T.num.no number hn, _, rfl, ?_⟩
          refine iteT ?_
          rw [hn] at kn
          exact kn rfl _ s2
        | some b =>
        obtain ⟨u0, eu, ru⟩ := T.num.yes number b hn
        rw [hn] at kn ks
        dsimp only at kn ks
        refine ⟨_, rfl, number, _, rfl, rfl, eu, _, rfl, ?_⟩
        refine iteF ?_
        refine ⟨_, rfl, number, u0, .int b, rfl, rfl, eu, ru, ?_⟩
        unfold parseB at kn ks
        refine ⟨_, rfl, rfl, _, rfl, ?_⟩
        refine ite_str (fun hbt => ?_) (fun hbt => ?_)
        · change between = "" at hbt
          rw [if_pos hbt] at kn ks
          refine ⟨_, rfl, (by show 3 ≤ sizeLine; decide), fun t1 ht1 => ⟨t1, _, rfl, .inr (SqT.of upd_same), rfl, (by decide +kernel), _, rfl, ?_⟩⟩
          show if inV (.str kind) ((["roll", "near", "sum"] : List Str).map V.str) = true then _ else _
          rw [in_strs]
          have s3 := s2.trans (same_upd (o := .tup [.str "roll", .str "near", .str "sum"]) ht1)
          refine ite_dec (fun hin => ?_) (fun hin => ?_)
          · rw [if_pos hin] at ks
            refine ⟨_, rfl, _, rfl, (by show 3 ≤ sizeLine; decide), fun t2 ht2 => ?_⟩
            exact ks _ rfl _ _ (s3.trans (same_upd ht2)) (.tup (SqT.of upd_same) (.cons (.str _) (.cons (.int _) (.cons .non .nil))))
          · rw [if_neg hin] at kn
            exact kn rfl _ s3
        · change ¬ between = "" at hbt
          rw [if_neg hbt] at kn ks
          refine ⟨_, rfl, (by show 2 ≤ sizeLine; decide), fun t1 ht1 => ⟨t1, _, rfl, .inr (SqT.of upd_same), rfl, (by decide +kernel), _, rfl, ?_⟩⟩
          show if (!inV (.str kind) ((["near", "sum"] : List Str).map V.str)) = true then _ else _
          rw [in_strs]
          have s3 := s2.trans (same_upd (o := .tup [.str "near", .str "sum"]) ht1)
          generalize upd H2 t1 (.tup [.str "near", .str "sum"]) = H3 at *
          refine ite_ndec (fun hin => ?_) (fun hin => ?_)
          · rw [if_neg hin] at kn
            refine iteT ?_
            exact kn rfl _ s3
          · rw [if_pos hin] at kn ks
            cases hl2 : restL.lookup pair with
            | none =>
              refine ⟨_, rfl, pair, _, rfl, rfl, T.rest.no pair hl2, _, rfl, ?_⟩
              refine iteT ?_
              rw [hl2] at kn
              exact kn rfl _ s3
            | some pr =>
              rw [hl2] at kn ks
              dsimp only at kn ks
              obtain ⟨t', e', sq⟩ := T.rest.yes pair pr hl2
              refine ⟨_, rfl, pair, _, rfl, rfl, e', _, rfl, ?_⟩
              refine iteF ?_
              refine ⟨_, rfl, pair, _, .ref t', rfl, rfl, e', rfl, ?_⟩
              have h0 : (0 : Int) < pr.2 := rest_pos _ (look_mem hl2)
              refine ⟨_, rfl, rfl, _, rfl, ?_⟩
              refine ite_str (fun hs => ?_) (fun hs => ?_)
              · change kind = "sum" at hs
                refine ⟨_, rfl, _, rfl, t', _, 1, .int pr.2, rfl, rfl, sq _, rfl, b, pr.2, rfl, rfl, h0, rfl, _, rfl, ?_⟩
                by_cases hz : b % pr.2 = 0
                · rw [if_neg (fun z => z.2 hz)] at ks
                  rw [show (!decide (V.int (b % pr.2) = V.int 0)) = false by rw [hz]; simp]
                  refine iteF ?_
                  refine ⟨_, rfl, _, rfl, _, rfl, (by show 3 ≤ sizeLine; decide), fun t2 ht2 => ?_⟩
                  exact ks _ rfl _ _ (s3.trans (same_upd ht2)) (.tup (SqT.of upd_same) (.cons (.str _) (.cons (.int _) (.cons (.tup (sq _) (.cons (.int _) (.cons (.int _) .nil))) .nil))))
                · rw [if_pos ⟨hs, hz⟩] at kn
                  rw [show (!decide (V.int (b % pr.2) = V.int 0)) = true by rw [decide_eq_false (fun z => hz (V.int.inj z))]; rfl]
                  refine iteT ?_
                  exact kn rfl _ s3
              · change kind ≠ "sum" at hs
                rw [if_neg (fun z => hs z.1)] at ks
                refine iteF ?_
                refine ⟨_, rfl, _, rfl, _, rfl, (by show 3 ≤ sizeLine; decide), fun t2 ht2 => ?_⟩
                exact ks _ rfl _ _ (s3.trans (same_upd ht2)) (.tup (SqT.of upd_same) (.cons (.str _) (.cons (.int _) (.cons (.tup (sq _) (.cons (.int _) (.cons (.int _) .nil))) .nil))))
    | _ => exact iteT (kn rfl H (Same.refl H))
end
end Aw

namespace Aw
open PySem PySem.Spec PyProof.Rows L2 NdefX
abbrev sInit : Stmt := (inClass (top 14) 0)
abbrev sEq : Stmt := (inClass (top 14) 1)
/-- the attributes of a Step -/
def stepF (x : Str) (k : Str) (b r : V) : List (Str × V) := [("text", .str x), ("kind", .str k), ("by", b), ("rest", r)]
theorem put1 {v : V} : putF "text" v [] = ([("text", v)] : List (Str × V)) := rfl
theorem ne_tk : ¬ (("text" : Str) = "kind") := by decide +kernel
theorem ne_tb : ¬ (("text" : Str) = "by") := by decide +kernel
theorem ne_tr : ¬ (("text" : Str) = "rest") := by decide +kernel
theorem ne_kb : ¬ (("kind" : Str) = "by") := by decide +kernel
theorem ne_kr : ¬ (("kind" : Str) = "rest") := by decide +kernel
theorem ne_br : ¬ (("by" : Str) = "rest") := by decide +kernel
theorem put2 {a v : V} : putF "kind" v ([("text", a)] : List (Str × V)) = ([("text", a), ("kind", v)] : List (Str × V)) := by
  show (if ("text" : Str) = "kind" then _ else (("text" : Str), a) :: putF "kind" v []) = _
  rw [if_neg ne_tk]
  rfl
theorem put3 {a b v : V} : putF "by" v ([("text", a), ("kind", b)] : List (Str × V)) = ([("text", a), ("kind", b), ("by", v)] : List (Str × V)) := by
  show (if ("text" : Str) = "by" then _ else (("text" : Str), a) :: (if ("kind" : Str) = "by" then _ else (("kind" : Str), b) :: putF "by" v [])) = _
  rw [if_neg ne_tb, if_neg ne_kb]
  rfl
theorem put4 {a b c v : V} : putF "rest" v ([("text", a), ("kind", b), ("by", c)] : List (Str × V)) = ([("text", a), ("kind", b), ("by", c), ("rest", v)] : List (Str × V)) := by
  show (if ("text" : Str) = "rest" then _ else (("text" : Str), a) :: (if ("kind" : Str) = "rest" then _ else (("kind" : Str), b) :: (if ("by" : Str) = "rest" then _ else (("by" : Str), c) :: putF "rest" v []))) = _
  rw [if_neg ne_tr, if_neg ne_kr, if_neg ne_br]
  rfl
theorem lkk {α : Type} {k m : Str} {v : α} {l : List (Str × α)} (h : ¬ m = k) : ((k, v) :: l).lookup m = l.lookup m := by
  have e : (m == k) = false := by simpa using h
  simp [List.lookup, e]
theorem lk1 {α : Type} {k : Str} {v : α} {l : List (Str × α)} : ((k, v) :: l).lookup k = some v := by simp [List.lookup]
theorem gText {x k : Str} {b r : V} : (stepF x k b r).lookup ("text" : Str) = some (.str x) := lk1
theorem gKind {x k : Str} {b r : V} : (stepF x k b r).lookup ("kind" : Str) = some (.str k) := (lkk (fun z => ne_tk z.symm)).trans lk1
theorem gBy {x k : Str} {b r : V} : (stepF x k b r).lookup ("by" : Str) = some b := (lkk (fun z => ne_tb z.symm)).trans ((lkk (fun z => ne_kb z.symm)).trans lk1)
theorem gRest {x k : Str} {b r : V} : (stepF x k b r).lookup ("rest" : Str) = some r := (lkk (fun z => ne_tr z.symm)).trans ((lkk (fun z => ne_kr z.symm)).trans ((lkk (fun z => ne_br z.symm)).trans lk1))
theorem gNo {x k m : Str} {b r : V} (h1 : ¬ m = "text") (h2 : ¬ m = "kind") (h3 : ¬ m = "by") (h4 : ¬ m = "rest") : (stepF x k b r).lookup m = none :=
  (lkk h1).trans ((lkk h2).trans ((lkk h3).trans ((lkk h4).trans rfl)))
/-- a Step with the text x stands at a -/
structure StepAt (K : PySem.W.Frag) (C : Addr) (H : Hp) (a : Addr) (x : Str) (r : Row) : Prop where
  ex : ∃ dx b t, H a = some (.ins C dx (stepF x r.1 b t)) ∧ Dq K H b (optD r.2.1) ∧ Dq K H t (restD r.2.2)
  pr : parse x = some r
theorem StepAt.same {K : PySem.W.Frag} {C : Addr} {H H' : Hp} {a : Addr} {x : Str} {r : Row} (S : StepAt K C H a x r) (s : Same H H') : StepAt K C H' a x r := by
  obtain ⟨dx, b, t, h, h1, h2⟩ := S.ex
  exact ⟨⟨dx, b, t, s _ _ h, h1.keep (TK.same s), h2.keep (TK.same s)⟩, S.pr⟩
/-- Step.__init__ -/
def spInit (K : PySem.W.Frag) (C CB : Addr) : Sp := fun vs H Q E => ∃ (a dx : Addr) (v : V), vs = [.ref a, v] ∧ H a = some (.ins C dx []) ∧ VOk H v ∧
  (parseV v = none → ∀ d H', Same H H' → H d = none → H' d = some (.xd [("text", v)]) → E (.ref CB) (some d) H') ∧
  (∀ x r, v = .str x → parse x = some r → ∀ H', (∀ b o, H b = some o → b ≠ a → H' b = some o) → StepAt K C H' a x r → Q .non H')
/-- what the class says -/
structure TxtO (P : Program) (K : PySem.W.Frag) (mg : Str → Option Value) (C CB fP fI : Addr) : Prop where
  parts : mg "step_parts" = some (.ref fP)
  bt : Err P K mg "BadText" "text" "text" CB
  cl : Cls K C
  nT : NoAttr K C "text"
  nK : NoAttr K C "kind"
  nB : NoAttr K C "by"
  nR : NoAttr K C "rest"
  g : mg "Step" = some (.ref C)
  mkr : Mk K C fI
section
variable {P : Program} {w : World} {K : PySem.W.Frag} {mg : Str → Option Value} {base : Heap} {dN dR tB : Addr} {eN eR : Array DictEntry} {nN nR : Nat} {C CB fP fI : Addr}
theorem scInit : FnScope ["self", "text", "parts", "kind", "by", "rest"] ["self", "text"] (defScope sInit) := ⟨rfl, rfl, rfl, by decide +kernel, rfl, by decide +kernel, by decide +kernel⟩
theorem ok_init {f : Addr} {fd gd : FuncData} (F : Fun K "__init__" "Step.__init__" sInit f fd) (O : TxtO P K mg C CB fP fI) (T : TxtS K w mg dN dR tB eN eR nN nR) (G : Fun K "step_parts" "step_parts" sParts fP gd) (bG : Binds K gd ["text"] []) : FnOk P w K mg base (L2.CX P w) 3 f fd ["self", "text"] (spInit K C CB) := by
  have GP : FnOk P w K mg base CX0 1 fP gd ["text"] (spParts K) := ok_parts G T
  refine F.okX scInit (fun vs H Q E h => ?_) (fun cdv A outer s H vs Q E hr h => ?_)
  · obtain ⟨a, dx, v, rfl, _⟩ := h
    rfl
  · obtain ⟨a, dx, v, rfl, ha, hv, kE, kQ⟩ := h
    have nd := scInit.nd
    refine ⟨_, (pss_cons (ps_set (i := 2) nd rfl (Or.inl rfl) (pe_call GP (hr.mono (by decide)) (by rfl) O.parts G.kp bG .nil pass0 (pa_cons (pv 1) pa_nil)))
      (pss_cons (ps_if (pt_cmpR op_isN (pv 2) pe_non (nomark _))
        (pss_one (ps_raise rfl (takes_of rfl rfl rfl rfl) (pmk_err O.bt hr (by rfl) (pa_cons (pv 1) pa_nil)))) pss_nil)
      (pss_cons (ps_asg (pv 2) (pg_tup rfl (pgs_cons (pg_name (i := 3) nd rfl (Or.inl rfl)) (pgs_cons (pg_name (i := 4) nd rfl (Or.inl rfl)) (pgs_cons (pg_name (i := 5) nd rfl (Or.inl rfl)) pgs_nil)))))
      (pss_cons (ps_fld (pv 0) (pv 1) rfl)
      (pss_cons (ps_fld (pv 0) (pv 3) rfl)
      (pss_cons (ps_fld (pv 0) (pv 4) rfl)
      (pss_one (ps_fld (pv 0) (pv 5) rfl)))))))), ?_⟩
    refine ⟨_, rfl, v, rfl, hv, fun hn H1 s1 => ?_, fun r hp u H1 s1 du => ?_⟩
    · refine ⟨_, rfl, rfl, _, rfl, ?_⟩
      refine iteT ?_
      refine ⟨v, rfl, mkS_ans fun d hd => ?_⟩
      exact kE hn d _ (s1.trans (same_upd hd)) (s1.free hd) upd_same
    · obtain ⟨t, xs, rfl, st, dxs⟩ := du.of_tuple
      refine ⟨_, rfl, rfl, _, rfl, ?_⟩
      refine iteF ?_
      obtain ⟨k, b, rr⟩ := r
      cases dxs with
      | cons d1 dxs => cases dxs with
        | cons d2 dxs => cases dxs with
          | cons d3 dxs =>
            cases dxs
            obtain rfl := d1.of_str
            rename_i v2 v3
            obtain ⟨x, rfl⟩ : ∃ x, v = .str x := by
              cases v with
              | str x => exact ⟨x, rfl⟩
              | _ => cases hp
            have ha1 : H1 a = some (.ins C dx []) := s1 _ _ ha
            refine ⟨_, rfl, t, _, rfl, st, rfl, _, _, rfl, _, _, rfl, _, _, rfl, rfl, ?_⟩
            refine ⟨_, rfl, _, rfl, a, C, dx, [], rfl, ha1, O.cl, O.nT, (by show 0 < 1000; decide), ?_⟩
            refine ⟨_, rfl, _, rfl, a, C, dx, _, rfl, upd_same, O.cl, O.nK, (by show 1 < 1000; decide), ?_⟩
            refine ⟨_, rfl, _, rfl, a, C, dx, _, rfl, upd_same, O.cl, O.nB, (by rw [put1, put2]; show 2 < 1000; decide), ?_⟩
            refine ⟨_, rfl, _, rfl, a, C, dx, _, rfl, upd_same, O.cl, O.nR, (by rw [put1, put2, put3]; show 3 < 1000; decide), ?_⟩
            rw [upd_upd, upd_upd, upd_upd, put1, put2, put3, put4]
            have tk : TK H1 (upd H1 a (.ins C dx (stepF x k v2 v3))) := ⟨fun c ys e => by rw [upd_ne (ne_of e ha1 (fun z => by cases z))]; exact e, fun c o ys e => by rw [upd_ne (ne_of e ha1 (fun z => by cases z))]; exact e⟩
            exact kQ x (k, b, rr) rfl hp _ (fun c o e hc => by rw [upd_ne hc]; exact s1 _ _ e) ⟨⟨dx, v2, v3, upd_same, d2.keep tk, d3.keep tk⟩, hp⟩
end
end Aw

namespace Aw
open PySem PySem.Spec PyProof.Rows L2 NdefX
/-! ### a == b, a != b where a's class has its own __eq__ (and no __ne__) -/
theorem neSlot : Slot "object" "__ne__" "object.__ne__" := .of (owner := "object") (n := "__ne__") (by rw [typeLookup_type, builtinLookup_eq_fast]; kernel_rfl) (by decide +kernel) (by decide +kernel) (by decide +kernel)
    (by first | exact .inl (by decide +kernel) | exact .inr (by decide +kernel)) (by rw [isSubtype_type]; kernel_rfl)
section
variable {prog : Program} {w : World} {A : Around} {E : Value → Shared → Prop} {s : Shared} {K : PySem.W.Frag} {x C : Addr} {ox : Obj} {od : Option Obj} {name : Str} {b tb : Value} {id : String}
theorem ifBound_b {M : Model} {args : List Value} {Q : Option Value → Shared → Prop} (X : K.In s.heap) (I : PySem.W.InstAt s.heap x ox C od) (hs : PySem.W.findIn K (.ref C) name = some (some (.builtin id))) (hb : bindSpecial (.builtin id) (.ref x) = pure (.builtin id, [.ref x]))
    (h : wpAny M A (call (.builtin id) (.ref x :: args)) (fun v => Q (some v)) E s) : wpAny M A (callSpecialIfBound? (.ref x) name args) Q E s := by
  simp only [callSpecialIfBound?, bindSpecialIfBound?]
  refine wpAny_holding (wpAny_bind (wpAny_bind (wpAny_bind (I.type.here ((PySem.W.looks_findIn X hs).here ?_)))))
  refine wpAny_bind (wpAny_askSetting (wpAny_ite ?_))
  have fin : wpAny M A (call (.builtin id) ([.ref x] ++ args) >>= fun v => pure (some v)) Q E s := wpAny_bind (wpAny_mono h (fun v s' h' => wpAny_pure h') fun _ _ h' => h')
  split
  · exact wpAny_bind (wpAny_of_eq hb (wpAny_pure (by exact fin)))
  · exact wpAny_tryCatch (wpAny_bind (wpAny_of_eq hb (wpAny_pure (by exact fin))))
theorem cmp_b {op : CmpOp} {Q : Value → Shared → Prop} (hu : A.units < cLine) (X : K.In s.heap) (I : PySem.W.InstAt s.heap x ox C od) (hb : PySem.W.Looks (model prog w) s.heap (typeOf b) tb) (hn : PySem.W.notFirst K C tb = true)
    (hs : PySem.W.findIn K (.ref C) (cmpInfo op).2.1 = some (some (.builtin id))) (hbd : bindSpecial (.builtin id) (.ref x) = pure (.builtin id, [.ref x]))
    (h : wpAny (model prog w) A (call (.builtin id) [.ref x, b]) (PySem.W.CmpBack Q) E s) : wpAny (model prog w) A (richCompare op (.ref x) b) Q E s := by
  have one : wpAny (model prog w) A (tryCompare (.ref x) (cmpInfo op).2.1 b) (fun r s' => ∃ v, r = some v ∧ Q v s') E s := by
    unfold tryCompare
    refine wpAny_bind (ifBound_b X I hs hbd (wpAny_mono h (fun v s' hv => ?_) fun _ _ e => e))
    cases v <;> first | exact hv.elim | exact wpAny_pure ⟨_, rfl, hv⟩
  unfold richCompare
  simp only [oneThing_ref]
  refine wpAny_holding (wpAny_bind (wpAny_cRoomFor hu ?_))
  refine wpAny_bind (I.type.here (wpAny_bind (hb.here ?_)))
  split
  · rename_i q
    have e : PySem.W.subIn K tb (.ref C) = some false := by
      rcases Bool.or_eq_true_iff.mp hn with e | e
      · rw [beq_iff_eq.mp e] at q; simp at q
      · exact beq_iff_eq.mp e
    refine wpAny_bind ((PySem.W.looks_subIn X e).here ?_)
    simp only [Bool.false_eq_true, if_false]
    refine wpAny_bind (wpAny_mono one (fun r s' z => ?_) fun _ _ e => e)
    obtain ⟨v, rfl, hq⟩ := z
    exact wpAny_pure hq
  · refine wpAny_bind (wpAny_pure ?_)
    simp only [Bool.false_eq_true, if_false]
    refine wpAny_bind (wpAny_mono one (fun r s' z => ?_) fun _ _ e => e)
    obtain ⟨v, rfl, hq⟩ := z
    exact wpAny_pure hq
/-- object.__ne__ over the own __eq__ at f -/
theorem ne_own {f : Addr} {Q : Value → Shared → Prop} (hu : A.units + 1 < cLine) (X : K.In s.heap) (I : PySem.W.InstAt s.heap x ox C od) (ho : PySem.W.mroIn K C (.type "object") = some true)
    (hs : PySem.W.findIn K (.ref C) "__eq__" = some (some (.ref f))) (hf : PySem.W.isFn K (.ref f) = true)
    (h : wpAny (model prog w) A.in1 (call (.ref f) [.ref x, b]) (fun v s' => ∃ r, v = .bool r ∧ Q (.bool (!r)) s') E s) : wpAny (model prog w) A (call (.builtin "object.__ne__") [.ref x, b]) Q E s := by
  have sub : PySem.W.Looks (model prog w) s.heap (isInstance (.ref x) (.type "object")) true := I.type.andThen (PySem.W.looks_mroIn X ho)
  obtain ⟨hp, g, d, t, os⟩ := s
  refine wpAny_call (codeAny_call_builtin neSlot.plain F.cmpEntry_ne ?_)
  refine @PySem.W.check_slot (model prog w) _ _ ⟨hp, g, d, t, os⟩ "object.__ne__" "object" "__ne__" (.ref x) [b] [] _ F.cmpKind_ne F.cmpSplit_ne sub (F.cmpArgs_ne _ _) ?_
  unfold Builtin.«object.__ne__»
  refine wpAny_bind (wpAny_of_eq (a := ((Value.ref x : Value), [b])) (by first | rfl | (simp only [Builtin.slotArgs]; rfl)) ?_)
  refine wpAny_bind (wpAny_cRoomFor hu ?_)
  refine wpAny_bind (PySem.W.ifBound_K X I hs hf (wpAny_mono h (fun v s' hv => ?_) fun _ _ e => e))
  obtain ⟨r, rfl, q⟩ := hv
  refine wpAny_bind (wpAny_truthy_bool ?_)
  exact wpAny_pure q
end
end Aw
namespace Aw
open PySem PySem.Spec PyProof.Rows L2 NdefX
/-- what the class says of ==, != -/
structure EqTxt (K : PySem.W.Frag) (C f : Addr) : Prop where
  eq : PySem.W.findIn K (.ref C) "__eq__" = some (some (.ref f))
  fn : PySem.W.isFn K (.ref f) = true
  ne : PySem.W.findIn K (.ref C) "__ne__" = some (some (.builtin "object.__ne__"))
  ob : PySem.W.mroIn K C (.type "object") = some true
section
variable {X : Cx} {C f : Addr} {fd : FuncData} {ps : List Str} {sp : Sp} {k : Nat}
/-- the type of the other side, told -/
def OthV (K : PySem.W.Frag) (C : Addr) (y : V) (H : Hp) : Prop := (∃ b dx fs, y = .ref b ∧ H b = some (.ins C dx fs)) ∨ (∃ t, y = .str t) ∨ y = .non
theorem oth_type {pins : List (Addr × Obj)} {σ : Aw.St} {H : Hp} {s : Shared} {y : V} {u : Value} (I : Inv X pins σ H s) (r : RelV y u) (o : OthV X.K C y H) (hS : PySem.W.notFirst X.K C (.type "str") = true) (hN : PySem.W.notFirst X.K C (.type "NoneType") = true) :
    ∃ tb, PySem.W.Looks (model X.prog X.w) s.heap (typeOf u) tb ∧ PySem.W.notFirst X.K C tb = true := by
  rcases o with ⟨b, dx, fs, rfl, hb⟩ | ⟨t, rfl⟩ | rfl
  · cases (show u = Value.ref b from r)
    obtain ⟨mB, J', _⟩ := ins_get I.hok hb
    obtain ⟨od', J', _⟩ := J'.look
    exact ⟨_, J'.type, by simp [PySem.W.notFirst]⟩
  · obtain ⟨tk, rfl⟩ := (show ∃ tk, u = Value.str t tk from r)
    exact ⟨.type "str", .of_pure rfl, hS⟩
  · cases (show u = Value.none from r)
    exact ⟨.type "NoneType", .of_pure rfl, hN⟩
def rOwn (K : PySem.W.Frag) (C : Addr) (sp : Sp) (neg : Bool) : R2 := fun x y H Q => ∃ a dx fs, x = .ref a ∧ H a = some (.ins C dx fs) ∧ OthV K C y H ∧ sp [x, y] H (fun v H' => ∃ r, v = .bl r ∧ Q (.bl (if neg then !r else r)) H') E0
theorem op_eqOwn (T : EqTxt X.K C f) (hS : PySem.W.notFirst X.K C (.type "str") = true) (hN : PySem.W.notFirst X.K C (.type "NoneType") = true) (F : FnOk X.prog X.w X.K X.mg X.base CX0 k f fd ps sp) (hr : Room k X.A) (hb : Binds X.K fd ps []) : OpR X (compareOp .Eq) (rOwn X.K C sp false) := by
  intro pins s σ H x y v u Q I rx ry h
  obtain ⟨a, dx, fs, rfl, ha, oy, hsp⟩ := h
  cases rx
  obtain ⟨mA, J, _⟩ := ins_get I.hok ha
  obtain ⟨od, J, _⟩ := J.look
  obtain ⟨m, hF⟩ := I.fr
  obtain ⟨tb, lt, nf⟩ := oth_type I ry oy hS hN
  show wpAny (model X.prog X.w) X.A (richCompare .Eq (.ref a) u) _ _ s
  refine PySem.W.cmp_K (op := .Eq) hr.units0 hF I.ok.mod.kin J lt nf T.eq T.fn ?_
  refine wpAny_mono (run_fn (us := [.ref a, u]) (vs := [.ref a, y]) (ds := []) (dvs := []) F hr hb .nil pass0 I (.cons rfl (.cons ry .nil)) hsp) (fun r s' hq => ?_) fun _ _ z => z
  obtain ⟨z, H', I', rz, b, ez, q⟩ := hq
  subst ez
  cases (show r = Value.bool b from rz)
  exact ⟨.bl b, H', I', rfl, q⟩
theorem op_neOwn (T : EqTxt X.K C f) (hS : PySem.W.notFirst X.K C (.type "str") = true) (hN : PySem.W.notFirst X.K C (.type "NoneType") = true) (F : FnOk X.prog X.w X.K X.mg X.base CX0 k f fd ps sp) (hr : Room (k + 1) X.A) (hb : Binds X.K fd ps []) : OpR X (compareOp .NotEq) (rOwn X.K C sp true) := by
  intro pins s σ H x y v u Q I rx ry h
  obtain ⟨a, dx, fs, rfl, ha, oy, hsp⟩ := h
  cases rx
  obtain ⟨mA, J, _⟩ := ins_get I.hok ha
  obtain ⟨od, J, _⟩ := J.look
  obtain ⟨tb, lt, nf⟩ := oth_type I ry oy hS hN
  show wpAny (model X.prog X.w) X.A (richCompare .NotEq (.ref a) u) _ _ s
  have hu := hr.units
  refine cmp_b (op := .NotEq) hr.units0 I.kIn J lt nf T.ne (neSlot.bind _) (ne_own (by omega) I.kIn J T.ob T.eq T.fn ?_)
  have hl : [Value.ref a, u].length = ps.length := by
    have e := F.len _ _ _ _ hsp
    rw [← e]
    rfl
  have bb := hb s [.ref a, u] I.kIn (by rw [List.append_nil]; exact hl)
  rw [List.append_nil] at bb
  have r2 : Vals [V.ref a, y] [Value.ref a, u] := .cons rfl (.cons ry .nil)
  refine wpAny_call (codeAny_mono (F.run X.A.in1 X.stack s H ⟨[.ref a, u], []⟩ [.ref a, u] [.ref a, y] _ E0 (Room.in1 hr) I.env0.in1 bb r2 hsp) fun r s' hq => ?_)
  cases r with
  | error e => exact False.elim hq
  | ok fl =>
    cases fl with
    | ret w =>
      obtain ⟨z, H', I', rz, b, ez, q⟩ := I.after hq
      subst ez
      cases (show w = Value.bool b from rz)
      exact ⟨b, rfl, .bl (!b), H', I', rfl, q⟩
    | next => exact False.elim hq
    | brk => exact False.elim hq
    | cont => exact False.elim hq
end
end Aw

namespace Aw
open PySem PySem.Spec PyProof.Rows L2 NdefX
abbrev sText : Stmt := (top 31)
/-- what str tells of a number -/
def strI (i : Int) : Str := toString i
def textK (k : Str) (b : Option Int) : Str := match b with
  | none => k
  | some i => k ++ " " ++ strI i
/-- the text of a row -/
def textOf (r : Row) : Str := match r.2.2 with
  | none => textK r.1 r.2.1
  | some p => (if r.1 = "flip" then textK r.1 r.2.1 else textK r.1 r.2.1 ++ " at") ++ " " ++ strI p.1 ++ " of " ++ strI p.2
def smI (r : Row) : Bool := (match r.2.1 with | none => true | some i => decide (i.natAbs.log2 < 1920)) && (match r.2.2 with | none => true | some p => decide (p.1.natAbs.log2 < 1920) && decide (p.2.natAbs.log2 < 1920)) && decide ((textOf r).length ≤ 1000)
theorem known_text : ∀ p ∈ known, textOf p.2 = p.1 := by decide +kernel
theorem known_smI : ∀ p ∈ known, smI p.2 = true := by decide +kernel
def spText (K : PySem.W.Frag) : Sp := fun vs H Q _ => ∃ (u : V) (r : Row), vs = [u] ∧ Dq K H u (rowD r) ∧ smI r = true ∧ Q (.str (textOf r)) H
section
variable {P : Program} {w : World} {K : PySem.W.Frag} {mg : Str → Option Value} {base : Heap}
theorem scText : FnScope ["_law_step_here", "_law_kind", "_law_by", "_law_rest", "_law_text_here"] ["_law_step_here"] (defScope sText) := ⟨rfl, rfl, rfl, by decide +kernel, rfl, by decide +kernel, by decide +kernel⟩
theorem len_sum {x y z : Str} {n : Nat} (h : (x ++ y).length ≤ n) : x.length + y.length ≤ n := by rw [← Str.length_append]; exact h
theorem len_left {x y : Str} {n : Nat} (h : (x ++ y).length ≤ n) : x.length ≤ n := by rw [Str.length_append] at h; omega
theorem kz : (1000 : Nat) ≤ sizeLine := by decide
theorem ite_nstr {x y : Str} {A B : Prop} (h1 : x ≠ y → A) (h2 : x = y → B) : if (!decide (V.str x = V.str y)) = true then A else B := by
  by_cases e : x = y
  · rw [decide_eq_true (by rw [e])]
    exact iteF (h2 e)
  · rw [decide_eq_false (fun z => e (V.str.inj z))]
    exact iteT (h1 e)
theorem len_add {x y : Str} (h : (x ++ y).length ≤ 1000) : x.length + y.length ≤ sizeLine := by rw [Str.length_append] at h; exact Nat.le_trans h kz
theorem ok_text {f : Addr} {fd : FuncData} (F : Fun K "_law_text" "_law_text" sText f fd) (hs : mg "str" = none) : FnOk P w K mg base CX0 1 f fd ["_law_step_here"] (spText K) := by
  refine F.ok scText (fun vs H Q E h => ?_) (fun cdv A outer s H vs Q E hr h => ?_)
  · obtain ⟨u, r, rfl, _⟩ := h
    rfl
  · obtain ⟨u, r, rfl, hd, hsm, hQ⟩ := h
    have nd := scText.nd
    refine ⟨_, (pss_cons (ps_asg (pv 0) (pg_tup rfl (pgs_cons (pg_name (i := 1) nd rfl (Or.inl rfl)) (pgs_cons (pg_name (i := 2) nd rfl (Or.inl rfl)) (pgs_cons (pg_name (i := 3) nd rfl (Or.inl rfl)) pgs_nil)))))
      (pss_cons (ps_set (i := 4) nd rfl (Or.inl rfl) (pv 1))
      (pss_cons (ps_if (pt_cmpR op_notN (pv 2) pe_non (nomark _))
        (pss_one (ps_set (i := 4) nd rfl (Or.inl rfl) (pe_op op_add_str (pe_op op_add_str (pv 4) pe_str) (pe_callTy call_str_int (by rfl) hs (by decide +kernel) (pa_cons (pv 2) pa_nil))))) pss_nil)
      (pss_cons (ps_if (pt_cmpR op_isN (pv 3) pe_non (nomark _))
        (pss_one (ps_ret (pv 4))) pss_nil)
      (pss_cons (ps_if (pt_cmpR op_ne (pv 1) pe_str (nomark _))
        (pss_one (ps_set (i := 4) nd rfl (Or.inl rfl) (pe_op op_add_str (pv 4) pe_str))) pss_nil)
      (pss_one (ps_ret (pe_op op_add_str (pe_op op_add_str (pe_op op_add_str (pe_op op_add_str (pv 4) pe_str) (pe_callTy call_str_int (by rfl) hs (by decide +kernel) (pa_cons (pe_ix ix_tup (pv 3) pe_int (fun _ _ => rfl)) pa_nil))) pe_str) (pe_callTy call_str_int (by rfl) hs (by decide +kernel) (pa_cons (pe_ix ix_tup (pv 3) pe_int (fun _ _ => rfl)) pa_nil)))))))))), ?_⟩
    obtain ⟨k, b, rr⟩ := r
    obtain ⟨t, xs, rfl, st, dxs⟩ := hd.of_tuple
    cases dxs with
    | cons d1 dxs => cases dxs with
      | cons d2 dxs => cases dxs with
        | cons d3 dxs =>
          cases dxs
          obtain rfl := d1.of_str
          rename_i v2 v3
          unfold smI at hsm
          simp only [Bool.and_eq_true, decide_eq_true_eq] at hsm
          obtain ⟨⟨h1, h2⟩, h3⟩ := hsm
          refine ⟨_, rfl, t, _, rfl, st, rfl, _, _, rfl, _, _, rfl, _, _, rfl, rfl, ?_⟩
          refine ⟨_, rfl, ?_⟩
          have lenK : (textK k b).length ≤ 1000 := by
            cases rr with
            | none => exact h3
            | some p =>
              change ((((if k = "flip" then textK k b else textK k b ++ " at") ++ " " ++ strI p.1) ++ " of ") ++ strI p.2).length ≤ 1000 at h3
              have h := len_left (len_left (len_left (len_left h3)))
              by_cases e : k = "flip"
              · rw [if_pos e] at h; exact h
              · rw [if_neg e] at h; exact len_left h
          cases b with
          | none =>
            obtain rfl := d2.of_none
            refine ⟨_, rfl, rfl, _, rfl, ?_⟩
            refine iteF ?_
            cases rr with
            | none =>
              obtain rfl := d3.of_none
              refine ⟨_, rfl, rfl, _, rfl, ?_⟩
              refine iteT ?_
              exact ⟨_, rfl, hQ⟩
            | some p =>
              obtain ⟨t3, x3, rfl, st3, dx3⟩ := d3.of_tuple
              refine ⟨_, rfl, rfl, _, rfl, ?_⟩
              refine iteF ?_
              cases dx3 with
              | cons e1 dx3 => cases dx3 with
                | cons e2 dx3 =>
                  cases dx3
                  obtain rfl := e1.of_int
                  obtain rfl := e2.of_int
                  simp only [Bool.and_eq_true, decide_eq_true_eq] at h2
                  refine ⟨_, rfl, rfl, _, rfl, ?_⟩
                  change Q (.str (((((if k = "flip" then textK k _ else textK k _ ++ " at") ++ " ") ++ strI p.1) ++ " of ") ++ strI p.2)) H at hQ
                  change (((((if k = "flip" then textK k _ else textK k _ ++ " at") ++ " ") ++ strI p.1) ++ " of ") ++ strI p.2).length ≤ 1000 at h3
                  refine ite_nstr (fun e => ?_) (fun e => ?_)
                  · rw [if_neg e] at hQ h3
                    refine ⟨_, rfl, _, _, rfl, rfl, len_add (len_left (len_left (len_left (len_left h3)))), ?_⟩
                    refine ⟨_, rfl, _, _, rfl, rfl, len_add (len_left (len_left (len_left h3))), _, rfl, ?_⟩
                    exact ⟨t3, _, 0, _, rfl, rfl, st3, rfl, p.1, rfl, h2.1, _, _, rfl, rfl, len_add (len_left (len_left h3)), _, _, rfl, rfl, len_add (len_left h3), _, rfl, t3, _, 1, _, rfl, rfl, st3, rfl, p.2, rfl, h2.2, _, _, rfl, rfl, len_add h3, hQ⟩
                  · rw [if_pos e] at hQ h3
                    exact ⟨_, rfl, _, _, rfl, rfl, len_add (len_left (len_left (len_left h3))), _, rfl, t3, _, 0, _, rfl, rfl, st3, rfl, p.1, rfl, h2.1, _, _, rfl, rfl, len_add (len_left (len_left h3)), _, _, rfl, rfl, len_add (len_left h3), _, rfl, t3, _, 1, _, rfl, rfl, st3, rfl, p.2, rfl, h2.2, _, _, rfl, rfl, len_add h3, hQ⟩
          | some i =>
            obtain rfl := d2.of_int
            refine ⟨_, rfl, rfl, _, rfl, ?_⟩
            refine iteT ?_
            change ((k ++ " ") ++ strI i).length ≤ 1000 at lenK
            refine ⟨_, rfl, k, " ", rfl, rfl, len_add (len_left lenK), _, rfl, i, rfl, of_decide_eq_true h1, k ++ " ", strI i, rfl, rfl, len_add lenK, ?_⟩
            cases rr with
            | none =>
              obtain rfl := d3.of_none
              refine ⟨_, rfl, rfl, _, rfl, ?_⟩
              refine iteT ?_
              exact ⟨_, rfl, hQ⟩
            | some p =>
              obtain ⟨t3, x3, rfl, st3, dx3⟩ := d3.of_tuple
              refine ⟨_, rfl, rfl, _, rfl, ?_⟩
              refine iteF ?_
              cases dx3 with
              | cons e1 dx3 => cases dx3 with
                | cons e2 dx3 =>
                  cases dx3
                  obtain rfl := e1.of_int
                  obtain rfl := e2.of_int
                  simp only [Bool.and_eq_true, decide_eq_true_eq] at h2
                  refine ⟨_, rfl, rfl, _, rfl, ?_⟩
                  change Q (.str (((((if k = "flip" then textK k _ else textK k _ ++ " at") ++ " ") ++ strI p.1) ++ " of ") ++ strI p.2)) H at hQ
                  change (((((if k = "flip" then textK k _ else textK k _ ++ " at") ++ " ") ++ strI p.1) ++ " of ") ++ strI p.2).length ≤ 1000 at h3
                  refine ite_nstr (fun e => ?_) (fun e => ?_)
                  · rw [if_neg e] at hQ h3
                    refine ⟨_, rfl, _, _, rfl, rfl, len_add (len_left (len_left (len_left (len_left h3)))), ?_⟩
                    refine ⟨_, rfl, _, _, rfl, rfl, len_add (len_left (len_left (len_left h3))), _, rfl, ?_⟩
                    exact ⟨t3, _, 0, _, rfl, rfl, st3, rfl, p.1, rfl, h2.1, _, _, rfl, rfl, len_add (len_left (len_left h3)), _, _, rfl, rfl, len_add (len_left h3), _, rfl, t3, _, 1, _, rfl, rfl, st3, rfl, p.2, rfl, h2.2, _, _, rfl, rfl, len_add h3, hQ⟩
                  · rw [if_pos e] at hQ h3
                    exact ⟨_, rfl, _, _, rfl, rfl, len_add (len_left (len_left (len_left h3))), _, rfl, t3, _, 0, _, rfl, rfl, st3, rfl, p.1, rfl, h2.1, _, _, rfl, rfl, len_add (len_left (len_left h3)), _, _, rfl, rfl, len_add (len_left h3), _, rfl, t3, _, 1, _, rfl, rfl, st3, rfl, p.2, rfl, h2.2, _, _, rfl, rfl, len_add h3, hQ⟩
end
end Aw

namespace Aw
open PySem PySem.Spec PyProof.Rows L2 NdefX
abbrev sAll : Stmt := (top 32)
/-! ### the rows in the order in which the law makes them -/
def byL : List Int := [-3, -2, -1, 1, 2, 3]
def wholeL : List Int := [2, 3, 4]
def ofV (k : Str) (b : Option Int) (w : Int) (n : Nat) : List Row := (List.range n).map fun (j : Nat) => (k, b, some ((0 : Int) + (j : Int), w))
def row1 (k : Str) : Row := (k, none, none)
def rows0 : List Row := (["turn", "deal", "undeal", "swap", "gather", "spread"] : List Str).map row1
def rows1 : List Row := rows0 ++ [row1 "flip first", row1 "flip last"]
def inA (b : Int) (l : List Row) (w : Int) : List Row := l ++ ofV "near" (some b) w w.toNat
def inB (b : Int) (l : List Row) (w : Int) : List Row := l ++ (if b % w = 0 then ofV "sum" (some b) w w.toNat else [])
def three (b : Int) : List Row := [("roll", some b, none), ("near", some b, none), ("sum", some b, none)]
def byG (i : Nat) : Int := byL.getD i 0
def whG (j : Nat) : Int := wholeL.getD j 2
def rowsI (b : Int) (l : List Row) (j : Nat) : List Row := (wholeL.take j).foldl (fun l w => inB b (inA b l w) w) l
def rowsB : Nat → List Row
  | 0 => rows1
  | i + 1 => rowsI (byG i) (rowsB i ++ three (byG i)) 3
def rowsF : Nat → List Row
  | 0 => rowsB 6
  | i + 1 => rowsF i ++ ofV "flip" none (whG i) (whG i).toNat
theorem rows_known : rowsF 3 = known.map (·.2) := by decide +kernel
theorem rowsB_len : ∀ i < 7, (rowsB i).length ≤ 200 := by decide +kernel
theorem rowsF_len : ∀ i < 4, (rowsF i).length ≤ 200 := by decide +kernel
theorem rowsI_len : ∀ i < 6, ∀ j < 4, (rowsI (byG i) (rowsB i ++ three (byG i)) j).length ≤ 200 := by decide +kernel
theorem rowsI_at {b : Int} {l : List Row} : ∀ j < 3, rowsI b l (j + 1) = inB b (inA b (rowsI b l j) (whG j)) (whG j)
  | 0, _ => rfl
  | 1, _ => rfl
  | 2, _ => rfl
theorem wh_ok : ∀ j < 3, 0 < whG j ∧ whG j < 5 := by decide +kernel
theorem byAt {i : Nat} {x : V} (h : ([.int (-3), .int (-2), .int (-1), .int 1, .int 2, .int 3] : List V)[i]? = some x) : i < 6 ∧ x = .int (byG i) := by
  match i, h with
  | 0, h => cases h; exact ⟨by decide, rfl⟩
  | 1, h => cases h; exact ⟨by decide, rfl⟩
  | 2, h => cases h; exact ⟨by decide, rfl⟩
  | 3, h => cases h; exact ⟨by decide, rfl⟩
  | 4, h => cases h; exact ⟨by decide, rfl⟩
  | 5, h => cases h; exact ⟨by decide, rfl⟩
  | n + 6, h => simp at h
theorem whAt {i : Nat} {x : V} (h : ([.int 2, .int 3, .int 4] : List V)[i]? = some x) : i < 3 ∧ x = .int (whG i) := by
  match i, h with
  | 0, h => cases h; exact ⟨by decide, rfl⟩
  | 1, h => cases h; exact ⟨by decide, rfl⟩
  | 2, h => cases h; exact ⟨by decide, rfl⟩
  | n + 3, h => simp at h
/-- a list of rows stands at L -/
structure RowsAt (K : PySem.W.Frag) (H : Hp) (L : Addr) (ds : List PyData) : Prop where
  ex : ∃ vs, H L = some (.lst vs) ∧ DqAll K H vs ds
def rowsD (l : List Row) : List PyData := l.map rowD
theorem rowsD_app {a b : List Row} : rowsD (a ++ b) = rowsD a ++ rowsD b := List.map_append
theorem rowsD_len {a : List Row} : (rowsD a).length = a.length := List.length_map ..
def knownD : List PyData := known.map fun p => .tuple [.str p.1, rowD p.2]
def spAll (K : PySem.W.Frag) : Sp := fun vs H Q _ => vs = [] ∧ ∀ L H', Same H H' → RowsAt K H' L knownD → Q (.ref L) H'
section
variable {P : Program} {w : World} {K : PySem.W.Frag} {mg : Str → Option Value} {base : Heap}
theorem same_fresh {H H2 : Hp} {D : Addr} {o : HO} (hD : H D = none) (s2 : Same H H2) : Same H (upd H2 D o) := fun b u e => by rw [upd_ne (ne_of_none e hD)]; exact s2 _ _ e
theorem app_any {H H2 H4 : Hp} {D : Addr} {vs : List V} {v : V} {ds : List PyData} {d : PyData} (hD : H D = none) (s2 : Same H H2) (e2 : H2 D = some (.lst vs)) (d2 : DqAll K H2 vs ds) (s4 : Same H2 H4) (hv : Dq K H4 v d) :
    H4 D = some (.lst vs) ∧ Same H (upd H4 D (.lst (vs ++ [v]))) ∧ ∃ vs', upd H4 D (.lst (vs ++ [v])) D = some (.lst vs') ∧ DqAll K (upd H4 D (.lst (vs ++ [v]))) vs' (ds ++ [d]) := by
  have e4 := s4 _ _ e2
  have tk : TK H4 (upd H4 D (.lst (vs ++ [v]))) := TK.lst e4
  exact ⟨e4, same_fresh hD (s2.trans s4), _, upd_same, ((d2.keep (TK.same s4)).keep tk).append (.cons (hv.keep tk) .nil)⟩
theorem row_dq {H : Hp} {t1 t2 : Addr} {k : Str} {b : Option Int} {p q : Int} {bv : V} (hb : ∀ H', Dq K H' bv (optD b)) (h2 : upd H t1 (.tup [.int p, .int q]) t2 = none) :
    Dq K (upd (upd H t1 (.tup [.int p, .int q])) t2 (.tup [.str k, bv, .ref t1])) (.ref t2) (rowD (k, b, some (p, q))) :=
  .tup (SqT.of upd_same) (.cons (.str _) (.cons (hb _) (.cons (.tup (SqT.of (by rw [upd_ne (ne_of_none upd_same h2), upd_same])) (.cons (.int _) (.cons (.int _) .nil))) .nil)))
theorem kindAt {m : Nat} {x : V} (h : ([.str "turn", .str "deal", .str "undeal", .str "swap", .str "gather", .str "spread"] : List V)[m]? = some x) : ∃ n, x = .str n ∧ rows0.take (m + 1) = rows0.take m ++ [row1 n] := by
  match m, h with
  | 0, h => cases h; exact ⟨_, rfl, rfl⟩
  | 1, h => cases h; exact ⟨_, rfl, rfl⟩
  | 2, h => cases h; exact ⟨_, rfl, rfl⟩
  | 3, h => cases h; exact ⟨_, rfl, rfl⟩
  | 4, h => cases h; exact ⟨_, rfl, rfl⟩
  | 5, h => cases h; exact ⟨_, rfl, rfl⟩
  | n + 6, h => simp at h
theorem ofV_succ {k : Str} {b : Option Int} {w : Int} {n : Nat} : ofV k b w (n + 1) = ofV k b w n ++ [(k, b, some ((0 : Int) + (n : Int), w))] := by
  unfold ofV
  rw [List.range_succ, List.map_append]
  rfl
theorem small200 {n : Nat} (h : n ≤ 1000) : n ≤ sizeLine := Nat.le_trans h kz
theorem small200' {n : Nat} (h : n < 1000) : n < sizeLine := Nat.lt_of_lt_of_le h kz
theorem cat_rows {H : Hp} {L D : Addr} {a b : List Row} {Q : VK} (hL : RowsAt K H L (rowsD a)) (hD : RowsAt K H D (rowsD b)) (hn : a.length + b.length ≤ 1000) (k : ∀ p H', Same H H' → RowsAt K H' p (rowsD (a ++ b)) → Q (.ref p) H') : rCat (.ref L) (.ref D) H Q := by
  obtain ⟨vs, e1, d1⟩ := hL.ex
  obtain ⟨ws, e2, d2⟩ := hD.ex
  have l1 := d1.length
  have l2 := d2.length
  rw [rowsD_len] at l1 l2
  refine ⟨L, D, vs, ws, rfl, rfl, e1, e2, small200 (by omega), fun p hp => k p _ (same_upd hp) ⟨_, upd_same, ?_⟩⟩
  rw [rowsD_app]
  exact (d1.append d2).keep (TK.new hp)
theorem RowsAt.same {H H' : Hp} {L : Addr} {ds : List PyData} (h : RowsAt K H L ds) (s : Same H H') : RowsAt K H' L ds := by
  obtain ⟨vs, e, d⟩ := h.ex
  exact ⟨vs, s _ _ e, d.keep (TK.same s)⟩
theorem lc_of {te : TE} {tt : TT} {σ : Aw.St} {vs : List Nat} {H : Hp} {Q : VK} {k : Str} {b : Option Int} {w : Int} {n : Nat} {c : Bool} (hn : n ≤ 100) (hw : ∀ v, wipe ((wipe σ vs).set 4 v) vs = wipe σ vs)
    (htt : ∀ (m : Nat) H2 (Q : Bool → Hp → Prop), Q c H2 → tt ((wipe σ vs).set 4 (some (.int ((0 : Int) + (m : Int))))) H2 Q)
    (hte : ∀ (m : Nat) H2 Q, (∀ v H4, Same H2 H4 → Dq K H4 v (rowD (k, b, some ((0 : Int) + (m : Int), w))) → Q v H4) → te ((wipe σ vs).set 4 (some (.int ((0 : Int) + (m : Int))))) H2 Q)
    (hd : ∀ D H2, Same H H2 → RowsAt K H2 D (rowsD (if c = true then ofV k b w n else [])) → Q (.ref D) H2) : tLc (fun _ H R => R (Itr 0 n) H) (gName 4) tt te vs σ H Q := by
  intro D hD
  refine lc_range (lo := 0) (n := n) (fun m H2 => Same H H2 ∧ ∃ ws, H2 D = some (.lst ws) ∧ DqAll K H2 ws (rowsD (if c = true then ofV k b w m else []))) ⟨same_upd hD, [], upd_same, ?_⟩ ?_ ?_
  · cases c <;> exact .nil
  · rintro m H2 hm ⟨s2, ws, e2, d2⟩
    refine ⟨hw _, htt m H2 _ ?_⟩
    cases c with
    | false => exact ⟨s2, ws, e2, d2⟩
    | true =>
      refine hte m H2 _ fun v H4 s4 hv => ?_
      obtain ⟨z1, z2, z3⟩ := app_any hD s2 e2 d2 s4 hv
      have lv := d2.length
      have lo : (ofV k b w m).length = m := by unfold ofV; rw [List.length_map, List.length_range]
      rw [rowsD_len, if_pos rfl, lo] at lv
      refine ⟨ws, z1, small200' (by omega), z2, ?_⟩
      rw [if_pos rfl, ofV_succ, rowsD_app]
      exact z3
  · rintro H2 ⟨s2, ws, e2, d2⟩
    exact hd D H2 s2 ⟨ws, e2, d2⟩
theorem lc_cat {te : TE} {tt : TT} {σ : Aw.St} {vs : List Nat} {H : Hp} {L : Addr} {R : VK} {k : Str} {b : Option Int} {w : Int} {n : Nat} {c : Bool} {a : List Row} (rL : RowsAt K H L (rowsD a)) (hn : n ≤ 100) (ha : a.length ≤ 800)
    (hd : ∀ D H2, Same H H2 → RowsAt K H2 D (rowsD (a ++ (if c = true then ofV k b w n else []))) → R (.ref D) H2)
    (hw : ∀ v, wipe ((wipe σ vs).set 4 v) vs = wipe σ vs)
    (htt : ∀ (m : Nat) H2 (Q : Bool → Hp → Prop), Q c H2 → tt ((wipe σ vs).set 4 (some (.int ((0 : Int) + (m : Int))))) H2 Q)
    (hte : ∀ (m : Nat) H2 Q, (∀ v H4, Same H2 H4 → Dq K H4 v (rowD (k, b, some ((0 : Int) + (m : Int), w))) → Q v H4) → te ((wipe σ vs).set 4 (some (.int ((0 : Int) + (m : Int))))) H2 Q) :
    tLc (fun _ H R => R (Itr 0 n) H) (gName 4) tt te vs σ H (fun y H2 => rCat (.ref L) y H2 R) := by
  refine lc_of (c := c) hn hw htt hte fun D H2 s2 rD => ?_
  refine cat_rows (rL.same s2) rD ?_ fun p H3 s3 r3 => hd p H3 (s2.trans s3) r3
  have : (if c = true then ofV k b w n else []).length ≤ 100 := by
    split
    · unfold ofV; rw [List.length_map, List.length_range]; exact hn
    · exact Nat.zero_le _
  omega
theorem scAll : FnScope ["_law_rows", "_law_by", "_law_whole", "_law_kind", "_law_part", "_law_row_here"] [] (defScope sAll) := ⟨rfl, rfl, rfl, by decide +kernel, rfl, by decide +kernel, by decide +kernel⟩
theorem ok_all {f fT : Addr} {fd gd : FuncData} (F : Fun K "_law_all" "_law_all" sAll f fd) (gR : mg "range" = none) (gI : mg "int" = none) (hs : mg "str" = none) (gT : mg "_law_text" = some (.ref fT)) (G : Fun K "_law_text" "_law_text" sText fT gd) (bG : Binds K gd ["_law_step_here"] []) : FnOk P w K mg base CX0 2 f fd [] (spAll K) := by
  have GT : FnOk P w K mg base CX0 1 fT gd ["_law_step_here"] (spText K) := ok_text G hs
  refine F.ok scAll (fun vs H Q E h => ?_) (fun cdv A outer s H vs Q E hr h => ?_)
  · obtain ⟨rfl, _⟩ := h
    rfl
  · obtain ⟨rfl, k⟩ := h
    have nd := scAll.nd
    refine ⟨_, (pss_cons (ps_setLc (i := 0) (own := [("_law_kind", 3)]) (g := (gName 3)) (tt := tYes) rfl nd rfl rfl (sw_true rfl rfl (by rfl) (by decide +kernel)) (pi_tup (pe_tup (pa_cons pe_str (pa_cons pe_str (pa_cons pe_str (pa_cons pe_str (pa_cons pe_str (pa_cons pe_str pa_nil)))))))) (blkOk_by (own := [("_law_kind", 3)]) (N := ["_law_rows", "_law_by", "_law_whole", "_law_kind", "_law_part", "_law_row_here"]) (sc := defScope sAll) (by decide +kernel)) (fun _ _ _ _ _ => (pg_name (i := 3) nd rfl (Or.inl rfl))) (fun _ _ _ _ _ => pts_nil) (fun _ _ _ _ _ => (pe_tup (pa_cons (pv 3) (pa_cons pe_non (pa_cons pe_non pa_nil))))))
      (pss_cons (ps_set (i := 0) nd rfl (Or.inl rfl) (pe_op op_cat (pv 0) (pe_lst (pa_cons (pe_tup (pa_cons pe_str (pa_cons pe_non (pa_cons pe_non pa_nil)))) (pa_cons (pe_tup (pa_cons pe_str (pa_cons pe_non (pa_cons pe_non pa_nil)))) pa_nil)))))
      (pss_cons (ps_for PassesOwn.never rfl (pi_tup (pe_tup (pa_cons (pe_un un_neg pe_int) (pa_cons (pe_un un_neg pe_int) (pa_cons (pe_un un_neg pe_int) (pa_cons pe_int (pa_cons pe_int (pa_cons pe_int pa_nil)))))))) (pg_name (i := 1) nd rfl (Or.inr rfl))
        (pss_cons (ps_set (i := 0) nd rfl (Or.inl rfl) (pe_op op_cat (pv 0) (pe_lst (pa_cons (pe_tup (pa_cons pe_str (pa_cons (pv 1) (pa_cons pe_non pa_nil)))) (pa_cons (pe_tup (pa_cons pe_str (pa_cons (pv 1) (pa_cons pe_non pa_nil)))) (pa_cons (pe_tup (pa_cons pe_str (pa_cons (pv 1) (pa_cons pe_non pa_nil)))) pa_nil))))))
        (pss_one (ps_for PassesOwn.never rfl (pi_tup (pe_tup (pa_cons pe_int (pa_cons pe_int (pa_cons pe_int pa_nil))))) (pg_name (i := 2) nd rfl (Or.inr rfl))
          (pss_cons (ps_set (i := 0) nd rfl (Or.inl rfl) (pe_op op_cat (pv 0) (pe_lc (own := [("_law_part", 4)]) (g := (gName 4)) (tt := tYes) rfl nd (pi_range1 rfl gR (pa_cons (pv 2) pa_nil)) (blkOk_by (own := [("_law_part", 4)]) (N := ["_law_rows", "_law_by", "_law_whole", "_law_kind", "_law_part", "_law_row_here"]) (sc := defScope sAll) (by decide +kernel)) (fun _ _ _ _ _ => (pg_name (i := 4) nd rfl (Or.inl rfl))) (fun _ _ _ _ _ => pts_nil) (fun _ _ _ _ _ => (pe_tup (pa_cons pe_str (pa_cons (pv 1) (pa_cons (pe_tup (pa_cons (pv 4) (pa_cons (pv 2) pa_nil))) pa_nil))))))))
          (pss_one (ps_set (i := 0) nd rfl (Or.inl rfl) (pe_op op_cat (pv 0) (pe_lc (own := [("_law_part", 4)]) (g := (gName 4)) rfl nd (pi_range1 rfl gR (pa_cons (pv 2) pa_nil)) (blkOk_by (own := [("_law_part", 4)]) (N := ["_law_rows", "_law_by", "_law_whole", "_law_kind", "_law_part", "_law_row_here"]) (sc := defScope sAll) (by decide +kernel)) (fun _ _ _ _ _ => (pg_name (i := 4) nd rfl (Or.inl rfl))) (fun _ _ _ _ _ => pts_one (pt_cmpR op_eq (pe_op op_mod (pe_callTy call_int1 (by rfl) gI (by decide +kernel) (pa_cons (pv 1) pa_nil)) (pv 2)) pe_int (nomark _))) (fun _ _ _ _ _ => (pe_tup (pa_cons pe_str (pa_cons (pv 1) (pa_cons (pe_tup (pa_cons (pv 4) (pa_cons (pv 2) pa_nil))) pa_nil))))))))))))))
      (pss_cons (ps_for PassesOwn.never rfl (pi_tup (pe_tup (pa_cons pe_int (pa_cons pe_int (pa_cons pe_int pa_nil))))) (pg_name (i := 2) nd rfl (Or.inr rfl))
        (pss_one (ps_set (i := 0) nd rfl (Or.inl rfl) (pe_op op_cat (pv 0) (pe_lc (own := [("_law_part", 4)]) (g := (gName 4)) (tt := tYes) rfl nd (pi_range1 rfl gR (pa_cons (pv 2) pa_nil)) (blkOk_by (own := [("_law_part", 4)]) (N := ["_law_rows", "_law_by", "_law_whole", "_law_kind", "_law_part", "_law_row_here"]) (sc := defScope sAll) (by decide +kernel)) (fun _ _ _ _ _ => (pg_name (i := 4) nd rfl (Or.inl rfl))) (fun _ _ _ _ _ => pts_nil) (fun _ _ _ _ _ => (pe_tup (pa_cons pe_str (pa_cons pe_non (pa_cons (pe_tup (pa_cons (pv 4) (pa_cons (pv 2) pa_nil))) pa_nil))))))))))
      (pss_one (ps_ret (pe_lc (own := [("_law_row_here", 5)]) (g := (gName 5)) (tt := tYes) rfl nd (pi_list (pv 0)) (blkOk_by (own := [("_law_row_here", 5)]) (N := ["_law_rows", "_law_by", "_law_whole", "_law_kind", "_law_part", "_law_row_here"]) (sc := defScope sAll) (by decide +kernel)) (fun _ _ _ _ _ => (pg_name (i := 5) nd rfl (Or.inl rfl))) (fun _ _ _ _ _ => pts_nil) (fun _ _ _ _ _ => (pe_tup (pa_cons (pe_call GT hr (by rfl) gT G.kp bG .nil pass0 (pa_cons (pv 5) pa_nil)) (pa_cons (pv 5) pa_nil))))))))))), ?_⟩
    -- the six
    refine ⟨by show 6 ≤ sizeLine; decide, fun t0 ht0 => ⟨t0, rfl, ⟨_, SqT.of upd_same⟩, fun D hD => ?_⟩⟩
    have sA := same_upd (o := .tup [.str "turn", .str "deal", .str "undeal", .str "swap", .str "gather", .str "spread"]) ht0
    obtain ⟨H1, hH1⟩ : ∃ H1, upd H t0 (.tup [.str "turn", .str "deal", .str "undeal", .str "swap", .str "gather", .str "spread"]) = H1 := ⟨_, rfl⟩
    have et0 : H1 t0 = some (.tup [.str "turn", .str "deal", .str "undeal", .str "swap", .str "gather", .str "spread"]) := by rw [← hH1, upd_same]
    rw [hH1] at sA hD ⊢
    refine lc_tup (a := t0) (xs := [.str "turn", .str "deal", .str "undeal", .str "swap", .str "gather", .str "spread"]) (fun m H2 => Same H1 H2 ∧ ∃ vs', H2 D = some (.lst vs') ∧ DqAll K H2 vs' (rowsD (rows0.take m))) ⟨same_upd hD, [], upd_same, .nil⟩ (fun i H2 hi p => SqT.of (p.1 _ _ et0)) ?_ ?_
    · rintro m x H2 hx ⟨s2, vs', e2, d2⟩
      obtain ⟨n, rfl, e⟩ := kindAt hx
      have hm : m < 6 := by
        have := (List.getElem?_eq_some_iff.mp hx).1
        exact this
      refine ⟨rfl, _, rfl, by show 3 ≤ sizeLine; decide, fun t ht => ?_⟩
      obtain ⟨z1, z2, z3⟩ := app_any (v := .ref t) (d := rowD (row1 n)) hD s2 e2 d2 (same_upd ht) (.tup (SqT.of upd_same) (.cons (.str _) (.cons .non (.cons .non .nil))))
      have lv := d2.length
      rw [rowsD_len, List.length_take] at lv
      refine ⟨vs', z1, small200' (by omega), z2, ?_⟩
      rw [e, rowsD_app]
      exact z3
    · rintro H2 ⟨s2, vs0, e2, d2⟩
      have d2 : DqAll K H2 vs0 (rowsD rows0) := d2
      have lv0 : vs0.length = 6 := d2.length
      -- the two
      refine ⟨_, rfl, by show 3 ≤ sizeLine; decide, fun t1 ht1 => ⟨by show 3 ≤ sizeLine; decide, fun t2 ht2 => ⟨by show 2 ≤ sizeLine; decide, fun l hl => ?_⟩⟩⟩
      have s3 : Same H2 (upd (upd (upd H2 t1 (.tup [.str "flip first", .non, .non])) t2 (.tup [.str "flip last", .non, .non])) l (.lst [.ref t1, .ref t2])) := ((same_upd ht1).trans (same_upd ht2)).trans (same_upd hl)
      have r3 : RowsAt K (upd (upd (upd H2 t1 (.tup [.str "flip first", .non, .non])) t2 (.tup [.str "flip last", .non, .non])) l (.lst [.ref t1, .ref t2])) l (rowsD [row1 "flip first", row1 "flip last"]) := by
        have q1 := ne_of_none (show upd H2 t1 (.tup [.str "flip first", .non, .non]) t1 = some _ from upd_same) ht2
        refine ⟨_, upd_same, .cons (.tup (SqT.of (same_upd hl _ _ (same_upd ht2 _ _ upd_same))) (.cons (.str _) (.cons .non (.cons .non .nil)))) (.cons (.tup (SqT.of (same_upd hl _ _ upd_same)) (.cons (.str _) (.cons .non (.cons .non .nil)))) .nil)⟩
      refine cat_rows (RowsAt.same ⟨vs0, e2, d2⟩ s3) r3 (by decide) fun L H3 s4 rL => ?_
      have sH : Same H H3 := ((sA.trans s2).trans s3).trans s4
      -- the loop over the numbers
      refine ⟨3, rfl, 2, rfl, 1, rfl, by show 6 ≤ sizeLine; decide, fun t ht => ⟨t, rfl, ⟨_, SqT.of upd_same⟩, ?_⟩⟩
      obtain ⟨H4, hH4⟩ : ∃ H4, upd H3 t (.tup [.int (-3), .int (-2), .int (-1), .int 1, .int 2, .int 3]) = H4 := ⟨_, rfl⟩
      have et : H4 t = some (.tup [.int (-3), .int (-2), .int (-1), .int 1, .int 2, .int 3]) := by rw [← hH4, upd_same]
      have s34 : Same H3 H4 := by rw [← hH4]; exact same_upd ht
      change ∃ W : Nat → Nat → Aw.St → Hp → Prop, (∃ m, W 0 m _ (upd H3 t (.tup [.int (-3), .int (-2), .int (-1), .int 1, .int 2, .int 3]))) ∧ _
      rw [hH4]
      refine for_tup (a := t) (xs := [.int (-3), .int (-2), .int (-1), .int 1, .int 2, .int 3]) (fun i σ H5 => ∃ (L : Addr) (v1 v2 : Option V), σ = [some (.ref L), v1, v2, none, none, none] ∧ RowsAt K H5 L (rowsD (rowsB i)) ∧ Same H4 H5) ⟨L, none, none, rfl, rL.same s34, fun _ _ e => e⟩ (fun i σ H5 hi p => by
        obtain ⟨_, _, _, _, _, s5⟩ := p
        exact SqT.of (s5 _ _ et)) ?_ ?_
      · rintro i x σ H5 hx ⟨L, v1, v2, rfl, rL, s5⟩
        obtain ⟨hi, rfl⟩ := byAt hx
        have lB := rowsB_len i (by omega)
        obtain ⟨b, hb⟩ : ∃ b, byG i = b := ⟨_, rfl⟩
        have lI := rowsI_len i hi
        rw [hb] at lI ⊢
        refine ⟨_, rfl, _, rfl, by show 3 ≤ sizeLine; decide, fun t1 ht1 => ⟨_, rfl, by show 3 ≤ sizeLine; decide, fun t2 ht2 => ⟨_, rfl, by show 3 ≤ sizeLine; decide, fun t3 ht3 => ⟨by show 3 ≤ sizeLine; decide, fun l hl => ?_⟩⟩⟩⟩
        have s6 := (((same_upd (o := .tup [.str "roll", .int b, .non]) ht1).trans (same_upd (o := .tup [.str "near", .int b, .non]) ht2)).trans (same_upd (o := .tup [.str "sum", .int b, .non]) ht3)).trans (same_upd (o := .lst [.ref t1, .ref t2, .ref t3]) hl)
        have r6 : RowsAt K _ l (rowsD (three b)) := ⟨_, upd_same, .cons (.tup (SqT.of (same_upd hl _ _ (same_upd ht3 _ _ (same_upd ht2 _ _ upd_same)))) (.cons (.str _) (.cons (.int _) (.cons .non .nil))))
          (.cons (.tup (SqT.of (same_upd hl _ _ (same_upd ht3 _ _ upd_same))) (.cons (.str _) (.cons (.int _) (.cons .non .nil)))) (.cons (.tup (SqT.of (same_upd hl _ _ upd_same)) (.cons (.str _) (.cons (.int _) (.cons .non .nil)))) .nil))⟩
        refine cat_rows (rL.same s6) r6 (by show (rowsB i).length + 3 ≤ 1000; omega) fun L2 H6 s7 rL2 => ?_
        have s56 : Same H5 H6 := s6.trans s7
        -- the loop over the wholes
        refine ⟨by show 3 ≤ sizeLine; decide, fun t4 ht4 => ⟨t4, rfl, ⟨_, SqT.of upd_same⟩, ?_⟩⟩
        obtain ⟨H7, hH7⟩ : ∃ H7, upd H6 t4 (.tup [.int 2, .int 3, .int 4]) = H7 := ⟨_, rfl⟩
        have et4 : H7 t4 = some (.tup [.int 2, .int 3, .int 4]) := by rw [← hH7, upd_same]
        have s67 : Same H6 H7 := by rw [← hH7]; exact same_upd ht4
        change ∃ W : Nat → Nat → Aw.St → Hp → Prop, (∃ m, W 0 m _ (upd H6 t4 (.tup [.int 2, .int 3, .int 4]))) ∧ _
        rw [hH7]
        refine for_tup (a := t4) (xs := [.int 2, .int 3, .int 4]) (fun j σ H8 => ∃ (L : Addr) (v2 : Option V), σ = [some (.ref L), some (.int b), v2, none, none, none] ∧ RowsAt K H8 L (rowsD (rowsI b (rowsB i ++ three b) j)) ∧ Same H7 H8) ⟨L2, v2, rfl, rL2.same s67, fun _ _ e => e⟩ (fun j σ H8 hj p => by
          obtain ⟨_, _, _, _, s8⟩ := p
          exact SqT.of (s8 _ _ et4)) ?_ ?_
        · rintro j x σ H8 hx2 ⟨L3, v3, rfl, rL3, s8⟩
          obtain ⟨hj, rfl⟩ := whAt hx2
          have lJ := lI j (by omega)
          have lJ1 := lI (j + 1) (by omega)
          have eJ := rowsI_at (b := b) (l := rowsB i ++ three b) j hj
          obtain ⟨w0, w1⟩ := wh_ok j hj
          rw [eJ] at lJ1
          obtain ⟨wj, hwj⟩ : ∃ wj, whG j = wj := ⟨_, rfl⟩
          rw [hwj] at w0 w1 lJ1 eJ ⊢
          refine ⟨_, rfl, _, rfl, wj, rfl, by omega, by omega, ?_⟩
          have lA : (inA b (rowsI b (rowsB i ++ three b) j) wj).length ≤ 200 := by
            unfold inB at lJ1
            rw [List.length_append] at lJ1
            omega
          refine lc_cat (k := "near") (b := some b) (w := wj) (n := wj.toNat) (c := true) rL3 (by omega) (by omega) (fun L4 H10 s10 rL4 => ?_) ?_ ?_ (fun m H9 Q9 h9 => ?_)
          rotate_left
          · exact fun _ => rfl
          · exact fun _ _ _ h => h
          · exact ⟨_, rfl, _, rfl, _, rfl, by show 2 ≤ sizeLine; decide, fun u1 hu1 => ⟨by show 3 ≤ sizeLine; decide, fun u2 hu2 => h9 _ _ ((same_upd hu1).trans (same_upd hu2)) (row_dq (fun _ => .int _) hu2)⟩⟩
          rw [if_pos rfl] at rL4
          refine ⟨_, rfl, _, rfl, wj, rfl, by omega, by omega, ?_⟩
          refine lc_cat (k := "sum") (b := some b) (w := wj) (n := wj.toNat) (c := decide (b % wj = 0)) rL4 (by omega) (by change (inA b (rowsI b (rowsB i ++ three b) j) wj).length ≤ 800; omega) (fun L5 H12 s12 rL5 => ?_) ?_ (fun m H9 Q9 h9 => ?_) (fun m H9 Q9 h9 => ?_)
          rotate_left
          · exact fun _ => rfl
          · refine ⟨_, rfl, .inl ⟨b, rfl, _, rfl, b, wj, rfl, rfl, w0, rfl, _, rfl, ?_⟩⟩
            rw [show decide (V.int (b % wj) = V.int 0) = decide (b % wj = 0) by simp]
            exact h9
          · exact ⟨_, rfl, _, rfl, _, rfl, by show 2 ≤ sizeLine; decide, fun u1 hu1 => ⟨by show 3 ≤ sizeLine; decide, fun u2 hu2 => h9 _ _ ((same_upd hu1).trans (same_upd hu2)) (row_dq (fun _ => .int _) hu2)⟩⟩
          refine ⟨L5, _, rfl, ?_, (s8.trans s10).trans s12⟩
          rw [eJ]
          simp only [decide_eq_true_eq] at rL5
          exact rL5
        · rintro σ H8 ⟨L3, v3, rfl, rL3, s8⟩
          refine ⟨L3, _, _, rfl, ?_, ((s5.trans s56).trans s67).trans s8⟩
          show RowsAt K H8 L3 (rowsD (rowsI (byG i) (rowsB i ++ three (byG i)) 3))
          rw [hb]
          exact rL3
      · rintro σ H5 ⟨L, v1, v2, rfl, rL, s5⟩
        have rL : RowsAt K H5 L (rowsD (rowsB 6)) := rL
        have sH5 : Same H H5 := (sH.trans s34).trans s5
        -- the flips
        refine ⟨by show 3 ≤ sizeLine; decide, fun t4 ht4 => ⟨t4, rfl, ⟨_, SqT.of upd_same⟩, ?_⟩⟩
        obtain ⟨H7, hH7⟩ : ∃ H7, upd H5 t4 (.tup [.int 2, .int 3, .int 4]) = H7 := ⟨_, rfl⟩
        have et4 : H7 t4 = some (.tup [.int 2, .int 3, .int 4]) := by rw [← hH7, upd_same]
        have s67 : Same H5 H7 := by rw [← hH7]; exact same_upd ht4
        change ∃ W : Nat → Nat → Aw.St → Hp → Prop, (∃ m, W 0 m _ (upd H5 t4 (.tup [.int 2, .int 3, .int 4]))) ∧ _
        rw [hH7]
        refine for_tup (a := t4) (xs := [.int 2, .int 3, .int 4]) (fun j σ H8 => ∃ (L : Addr) (v2 : Option V), σ = [some (.ref L), v1, v2, none, none, none] ∧ RowsAt K H8 L (rowsD (rowsF j)) ∧ Same H7 H8) ⟨L, v2, rfl, rL.same s67, fun _ _ e => e⟩ (fun j σ H8 hj p => by
          obtain ⟨_, _, _, _, s8⟩ := p
          exact SqT.of (s8 _ _ et4)) ?_ ?_
        · rintro j x σ H8 hx2 ⟨L3, v3, rfl, rL3, s8⟩
          obtain ⟨hj, rfl⟩ := whAt hx2
          have lJ1 := rowsF_len (j + 1) (by omega)
          obtain ⟨w0, w1⟩ := wh_ok j hj
          have eJ : rowsF (j + 1) = rowsF j ++ ofV "flip" none (whG j) (whG j).toNat := rfl
          rw [eJ, List.length_append] at lJ1
          obtain ⟨wj, hwj⟩ : ∃ wj, whG j = wj := ⟨_, rfl⟩
          rw [hwj] at w0 w1 lJ1 eJ ⊢
          refine ⟨_, rfl, _, rfl, wj, rfl, by omega, by omega, ?_⟩
          refine lc_cat (k := "flip") (b := none) (w := wj) (n := wj.toNat) (c := true) rL3 (by omega) (by omega) (fun L4 H10 s10 rL4 => ?_) ?_ ?_ (fun m H9 Q9 h9 => ?_)
          rotate_left
          · exact fun _ => rfl
          · exact fun _ _ _ h => h
          · exact ⟨_, rfl, _, rfl, by show 2 ≤ sizeLine; decide, fun u1 hu1 => ⟨by show 3 ≤ sizeLine; decide, fun u2 hu2 => h9 _ _ ((same_upd hu1).trans (same_upd hu2)) (row_dq (fun _ => .non) hu2)⟩⟩
          rw [if_pos rfl] at rL4
          refine ⟨L4, _, rfl, ?_, s8.trans s10⟩
          rw [eJ]
          exact rL4
        · rintro σ H8 ⟨L3, v3, rfl, rL3, s8⟩
          have rL3 : RowsAt K H8 L3 (rowsD (rowsF 3)) := rL3
          obtain ⟨vs, eL, dL⟩ := rL3.ex
          refine ⟨_, rfl, L3, rfl, ⟨vs, SqL.of eL⟩, fun D4 hD4 => ?_⟩
          have lvs := dL.length
          refine lc_list (a := L3) (xs := vs) (fun m H9 => Same H8 H9 ∧ ∃ ws, H9 D4 = some (.lst ws) ∧ DqAll K H9 ws (knownD.take m)) ⟨same_upd hD4, [], upd_same, .nil⟩ (fun m H9 hm p => SqL.of (p.1 _ _ eL)) ?_ ?_
          · rintro m x H9 hx ⟨s9, ws, e9, d9⟩
            obtain ⟨d, ed, hd⟩ := (dL.keep (TK.same s9)).get hx
            rw [rowsD, rows_known, List.map_map, List.getElem?_map] at ed
            cases ek : known[m]? with
            | none => rw [ek] at ed; cases ed
            | some p =>
              rw [ek] at ed
              cases ed
              have mk : p ∈ known := List.mem_of_getElem? ek
              refine ⟨rfl, _, rfl, x, p.2, rfl, hd, known_smI p mk, _, rfl, by show 2 ≤ sizeLine; decide, fun u hu => ?_⟩
              rw [known_text p mk]
              obtain ⟨z1, z2, z3⟩ := app_any (v := .ref u) (d := .tuple [.str p.1, rowD p.2]) hD4 s9 e9 d9 (same_upd hu) (.tup (SqT.of upd_same) (.cons (.str _) (.cons (hd.keep (TK.new hu)) .nil)))
              have lw := d9.length
              have ml : m < vs.length := (List.getElem?_eq_some_iff.mp hx).1
              rw [lvs, rowsD_len] at ml
              have := rowsF_len 3 (by decide)
              rw [List.length_take] at lw
              refine ⟨ws, z1, small200' (by omega), z2, ?_⟩
              have et : knownD.take (m + 1) = knownD.take m ++ [.tuple [.str p.1, rowD p.2]] := by
                rw [List.take_succ, knownD, List.getElem?_map, ek]
                rfl
              rw [et]
              exact z3
          · rintro H9 ⟨s9, ws, e9, d9⟩
            refine k D4 H9 ((sH5.trans s67).trans (s8.trans s9)) ⟨ws, e9, ?_⟩
            have : knownD.take vs.length = knownD := List.take_of_length_le (by rw [lvs, rowsD_len, rows_known, knownD, List.length_map, List.length_map]; exact Nat.le_refl _)
            rw [this] at d9
            exact d9
end
end Aw

namespace Aw
open PySem PySem.Spec PyProof.Rows L2 NdefX
/-- a Step stands at b, or a text, or None: what isinstance tells of it -/
structure TxtE (K : PySem.W.Frag) (C : Addr) : Prop where
  ha : PySem.W.findIn K (.ref C) "__class__" = some (some (.builtin "object.__class__"))
  hn : PySem.W.specialIn K (.builtin "object.__class__") "__get__" = some (some (.builtin "getset_descriptor.__get__"))
  ht : PySem.W.takesIn K (.builtin "object.__class__") = some true
  hm : PySem.W.mroIn K C (.type "object") = some true
  me : PySem.W.kitOne K (.ref C) (.ref C) = some true
  nS : PySem.W.kitOne K (.type "str") (.ref C) = some false
  nN : PySem.W.kitOne K (.type "NoneType") (.ref C) = some false
def spEq (K : PySem.W.Frag) (C : Addr) : Sp := fun vs H Q _ => ∃ (a : Addr) (y : V) (x : Str) (r : Row), vs = [.ref a, y] ∧ StepAt K C H a x r ∧
  ((∃ (b : Addr) (x' : Str) (r' : Row), y = .ref b ∧ StepAt K C H b x' r' ∧ Q (.bl (decide (x = x'))) H) ∨ (((∃ t, y = .str t) ∨ y = .non) ∧ Q (.bl false) H))
section
variable {P : Program} {w : World} {K : PySem.W.Frag} {mg : Str → Option Value} {base : Heap} {C CB fP fI : Addr}
theorem scEq : FnScope ["self", "other"] ["self", "other"] (defScope sEq) := ⟨rfl, rfl, rfl, by decide +kernel, rfl, by decide +kernel, by decide +kernel⟩
theorem dec_strs {x y : Str} : decide (V.str x = V.str y) = decide (x = y) := by
  by_cases e : x = y
  · rw [decide_eq_true e, decide_eq_true (by rw [e])]
  · rw [decide_eq_false e, decide_eq_false (fun z => e (V.str.inj z))]
theorem ok_eq {f : Addr} {fd : FuncData} (F : Fun K "__eq__" "Step.__eq__" sEq f fd) (O : TxtO P K mg C CB fP fI) (Te : TxtE K C) (isi : mg "isinstance" = none) : FnOk P w K mg base CX0 1 f fd ["self", "other"] (spEq K C) := by
  have T : True := trivial
  refine F.ok scEq (fun vs H Q E h => ?_) (fun cdv A outer s H vs Q E hr h => ?_)
  · obtain ⟨a, y, x, r, rfl, _⟩ := h
    rfl
  · obtain ⟨a, y, x, r, rfl, sa, h⟩ := h
    have nd := scEq.nd
    refine ⟨_, (pss_one (ps_ret (pe_and (pe_callB call_isi (by rfl) isi (by decide +kernel) (pa_cons (pv 1) (pa_cons (pe_glob (v := .ref C) (by rfl) O.g rfl) pa_nil))) (pe_one (pe_cmpR op_eq (pe_fld (pv 0) rfl) (pe_fld (pv 1) rfl) (nomark _)))))), ?_⟩
    obtain ⟨dx, bv, tv, ea, _, _⟩ := sa.ex
    rcases h with ⟨b, x', r', rfl, sb, hq⟩ | ⟨hy, hq⟩
    · obtain ⟨dx', bv', tv', eb, _, _⟩ := sb.ex
      refine ⟨_, rfl, .ref b, .ref C, .ref C, .ref C, true, rfl, .own _, .base (.ins eb O.cl Te.ha Te.hn Te.ht Te.hm), Te.me, _, rfl, ?_⟩
      refine iteT ?_
      refine ⟨_, rfl, a, C, dx, _, _, rfl, ea, O.cl, O.nT, gText, _, rfl, b, C, dx', _, _, rfl, eb, O.cl, O.nT, gText, rfl, ?_⟩
      rw [dec_strs]
      exact hq
    · rcases hy with ⟨t, rfl⟩ | rfl
      · refine ⟨_, rfl, .str t, .ref C, .type "str", .ref C, false, rfl, .own _, .base (.str t), Te.nS, _, rfl, ?_⟩
        exact iteF hq
      · refine ⟨_, rfl, .non, .ref C, .type "NoneType", .ref C, false, rfl, .own _, .base .non, Te.nN, _, rfl, ?_⟩
        exact iteF hq
end
end Aw

namespace Aw
open PySem PySem.Spec PyProof.Rows L2 NdefX
abbrev sBounds : Stmt := (top 22)
/-! ### lists of Steps -/
inductive StepsAt (K : PySem.W.Frag) (C : Addr) (H : Hp) : List V → List (Str × Row) → Prop
  | nil : StepsAt K C H [] []
  | cons {a : Addr} {vs : List V} {p : Str × Row} {ps : List (Str × Row)} : StepAt K C H a p.1 p.2 → StepsAt K C H vs ps → StepsAt K C H (.ref a :: vs) (p :: ps)
section
variable {K : PySem.W.Frag} {C : Addr} {H H' : Hp}
theorem StepsAt.same (s : Same H H') : ∀ {vs : List V} {ps : List (Str × Row)}, StepsAt K C H vs ps → StepsAt K C H' vs ps
  | _, _, .nil => .nil
  | _, _, .cons h r => .cons (h.same s) (StepsAt.same s r)
theorem StepsAt.length : ∀ {vs : List V} {ps : List (Str × Row)}, StepsAt K C H vs ps → vs.length = ps.length
  | _, _, .nil => rfl
  | _, _, .cons _ r => congrArg (· + 1) (StepsAt.length r)
theorem StepsAt.get : ∀ {vs : List V} {ps : List (Str × Row)} {i : Nat} {v : V}, StepsAt K C H vs ps → vs[i]? = some v → ∃ a p, ps[i]? = some p ∧ v = .ref a ∧ StepAt K C H a p.1 p.2
  | _, _, _, _, .nil, h => by simp at h
  | _, _, 0, _, .cons h _, e => ⟨_, _, rfl, by cases Option.some.inj e; rfl, h⟩
  | _, _, i + 1, _, .cons _ r, e => StepsAt.get (i := i) r (by simpa using e)
theorem StepsAt.append : ∀ {vs ws : List V} {ps qs : List (Str × Row)}, StepsAt K C H vs ps → StepsAt K C H ws qs → StepsAt K C H (vs ++ ws) (ps ++ qs)
  | _, _, _, _, .nil, s => s
  | _, _, _, _, .cons h r, s => .cons h (StepsAt.append r s)
end
def isDeal (p : Str × Row) : Bool := decide (p.2.1 ∈ (["deal", "undeal"] : List Str))
/-- the bound that is broken -/
def boundsE (ps : List (Str × Row)) : Option Int := if 5 < ps.length then some 5 else if 2 < (ps.filter isDeal).length then some 2 else none
/-- raises the one error -/
def spBounds (K : PySem.W.Frag) (C CM : Addr) : Sp := fun vs H Q E => ∃ (l : Addr) (xs : List V) (ps : List (Str × Row)), vs = [.ref l] ∧ H l = some (.lst xs) ∧ StepsAt K C H xs ps ∧ ps.length ≤ 100000 ∧
  (∀ m, boundsE ps = some m → ∀ d H', Same H H' → H d = none → H' d = some (.xd [("most", .int m)]) → E (.ref CM) (some d) H') ∧ (boundsE ps = none → ∀ H', Same H H' → Q .non H')
structure TxtB (P : Program) (K : PySem.W.Frag) (mg : Str → Option Value) (C CM : Addr) (t5 t2 : Tok) : Prop where
  len : mg "len" = none
  g5 : mg "MOST_STEPS" = some (.int 5 t5)
  g2 : mg "MOST_DEALS" = some (.int 2 t2)
  tm : Err P K mg "TooMany" "most" "most" CM
  cl : Cls K C
  nK : NoAttr K C "kind"
section
variable {P : Program} {w : World} {K : PySem.W.Frag} {mg : Str → Option Value} {base : Heap} {C CM : Addr} {t5 t2 : Tok}
theorem scBounds : FnScope ["steps", "deals", "step"] ["steps"] (defScope sBounds) := ⟨rfl, rfl, rfl, by decide +kernel, rfl, by decide +kernel, by decide +kernel⟩
theorem ok_bounds {f : Addr} {fd : FuncData} (F : Fun K "check_bounds" "check_bounds" sBounds f fd) (B : TxtB P K mg C CM t5 t2) : FnOk P w K mg base (L2.CX P w) 3 f fd ["steps"] (spBounds K C CM) := by
  refine F.okX scBounds (fun vs H Q E h => ?_) (fun cdv A outer s H vs Q E hr h => ?_)
  · obtain ⟨l, xs, ps, rfl, _⟩ := h
    rfl
  · obtain ⟨l, xs, ps, rfl, hl, hS, hn, kE, kQ⟩ := h
    have nd := scBounds.nd
    refine ⟨_, (pss_cons (ps_if (pt_cmpR op_gt (pe_callB call_len_seq (by rfl) B.len PySem.boot_len (pa_cons (pv 0) pa_nil)) (pe_glob (v := .int 5) (by rfl) B.g5 ⟨_, rfl⟩) (nomark _))
        (pss_one (ps_raise rfl (takes_of rfl rfl rfl rfl) (pmk_err B.tm hr (by rfl) (pa_cons (pe_glob (v := .int 5) (by rfl) B.g5 ⟨_, rfl⟩) pa_nil)))) pss_nil)
      (pss_cons (ps_setLc (i := 1) (own := [("step", 2)]) (g := (gName 2)) rfl nd rfl rfl (sw_true rfl rfl (by rfl) (by decide +kernel)) (pi_list (pv 0)) (blkOk_by (own := [("step", 2)]) (N := ["steps", "deals", "step"]) (sc := defScope sBounds) (by decide +kernel)) (fun _ _ _ _ _ => (pg_name (i := 2) nd rfl (Or.inl rfl))) (fun _ _ _ _ _ => pts_one (pt_cmpR (show OpR _ (compareOp .In) (rIn K false) from op_in_seq) (show PE _ _ (tFld K (tVar 2) "kind") from pe_fld (pv 2) rfl) (pe_tup (pa_cons pe_str (pa_cons pe_str pa_nil))) (by rfl))) (fun _ _ _ _ _ => (pv 2)))
      (pss_one (ps_if (pt_cmpR op_gt (pe_callB call_len_seq (by rfl) B.len PySem.boot_len (pa_cons (pv 1) pa_nil)) (pe_glob (v := .int 2) (by rfl) B.g2 ⟨_, rfl⟩) (nomark _))
        (pss_one (ps_raise rfl (takes_of rfl rfl rfl rfl) (pmk_err B.tm hr (by rfl) (pa_cons (pe_glob (v := .int 2) (by rfl) B.g2 ⟨_, rfl⟩) pa_nil)))) pss_nil)))), ?_⟩
    have lx := hS.length
    refine ⟨_, rfl, l, xs, rfl, .inl (SqL.of hl), (xs.length : Int), 5, rfl, rfl, _, rfl, ?_⟩
    refine ite_dec (fun h5 => ?_) (fun h5 => ?_)
    · have e5 : boundsE ps = some 5 := if_pos (by omega)
      refine mkS_ans fun d hd => ?_
      exact kE 5 e5 d _ (same_upd hd) hd upd_same
    · have h5' : ¬ 5 < ps.length := by omega
      refine ⟨_, rfl, l, rfl, ⟨xs, SqL.of hl⟩, fun D hD => ?_⟩
      refine lc_list (a := l) (xs := xs) (fun m H2 => Same H H2 ∧ ∃ ws : List V, H2 D = some (.lst ws) ∧ ws.length = ((ps.take m).filter isDeal).length) ⟨same_upd hD, [], upd_same, rfl⟩ (fun m H2 hm p => SqL.of (p.1 _ _ hl)) ?_ ?_
      · rintro m x H2 hx ⟨s2, ws, e2, l2⟩
        obtain ⟨a, p, ip, rfl, sa⟩ := (hS.same s2).get hx
        obtain ⟨dx, bv, tv, ea, _, _⟩ := sa.ex
        have et : ps.take (m + 1) = ps.take m ++ [p] := by
          rw [List.take_succ, ip]
          rfl
        refine ⟨rfl, ?_⟩
        refine ⟨_, rfl, a, C, dx, _, _, rfl, ea, B.cl, B.nK, gKind, by show 2 ≤ sizeLine; decide, fun t ht => ?_⟩
        refine ⟨t, _, rfl, .inr (SqT.of upd_same), rfl, by decide +kernel, _, rfl, ?_⟩
        show if inV (.str p.2.1) ((["deal", "undeal"] : List Str).map V.str) = true then _ else _
        rw [in_strs]
        have st := same_upd (o := .tup [.str "deal", .str "undeal"]) ht
        have et2 : upd H2 t (.tup [.str "deal", .str "undeal"]) D = some (.lst ws) := by rw [upd_ne (ne_of_none e2 ht)]; exact e2
        refine ite_dec (fun hd => ?_) (fun hd => ?_)
        · refine ⟨_, rfl, ws, et2, small200' (by
            have := List.length_filter_le isDeal (ps.take m)
            rw [List.length_take] at this
            omega), same_fresh hD (s2.trans st), _, upd_same, ?_⟩
          rw [et, List.filter_append, List.filter_cons_of_pos (by exact decide_eq_true hd), List.length_append, List.length_append, l2]
          rfl
        · refine ⟨s2.trans st, ws, et2, ?_⟩
          rw [et, List.filter_append, List.filter_cons_of_neg (by exact fun z => hd (of_decide_eq_true z)), List.filter_nil, List.append_nil]
          exact l2
      · rintro H2 ⟨s2, ws, e2, l2⟩
        have ek : ps.take xs.length = ps := List.take_of_length_le (by omega)
        rw [ek] at l2
        refine ⟨_, rfl, D, ws, rfl, .inl (SqL.of e2), (ws.length : Int), 2, rfl, rfl, _, rfl, ?_⟩
        refine ite_dec (fun h2 => ?_) (fun h2 => ?_)
        · have e5 : boundsE ps = some 2 := (if_neg h5').trans (if_pos (by omega))
          refine mkS_ans fun d hd => ?_
          exact kE 2 e5 d _ (s2.trans (same_upd hd)) (s2.free hd) upd_same
        · have e5 : boundsE ps = none := (if_neg h5').trans (if_neg (by omega))
          exact kQ e5 H2 s2
end
end Aw

namespace Aw
open PySem PySem.Spec PyProof.Rows L2 NdefX
abbrev sPInit : Stmt := (inClass (top 21) 0)
/-! ### for i, x in enumerate(l) -/
theorem for_enum {K : PySem.W.Frag} {a : Addr} {xs : List V} {g : TG} {tb : TS} {D : Ends} {σ : Aw.St} {H : Hp} (Pv : Nat → Aw.St → Hp → Prop) (h0 : Pv 0 σ H) (hl : ∀ i σ H, i ≤ xs.length → Pv i σ H → SqL K H a xs)
    (hs : ∀ i x σ H T, xs[i]? = some x → Pv i σ H → H T = none → g (.ref T) σ (upd H T (.tup [.int (i : Nat), x])) fun σ2 H2 => tb { D with nx := Pv (i + 1), ct := Pv (i + 1), bk := D.nx } σ2 H2)
    (hd : ∀ σ H, Pv xs.length σ H → D.nx σ H) : tFor (fun _ H R => R (Ite K a) H) g tb D σ H := by
  refine ⟨fun i m σ H => m = xs.length - i ∧ i ≤ xs.length ∧ Pv i σ H, ⟨xs.length, by simp, Nat.zero_le _, h0⟩, ?_⟩
  rintro i m σ H ⟨rfl, hi, p⟩
  have q := hl i σ H hi p
  by_cases hlt : i < xs.length
  · refine .inr ⟨⟨xs, xs[i], q, by simp [hlt]⟩, Pv (i + 1), fun σ' H' p' => ⟨xs.length - (i + 1), by omega, rfl, hlt, p'⟩, fun x H' y => ?_⟩
    obtain ⟨T, y, rfl, hT, rfl, hy⟩ := y
    exact hs i y σ H T (hy xs q) p hT
  · have e : i = xs.length := by omega
    subst e
    exact .inl ⟨⟨xs, q, Nat.le_refl _⟩, hd σ H p⟩
/-! ### texts of programs -/
def partsOf (x : Str) : List Str := if x = "" then [] else Txt.split x " then "
def firstBad : List Str → Option Nat
  | [] => none
  | x :: l => match parse x with
    | none => some 0
    | some _ => (firstBad l).map (· + 1)
def rowsOf : List Str → List (Str × Row)
  | [] => []
  | x :: l => match parse x with
    | none => rowsOf l
    | some r => (x, r) :: rowsOf l
theorem partsOf_len {x : Str} (h : x.length ≤ 1000) : (partsOf x).length ≤ 1002 := by
  unfold partsOf
  split
  · exact Nat.zero_le _
  · have := PyProof.Rows.split_le x " then "
    omega
theorem partsOf_short {x y : Str} (h : y ∈ partsOf x) : y.length ≤ x.length := by
  unfold partsOf at h
  split at h
  · cases h
  · exact PyProof.Rows.part_short h
theorem rowsOf_no {x : Str} {l : List Str} (h : parse x = none) : rowsOf (x :: l) = rowsOf l := by
  show (match parse x with | none => rowsOf l | some r => (x, r) :: rowsOf l) = _
  rw [h]
theorem rowsOf_yes {x : Str} {r : Row} {l : List Str} (h : parse x = some r) : rowsOf (x :: l) = (x, r) :: rowsOf l := by
  show (match parse x with | none => rowsOf l | some r => (x, r) :: rowsOf l) = _
  rw [h]
theorem rowsOf_append : ∀ {a b : List Str}, rowsOf (a ++ b) = rowsOf a ++ rowsOf b
  | [], _ => rfl
  | x :: l, b => by
    rw [List.cons_append]
    cases h : parse x with
    | none => rw [rowsOf_no h, rowsOf_no h]; exact rowsOf_append
    | some r => rw [rowsOf_yes h, rowsOf_yes h, List.cons_append]; exact congrArg ((x, r) :: ·) rowsOf_append
theorem firstBad_at : ∀ {l : List Str} {i : Nat} {x : Str}, (∀ y ∈ l.take i, parse y ≠ none) → l[i]? = some x → parse x = none → firstBad l = some i
  | y :: l, 0, x, _, h, hp => by
    cases h
    unfold firstBad
    rw [hp]
  | y :: l, i + 1, x, ha, h, hp => by
    unfold firstBad
    cases e : parse y with
    | none => exact absurd e (ha y (by simp))
    | some r =>
      have ih := firstBad_at (l := l) (i := i) (fun z hz => ha z (by simp [hz])) (by simpa using h) hp
      rw [ih]
      rfl
theorem firstBad_none : ∀ {l : List Str}, (∀ y ∈ l, parse y ≠ none) → firstBad l = none
  | [], _ => rfl
  | y :: l, ha => by
    unfold firstBad
    cases e : parse y with
    | none => exact absurd e (ha y (List.mem_cons_self ..))
    | some r =>
      rw [firstBad_none fun z hz => ha z (List.mem_cons_of_mem _ hz)]
      rfl
theorem rowsOf_len : ∀ {l : List Str}, (rowsOf l).length ≤ l.length
  | [] => Nat.le_refl _
  | x :: l => by
    unfold rowsOf
    have := rowsOf_len (l := l)
    cases parse x with
    | none => simp only [List.length_cons]; omega
    | some r => simp only [List.length_cons]; omega
/-- a Program with the text x stands at a -/
def progF (x : Str) (t : V) : List (Str × V) := [("text", .str x), ("steps", t)]
structure ProgAt (K : PySem.W.Frag) (C CS : Addr) (H : Hp) (a : Addr) (x : Str) (ps : List (Str × Row)) : Prop where
  ex : ∃ dx t xs, H a = some (.ins C dx (progF x (.ref t))) ∧ H t = some (.tup xs) ∧ StepsAt K CS H xs ps
theorem ProgAt.same {K : PySem.W.Frag} {C CS : Addr} {H H' : Hp} {a : Addr} {x : Str} {ps : List (Str × Row)} (S : ProgAt K C CS H a x ps) (s : Same H H') : ProgAt K C CS H' a x ps := by
  obtain ⟨dx, t, xs, h, h1, h2⟩ := S.ex
  exact ⟨dx, t, xs, s _ _ h, s _ _ h1, h2.same s⟩
def spPInit (K : PySem.W.Frag) (C CS CB CI CM : Addr) : Sp := fun vs H Q E => ∃ (a dx : Addr) (v : V), vs = [.ref a, v] ∧ H a = some (.ins C dx []) ∧ VOk H v ∧
  (isStr v = false → ∀ d H', Same H H' → H d = none → H' d = some (.xd [("text", v)]) → E (.ref CB) (some d) H') ∧
  (∀ x, v = .str x → ∀ i, firstBad (partsOf x) = some i → ∀ d H', Same H H' → H d = none → H' d = some (.xd [("index", .int (i : Nat))]) → E (.ref CI) (some d) H') ∧
  (∀ x, v = .str x → firstBad (partsOf x) = none → ∀ m, boundsE (rowsOf (partsOf x)) = some m → ∀ d H', Same H H' → H d = none → H' d = some (.xd [("most", .int m)]) → E (.ref CM) (some d) H') ∧
  (∀ x, v = .str x → firstBad (partsOf x) = none → boundsE (rowsOf (partsOf x)) = none → ∀ H', (∀ b o, H b = some o → b ≠ a → H' b = some o) → ProgAt K C CS H' a x (rowsOf (partsOf x)) → Q .non H')
structure TxtR (P : Program) (K : PySem.W.Frag) (mg : Str → Option Value) (C CI fB : Addr) : Prop where
  isi : mg "isinstance" = none
  str : mg "str" = none
  tup : mg "tuple" = none
  enum : mg "enumerate" = none
  gB : mg "check_bounds" = some (.ref fB)
  bi : Err P K mg "BadStep" "index" "index" CI
  cl : Cls K C
  nT : NoAttr K C "text"
  nS : NoAttr K C "steps"
theorem passE {X : Cx} (σ : Aw.St) : PassesAt (L2.CX X.prog X.w) X σ ((fun _ => E0 : Aw.St → XK) σ) := fun _ _ _ _ _ _ c => by
  obtain ⟨_, _, _, _, _, _, _, _, _, _, _, _, h⟩ := c
  exact h.elim
section
variable {P : Program} {w : World} {K : PySem.W.Frag} {mg : Str → Option Value} {base : Heap} {C CS CB CI CM fP fI fB : Addr} {t5 t2 : Tok} {dN dR tK : Addr} {eN eR : Array DictEntry} {nN nR : Nat}
theorem strIx {l : List Str} {r : Nat} {v : V} (h : (l.map V.str)[r]? = some v) : ∃ z, l[r]? = some z ∧ v = .str z := by
  rw [List.getElem?_map] at h
  cases e : l[r]? with
  | none => rw [e] at h; cases h
  | some z => rw [e] at h; cases h; exact ⟨z, rfl, rfl⟩
theorem ne_ts : ¬ (("text" : Str) = "steps") := by decide +kernel
theorem putS {a v : V} : putF "steps" v ([("text", a)] : List (Str × V)) = ([("text", a), ("steps", v)] : List (Str × V)) := by
  show (if ("text" : Str) = "steps" then _ else (("text" : Str), a) :: putF "steps" v []) = _
  rw [if_neg ne_ts]
  rfl
theorem ite_parts {x : Str} {σ : Aw.St} {H : Hp} {Q : VK} (hx : x.length ≤ 1000) (k : ∀ lp H1, Same H H1 → H1 lp = some (.lst ((partsOf x).map V.str)) → Q (.ref lp) H1) (hσ : σ[1]? = some (some (.str x))) :
    if decide (V.str x = V.str "") = true then tLst tNil σ H Q else tM1 (fun x xs H Q => ∃ a b, x = V.str a ∧ xs = [V.str b] ∧ (b.length == 0) = false ∧ a.length + 2 ≤ sizeLine ∧ rNewStrs (Txt.split a b) H Q) (tVar 1) (tC (V.str " then ")) σ H Q := by
  refine ite_str (fun e => ?_) (fun e => ?_)
  · refine ⟨by show 0 ≤ sizeLine; decide, fun l hl => k l _ (same_upd hl) ?_⟩
    rw [partsOf, if_pos e]
    exact upd_same
  · refine ⟨_, hσ, ⟨_, rfl⟩, x, " then ", rfl, rfl, by decide +kernel, Nat.le_trans (by omega : x.length + 2 ≤ 2000) (by decide), fun l hl => k l _ (same_upd hl) ?_⟩
    rw [partsOf, if_neg e]
    exact upd_same
theorem make_parse {H : Hp} {x : Str} {r : Row} (hp : parse x = some r) (hl : x.length ≤ 1000) {G : Addr → Hp → Prop} (k : ∀ a H', Same H H' → StepAt K CS H' a x r → G a H') : ∀ y dx, H y = none → H dx = none → dx ≠ y →
    spInit K CS CB [.ref y, .str x] (upd (upd H dx (.own y)) y (.ins CS dx [])) (fun v H2 => v = .non ∧ G y H2) E0 := by
  intro y dx hy hdx ne
  have hy' : upd H dx (.own y) y = none := by rw [upd_ne (Ne.symm ne)]; exact hy
  have s2 := (same_upd (o := .own y) hdx).trans (same_upd (o := .ins CS dx []) hy')
  refine ⟨y, dx, .str x, rfl, upd_same, .str _ hl, fun hn => ?_, fun z r' hz hr H2 sb sa => ?_⟩
  · rw [show parseV (.str x) = parse x from rfl, hp] at hn
    cases hn
  · cases hz
    rw [hp] at hr
    cases hr
    exact ⟨rfl, k y H2 (fun c o e => sb c o (s2 c o e) (fun z => by rw [z, hy] at e; cases e)) sa⟩
theorem StepAt.but {H H' : Hp} {a b dx : Addr} {fs : List (Str × V)} {x : Str} {r : Row} (S : StepAt K CS H b x r) (ha : H a = some (.ins C dx fs)) (hf : fs.length < 4) (k : ∀ c o, H c = some o → c ≠ a → H' c = some o) : StepAt K CS H' b x r := by
  obtain ⟨ex, bv, tv, h, h1, h2⟩ := S.ex
  have nb : b ≠ a := ne_of h ha (fun z => by
    cases z
    exact absurd hf (by show ¬ 4 < 4; decide))
  have tk : TK H H' := ⟨fun c ys e => k c _ e (ne_of e ha (fun z => by cases z)), fun c o ys e => k c _ e (ne_of e ha (fun z => by cases z))⟩
  exact ⟨⟨ex, bv, tv, k _ _ h nb, h1.keep tk, h2.keep tk⟩, S.pr⟩
theorem StepsAt.but {H H' : Hp} {a dx : Addr} {fs : List (Str × V)} (ha : H a = some (.ins C dx fs)) (hf : fs.length < 4) (k : ∀ c o, H c = some o → c ≠ a → H' c = some o) : ∀ {vs : List V} {ps : List (Str × Row)}, StepsAt K CS H vs ps → StepsAt K CS H' vs ps
  | _, _, .nil => .nil
  | _, _, .cons h r => .cons (h.but ha hf k) (StepsAt.but ha hf k r)
theorem StepAt.lst {H : Hp} {l b : Addr} {ws : List V} {o : HO} {x : Str} {r : Row} (S : StepAt K CS H b x r) (h : H l = some (.lst ws)) : StepAt K CS (upd H l o) b x r := by
  obtain ⟨ex, bv, tv, e, h1, h2⟩ := S.ex
  exact ⟨⟨ex, bv, tv, by rw [upd_ne (ne_of e h (fun z => by cases z))]; exact e, h1.keep (TK.lst h), h2.keep (TK.lst h)⟩, S.pr⟩
theorem StepsAt.lst {H : Hp} {l : Addr} {ws : List V} {o : HO} (h : H l = some (.lst ws)) : ∀ {vs : List V} {ps : List (Str × Row)}, StepsAt K CS H vs ps → StepsAt K CS (upd H l o) vs ps
  | _, _, .nil => .nil
  | _, _, .cons a r => .cons (a.lst h) (StepsAt.lst h r)
theorem scPInit : FnScope ["self", "text", "parts", "steps", "index", "part"] ["self", "text"] (defScope sPInit) := ⟨rfl, rfl, rfl, by decide +kernel, rfl, by decide +kernel, by decide +kernel⟩
theorem ok_pinit {f : Addr} {fd gd id bd : FuncData} (F : Fun K "__init__" "Program.__init__" sPInit f fd) (O : TxtO P K mg CS CB fP fI) (R : TxtR P K mg C CI fB) (T : TxtS K w mg dN dR tK eN eR nN nR) (G : Fun K "step_parts" "step_parts" sParts fP gd) (bG : Binds K gd ["text"] [])
    (FI : Fun K "__init__" "Step.__init__" sInit fI id) (bI : Binds K id ["self", "text"] []) (B : TxtB P K mg CS CM t5 t2) (FB : Fun K "check_bounds" "check_bounds" sBounds fB bd) (bB : Binds K bd ["steps"] []) : FnOk P w K mg base (L2.CX P w) 5 f fd ["self", "text"] (spPInit K C CS CB CI CM) := by
  have GP : FnOk P w K mg base CX0 1 fP gd ["text"] (spParts K) := ok_parts G T
  have GI : FnOk P w K mg base (L2.CX P w) 3 fI id ["self", "text"] (spInit K CS CB) := ok_init FI O T G bG
  have GB : FnOk P w K mg base (L2.CX P w) 3 fB bd ["steps"] (spBounds K CS CM) := ok_bounds FB B
  refine F.okX scPInit (fun vs H Q E h => ?_) (fun cdv A outer s H vs Q E hr h => ?_)
  · obtain ⟨a, dx, v, rfl, _⟩ := h
    rfl
  · obtain ⟨a, dx, v, rfl, ha, hv, kB, kI, kM, kQ⟩ := h
    have nd := scPInit.nd
    refine ⟨_, (pss_cons (ps_if (pt_not (pt_val (pe_callB call_isi (by rfl) R.isi (by decide +kernel) (pa_cons (pv 1) (pa_cons (pe_bltn (v := .ty "str") (by rfl) R.str (by decide +kernel) rfl) pa_nil)))))
        (pss_one (ps_raise rfl (takes_of rfl rfl rfl rfl) (pmk_err O.bt (hr.mono (by decide)) (by rfl) (pa_cons (pv 1) pa_nil)))) pss_nil)
      (pss_cons (ps_set (i := 2) nd rfl (Or.inl rfl) (pe_ifExp (pt_cmpR op_eq (pv 1) pe_str (nomark _)) (pe_lst pa_nil) (pe_split (pv 1) pe_str)))
      (pss_cons (ps_set (i := 3) nd rfl (Or.inl rfl) (pe_lst pa_nil))
      (pss_cons (ps_for (passes_of rfl) rfl (pi_enum (by rfl) R.enum (pa_cons (pv 2) pa_nil)) (pg_tup rfl (pgs_cons (pg_name (i := 4) nd rfl (Or.inl rfl)) (pgs_cons (pg_name (i := 5) nd rfl (Or.inl rfl)) pgs_nil)))
        (pss_cons (ps_if (pt_cmpR op_isN (pe_call GP (hr.mono (by decide)) (by rfl) O.parts G.kp bG .nil pass0 (pa_cons (pv 5) pa_nil)) pe_non (nomark _))
          (pss_one (ps_raise rfl (takes_of rfl rfl rfl rfl) (pmk_err R.bi (hr.mono (by decide)) (by rfl) (pa_cons (pv 4) pa_nil)))) pss_nil)
        (pss_one (ps_expr (pe_bm PySem.F.plainAttrs_list PySem.F.slot_list_append PySem.F.type_list_append mt_append (pv 3) (pa_cons (pe_makeS O.mkr GI hr (by rfl) O.g bI (fun σ => passE σ) (pa_cons (pv 5) pa_nil)) pa_nil))))))
      (pss_cons (ps_expr (pe_callS GB (hr.mono (by decide)) (by rfl) R.gB FB.kp bB (fun σ => passAt (takes_of rfl rfl rfl rfl) σ) (pa_cons (pv 3) pa_nil)))
      (pss_cons (ps_fld (pv 0) (pv 1) rfl)
      (pss_one (ps_fld (pv 0) (pe_callTy call_tuple_of (by rfl) R.tup (by decide +kernel) (pa_cons (pv 3) pa_nil)) rfl)))))))), ?_⟩
    obtain ⟨t, ty, kt⟩ := hv.isi (K := K)
    refine ⟨_, rfl, v, .ty "str", t, .type "str", isStr v, rfl, .ty _, ty, kt, _, rfl, ?_⟩
    have raiseB : isStr v = false → ∀ d, H d = none → E (.ref CB) (some d) (upd H d (.xd [("text", v)])) := fun e d hd => kB e d _ (same_upd hd) hd upd_same
    cases hv with
    | str x hx =>
      refine iteF ?_
      refine ⟨_, rfl, rfl, _, rfl, ?_⟩
      refine ite_parts hx (fun lp H1 s1 e1 => ?_) rfl
      have ha1 := s1 _ _ ha
      obtain ⟨L, hL⟩ : ∃ L, partsOf x = L := ⟨_, rfl⟩
      have lL : L.length ≤ 1002 := by rw [← hL]; exact partsOf_len hx
      have sL : ∀ y ∈ L, y.length ≤ 1000 := fun y hy => Nat.le_trans (partsOf_short (by rw [hL]; exact hy)) hx
      have kI := kI x rfl
      have kM := kM x rfl
      have kQ := kQ x rfl
      rw [hL] at e1 kI kM kQ
      refine ⟨by show 0 ≤ sizeLine; decide, fun ls hls => ?_⟩
      have s2 := s1.trans (same_upd (o := .lst []) hls)
      have e12 : upd H1 ls (.lst []) lp = some (.lst (L.map V.str)) := same_upd hls _ _ e1
      refine ⟨_, rfl, lp, L.map V.str, rfl, SqL.of e12, ?_⟩
      refine for_enum (a := lp) (xs := L.map V.str) (fun i σ H3 => ∃ (v4 v5 : Option V) (xs : List V), σ = [some (.ref a), some (.str x), some (.ref lp), some (.ref ls), v4, v5] ∧ Same H1 H3 ∧ H3 ls = some (.lst xs) ∧ StepsAt K CS H3 xs (rowsOf (L.take i)) ∧ (∀ y ∈ L.take i, parse y ≠ none)) ⟨none, none, [], rfl, same_upd hls, upd_same, .nil, fun y hy => absurd hy (by simp)⟩ (fun i σ H3 hi p => by
        obtain ⟨_, _, _, _, s3, _⟩ := p
        exact SqL.of (s3 _ _ e1)) ?_ ?_
      · rintro i y σ H3 T hy ⟨v4, v5, xs, rfl, s3, e3, st3, np⟩ hT
        obtain ⟨z, hz2, rfl⟩ := strIx hy
        have hz := List.mem_of_getElem? hz2
        have sT := same_upd (o := .tup [.int (i : Nat), .str z]) hT
        refine ⟨T, _, rfl, SqT.of upd_same, rfl, _, _, rfl, _, _, rfl, rfl, ?_⟩
        have hzl := sL z hz
        refine ⟨_, rfl, .str z, rfl, .str z hzl, fun hn H4 s4 => ?_, fun r hp u H4 s4 du => ?_⟩
        · refine ⟨rfl, _, rfl, ?_⟩
          refine iteT ?_
          refine ⟨_, rfl, mkS_ans fun d hd => ?_⟩
          have sd : Same H H4 := ((s1.trans s3).trans sT).trans s4
          exact kI i (firstBad_at np hz2 hn) d _ (sd.trans (same_upd hd)) (sd.free hd) upd_same
        · have s34 : Same H3 H4 := sT.trans s4
          obtain ⟨tt, xx, rfl, _, _⟩ := du.of_tuple
          refine ⟨rfl, _, rfl, ?_⟩
          refine iteF ?_
          have e4 := s34 _ _ e3
          refine ⟨_, rfl, .inl ⟨rfl, _, SqL.of e4⟩, _, rfl, make_parse hp hzl fun b H5 s5 sa => ?_⟩
          have e5 := s5 _ _ e4
          have lx := st3.length
          have lr := rowsOf_len (l := L.take i)
          rw [List.length_take] at lr
          refine ⟨ls, xs, _, rfl, rfl, e5, Nat.lt_of_le_of_lt (by omega : xs.length ≤ 1002) (by decide), ?_⟩
          have et : L.take (i + 1) = L.take i ++ [z] := by
            rw [List.take_succ, hz2]
            rfl
          have st5 := (st3.same (s34.trans s5)).append (.cons sa .nil : StepsAt K CS H5 [.ref b] [(z, r)])
          refine ⟨_, _, xs ++ [.ref b], rfl, same_fresh hls (s3.trans (s34.trans s5)), upd_same, ?_, fun y hy => ?_⟩
          · rw [et, rowsOf_append, rowsOf_yes hp]
            exact st5.lst e5
          · rw [et] at hy
            rcases List.mem_append.mp hy with h | h
            · exact np y h
            · rw [List.mem_singleton.mp h, show parse z = some r from hp]
              exact fun z => by cases z
      · rintro σ H3 ⟨v4, v5, xs, rfl, s3, e3, st3, np⟩
        rw [List.length_map, List.take_of_length_le (Nat.le_refl _)] at st3 np
        have fb := firstBad_none np
        have lr := rowsOf_len (l := L)
        have sH : Same H H3 := s1.trans s3
        refine ⟨_, rfl, ls, xs, _, rfl, e3, st3, by omega, fun m hm d H4 s4 hd e4 => ?_, fun hb H4 s4 => ?_⟩
        · exact kM fb m hm d H4 (sH.trans s4) (sH.free hd) e4
        · have ha4 := s4 _ _ (sH _ _ ha)
          have e4 := s4 _ _ e3
          have st4 := st3.same s4
          refine ⟨_, rfl, _, rfl, a, C, dx, [], rfl, ha4, R.cl, R.nT, (by show 0 < 1000; decide), ?_⟩
          rw [put1]
          have nal : ls ≠ a := ne_of e4 ha4 (fun z => by cases z)
          have e5 : upd H4 a (.ins C dx [("text", .str x)]) ls = some (.lst xs) := by rw [upd_ne nal]; exact e4
          refine ⟨_, rfl, ls, xs, rfl, .inl ⟨SqL.of e5, fun t ht => ?_⟩⟩
          have nat : a ≠ t := ne_of_none upd_same ht
          have ha6 : upd (upd H4 a (.ins C dx [("text", .str x)])) t (.tup xs) a = some (.ins C dx [("text", .str x)]) := by rw [upd_ne nat, upd_same]
          refine ⟨_, rfl, a, C, dx, [("text", .str x)], rfl, ha6, R.cl, R.nS, (by show 1 < 1000; decide), ?_⟩
          rw [putS]
          have but : ∀ c o, H4 c = some o → c ≠ a → upd (upd (upd H4 a (.ins C dx [("text", .str x)])) t (.tup xs)) a (.ins C dx [("text", .str x), ("steps", .ref t)]) c = some o := fun c o e ne => by
            have nt : c ≠ t := ne_of_none (show upd H4 a (.ins C dx [("text", .str x)]) c = some o by rw [upd_ne ne]; exact e) ht
            rw [upd_ne ne, upd_ne nt, upd_ne ne]
            exact e
          refine kQ fb hb _ (fun c o e ne => but c o (s4 _ _ (sH _ _ e)) ne) ⟨⟨dx, t, xs, upd_same, ?_, st4.but ha4 (by show 0 < 4; decide) but⟩⟩
          rw [upd_ne nat.symm, upd_same]
    | _ =>
      refine iteT ?_
      refine ⟨_, rfl, mkS_ans fun d hd => raiseB rfl d hd⟩
end
end Aw

namespace Aw
open PySem PySem.Spec PyProof.Rows L2 NdefX
/-! ### texts of steps, joined and split -/
def sepT : List Nat := TL.tl " then "
theorem pre_long {S l r : List Nat} (h : S.length ≤ l.length) : TL.pre S (l ++ r) = TL.pre S l := by
  unfold TL.pre
  rw [List.take_append_of_le_length h]
def freeT (x : Str) : Bool := (List.range x.length).all fun i => !TL.pre sepT ((TL.tl x ++ sepT).drop i) && !TL.pre sepT ((TL.tl x).drop i)
theorem known_free : ∀ p ∈ known, freeT p.1 = true := by decide +kernel
theorem free_at {x : Str} (h : freeT x = true) {i : Nat} (hi : i < (TL.tl x).length) : TL.pre sepT ((TL.tl x ++ sepT).drop i) = false ∧ TL.pre sepT ((TL.tl x).drop i) = false := by
  have h2 := List.all_eq_true.mp h i (List.mem_range.mpr hi)
  rw [Bool.and_eq_true] at h2
  obtain ⟨a, b⟩ := h2
  exact ⟨by simpa using a, by simpa using b⟩
theorem free_part {x : Str} (h : freeT x = true) {rest : List Nat} : ∀ i, i < (TL.tl x).length → TL.pre sepT ((TL.tl x ++ (sepT ++ rest)).drop i) = false := fun i hi => by
  rw [← List.append_assoc, List.drop_append_of_le_length (by rw [List.length_append]; omega), pre_long (by rw [List.length_drop, List.length_append]; omega)]
  exact (free_at h hi).1
theorem spl_free : ∀ {l : List Str}, l ≠ [] → (∀ x ∈ l, freeT x = true) → TL.spl sepT 0 [] (TL.joinL sepT (l.map TL.tl)) = l.map TL.tl
  | [], h, _ => absurd rfl h
  | [x], _, hp => by
    show TL.spl sepT 0 [] (TL.tl x) = [TL.tl x]
    rw [TL.spl_last fun i hi => (free_at (hp x (List.mem_singleton.mpr rfl)) hi).2, List.nil_append]
  | x :: y :: r, _, hp => by
    show TL.spl sepT 0 [] (TL.tl x ++ (sepT ++ TL.joinL sepT ((y :: r).map TL.tl))) = TL.tl x :: (y :: r).map TL.tl
    rw [TL.spl_part (by decide +kernel) (free_part (hp x (List.mem_cons_self ..))), List.nil_append, spl_free (by simp) fun z hz => hp z (List.mem_cons_of_mem _ hz)]
theorem split_free {l : List Str} (hne : l ≠ []) (hp : ∀ x ∈ l, freeT x = true) : Txt.split (Str.join " then " l) " then " = l := by
  refine TL.map_tl_inj ?_
  rw [TL.split_spl _ " then " (by decide +kernel) (TL.kind_ok (by decide +kernel)), TL.tl_join]
  exact spl_free hne hp
/-- the text of a row of steps -/
def textP (ps : List (Str × Row)) : Str := Str.join " then " (ps.map (·.1))
theorem join_ne : ∀ {l : List Str}, l ≠ [] → (∀ x ∈ l, 0 < x.length) → Str.join " then " l ≠ ""
  | [], h, _ => absurd rfl h
  | [x], _, hp => fun e => by
    have e : x = "" := e
    have := hp x (List.mem_singleton.mpr rfl)
    rw [e] at this
    exact absurd this (by decide +kernel)
  | x :: y :: r, _, hp => fun e => by
    have e : x ++ " then " ++ Str.join " then " (y :: r) = "" := e
    have h1 := congrArg Str.length e
    rw [Str.length_append, Str.length_append] at h1
    have h2 := hp x (List.mem_cons_self ..)
    have h3 : ("" : Str).length = 0 := rfl
    omega
theorem known_long : ∀ p ∈ known, 0 < p.1.length := by decide +kernel
theorem partsOf_textP {ps : List (Str × Row)} (h : ∀ p ∈ ps, p ∈ known) : partsOf (textP ps) = ps.map (·.1) := by
  cases ps with
  | nil => rfl
  | cons p ps =>
    have hk : ∀ x ∈ (p :: ps).map (·.1), ∃ q ∈ known, x = q.1 := fun x hx => by
      obtain ⟨q, hq, rfl⟩ := List.mem_map.mp hx
      exact ⟨q, h q hq, rfl⟩
    have hne : (p :: ps).map (·.1) ≠ [] := by simp
    unfold partsOf textP
    rw [if_neg (join_ne hne fun x hx => by obtain ⟨q, hq, rfl⟩ := hk x hx; exact known_long q hq)]
    exact split_free hne fun x hx => by obtain ⟨q, hq, rfl⟩ := hk x hx; exact known_free q hq
theorem rowsOf_known : ∀ {ps : List (Str × Row)}, (∀ p ∈ ps, p ∈ known) → rowsOf (ps.map (·.1)) = ps ∧ firstBad (ps.map (·.1)) = none
  | [], _ => ⟨rfl, rfl⟩
  | p :: ps, h => by
    have hp : parse p.1 = some p.2 := parse_iff.mpr (h p (List.mem_cons_self ..))
    obtain ⟨h1, h2⟩ := rowsOf_known (ps := ps) fun q hq => h q (List.mem_cons_of_mem _ hq)
    refine ⟨?_, firstBad_none fun y hy => ?_⟩
    · rw [List.map_cons, rowsOf_yes hp, h1]
    · obtain ⟨q, hq, rfl⟩ := List.mem_map.mp hy
      rw [show parse q.1 = some q.2 from parse_iff.mpr (h q hq)]
      exact fun z => by cases z
end Aw

namespace Aw
open PySem PySem.Spec PyProof.Rows L2 NdefX
abbrev sJoined : Stmt := (top 23)
theorem join_len (s : Str) : ∀ l : List Str, (Str.join s l).length ≤ (l.map (·.length)).sum + l.length * s.length
  | [] => Nat.zero_le _
  | [x] => by
    show x.length ≤ (x.length + 0) + 1 * s.length
    omega
  | x :: y :: r => by
    show (x ++ s ++ Str.join s (y :: r)).length ≤ (x.length + ((y :: r).map (·.length)).sum) + ((y :: r).length + 1) * s.length
    have ih := join_len s (y :: r)
    rw [Str.length_append, Str.length_append, Nat.add_mul, Nat.one_mul]
    omega
theorem known20 : ∀ p ∈ known, p.1.length ≤ 20 := by decide +kernel
theorem sum20 : ∀ {ps : List (Str × Row)}, (∀ p ∈ ps, p ∈ known) → ((ps.map (·.1)).map (·.length)).sum ≤ 20 * ps.length
  | [], _ => Nat.zero_le _
  | p :: ps, h => by
    have h1 := known20 p (h p (List.mem_cons_self ..))
    have h2 := sum20 (ps := ps) fun q hq => h q (List.mem_cons_of_mem _ hq)
    simp only [List.map_cons, List.sum_cons, List.length_cons]
    omega
theorem StepsAt.known {K : PySem.W.Frag} {C : Addr} {H : Hp} : ∀ {vs : List V} {ps : List (Str × Row)}, StepsAt K C H vs ps → ∀ p ∈ ps, p ∈ known
  | _, _, .nil, _, hp => absurd hp (by simp)
  | _, _, .cons (p := q) h r, p, hp => by
    rcases List.mem_cons.mp hp with e | e
    · subst e
      exact parse_iff.mp h.pr
    · exact StepsAt.known r p e
def spJoined (K : PySem.W.Frag) (C CS CM : Addr) : Sp := fun vs H Q E => ∃ (l : Addr) (xs : List V) (ps : List (Str × Row)), vs = [.ref l] ∧ (H l = some (.lst xs) ∨ H l = some (.tup xs)) ∧ StepsAt K CS H xs ps ∧ ps.length ≤ 30 ∧
  (∀ m, boundsE ps = some m → ∀ d H', Same H H' → H d = none → H' d = some (.xd [("most", .int m)]) → E (.ref CM) (some d) H') ∧
  (boundsE ps = none → ∀ a H', Same H H' → ProgAt K C CS H' a (textP ps) ps → Q (.ref a) H')
structure TxtJ (K : PySem.W.Frag) (mg : Str → Option Value) (C CS fPI : Addr) : Prop where
  g : mg "Program" = some (.ref C)
  mkr : Mk K C fPI
  cs : Cls K CS
  nT : NoAttr K CS "text"
section
variable {P : Program} {w : World} {K : PySem.W.Frag} {mg : Str → Option Value} {base : Heap} {C CS CB CI CM fPI : Addr}
theorem scJoined : FnScope ["steps", "step"] ["steps"] (defScope sJoined) := ⟨rfl, rfl, rfl, by decide +kernel, rfl, by decide +kernel, by decide +kernel⟩
/-- the text, made a Program -/
theorem make_prog {H : Hp} {ps : List (Str × Row)} (hk : ∀ p ∈ ps, p ∈ known) (hn : ps.length ≤ 30) {G : Addr → Hp → Prop} {E : XK}
    (kE : ∀ m, boundsE ps = some m → ∀ d H', Same H H' → H d = none → H' d = some (.xd [("most", .int m)]) → E (.ref CM) (some d) H')
    (kQ : boundsE ps = none → ∀ a H', Same H H' → ProgAt K C CS H' a (textP ps) ps → G a H') : ∀ y dx, H y = none → H dx = none → dx ≠ y →
    spPInit K C CS CB CI CM [.ref y, .str (textP ps)] (upd (upd H dx (.own y)) y (.ins C dx [])) (fun v H2 => v = .non ∧ G y H2) E := by
  intro y dx hy hdx ne
  have hy' : upd H dx (.own y) y = none := by rw [upd_ne (Ne.symm ne)]; exact hy
  have s2 := (same_upd (o := .own y) hdx).trans (same_upd (o := .ins C dx []) hy')
  have e1 := partsOf_textP hk
  obtain ⟨e2, e3⟩ := rowsOf_known hk
  have hl : (textP ps).length ≤ 1000 := by
    have h1 := join_len " then " (ps.map (·.1))
    have h2 := sum20 hk
    rw [List.length_map, show (" then " : Str).length = 6 from rfl] at h1
    unfold textP
    omega
  refine ⟨y, dx, .str (textP ps), rfl, upd_same, .str _ hl, fun z => Bool.noConfusion z, fun x hx i hi => ?_, fun x hx hf m hm d H' s' hd e => ?_, fun x hx hf hb H' but pa => ?_⟩
  · cases hx
    rw [e1, e3] at hi
    cases hi
  · cases hx
    rw [e1, e2] at hm
    exact kE m hm d H' (s2.trans s') (s2.free hd) e
  · cases hx
    rw [e1, e2] at hb pa
    exact ⟨rfl, kQ hb y H' (fun c o e => but c o (s2 c o e) (fun z => by rw [z, hy] at e; cases e)) pa⟩
theorem ok_joined {f : Addr} {fd id : FuncData} (F : Fun K "joined" "joined" sJoined f fd) (J : TxtJ K mg C CS fPI) (GI : FnOk P w K mg base (L2.CX P w) 5 fPI id ["self", "text"] (spPInit K C CS CB CI CM)) (bI : Binds K id ["self", "text"] []) :
    FnOk P w K mg base (L2.CX P w) 7 f fd ["steps"] (spJoined K C CS CM) := by
  refine F.okX scJoined (fun vs H Q E h => ?_) (fun cdv A outer s H vs Q E hr h => ?_)
  · obtain ⟨l, xs, ps, rfl, _⟩ := h
    rfl
  · obtain ⟨l, xs, ps, rfl, hl, hS, hn, kE, kQ⟩ := h
    have nd := scJoined.nd
    have lx := hS.length
    have hk := hS.known
    rcases hl with hl | hl
    · refine ⟨_, (pss_one (ps_ret (pe_makeS J.mkr GI hr (by rfl) J.g bI (fun σ => passAt (takes_of rfl rfl rfl rfl) σ) (pa_cons (pe_join pe_str (pe_lc (own := [("step", 1)]) (g := (gName 1)) (tt := tYes) rfl nd (pi_list (pv 0)) (blkOk_by (own := [("step", 1)]) (N := ["steps", "step"]) (sc := defScope sJoined) (by decide +kernel)) (fun _ _ _ _ _ => (pg_name (i := 1) nd rfl (Or.inl rfl))) (fun _ _ _ _ _ => pts_nil) (fun _ _ _ _ _ => (show PE _ _ (tFld K (tVar 1) "text") from pe_fld (pv 1) rfl)))) pa_nil)))), ?_⟩
      refine ⟨⟨_, rfl⟩, _, rfl, l, rfl, ⟨xs, SqL.of hl⟩, fun D hD => ?_⟩
      refine lc_list (a := l) (xs := xs) (fun m H2 => Same H H2 ∧ H2 D = some (.lst ((ps.take m).map fun p => V.str p.1))) ⟨same_upd hD, upd_same⟩ (fun m H2 hm p => SqL.of (p.1 _ _ hl)) ?_ ?_
      · rintro m x H2 hx ⟨s2, e2⟩
        obtain ⟨a, p, ip, rfl, sa⟩ := (hS.same s2).get hx
        obtain ⟨dx, bv, tv, ea, _, _⟩ := sa.ex
        have et : ps.take (m + 1) = ps.take m ++ [p] := by
          rw [List.take_succ, ip]
          rfl
        refine ⟨rfl, _, rfl, a, CS, dx, _, _, rfl, ea, J.cs, J.nT, gText, _, e2, small200' (by rw [List.length_map, List.length_take]; omega), same_fresh hD s2, ?_⟩
        rw [upd_same, et, List.map_append]
        rfl
      · rintro H2 ⟨s2, e2⟩
        have e2 : H2 D = some (.lst ((ps.map (·.1)).map V.str)) := by
          rw [List.take_of_length_le (by omega)] at e2
          rw [List.map_map]
          exact e2
        have h2 := sum20 hk
        refine ⟨" then ", D, ps.map (·.1), rfl, rfl, .inl (SqL.of e2), by rw [List.length_map, show (" then " : Str).length = 6 from rfl]; omega, ?_⟩
        rw [TL.join_eq]
        exact make_prog hk hn (fun m hm d H' s' hd e => kE m hm d H' (s2.trans s') (s2.free hd) e) fun hb a H' s' pa => kQ hb a H' (s2.trans s') pa
    · refine ⟨_, (pss_one (ps_ret (pe_makeS J.mkr GI hr (by rfl) J.g bI (fun σ => passAt (takes_of rfl rfl rfl rfl) σ) (pa_cons (pe_join pe_str (pe_lc (own := [("step", 1)]) (g := (gName 1)) (tt := tYes) rfl nd (pi_tup (pv 0)) (blkOk_by (own := [("step", 1)]) (N := ["steps", "step"]) (sc := defScope sJoined) (by decide +kernel)) (fun _ _ _ _ _ => (pg_name (i := 1) nd rfl (Or.inl rfl))) (fun _ _ _ _ _ => pts_nil) (fun _ _ _ _ _ => (show PE _ _ (tFld K (tVar 1) "text") from pe_fld (pv 1) rfl)))) pa_nil)))), ?_⟩
      refine ⟨⟨_, rfl⟩, _, rfl, l, rfl, ⟨xs, SqT.of hl⟩, fun D hD => ?_⟩
      refine lc_tup (a := l) (xs := xs) (fun m H2 => Same H H2 ∧ H2 D = some (.lst ((ps.take m).map fun p => V.str p.1))) ⟨same_upd hD, upd_same⟩ (fun m H2 hm p => SqT.of (p.1 _ _ hl)) ?_ ?_
      · rintro m x H2 hx ⟨s2, e2⟩
        obtain ⟨a, p, ip, rfl, sa⟩ := (hS.same s2).get hx
        obtain ⟨dx, bv, tv, ea, _, _⟩ := sa.ex
        have et : ps.take (m + 1) = ps.take m ++ [p] := by
          rw [List.take_succ, ip]
          rfl
        refine ⟨rfl, _, rfl, a, CS, dx, _, _, rfl, ea, J.cs, J.nT, gText, _, e2, small200' (by rw [List.length_map, List.length_take]; omega), same_fresh hD s2, ?_⟩
        rw [upd_same, et, List.map_append]
        rfl
      · rintro H2 ⟨s2, e2⟩
        have e2 : H2 D = some (.lst ((ps.map (·.1)).map V.str)) := by
          rw [List.take_of_length_le (by omega)] at e2
          rw [List.map_map]
          exact e2
        have h2 := sum20 hk
        refine ⟨" then ", D, ps.map (·.1), rfl, rfl, .inl (SqL.of e2), by rw [List.length_map, show (" then " : Str).length = 6 from rfl]; omega, ?_⟩
        rw [TL.join_eq]
        exact make_prog hk hn (fun m hm d H' s' hd e => kE m hm d H' (s2.trans s') (s2.free hd) e) fun hb a H' s' pa => kQ hb a H' (s2.trans s') pa
end
end Aw

namespace Aw
open PySem PySem.Spec PyProof.Rows L2 NdefX
abbrev sPEq : Stmt := (inClass (top 21) 3)
abbrev sPLen : Stmt := (inClass (top 21) 4)
theorem pText {x : Str} {t : V} : (progF x t).lookup ("text" : Str) = some (.str x) := lk1
theorem pSteps {x : Str} {t : V} : (progF x t).lookup ("steps" : Str) = some t := (lkk (fun z => ne_ts z.symm)).trans lk1
def spPEq (K : PySem.W.Frag) (C CS : Addr) : Sp := fun vs H Q _ => ∃ (a : Addr) (y : V) (x : Str) (ps : List (Str × Row)), vs = [.ref a, y] ∧ ProgAt K C CS H a x ps ∧
  ((∃ (b : Addr) (x' : Str) (ps' : List (Str × Row)), y = .ref b ∧ ProgAt K C CS H b x' ps' ∧ Q (.bl (decide (x = x'))) H) ∨ (((∃ t, y = .str t) ∨ y = .non) ∧ Q (.bl false) H))
def spPLen (K : PySem.W.Frag) (C CS : Addr) : Sp := fun vs H Q _ => ∃ (a : Addr) (x : Str) (ps : List (Str × Row)), vs = [.ref a] ∧ ProgAt K C CS H a x ps ∧ Q (.int (ps.length : Nat)) H
section
variable {P : Program} {w : World} {K : PySem.W.Frag} {mg : Str → Option Value} {base : Heap} {C CS CI fB fPI : Addr}
theorem scPEq : FnScope ["self", "other"] ["self", "other"] (defScope sPEq) := ⟨rfl, rfl, rfl, by decide +kernel, rfl, by decide +kernel, by decide +kernel⟩
theorem dec_strs2 {x y : Str} : decide (V.str x = V.str y) = decide (x = y) := by
  by_cases e : x = y
  · rw [decide_eq_true e, decide_eq_true (by rw [e])]
  · rw [decide_eq_false e, decide_eq_false (fun z => e (V.str.inj z))]
theorem ok_peq {f : Addr} {fd : FuncData} (F : Fun K "__eq__" "Program.__eq__" sPEq f fd) (J : TxtJ K mg C CS fPI) (cl : Cls K C) (nT : NoAttr K C "text") (Te : TxtE K C) (isi : mg "isinstance" = none) : FnOk P w K mg base CX0 1 f fd ["self", "other"] (spPEq K C CS) := by
  refine F.ok scPEq (fun vs H Q E h => ?_) (fun cdv A outer s H vs Q E hr h => ?_)
  · obtain ⟨a, y, x, r, rfl, _⟩ := h
    rfl
  · obtain ⟨a, y, x, r, rfl, sa, h⟩ := h
    have nd := scPEq.nd
    refine ⟨_, (pss_one (ps_ret (pe_and (pe_callB call_isi (by rfl) isi (by decide +kernel) (pa_cons (pv 1) (pa_cons (pe_glob (v := .ref C) (by rfl) J.g rfl) pa_nil))) (pe_one (pe_cmpR op_eq (pe_fld (pv 0) rfl) (pe_fld (pv 1) rfl) (nomark _)))))), ?_⟩
    obtain ⟨dx, tv, xs, ea, _, _⟩ := sa.ex
    rcases h with ⟨b, x', r', rfl, sb, hq⟩ | ⟨hy, hq⟩
    · obtain ⟨dx', tv', xs', eb, _, _⟩ := sb.ex
      refine ⟨_, rfl, .ref b, .ref C, .ref C, .ref C, true, rfl, .own _, .base (.ins eb cl Te.ha Te.hn Te.ht Te.hm), Te.me, _, rfl, ?_⟩
      refine iteT ?_
      refine ⟨_, rfl, a, C, dx, _, _, rfl, ea, cl, nT, pText, _, rfl, b, C, dx', _, _, rfl, eb, cl, nT, pText, rfl, ?_⟩
      rw [dec_strs2]
      exact hq
    · rcases hy with ⟨t, rfl⟩ | rfl
      · refine ⟨_, rfl, .str t, .ref C, .type "str", .ref C, false, rfl, .own _, .base (.str t), Te.nS, _, rfl, ?_⟩
        exact iteF hq
      · refine ⟨_, rfl, .non, .ref C, .type "NoneType", .ref C, false, rfl, .own _, .base .non, Te.nN, _, rfl, ?_⟩
        exact iteF hq
theorem scPLen : FnScope ["self"] ["self"] (defScope sPLen) := ⟨rfl, rfl, rfl, by decide +kernel, rfl, by decide +kernel, by decide +kernel⟩
theorem ok_plen {f : Addr} {fd : FuncData} (F : Fun K "__len__" "Program.__len__" sPLen f fd) (cl : Cls K C) (nS : NoAttr K C "steps") (ln : mg "len" = none) : FnOk P w K mg base CX0 1 f fd ["self"] (spPLen K C CS) := by
  refine F.ok scPLen (fun vs H Q E h => ?_) (fun cdv A outer s H vs Q E hr h => ?_)
  · obtain ⟨a, x, r, rfl, _⟩ := h
    rfl
  · obtain ⟨a, x, ps, rfl, sa, hq⟩ := h
    have nd := scPLen.nd
    refine ⟨_, (pss_one (ps_ret (pe_callB call_len_seq (by rfl) ln PySem.boot_len (pa_cons (pe_fld (pv 0) rfl) pa_nil)))), ?_⟩
    obtain ⟨dx, tv, xs, ea, et, st⟩ := sa.ex
    have lx := st.length
    refine ⟨_, rfl, a, C, dx, _, _, rfl, ea, cl, nS, pSteps, tv, xs, rfl, .inr (SqT.of et), ?_⟩
    rw [lx]
    exact hq
end
end Aw

namespace Aw
open PySem PySem.Spec PyProof.Rows L2 NdefX
abbrev sNum : Stmt := (top 8)
/-- an integer from lo to hi, no bool -/
def numB (v : V) (lo hi : Int) : Bool := match v with
  | .int i => decide (lo ≤ i) && decide (i ≤ hi)
  | _ => false
def isIB : V → Bool
  | .int _ => true
  | .bl _ => true
  | _ => false
def isBB : V → Bool
  | .bl _ => true
  | _ => false
theorem VOk.ty {K : PySem.W.Frag} {H : Hp} {v : V} (h : VOk H v) : ∃ t, TyX K H v t ∧ PySem.W.kitOne K t (.type "int") = some (isIB v) ∧ PySem.W.kitOne K t (.type "bool") = some (isBB v) := by
  cases h with
  | str x h => exact ⟨_, .base (.str x), kit_ty (show kitB "str" "int" = some false by decide +kernel), kit_ty (show kitB "str" "bool" = some false by decide +kernel)⟩
  | non => exact ⟨_, .base .non, kit_ty (show kitB "NoneType" "int" = some false by decide +kernel), kit_ty (show kitB "NoneType" "bool" = some false by decide +kernel)⟩
  | bl b => exact ⟨_, .base (.bl b), kit_ty (show kitB "bool" "int" = some true by decide +kernel), kit_ty (show kitB "bool" "bool" = some true by decide +kernel)⟩
  | int i => exact ⟨_, .base (.int i), kit_ty (show kitB "int" "int" = some true by decide +kernel), kit_ty (show kitB "int" "bool" = some false by decide +kernel)⟩
  | lst h => exact ⟨_, .base (.lst h), kit_ty (show kitB "list" "int" = some false by decide +kernel), kit_ty (show kitB "list" "bool" = some false by decide +kernel)⟩
  | tup h => exact ⟨_, .base (.tup h), kit_ty (show kitB "tuple" "int" = some false by decide +kernel), kit_ty (show kitB "tuple" "bool" = some false by decide +kernel)⟩
  | dct h => exact ⟨_, .base (.dK h), kit_ty (show kitB "dict" "int" = some false by decide +kernel), kit_ty (show kitB "dict" "bool" = some false by decide +kernel)⟩
def spNum : Sp := fun vs H Q _ => ∃ (v : V) (lo hi : Int), vs = [v, .int lo, .int hi] ∧ VOk H v ∧ Q (.bl (numB v lo hi)) H
section
variable {P : Program} {w : World} {K : PySem.W.Frag} {mg : Str → Option Value} {base : Heap}
theorem scNum : FnScope ["value", "low", "high"] ["value", "low", "high"] (defScope sNum) := ⟨rfl, rfl, rfl, by decide +kernel, rfl, by decide +kernel, by decide +kernel⟩
theorem ok_num {f : Addr} {fd : FuncData} (F : Fun K "is_number" "is_number" sNum f fd) (isi : mg "isinstance" = none) (gI : mg "int" = none) (gB : mg "bool" = none) : FnOk P w K mg base CX0 1 f fd ["value", "low", "high"] spNum := by
  refine F.ok scNum (fun vs H Q E h => ?_) (fun cdv A outer s H vs Q E hr h => ?_)
  · obtain ⟨v, lo, hi, rfl, _⟩ := h
    rfl
  · obtain ⟨v, lo, hi, rfl, hv, hQ⟩ := h
    have nd := scNum.nd
    refine ⟨_, (pss_one (ps_ret (pe_and (pe_callB call_isi (by rfl) isi (by decide +kernel) (pa_cons (pv 0) (pa_cons (pe_bltn (v := .ty "int") (by rfl) gI (by decide +kernel) rfl) pa_nil))) (pe_and (pe_not (pe_callB call_isi (by rfl) isi (by decide +kernel) (pa_cons (pv 0) (pa_cons (pe_bltn (v := .ty "bool") (by rfl) gB (by decide +kernel) rfl) pa_nil)))) (pe_one (pe_chain op_le op_le (pv 1) (pv 0) (pv 2))))))), ?_⟩
    obtain ⟨t, ty, kI, kB⟩ := hv.ty (K := K)
    refine ⟨_, rfl, v, .ty "int", t, .type "int", isIB v, rfl, .ty _, ty, kI, _, rfl, ?_⟩
    cases hv with
    | int i =>
      refine iteT ?_
      refine ⟨_, rfl, .int i, .ty "bool", t, .type "bool", false, rfl, .ty _, ty, kB, _, rfl, _, rfl, ?_⟩
      refine iteT ?_
      refine ⟨_, rfl, _, rfl, lo, i, rfl, rfl, _, rfl, ?_⟩
      change Q (.bl (decide (lo ≤ i) && decide (i ≤ hi))) H at hQ
      refine ite_dec (fun h => ?_) (fun h => ?_)
      · refine ⟨_, rfl, i, hi, rfl, rfl, ?_⟩
        rw [decide_eq_true h, Bool.true_and] at hQ
        exact hQ
      · rw [decide_eq_false h, Bool.false_and] at hQ
        exact hQ
    | bl b =>
      refine iteT ?_
      refine ⟨_, rfl, .bl b, .ty "bool", t, .type "bool", true, rfl, .ty _, ty, kB, _, rfl, _, rfl, ?_⟩
      exact iteF hQ
    | _ => exact iteF hQ
end
end Aw

namespace Aw
open PySem PySem.Spec PyProof.Rows L2 NdefX
abbrev sPGet : Stmt := (inClass (top 21) 5)
def spPGet (K : PySem.W.Frag) (C CS CN : Addr) : Sp := fun vs H Q E => ∃ (a : Addr) (v : V) (x : Str) (ps : List (Str × Row)), vs = [.ref a, v] ∧ ProgAt K C CS H a x ps ∧ VOk H v ∧ ps.length ≤ 1000 ∧
  (numB v 0 ((ps.length : Nat) - 1) = false → ∀ d H', Same H H' → H d = none → H' d = some (.xd [("number", v)]) → E (.ref CN) (some d) H') ∧
  (∀ (i : Nat) p b, v = .int (i : Nat) → ps[i]? = some p → StepAt K CS H b p.1 p.2 → Q (.ref b) H)
section
variable {P : Program} {w : World} {K : PySem.W.Frag} {mg : Str → Option Value} {base : Heap} {C CS CN fNum : Addr}
theorem scPGet : FnScope ["self", "at"] ["self", "at"] (defScope sPGet) := ⟨rfl, rfl, rfl, by decide +kernel, rfl, by decide +kernel, by decide +kernel⟩
theorem ok_pget {f : Addr} {fd nd' : FuncData} (F : Fun K "__getitem__" "Program.__getitem__" sPGet f fd) (cl : Cls K C) (nS : NoAttr K C "steps") (ln : mg "len" = none) (En : Err P K mg "BadNumber" "number" "number" CN)
    (FNum : Fun K "is_number" "is_number" sNum fNum nd') (bNum : Binds K nd' ["value", "low", "high"] []) (gNum : mg "is_number" = some (.ref fNum)) (isi : mg "isinstance" = none) (gI : mg "int" = none) (gB : mg "bool" = none) : FnOk P w K mg base (L2.CX P w) 3 f fd ["self", "at"] (spPGet K C CS CN) := by
  have GNum : FnOk P w K mg base CX0 1 fNum nd' ["value", "low", "high"] spNum := ok_num FNum isi gI gB
  refine F.okX scPGet (fun vs H Q E h => ?_) (fun cdv A outer s H vs Q E hr h => ?_)
  · obtain ⟨a, v, x, r, rfl, _⟩ := h
    rfl
  · obtain ⟨a, v, x, ps, rfl, sa, hv, hn, kE, kQ⟩ := h
    have nd := scPGet.nd
    refine ⟨_, (pss_cons (ps_if (pt_not (pt_val (pe_call GNum (hr.mono (by decide)) (by rfl) gNum FNum.kp bNum .nil pass0 (pa_cons (pv 1) (pa_cons pe_int (pa_cons (pe_op op_sub (pe_callB call_len_seq (by rfl) ln PySem.boot_len (pa_cons (pe_fld (pv 0) rfl) pa_nil)) pe_int) pa_nil))))))
        (pss_one (ps_raise rfl (takes_of rfl rfl rfl rfl) (pmk_err En hr (by rfl) (pa_cons (pv 1) pa_nil)))) pss_nil)
      (pss_one (ps_ret (pe_ix ix_tup (pe_fld (pv 0) rfl) (pv 1) (fun _ _ => rfl))))), ?_⟩
    obtain ⟨dx, tv, xs, ea, et, st⟩ := sa.ex
    have lx := st.length
    refine ⟨_, rfl, _, rfl, a, C, dx, _, _, rfl, ea, cl, nS, pSteps, tv, xs, rfl, .inr (SqT.of et), (xs.length : Int), 1, rfl, rfl, v, 0, (xs.length : Int) - 1, rfl, hv, _, rfl, ?_⟩
    rw [lx]
    cases hb : numB v 0 ((ps.length : Nat) - 1) with
    | false =>
      refine iteT ?_
      refine ⟨_, rfl, mkS_ans fun d hd => ?_⟩
      exact kE hb d _ (same_upd hd) hd upd_same
    | true =>
      refine iteF ?_
      cases v with
      | int i =>
        have hb : (decide (0 ≤ i) && decide (i ≤ (ps.length : Nat) - 1)) = true := hb
        rw [Bool.and_eq_true, decide_eq_true_eq, decide_eq_true_eq] at hb
        obtain ⟨j, rfl⟩ : ∃ j : Nat, i = (j : Int) := ⟨i.toNat, by omega⟩
        have hj : j < xs.length := by omega
        obtain ⟨u, hu⟩ : ∃ u, xs[j]? = some u := ⟨xs[j], List.getElem?_eq_getElem hj⟩
        obtain ⟨b, p, ip, rfl, sb⟩ := st.get hu
        refine ⟨_, rfl, a, C, dx, _, _, rfl, ea, cl, nS, pSteps, _, rfl, tv, xs, _, _, rfl, rfl, SqT.of et, atI_nat hu, ?_⟩
        exact kQ j p b rfl ip sb
      | _ => cases hb
end
end Aw

namespace Aw
open PySem PySem.Spec PyProof.Rows L2 NdefX
/-! ### enumerate(tuple) -/
set_option maxHeartbeats 4000000 in
theorem meets_enum1 {v : Value} {o : Obj} {G : Heap → Prop} (B : Begins v o G) :
    Meets (Builtin.«enumerate.__new__» ⟨[.type "enumerate", v], []⟩) (fun _ R s => G s.heap ∧
      R (.ok (.ret (.ref (s.heap.push o).objs.size))) { s with heap := (s.heap.push o).push { cls := .type "enumerate", data := .fields #[.none, .bool false, .ref s.heap.objs.size, rawInt 0, .none, .none] } }) :=
  .of_wp fun prog w A R s h => by
    obtain ⟨hp, g, d, tk, os⟩ := s; obtain ⟨h1, h⟩ := h
    have hsub := sub_enumerate
    have q1 : ∀ {A' : Around} {E : Value → Shared → Prop} {Q : Value → Shared → Prop}, Q (.ref hp.objs.size) ⟨hp.push o, g, d, tk, os⟩ → wpAny (model prog w) A' (pyIter v) Q E ⟨hp, g, d, tk, os⟩ :=
      fun q => B.iter prog w _ _ ⟨hp, g, d, tk, os⟩ _ h1 q
    wp_walk using q1
    refine wpAny_stack_any fun st => wpAny_pure ?_
    split
    · rename_i c _ _ _ _ _
      cases (c == Value.type "enumerate")
      · wp_walk using q1
        exact ⟨_, rfl, h⟩
      · wp_walk using q1
        exact ⟨_, rfl, h⟩
    · wp_walk using q1
      exact ⟨_, rfl, h⟩
theorem enum_begins1 {prog : Program} {w : World} {A : Around} {E : Value → Shared → Prop} {s : Shared} {v : Value} {o : Obj} {G : Heap → Prop} {Q : Value → Shared → Prop} (B : Begins v o G) (h1 : G s.heap)
    (h : ∀ h', IsEnum h' (s.heap.objs.size + 1) s.heap.objs.size 0 .none → h'.get? s.heap.objs.size = some o → h'.objs.size = s.heap.objs.size + 2 →
      (∀ b o, s.heap.get? b = some o → h'.get? b = some o) → Q (.ref (s.heap.objs.size + 1)) { s with heap := h' }) :
    wpAny (model prog w) A (call (.type "enumerate") [v]) Q E s := by
  refine callType_new F.called_enumerate (by decide) (F.typeCall_enumerate_1 _) (F.newCall_enumerate_1 _) (fun obj => F.args_object_init_2 obj _) F.entry_enumerate_new (meets_enum1 B) ⟨h1, ?_⟩
  have hz : (s.heap.push o).objs.size = s.heap.objs.size + 1 := Heap.size_push ..
  show _ ∧ _
  rw [hz]
  have he : IsEnum ((s.heap.push o).push { cls := .type "enumerate", data := .fields #[.none, .bool false, .ref s.heap.objs.size, rawInt 0, .none, .none] }) (s.heap.objs.size + 1) s.heap.objs.size 0 .none := by
    have := Heap.get?_push_size (s.heap.push o) (o := { cls := .type "enumerate", data := .fields #[.none, .bool false, .ref s.heap.objs.size, rawInt 0, .none, .none] }) rfl
    rw [hz] at this; exact this
  refine ⟨⟨_, he, rfl⟩, h _ he (Heap.get?_push_of_some _ (Heap.get?_push_size _ B.free)) (by rw [Heap.size_push, hz]) fun b o x => Heap.get?_push_of_some _ (Heap.get?_push_of_some _ x)⟩
def Itu (K : PySem.W.Frag) (a : Addr) : It :=
  ⟨fun i H => ∃ (xs : List V) (x : V), SqT K H a xs ∧ xs[i]? = some x, fun i H v H' => ∃ T x, v = .ref T ∧ H T = none ∧ H' = upd H T (.tup [.int (i : Nat), x]) ∧ ∀ xs, SqT K H a xs → xs[i]? = some x, fun i H => ∃ xs : List V, SqT K H a xs ∧ xs.length ≤ i⟩
theorem tup_apart {h : Heap} {a it : Addr} {items : Array Value} {i : Nat} (p : h.IsTuple a items) (q : h.IsTupleIter it a i) : a ≠ it := fun e => by
  subst e
  obtain ⟨o, ho, hc, _⟩ := p
  obtain ⟨o', ho', hc', _⟩ := q
  rw [ho] at ho'
  cases ho'
  rw [hc] at hc'
  exact absurd (Value.type.inj hc') (by decide)
theorem enum_apart {h : Heap} {a e it : Addr} {items : Array Value} {i : Int} {old : Value} (p : h.IsTuple a items) (q : IsEnum h e it i old) : e ≠ a := fun z => by
  subst z
  obtain ⟨o, ho, hc, _⟩ := p
  have q : h.get? e = some _ := q
  rw [ho] at q
  cases q
  exact absurd (Value.type.inj hc) (by decide)
theorem enum_endT {prog : Program} {w : World} {A : Around} {E : Value → Shared → Prop} {s : Shared} {e it l : Addr} {i : Nat} {items : Array Value} {old : Value} {Q : Option Value → Shared → Prop} (hh : A.handled = none)
    (he : IsEnum s.heap e it i old) (hit : s.heap.IsTupleIter it l i) (hl : s.heap.IsTuple l items) (hx : items[i]? = none)
    (hQ : ∀ h', Heap.ExtBut it s.heap h' → Q none { s with heap := h' }) : wpAny (model prog w) A (pyNext (.ref e)) Q E s := by
  have hT : s.TypeIs (.ref e) "enumerate" := ⟨_, he, rfl⟩
  unfold pyNext
  refine wpAny_bind (wpAny_attempt (wpAny_callSpecial?_slot (name := Str.ofString "__next__") hT F.slot_enumerate_next
    (wpAny_call_entry F.slot_enumerate_next hT F.entry_enumerate_next ?_ (F.args_enumerate_next_1 _))))
  show wpAny _ _ (field (.ref e) 2 >>= _) _ _ _
  refine wpAny_bind (wpAny_field he rfl (x := .ref it) rfl ?_)
  refine wpAny_bind (wpAny_nextOf_tuple_end hh hit hl hx fun h' x he' hx' => ?_)
  obtain ⟨o, ho, hc⟩ := hx'
  refine wpAny_bind (wpAny_isInstance (T := "StopIteration") (b := true) ⟨o, ho, hc⟩ isSubtype_stop ?_)
  exact wpAny_pure (hQ _ he')
theorem turn_enumT {P : Program} {w : World} {K : PySem.W.Frag} {elts : List Expr} {kk : Nat} {tpos : Pos} (a e it : Addr) :
    Turn P w K (.Tuple elts kk tpos) (Itu K a) [e, it] e (fun i h => (∃ old, IsEnum h e it ((i : Nat) : Int) old) ∧ h.IsTupleIter it a i ∧ e ≠ it) where
  mem := by simp
  obj := fun i h st b hb => by
    obtain ⟨⟨old, he⟩, ⟨o, ho, hc, hd⟩, _⟩ := st
    have e' : b = e ∨ b = it := by simpa using hb
    rcases e' with z | z
    · rw [z]; exact ⟨_, he, fun v q => nomatch q⟩
    · rw [z]; exact ⟨o, ho, fun v q => by rw [hd] at q; cases q⟩
  keep := fun i h h' st k => let ⟨⟨old, he⟩, hi, hne⟩ := st; ⟨⟨old, k e (by simp) _ he⟩, hi.at fun o q => k it (by simp) o q, hne⟩
  item := by
    intro X hP hw hK hc i pins s σ H E I hf st hg
    subst hP hw hK
    obtain ⟨⟨old, he⟩, hit, hne⟩ := st
    obtain ⟨xs, x, hq, hx⟩ := hg
    obtain ⟨its, rv, p, hz⟩ := I.tuple hq
    obtain ⟨u, hu, ru⟩ := rv.get hx
    have p : s.heap.IsTuple a its.toArray := p
    have hel : e < s.heap.objs.size := Heap.lt_size he
    have hil : it < s.heap.objs.size := by obtain ⟨_, q, _⟩ := hit; exact Heap.lt_size q
    have hai := tup_apart p hit
    have hea := enum_apart p he
    have hlt : i < its.toArray.size := by
      have := (List.getElem?_eq_some_iff.mp hu).1
      simpa using this
    refine wpAny_pyNext_enum_itemD (Draws.tuple (show X.A.in1.handled = none from I.ok.hd hc) it a hai its.toArray) he ⟨hit, p⟩ hlt hne (by simp [hne, hea]) fun y h' tk hy ho hst' hT hsz hk => ?_
    have ey : y = u := by
      have hy : its.toArray[i]? = some y := hy
      have hu' : its.toArray[i]? = some u := by simpa using hu
      rw [hu'] at hy
      exact (Option.some.inj hy).symm
    subst ey
    obtain ⟨hit', p'⟩ := hst'
    refine ⟨_, rfl, wpAny_letOwnedTupleGo_enum (s := { s with heap := h', toks := tk + 1 }) ho fun h'' he' sb => ?_⟩
    have hT2 : h''.get? s.heap.objs.size = some { cls := .type "tuple", data := .seq #[.int i tk, y] } := (sb.2 _ (Nat.ne_of_gt hel)).trans hT
    have new : ObjOk X.prog X.w (upd H s.heap.objs.size (.tup [.int (i : Nat), x])) h'' s.heap.objs.size (.tup [.int (i : Nat), x]) :=
      ⟨by show 2 ≤ sizeLine; decide, [.int i tk, y], .cons ⟨_, rfl⟩ (.cons ru .nil), ⟨_, hT2, rfl, _, rfl⟩⟩
    have I1 : Inv X pins σ (upd H s.heap.objs.size (.tup [.int (i : Nat), x])) { s with heap := h'', toks := tk + 1 } :=
      I.turnedNew (ch := [e, it]) (fun b ob hb q => (sb.2 b (fun z => hb (by simp [z]))).trans (hk b ob (fun z => hb (by simp [z])) (fun z => hb (by simp [z])) q)) hf (Nat.le_refl _) new
    refine ⟨.ref s.heap.objs.size, _, I1, rfl, ⟨_, x, rfl, I.hok.fresh (Nat.le_refl _), rfl, fun ys hy => by rw [I.tuple_inj hy hq]; exact hx⟩, ⟨⟨y, ?_⟩, hit'.at fun o q => (sb.2 it (Ne.symm hne)).trans q, hne⟩, fun b hb => ?_⟩
    · have e1 : ((i + 1 : Nat) : Int) = (i : Int) + 1 := by omega
      rw [e1]; exact he'
    · have hb' : b < s.heap.objs.size := by
        have e' : b = e ∨ b = it := by simpa using hb
        rcases e' with z | z
        · rw [z]; exact hel
        · rw [z]; exact hil
      rw [upd_ne (Nat.ne_of_lt hb')]
      exact (hf b hb).1
  done := by
    intro X hP hw hK hc i pins s σ H E I hf st hg
    subst hP hw hK
    obtain ⟨⟨old, he⟩, hit, hne⟩ := st
    obtain ⟨xs, hq, hx⟩ := hg
    obtain ⟨its, rv, p, hz⟩ := I.tuple hq
    obtain ⟨f0, f1, f2, f3, f4, f5⟩ := hf it (by simp)
    have p : s.heap.IsTuple a its.toArray := p
    have hl := rv.length
    exact enum_endT (I.ok.hd hc) he hit p (by simp; omega) fun h' eb => ⟨rfl, I.turned (t' := s.toks) (fun b o hb q => eb b o hb q) f0 f1 f3 f4 f5⟩
  self := fun A i s Q E st h => let ⟨⟨_, he⟩, _⟩ := st; wpAny_pyIter_enum he h
def iEnumT (K : PySem.W.Frag) (ta : TA) : TI := fun σ H R => ta σ H fun vs H1 => ∃ a xs, vs = [.ref a] ∧ SqT K H1 a xs ∧ R (Itu K a) H1
theorem pi_enumT {X : Cx} {e : Expr} {ta : TA} {p pos tpos : Pos} {elts : List Expr} {kk : Nat} (hg : Gl X "enumerate") (hm : X.mg "enumerate" = none) (ha : PA X [e] ta) (hs : starEach [e] X.env = [(false, eval e X.env)] := by rfl) :
    PI X (.Tuple elts kk tpos) (.Call (.Name "enumerate" p) [e] [] pos) (iEnumT X.K ta) := by
  refine ⟨fun pins s σ H R I h => ?_⟩
  refine Call_ (ld_blt I hg hm boot_enumerate (PyProof.Rows.callWith_type1 (thn (ha.run pos pins s σ H _ I h) fun us s1 ⟨vs, H1, I1, r1, q1⟩ => ?_) hs rfl))
  obtain ⟨a, xs, ex, hq, q⟩ := q1
  subst ex
  cases r1 with
  | cons r rr =>
    cases rr
    cases r
    obtain ⟨its, rv, p', hz⟩ := I1.tuple hq
    refine enum_begins1 (begins_tuple a its.toArray) p' fun h' he hi hsz hk => wpAny_pyIter_enum he ?_
    have I2 : Inv X pins σ H1 { s1 with heap := h' } := I1.kept (t' := s1.toks) hk
    refine ⟨s1.heap.objs.size + 1, [s1.heap.objs.size + 1, s1.heap.objs.size], _, _, H1, rfl, I2, turn_enumT a (s1.heap.objs.size + 1) s1.heap.objs.size, ⟨⟨.none, he⟩, ⟨_, hi, rfl, rfl⟩, Nat.succ_ne_self _⟩, fun b hb => ?_, q⟩
    have e' : b = s1.heap.objs.size + 1 ∨ b = s1.heap.objs.size := by simpa using hb
    have hle : s1.heap.objs.size ≤ b := by
      rcases e' with z | z
      · rw [z]; exact Nat.le_add_right _ _
      · rw [z]; exact Nat.le_refl _
    exact I1.fpOk hle (I1.hok.fresh hle)
theorem for_enumT {K : PySem.W.Frag} {a : Addr} {xs : List V} {g : TG} {tb : TS} {D : Ends} {σ : Aw.St} {H : Hp} (Pv : Nat → Aw.St → Hp → Prop) (h0 : Pv 0 σ H) (hl : ∀ i σ H, i ≤ xs.length → Pv i σ H → SqT K H a xs)
    (hs : ∀ i x σ H T, xs[i]? = some x → Pv i σ H → H T = none → g (.ref T) σ (upd H T (.tup [.int (i : Nat), x])) fun σ2 H2 => tb { D with nx := Pv (i + 1), ct := Pv (i + 1), bk := D.nx } σ2 H2)
    (hd : ∀ σ H, Pv xs.length σ H → D.nx σ H) : tFor (fun _ H R => R (Itu K a) H) g tb D σ H := by
  refine ⟨fun i m σ H => m = xs.length - i ∧ i ≤ xs.length ∧ Pv i σ H, ⟨xs.length, by simp, Nat.zero_le _, h0⟩, ?_⟩
  rintro i m σ H ⟨rfl, hi, p⟩
  have q := hl i σ H hi p
  by_cases hlt : i < xs.length
  · refine .inr ⟨⟨xs, xs[i], q, by simp [hlt]⟩, Pv (i + 1), fun σ' H' p' => ⟨xs.length - (i + 1), by omega, rfl, hlt, p'⟩, fun x H' y => ?_⟩
    obtain ⟨T, y, rfl, hT, rfl, hy⟩ := y
    exact hs i y σ H T (hy xs q) p hT
  · have e : i = xs.length := by omega
    subst e
    exact .inl ⟨⟨xs, q, Nat.le_refl _⟩, hd σ H p⟩
end Aw

namespace Aw
open PySem PySem.Spec PyProof.Rows L2 NdefX
abbrev sOf : Stmt := (inClass (top 21) 1)
theorem tyX_same {K : PySem.W.Frag} {H H' : Hp} {v : V} {t : Value} (s : Same H H') (h : TyX K H v t) : TyX K H' v t := by
  cases h with
  | base b =>
    refine .base ?_
    cases b with
    | non => exact .non
    | bl x => exact .bl x
    | int i => exact .int i
    | str x => exact .str x
    | flt x => exact .flt x
    | lst e => exact .lst (s _ _ e)
    | frz e => exact .frz (s _ _ e)
    | tup e => exact .tup (s _ _ e)
    | dK e => exact .dK (s _ _ e)
    | dT e => exact .dT (s _ _ e)
    | ins e cl ha hn ht hm => exact .ins (s _ _ e) cl ha hn ht hm
  | byt b => exact .byt b
  | set e => exact .set (s _ _ e)
  | kList e c => exact .kList e c
  | kTuple e c => exact .kTuple e c
  | kDict e c => exact .kDict e c
  | fTuple e => exact .fTuple (s _ _ e)
  | fDict e => exact .fDict (s _ _ e)
/-- v is no Step -/
def NoStep (K : PySem.W.Frag) (CS : Addr) (H : Hp) (v : V) : Prop := ∃ t, TyX K H v t ∧ PySem.W.kitOne K t (.ref CS) = some false
def IsStep (K : PySem.W.Frag) (CS : Addr) (H : Hp) (v : V) (p : Str × Row) : Prop := ∃ a, v = .ref a ∧ StepAt K CS H a p.1 p.2
/-- the first ones are Steps, what is behind them is not -/
structure BadOf (K : PySem.W.Frag) (CS : Addr) (H : Hp) (xs : List V) (i : Nat) : Prop where
  pre : ∀ j v, j < i → xs[j]? = some v → ∃ p, IsStep K CS H v p
  bad : ∃ v, xs[i]? = some v ∧ NoStep K CS H v
def spOf (K : PySem.W.Frag) (C CS CI CM : Addr) : Sp := fun vs H Q E => ∃ (l : Addr) (xs : List V), vs = [.ref C, .ref l] ∧ (H l = some (.lst xs) ∨ H l = some (.tup xs)) ∧ xs.length ≤ 30 ∧
  ((∃ i, BadOf K CS H xs i ∧ ∀ d H', Same H H' → H d = none → H' d = some (.xd [("index", .int (i : Nat))]) → E (.ref CI) (some d) H') ∨
   (∃ ps, StepsAt K CS H xs ps ∧ (∀ m, boundsE ps = some m → ∀ d H', Same H H' → H d = none → H' d = some (.xd [("most", .int m)]) → E (.ref CM) (some d) H') ∧
     (boundsE ps = none → ∀ a H', Same H H' → ProgAt K C CS H' a (textP ps) ps → Q (.ref a) H')))
section
variable {P : Program} {w : World} {K : PySem.W.Frag} {mg : Str → Option Value} {base : Heap} {C CS CB CI CM fPI fB fJ : Addr}
theorem scOf : FnScope ["cls", "steps", "index", "step"] ["cls", "steps"] (defScope sOf) := ⟨rfl, rfl, rfl, by decide +kernel, rfl, by decide +kernel, by decide +kernel⟩
theorem ok_of {f : Addr} {fd jd : FuncData} (F : Fun K "of" "Program.of" sOf f fd) (R : TxtR P K mg C CI fB) (gS : mg "Step" = some (.ref CS)) (clS : Cls K CS) (TS : TxtE K CS) (FJ : Fun K "joined" "joined" sJoined fJ jd) (bJ : Binds K jd ["steps"] []) (gJ : mg "joined" = some (.ref fJ))
    (GJ : FnOk P w K mg base (L2.CX P w) 7 fJ jd ["steps"] (spJoined K C CS CM)) : FnOk P w K mg base (L2.CX P w) 8 f fd ["cls", "steps"] (spOf K C CS CI CM) := by
  refine F.okX scOf (fun vs H Q E h => ?_) (fun cdv A outer s H vs Q E hr h => ?_)
  · obtain ⟨l, xs, rfl, _⟩ := h
    rfl
  · obtain ⟨l, xs, rfl, hl, hn, h⟩ := h
    have nd := scOf.nd
    -- one turn of the loop
    have isS : ∀ {H1 : Hp} {v : V} {p : Str × Row}, IsStep K CS H1 v p → TyX K H1 v (.ref CS) := fun ⟨a, e, sa⟩ => by
      obtain ⟨dx, bv, tv, ea, _, _⟩ := sa.ex
      rw [e]
      exact .base (.ins ea clS TS.ha TS.hn TS.ht TS.hm)
    rcases hl with hl | hl
    · refine ⟨_, (pss_cons (ps_for (passes_of rfl) rfl (pi_enum (by rfl) R.enum (pa_cons (pv 1) pa_nil)) (pg_tup rfl (pgs_cons (pg_name (i := 2) nd rfl (Or.inl rfl)) (pgs_cons (pg_name (i := 3) nd rfl (Or.inl rfl)) pgs_nil)))
        (pss_one (ps_if (pt_not (pt_val (pe_callB call_isi (by rfl) R.isi (by decide +kernel) (pa_cons (pv 3) (pa_cons (pe_glob (v := .ref CS) (by rfl) gS rfl) pa_nil)))))
          (pss_one (ps_raise rfl (takes_of rfl rfl rfl rfl) (pmk_err R.bi (hr.mono (by decide)) (by rfl) (pa_cons (pv 2) pa_nil)))) pss_nil)))
      (pss_one (ps_ret (pe_callS GJ hr (by rfl) gJ FJ.kp bJ (fun σ => passAt (takes_of rfl rfl rfl rfl) σ) (pa_cons (pv 1) pa_nil))))), ?_⟩
      refine ⟨_, rfl, l, xs, rfl, SqL.of hl, ?_⟩
      rcases h with ⟨i, hb, kE⟩ | ⟨ps, hS, kE, kQ⟩
      · obtain ⟨v, hv, t, ty, kt⟩ := hb.bad
        refine for_enum (a := l) (xs := xs) (fun j σ H3 => ∃ (v4 v5 : Option V), σ = [some (.ref C), some (.ref l), v4, v5] ∧ Same H H3 ∧ j ≤ i) ⟨none, none, rfl, fun _ _ e => e, Nat.zero_le _⟩ (fun j σ H3 hj p => by
          obtain ⟨_, _, _, s3, _⟩ := p
          exact SqL.of (s3 _ _ hl)) ?_ ?_
        · rintro j y σ H3 T hy ⟨v4, v5, rfl, s3, hj⟩ hT
          have s4 := s3.trans (same_upd (o := .tup [.int (j : Nat), y]) hT)
          refine ⟨T, _, rfl, SqT.of upd_same, rfl, _, _, rfl, _, _, rfl, rfl, ?_⟩
          rcases Nat.lt_or_ge j i with h | h
          · obtain ⟨p, hp⟩ := hb.pre j y h hy
            refine ⟨_, rfl, y, .ref CS, .ref CS, .ref CS, true, rfl, .own _, tyX_same s4 (isS hp), TS.me, _, rfl, ?_⟩
            refine iteF ?_
            exact ⟨_, _, rfl, s4, h⟩
          · have e : j = i := by omega
            subst e
            rw [hv] at hy
            cases hy
            refine ⟨_, rfl, v, .ref CS, t, .ref CS, false, rfl, .own _, tyX_same s4 ty, kt, _, rfl, ?_⟩
            refine iteT ?_
            refine ⟨_, rfl, mkS_ans fun d hd => ?_⟩
            exact kE d _ (s4.trans (same_upd hd)) (s4.free hd) upd_same
        · rintro σ H3 ⟨v4, v5, rfl, s3, hj⟩
          have := (List.getElem?_eq_some_iff.mp hv).1
          omega
      · refine for_enum (a := l) (xs := xs) (fun j σ H3 => ∃ (v4 v5 : Option V), σ = [some (.ref C), some (.ref l), v4, v5] ∧ Same H H3) ⟨none, none, rfl, fun _ _ e => e⟩ (fun j σ H3 hj p => by
          obtain ⟨_, _, _, s3⟩ := p
          exact SqL.of (s3 _ _ hl)) ?_ ?_
        · rintro j y σ H3 T hy ⟨v4, v5, rfl, s3⟩ hT
          have s4 := s3.trans (same_upd (o := .tup [.int (j : Nat), y]) hT)
          refine ⟨T, _, rfl, SqT.of upd_same, rfl, _, _, rfl, _, _, rfl, rfl, ?_⟩
          obtain ⟨a, p, ip, rfl, sa⟩ := hS.get hy
          refine ⟨_, rfl, .ref a, .ref CS, .ref CS, .ref CS, true, rfl, .own _, tyX_same s4 (isS ⟨a, rfl, sa⟩), TS.me, _, rfl, ?_⟩
          refine iteF ?_
          exact ⟨_, _, rfl, s4⟩
        · rintro σ H3 ⟨v4, v5, rfl, s3⟩
          have lx := hS.length
          refine ⟨_, rfl, l, xs, ps, rfl, .inl (s3 _ _ hl), hS.same s3, by omega, fun m hm d H' s' hd e => kE m hm d H' (s3.trans s') (s3.free hd) e, fun hb a H' s' pa => kQ hb a H' (s3.trans s') pa⟩
    · refine ⟨_, (pss_cons (ps_for (passes_of rfl) rfl (pi_enumT (by rfl) R.enum (pa_cons (pv 1) pa_nil)) (pg_tup rfl (pgs_cons (pg_name (i := 2) nd rfl (Or.inl rfl)) (pgs_cons (pg_name (i := 3) nd rfl (Or.inl rfl)) pgs_nil)))
        (pss_one (ps_if (pt_not (pt_val (pe_callB call_isi (by rfl) R.isi (by decide +kernel) (pa_cons (pv 3) (pa_cons (pe_glob (v := .ref CS) (by rfl) gS rfl) pa_nil)))))
          (pss_one (ps_raise rfl (takes_of rfl rfl rfl rfl) (pmk_err R.bi (hr.mono (by decide)) (by rfl) (pa_cons (pv 2) pa_nil)))) pss_nil)))
      (pss_one (ps_ret (pe_callS GJ hr (by rfl) gJ FJ.kp bJ (fun σ => passAt (takes_of rfl rfl rfl rfl) σ) (pa_cons (pv 1) pa_nil))))), ?_⟩
      refine ⟨_, rfl, l, xs, rfl, SqT.of hl, ?_⟩
      rcases h with ⟨i, hb, kE⟩ | ⟨ps, hS, kE, kQ⟩
      · obtain ⟨v, hv, t, ty, kt⟩ := hb.bad
        refine for_enumT (a := l) (xs := xs) (fun j σ H3 => ∃ (v4 v5 : Option V), σ = [some (.ref C), some (.ref l), v4, v5] ∧ Same H H3 ∧ j ≤ i) ⟨none, none, rfl, fun _ _ e => e, Nat.zero_le _⟩ (fun j σ H3 hj p => by
          obtain ⟨_, _, _, s3, _⟩ := p
          exact SqT.of (s3 _ _ hl)) ?_ ?_
        · rintro j y σ H3 T hy ⟨v4, v5, rfl, s3, hj⟩ hT
          have s4 := s3.trans (same_upd (o := .tup [.int (j : Nat), y]) hT)
          refine ⟨T, _, rfl, SqT.of upd_same, rfl, _, _, rfl, _, _, rfl, rfl, ?_⟩
          rcases Nat.lt_or_ge j i with h | h
          · obtain ⟨p, hp⟩ := hb.pre j y h hy
            refine ⟨_, rfl, y, .ref CS, .ref CS, .ref CS, true, rfl, .own _, tyX_same s4 (isS hp), TS.me, _, rfl, ?_⟩
            refine iteF ?_
            exact ⟨_, _, rfl, s4, h⟩
          · have e : j = i := by omega
            subst e
            rw [hv] at hy
            cases hy
            refine ⟨_, rfl, v, .ref CS, t, .ref CS, false, rfl, .own _, tyX_same s4 ty, kt, _, rfl, ?_⟩
            refine iteT ?_
            refine ⟨_, rfl, mkS_ans fun d hd => ?_⟩
            exact kE d _ (s4.trans (same_upd hd)) (s4.free hd) upd_same
        · rintro σ H3 ⟨v4, v5, rfl, s3, hj⟩
          have := (List.getElem?_eq_some_iff.mp hv).1
          omega
      · refine for_enumT (a := l) (xs := xs) (fun j σ H3 => ∃ (v4 v5 : Option V), σ = [some (.ref C), some (.ref l), v4, v5] ∧ Same H H3) ⟨none, none, rfl, fun _ _ e => e⟩ (fun j σ H3 hj p => by
          obtain ⟨_, _, _, s3⟩ := p
          exact SqT.of (s3 _ _ hl)) ?_ ?_
        · rintro j y σ H3 T hy ⟨v4, v5, rfl, s3⟩ hT
          have s4 := s3.trans (same_upd (o := .tup [.int (j : Nat), y]) hT)
          refine ⟨T, _, rfl, SqT.of upd_same, rfl, _, _, rfl, _, _, rfl, rfl, ?_⟩
          obtain ⟨a, p, ip, rfl, sa⟩ := hS.get hy
          refine ⟨_, rfl, .ref a, .ref CS, .ref CS, .ref CS, true, rfl, .own _, tyX_same s4 (isS ⟨a, rfl, sa⟩), TS.me, _, rfl, ?_⟩
          refine iteF ?_
          exact ⟨_, _, rfl, s4⟩
        · rintro σ H3 ⟨v4, v5, rfl, s3⟩
          have lx := hS.length
          refine ⟨_, rfl, l, xs, ps, rfl, .inr (s3 _ _ hl), hS.same s3, by omega, fun m hm d H' s' hd e => kE m hm d H' (s3.trans s') (s3.free hd) e, fun hb a H' s' pa => kQ hb a H' (s3.trans s') pa⟩
end
end Aw

namespace Aw
open PySem PySem.Spec PyProof.Rows L2 NdefX
abbrev sKinds : Stmt := (top 29)
abbrev sLStep : Stmt := (top 30)
def kindsR : List Str := ["turn", "roll", "deal", "undeal", "swap", "near", "sum", "near at", "sum at", "gather", "spread", "flip", "flip first", "flip last"]
def spKinds : Sp := fun vs H Q _ => vs = [] ∧ ∀ l, H l = none → Q (.ref l) (upd H l (.lst (kindsR.map V.str)))
def isRow (r : Row) : Bool := decide ((textOf r, r) ∈ known)
theorem row_sumAt : ∀ b ∈ ([2, -2, 3, -3] : List Int), ∀ j : Nat, j < b.natAbs → isRow ("sum", some b, some ((j : Int), (b.natAbs : Int))) = true := by decide +kernel
theorem row_nearAt : ∀ b ∈ ([1, -1, 2, -2, 3, -3] : List Int), ∀ w : Nat, w < 3 → ∀ j : Nat, j < w + 2 → isRow ("near", some b, some ((j : Int), 2 + (w : Int))) = true := by decide +kernel
theorem row_plain : ∀ k ∈ (["roll", "near", "sum"] : List Str), ∀ b ∈ ([1, -1, 2, -2, 3, -3] : List Int), isRow (k, some b, none) = true := by decide +kernel
theorem row_flip : ∀ w : Nat, w < 3 → ∀ j : Nat, j < w + 2 → isRow ("flip", none, some ((j : Int), 2 + (w : Int))) = true := by decide +kernel
theorem row_bare : ∀ k ∈ kindsR, k ≠ "sum at" → k ≠ "near at" → ¬ k ∈ (["roll", "near", "sum"] : List Str) → k ≠ "flip" → isRow (k, none, none) = true := by decide +kernel
def spLStep (K : PySem.W.Frag) : Sp := fun vs H Q _ => ∃ (p c l : Addr) (n : Nat) (ks : List Str), vs = [.ref p, .ref l] ∧ Pen H p c n ∧ n ≤ 900000 ∧ H l = some (.lst (ks.map V.str)) ∧ 0 < ks.length ∧ ks.length ≤ 1000 ∧ (∀ k ∈ ks, k ∈ kindsR) ∧
  ∀ (u : V) (r : Row) (H' : Hp), isRow r = true → Dq K H' u (rowD r) → But p H H' → Pen H' p c (n + 6) → Q u H'
section
variable {P : Program} {w : World} {K : PySem.W.Frag} {mg : Str → Option Value} {base : Heap}
theorem scKinds : FnScope [] [] (defScope sKinds) := ⟨rfl, rfl, rfl, by decide +kernel, rfl, by decide +kernel, by decide +kernel⟩
theorem ok_kinds {f : Addr} {fd : FuncData} (F : Fun K "_law_kinds" "_law_kinds" sKinds f fd) : FnOk P w K mg base CX0 1 f fd [] spKinds := by
  refine F.ok scKinds (fun vs H Q E h => ?_) (fun cdv A outer s H vs Q E hr h => ?_)
  · obtain ⟨rfl, _⟩ := h
    rfl
  · obtain ⟨rfl, k⟩ := h
    refine ⟨_, (pss_one (ps_ret (pe_lst (pa_cons pe_str (pa_cons pe_str (pa_cons pe_str (pa_cons pe_str (pa_cons pe_str (pa_cons pe_str (pa_cons pe_str (pa_cons pe_str (pa_cons pe_str (pa_cons pe_str (pa_cons pe_str (pa_cons pe_str (pa_cons pe_str (pa_cons pe_str pa_nil))))))))))))))))), ?_⟩
    exact ⟨by show 14 ≤ sizeLine; decide, fun l hl => k l hl⟩
theorem scLStep : FnScope ["_law_pen_here", "_law_kinds_here", "_law_kind", "_law_by", "_law_whole"] ["_law_pen_here", "_law_kinds_here"] (defScope sLStep) := ⟨rfl, rfl, rfl, by decide +kernel, rfl, by decide +kernel, by decide +kernel⟩
theorem intAt {l : List Int} {r : Nat} {v : V} (h : (l.map V.int)[r]? = some v) : ∃ z, z ∈ l ∧ v = .int z := by
  rw [List.getElem?_map] at h
  cases e : l[r]? with
  | none => rw [e] at h; cases h
  | some z => rw [e] at h; cases h; exact ⟨z, List.mem_of_getElem? e, rfl⟩
theorem ok_lstep {f g fP : Addr} {fd gd pd : FuncData} (F : Fun K "_law_step" "_law_step" sLStep f fd) (T : TxtP mg g) (gA : mg "abs" = none) (G : Fun K "_law_draw" "_law_draw" sDraw g gd) (bG : Binds K gd ["_law_pen_here", "_law_many"] []) (FP : Fun K "_law_pick" "_law_pick" sPick fP pd) (bP : Binds K pd ["_law_pen_here", "_law_some"] []) (gP : mg "_law_pick" = some (.ref fP)) :
    FnOk P w K mg base CX0 3 f fd ["_law_pen_here", "_law_kinds_here"] (spLStep K) := by
  have GD : FnOk P w K mg base CX0 1 g gd ["_law_pen_here", "_law_many"] spDraw := ok_draw G T
  have GP : FnOk P w K mg base CX0 2 fP pd ["_law_pen_here", "_law_some"] (spPick K) := ok_pick FP T G bG
  refine F.ok scLStep (fun vs H Q E h => ?_) (fun cdv A outer s H vs Q E hr h => ?_)
  · obtain ⟨p, c, l, n, ks, rfl, _⟩ := h
    rfl
  · obtain ⟨p, c, l, n, ks, rfl, Pn, hn, hl, h0, h1, hk, k⟩ := h
    have nd := scLStep.nd
    refine ⟨_, (pss_cons (ps_par3 (i := 2) (j := 3) (l := 4) rfl nd rfl rfl rfl (by decide) (by decide) (by decide) rfl rfl rfl (pa_cons (pe_call GP (hr.mono (by decide)) (by rfl) gP FP.kp bP .nil pass0 (pa_cons (pv 0) (pa_cons (pv 1) pa_nil))) (pa_cons (pe_call GP (hr.mono (by decide)) (by rfl) gP FP.kp bP .nil pass0 (pa_cons (pv 0) (pa_cons (pe_lst (pa_cons pe_int (pa_cons (pe_un un_neg pe_int) (pa_cons pe_int (pa_cons (pe_un un_neg pe_int) (pa_cons pe_int (pa_cons (pe_un un_neg pe_int) pa_nil))))))) pa_nil))) (pa_cons (pe_op op_add pe_int (pe_call GD (hr.mono (by decide)) (by rfl) T.draw G.kp bG .nil pass0 (pa_cons (pv 0) (pa_cons pe_int pa_nil)))) pa_nil))) (by rfl))
      (pss_cons (ps_if (pt_cmpR op_eq (pv 2) pe_str (nomark _))
        (pss_cons (ps_set (i := 3) nd rfl (Or.inl rfl) (pe_call GP (hr.mono (by decide)) (by rfl) gP FP.kp bP .nil pass0 (pa_cons (pv 0) (pa_cons (pe_lst (pa_cons pe_int (pa_cons (pe_un un_neg pe_int) (pa_cons pe_int (pa_cons (pe_un un_neg pe_int) pa_nil))))) pa_nil))))
        (pss_one (ps_ret (pe_tup (pa_cons pe_str (pa_cons (pv 3) (pa_cons (pe_tup (pa_cons (pe_call GD (hr.mono (by decide)) (by rfl) T.draw G.kp bG .nil pass0 (pa_cons (pv 0) (pa_cons (pe_callB call_abs (by rfl) gA (by decide +kernel) (pa_cons (pv 3) pa_nil)) pa_nil))) (pa_cons (pe_callB call_abs (by rfl) gA (by decide +kernel) (pa_cons (pv 3) pa_nil)) pa_nil))) pa_nil))))))) pss_nil)
      (pss_cons (ps_if (pt_cmpR op_eq (pv 2) pe_str (nomark _))
        (pss_one (ps_ret (pe_tup (pa_cons pe_str (pa_cons (pv 3) (pa_cons (pe_tup (pa_cons (pe_call GD (hr.mono (by decide)) (by rfl) T.draw G.kp bG .nil pass0 (pa_cons (pv 0) (pa_cons (pv 4) pa_nil))) (pa_cons (pv 4) pa_nil))) pa_nil)))))) pss_nil)
      (pss_cons (ps_if (pt_cmpR op_in_seq (pv 2) (pe_tup (pa_cons pe_str (pa_cons pe_str (pa_cons pe_str pa_nil)))) (by rfl))
        (pss_one (ps_ret (pe_tup (pa_cons (pv 2) (pa_cons (pv 3) (pa_cons pe_non pa_nil)))))) pss_nil)
      (pss_cons (ps_if (pt_cmpR op_eq (pv 2) pe_str (nomark _))
        (pss_one (ps_ret (pe_tup (pa_cons (pv 2) (pa_cons pe_non (pa_cons (pe_tup (pa_cons (pe_call GD (hr.mono (by decide)) (by rfl) T.draw G.kp bG .nil pass0 (pa_cons (pv 0) (pa_cons (pv 4) pa_nil))) (pa_cons (pv 4) pa_nil))) pa_nil)))))) pss_nil)
      (pss_one (ps_ret (pe_tup (pa_cons (pv 2) (pa_cons pe_non (pa_cons pe_non pa_nil))))))))))), ?_⟩
    refine ⟨_, rfl, _, rfl, p, c, l, ks.map V.str, n, rfl, Pn, by omega, SqL.of hl, by rw [List.length_map]; exact h0, by rw [List.length_map]; omega, fun r1 v1 H1 hv1 b1 P1 => ?_⟩
    obtain ⟨kd, ik, rfl⟩ := strIx hv1
    have mk := hk kd (List.mem_of_getElem? ik)
    refine ⟨_, rfl, 1, rfl, 2, rfl, 3, rfl, by show 6 ≤ sizeLine; decide, fun l2 hl2 => ?_⟩
    refine ⟨p, c, l2, ([1, -1, 2, -2, 3, -3] : List Int).map V.int, n + 1, rfl, P1.new hl2, by omega, SqL.of upd_same, by decide, by decide, fun r2 v2 H2 hv2 b2 P2 => ?_⟩
    obtain ⟨by_, mb, rfl⟩ := intAt hv2
    have b12 := b1.trans ((But.same (same_upd hl2)).trans b2)
    refine ⟨_, rfl, p, c, 3, n + 2, rfl, P2, by omega, by decide, by decide, fun r3 H3 w0 w1 b3 P3 => ?_⟩
    have b13 := b12.trans b3
    obtain ⟨wn, rfl⟩ : ∃ wn : Nat, r3 = (wn : Int) := ⟨r3.toNat, by omega⟩
    have hw : wn < 3 := by omega
    refine ⟨2, (wn : Int), rfl, rfl, _, _, _, rfl, ?_⟩
    refine ⟨_, rfl, rfl, _, rfl, ?_⟩
    refine ite_str (fun e => ?_) (fun e1 => ?_)
    · refine ⟨_, rfl, 2, rfl, 3, rfl, by show 4 ≤ sizeLine; decide, fun l4 hl4 => ?_⟩
      refine ⟨p, c, l4, ([2, -2, 3, -3] : List Int).map V.int, n + 3, rfl, P3.new hl4, by omega, SqL.of upd_same, by decide, by decide, fun r4 v4 H4 hv4 b4 P4 => ?_⟩
      obtain ⟨by4, mb4, rfl⟩ := intAt hv4
      have ab : (if by4 < 0 then -by4 else by4) = (by4.natAbs : Int) := by split <;> omega
      have pos : 0 < by4.natAbs ∧ by4.natAbs < 5 := (by decide +kernel : ∀ b ∈ ([2, -2, 3, -3] : List Int), 0 < b.natAbs ∧ b.natAbs < 5) by4 mb4
      refine ⟨_, rfl, _, rfl, _, rfl, by4, rfl, p, c, _, n + 4, rfl, P4, by omega, by rw [ab]; omega, by rw [ab]; omega, fun r5 H5 a0 a1 b5 P5 => ?_⟩
      rw [ab] at a1
      obtain ⟨jn, rfl⟩ : ∃ jn : Nat, r5 = (jn : Int) := ⟨r5.toNat, by omega⟩
      refine ⟨_, rfl, by4, rfl, by show 2 ≤ sizeLine; decide, fun t1 ht1 => ⟨by show 3 ≤ sizeLine; decide, fun t2 ht2 => ?_⟩⟩
      rw [ab] at ht2 ⊢
      refine k _ ("sum", some by4, some ((jn : Int), (by4.natAbs : Int))) _ (row_sumAt by4 mb4 jn (by omega)) (row_dq (fun _ => .int _) ht2) ?_ ?_
      · exact b13.trans ((But.same (same_upd hl4)).trans (b4.trans (b5.trans (But.same ((same_upd ht1).trans (same_upd ht2))))))
      · exact ((P5.new ht1).new ht2).mono (by omega)
    refine ⟨_, rfl, rfl, _, rfl, ?_⟩
    refine ite_str (fun e => ?_) (fun e2 => ?_)
    · refine ⟨_, rfl, _, rfl, _, rfl, p, c, _, n + 3, rfl, P3, by omega, by omega, by omega, fun r5 H5 a0 a1 b5 P5 => ?_⟩
      obtain ⟨jn, rfl⟩ : ∃ jn : Nat, r5 = (jn : Int) := ⟨r5.toNat, by omega⟩
      refine ⟨_, rfl, by show 2 ≤ sizeLine; decide, fun t1 ht1 => ⟨by show 3 ≤ sizeLine; decide, fun t2 ht2 => ?_⟩⟩
      exact k _ ("near", some by_, some ((jn : Int), 2 + (wn : Int))) _ (row_nearAt by_ mb wn hw jn (by omega)) (row_dq (fun _ => .int _) ht2) (b13.trans (b5.trans (But.same ((same_upd ht1).trans (same_upd ht2))))) (((P5.new ht1).new ht2).mono (by omega))
    refine ⟨_, rfl, by show 3 ≤ sizeLine; decide, fun t ht => ⟨t, _, rfl, .inr (SqT.of upd_same), rfl, by decide +kernel, _, rfl, ?_⟩⟩
    show if inV (.str kd) ((["roll", "near", "sum"] : List Str).map V.str) = true then _ else _
    rw [in_strs]
    have P4 := P3.new (o := .tup [.str "roll", .str "near", .str "sum"]) ht
    have b14 := b13.trans (But.same (same_upd (o := .tup [.str "roll", .str "near", .str "sum"]) ht))
    refine ite_dec (fun e => ?_) (fun e3 => ?_)
    · refine ⟨_, rfl, _, rfl, by show 3 ≤ sizeLine; decide, fun t2 ht2 => ?_⟩
      exact k _ (kd, some by_, none) _ (row_plain kd e by_ mb) (.tup (SqT.of upd_same) (.cons (.str _) (.cons (.int _) (.cons .non .nil)))) (b14.trans (But.same (same_upd ht2))) ((P4.new ht2).mono (by omega))
    refine ⟨_, rfl, rfl, _, rfl, ?_⟩
    refine ite_str (fun e => ?_) (fun e4 => ?_)
    · refine ⟨_, rfl, _, rfl, _, rfl, p, c, _, n + 3, rfl, P4, by omega, by omega, by omega, fun r5 H5 a0 a1 b5 P5 => ?_⟩
      obtain ⟨jn, rfl⟩ : ∃ jn : Nat, r5 = (jn : Int) := ⟨r5.toNat, by omega⟩
      refine ⟨_, rfl, by show 2 ≤ sizeLine; decide, fun t1 ht1 => ⟨by show 3 ≤ sizeLine; decide, fun t2 ht2 => ?_⟩⟩
      refine k _ ("flip", none, some ((jn : Int), 2 + (wn : Int))) _ (row_flip wn hw jn (by omega)) ?_ (b14.trans (b5.trans (But.same ((same_upd ht1).trans (same_upd ht2))))) (((P5.new ht1).new ht2).mono (by omega))
      have e : kd = "flip" := e
      subst e
      exact row_dq (fun _ => .non) ht2
    · refine ⟨_, rfl, by show 3 ≤ sizeLine; decide, fun t2 ht2 => ?_⟩
      exact k _ (kd, none, none) _ (row_bare kd mk e1 e2 e3 e4) (.tup (SqT.of upd_same) (.cons (.str _) (.cons .non (.cons .non .nil)))) (b14.trans (But.same (same_upd ht2))) ((P4.new ht2).mono (by omega))
end
end Aw

namespace Aw
open PySem PySem.Spec PyProof.Rows L2 NdefX
/-! ### len(x), x[i] by own methods -/
section
variable {X : Cx} {C f : Addr} {fd : FuncData} {ps : List Str} {sp : Sp} {k : Nat} {CX : CXT} {pins : List (Addr × Obj)} {σ : Aw.St} {H : Hp} {s : Shared} {vs : List V} {us : List Value} {Q : VK} {E : XK}
theorem run_in1 (F : FnOk X.prog X.w X.K X.mg X.base CX k f fd ps sp) (hr : Room (k + 1) X.A) (hb : Binds X.K fd ps []) (hx : PassesAt CX X σ E) (I : Inv X pins σ H s) (r : Vals vs us) (h : sp vs H Q E) : wpAny (model X.prog X.w) X.A.in1 (call (.ref f) us) (EP X pins σ Q) X.xe s := by
  have hl : us.length = ps.length := by rw [← r.length]; exact F.len _ _ _ _ h
  have bb := hb s us I.kIn (by rw [List.append_nil]; exact hl)
  rw [List.append_nil] at bb
  refine wpAny_call (codeAny_mono (F.run X.A.in1 X.stack s H ⟨us, []⟩ us vs Q E (Room.in1 hr) I.env0.in1 bb r h) fun r s' hq => ?_)
  cases r with
  | error e => exact hx pins _ _ e s' I hq
  | ok fl =>
    cases fl with
    | ret w => exact I.after hq
    | next => exact False.elim hq
    | brk => exact False.elim hq
    | cont => exact False.elim hq
def rLenO (C : Addr) (sp : Sp) : List V → Hp → VK → Prop := fun xs H Q => ∃ (a dx : Addr) (fs : List (Str × V)), xs = [.ref a] ∧ H a = some (.ins C dx fs) ∧ sp [.ref a] H (fun v H' => ∃ n : Nat, v = .int (n : Int) ∧ (n : Int) < 2 ^ 63 ∧ Q (.int (n : Int)) H') E0
theorem passC {X : Cx} {σ : Aw.St} : PassesAt CX0 X σ E0 := fun _ _ _ _ _ _ h => h.elim
theorem call_lenO (hs : PySem.W.findIn X.K (.ref C) "__len__" = some (some (.ref f))) (hf : PySem.W.isFn X.K (.ref f) = true) (F : FnOk X.prog X.w X.K X.mg X.base CX0 k f fd ps sp) (hr : Room (k + 1) X.A) (hb : Binds X.K fd ps []) : CallR X (.builtin "len") (rLenO C sp) := by
  intro pins s σ H xs us Q I r h
  obtain ⟨a, dx, fs, rfl, ha, hsp⟩ := h
  obtain ⟨u, rfl, rx⟩ := vals1 r
  cases rx
  obtain ⟨mA, J, _⟩ := ins_get I.hok ha
  obtain ⟨od, J, _⟩ := J.look
  obtain ⟨m, hF⟩ := I.fr
  refine PySem.W.len_K hF I.ok.mod.kin J hs hf (wpAny_mono (run_in1 (vs := [V.ref a]) (us := [Value.ref a]) F hr hb passC I (.cons rfl .nil) hsp) (fun v s' hv => ?_) fun _ _ z => z)
  obtain ⟨z, H', I', rz, n, rfl, hn, q⟩ := hv
  obtain ⟨t, rfl⟩ := (show ∃ t, v = Value.int (n : Int) t from rz)
  exact ⟨⟨by omega, hn⟩, ⟨.int (n : Int), H', I'.tok _, ⟨_, rfl⟩, q⟩⟩
/-- x[i] -/
def tItO (C : Addr) (sp : Sp) (E : Aw.St → XK) (ta tb : TE) : TE := fun σ H Q => ta σ H fun x H1 => tb σ H1 fun y H2 => ∃ (a dx : Addr) (fs : List (Str × V)), x = .ref a ∧ H2 a = some (.ins C dx fs) ∧ sp [.ref a, y] H2 Q (E σ)
theorem pe_itO {a b : Expr} {ta tb : TE} {pos : Pos} {E : Aw.St → XK} (hs : PySem.W.findIn X.K (.ref C) "__getitem__" = some (some (.ref f))) (hfi : PySem.W.fnIn X.K f = true) (hf : PySem.W.isFn X.K (.ref f) = true) (F : FnOk X.prog X.w X.K X.mg X.base CX k f fd ps sp) (hr : Room (k + 1) X.A) (hb : Binds X.K fd ps []) (hx : ∀ σ, PassesAt CX X σ (E σ))
    (he : PE X a ta) (hi : PE X b tb) (hsl : ∀ v i, subscripted b true v i = runValue (.builtin "lifetime.subscript" ⟨[v, i], []⟩)) : PE X (.Subscript a b pos) (tItO C sp E ta tb) := by
  refine ⟨fun pins s σ H Q I h => ?_⟩
  refine Subscript_ (binT he hi I h fun v u s2 x y H2 I2 rx ry q => ?_)
  obtain ⟨c, dx, fs, rfl, ha, hsp⟩ := q
  cases rx
  obtain ⟨mA, J, _⟩ := ins_get I2.hok ha
  obtain ⟨od, J, _⟩ := J.look
  obtain ⟨m, hF⟩ := I2.fr
  exact PySem.W.sub_K hF I2.ok.mod.kin J hs hfi hf (run_in1 (vs := [V.ref c, y]) (us := [Value.ref c, u]) F hr hb (hx σ) I2 (.cons rfl (.cons ry .nil)) hsp) (hsl _ _)
end
end Aw

namespace Aw
open PySem PySem.Spec PyProof.Rows L2 NdefX
abbrev sLRow : Stmt := (top 38)
abbrev sRowDue : Stmt := (top 36)
def spLRow (K : PySem.W.Frag) : Sp := fun vs H Q _ => ∃ (p c : Addr) (most : Int) (n : Nat), vs = [.ref p, .int most] ∧ Pen H p c n ∧ n ≤ 800000 ∧ 0 ≤ most ∧ most ≤ 20 ∧
  ∀ (L : Addr) (ts : List Str) (H' : Hp), But p H H' → H' L = some (.lst (ts.map V.str)) → H L = none → ts.length ≤ 20 → (∀ t ∈ ts, ∃ q ∈ known, t = q.1) → Pen H' p c (n + 400) → Q (.ref L) H'
def isDealT (x : Str) : Bool := decide (x ∈ (["deal", "undeal"] : List Str))
def dueE (ts : List Str) : Option Int := if 5 < ts.length then some 5 else if 2 < (ts.filter isDealT).length then some 2 else none
def spRowDue (K : PySem.W.Frag) : Sp := fun vs H Q _ => ∃ (l : Addr) (ts : List Str), vs = [.ref l] ∧ H l = some (.lst (ts.map V.str)) ∧ ts.length ≤ 2000 ∧ (ts.map (·.length)).sum ≤ 2000000 ∧
  (∀ m, dueE ts = some m → ∀ t H', Same H H' → H' t = some (.tup [.str "TooMany", .int m]) → Q (.ref t) H') ∧
  (dueE ts = none → ∀ t H', Same H H' → H' t = some (.tup [.str "program", .str (Str.join " then " ts), .ref l, .bl true]) → Q (.ref t) H')
section
variable {P : Program} {w : World} {K : PySem.W.Frag} {mg : Str → Option Value} {base : Heap}
theorem scRowDue : FnScope ["_law_parts", "_law_part"] ["_law_parts"] (defScope sRowDue) := ⟨rfl, rfl, rfl, by decide +kernel, rfl, by decide +kernel, by decide +kernel⟩
theorem ok_rowdue {f : Addr} {fd : FuncData} (F : Fun K "_law_row_due" "_law_row_due" sRowDue f fd) (ln : mg "len" = none) : FnOk P w K mg base CX0 1 f fd ["_law_parts"] (spRowDue K) := by
  refine F.ok scRowDue (fun vs H Q E h => ?_) (fun cdv A outer s H vs Q E hr h => ?_)
  · obtain ⟨l, ts, rfl, _⟩ := h
    rfl
  · obtain ⟨l, ts, rfl, hl, hn, hz, kE, kQ⟩ := h
    have nd := scRowDue.nd
    refine ⟨_, (pss_cons (ps_if (pt_cmpR op_gt (pe_callB call_len_seq (by rfl) ln PySem.boot_len (pa_cons (pv 0) pa_nil)) pe_int (nomark _))
        (pss_one (ps_ret (pe_tup (pa_cons pe_str (pa_cons pe_int pa_nil))))) pss_nil)
      (pss_cons (ps_if (pt_cmpR op_gt (pe_callB call_len_seq (by rfl) ln PySem.boot_len (pa_cons (pe_lc (own := [("_law_part", 1)]) (g := (gName 1)) rfl nd (pi_list (pv 0)) (blkOk_by (own := [("_law_part", 1)]) (N := ["_law_parts", "_law_part"]) (sc := defScope sRowDue) (by decide +kernel)) (fun _ _ _ _ _ => (pg_name (i := 1) nd rfl (Or.inl rfl))) (fun _ _ _ _ _ => pts_one (pt_cmpR (show OpR _ (compareOp .In) (rIn K false) from op_in_seq) (pv 1) (pe_tup (pa_cons pe_str (pa_cons pe_str pa_nil))) (by rfl))) (fun _ _ _ _ _ => pe_int)) pa_nil)) pe_int (nomark _))
        (pss_one (ps_ret (pe_tup (pa_cons pe_str (pa_cons pe_int pa_nil))))) pss_nil)
      (pss_one (ps_ret (pe_tup (pa_cons pe_str (pa_cons (pe_join pe_str (pv 0)) (pa_cons (pv 0) (pa_cons pe_bl pa_nil))))))))), ?_⟩
    have lm : (ts.map V.str).length = ts.length := List.length_map ..
    refine ⟨_, rfl, l, _, rfl, .inl (SqL.of hl), ((ts.map V.str).length : Int), 5, rfl, rfl, _, rfl, ?_⟩
    rw [lm]
    refine ite_dec (fun h5 => ?_) (fun h5 => ?_)
    · refine ⟨by show 2 ≤ sizeLine; decide, fun t ht => ?_⟩
      exact kE 5 (if_pos (by omega)) t _ (same_upd ht) upd_same
    have h5' : ¬ 5 < ts.length := by omega
    refine ⟨_, rfl, l, rfl, ⟨_, SqL.of hl⟩, fun D hD => ?_⟩
    refine lc_list (a := l) (xs := ts.map V.str) (fun m H2 => Same H H2 ∧ ∃ ws : List V, H2 D = some (.lst ws) ∧ ws.length = ((ts.take m).filter isDealT).length) ⟨same_upd hD, [], upd_same, rfl⟩ (fun m H2 hm p => SqL.of (p.1 _ _ hl)) ?_ ?_
    · rintro m x H2 hx ⟨s2, ws, e2, l2⟩
      obtain ⟨z, iz, rfl⟩ := strIx hx
      have et : ts.take (m + 1) = ts.take m ++ [z] := by
        rw [List.take_succ, iz]
        rfl
      refine ⟨rfl, _, rfl, by show 2 ≤ sizeLine; decide, fun t ht => ?_⟩
      refine ⟨t, _, rfl, .inr (SqT.of upd_same), rfl, by decide +kernel, _, rfl, ?_⟩
      show if inV (.str z) ((["deal", "undeal"] : List Str).map V.str) = true then _ else _
      rw [in_strs]
      have st := same_upd (o := .tup [.str "deal", .str "undeal"]) ht
      have et2 : upd H2 t (.tup [.str "deal", .str "undeal"]) D = some (.lst ws) := by rw [upd_ne (ne_of_none e2 ht)]; exact e2
      refine ite_dec (fun hd => ?_) (fun hd => ?_)
      · refine ⟨ws, et2, Nat.lt_of_le_of_lt (by
          have := List.length_filter_le isDealT (ts.take m)
          rw [List.length_take] at this
          omega : ws.length ≤ 2000) (by decide), same_fresh hD (s2.trans st), _, upd_same, ?_⟩
        rw [et, List.filter_append, List.filter_cons_of_pos (by exact decide_eq_true hd), List.length_append, List.length_append, l2]
        rfl
      · refine ⟨s2.trans st, ws, et2, ?_⟩
        rw [et, List.filter_append, List.filter_cons_of_neg (by exact fun z => hd (of_decide_eq_true z)), List.filter_nil, List.append_nil]
        exact l2
    · rintro H2 ⟨s2, ws, e2, l2⟩
      have ek : ts.take (ts.map V.str).length = ts := List.take_of_length_le (by omega)
      rw [ek] at l2
      refine ⟨D, ws, rfl, .inl (SqL.of e2), (ws.length : Int), 2, rfl, rfl, _, rfl, ?_⟩
      refine ite_dec (fun h2 => ?_) (fun h2 => ?_)
      · refine ⟨by show 2 ≤ sizeLine; decide, fun t ht => ?_⟩
        exact kE 2 ((if_neg h5').trans (if_pos (by omega))) t _ (s2.trans (same_upd ht)) upd_same
      · refine ⟨⟨_, rfl⟩, _, rfl, " then ", l, ts, rfl, rfl, .inl (SqL.of (s2 _ _ hl)), by rw [show (" then " : Str).length = 6 from rfl]; omega, _, rfl, by show 4 ≤ sizeLine; decide, fun t ht => ?_⟩
        rw [TL.join_eq]
        exact kQ ((if_neg h5').trans (if_neg (by omega))) t _ (s2.trans (same_upd ht)) upd_same
theorem scLRow : FnScope ["_law_pen_here", "_law_most", "_law_kinds_here", "_law_k"] ["_law_pen_here", "_law_most"] (defScope sLRow) := ⟨rfl, rfl, rfl, by decide +kernel, rfl, by decide +kernel, by decide +kernel⟩
theorem ok_lrow {f g fP fK fT fS : Addr} {fd gd pd kd td sd : FuncData} (F : Fun K "_law_row" "_law_row" sLRow f fd) (T : TxtP mg g) (gR : mg "range" = none) (gA : mg "abs" = none) (hs : mg "str" = none) (G : Fun K "_law_draw" "_law_draw" sDraw g gd) (bG : Binds K gd ["_law_pen_here", "_law_many"] []) (FP : Fun K "_law_pick" "_law_pick" sPick fP pd) (bP : Binds K pd ["_law_pen_here", "_law_some"] []) (gP : mg "_law_pick" = some (.ref fP))
    (FK : Fun K "_law_kinds" "_law_kinds" sKinds fK kd) (bK : Binds K kd [] []) (gK : mg "_law_kinds" = some (.ref fK)) (FT : Fun K "_law_text" "_law_text" sText fT td) (bT : Binds K td ["_law_step_here"] []) (gT : mg "_law_text" = some (.ref fT)) (FS : Fun K "_law_step" "_law_step" sLStep fS sd) (bS : Binds K sd ["_law_pen_here", "_law_kinds_here"] []) (gS : mg "_law_step" = some (.ref fS)) :
    FnOk P w K mg base CX0 4 f fd ["_law_pen_here", "_law_most"] (spLRow K) := by
  have GD : FnOk P w K mg base CX0 1 g gd ["_law_pen_here", "_law_many"] spDraw := ok_draw G T
  have GP : FnOk P w K mg base CX0 2 fP pd ["_law_pen_here", "_law_some"] (spPick K) := ok_pick FP T G bG
  have GK : FnOk P w K mg base CX0 1 fK kd [] spKinds := ok_kinds FK
  have GT : FnOk P w K mg base CX0 1 fT td ["_law_step_here"] (spText K) := ok_text FT hs
  have GS : FnOk P w K mg base CX0 3 fS sd ["_law_pen_here", "_law_kinds_here"] (spLStep K) := ok_lstep FS T gA G bG FP bP gP
  refine F.ok scLRow (fun vs H Q E h => ?_) (fun cdv A outer s H vs Q E hr h => ?_)
  · obtain ⟨p, c, most, n, rfl, _⟩ := h
    rfl
  · obtain ⟨p, c, most, n, rfl, Pn, hn, m0, m1, k⟩ := h
    have nd := scLRow.nd
    refine ⟨_, (pss_cons (ps_set (i := 2) nd rfl (Or.inr rfl) (pe_call GP (hr.mono (by decide)) (by rfl) gP FP.kp bP .nil pass0 (pa_cons (pv 0) (pa_cons (pe_lst (pa_cons (pe_call0 GK (hr.mono (by decide)) (by rfl) gK FK.kp bK .nil pass0) (pa_cons (pe_call0 GK (hr.mono (by decide)) (by rfl) gK FK.kp bK .nil pass0) (pa_cons (pe_lst (pa_cons pe_str (pa_cons pe_str pa_nil))) (pa_cons (pe_lst (pa_cons pe_str (pa_cons pe_str (pa_cons pe_str (pa_cons pe_str pa_nil))))) pa_nil))))) pa_nil))))
      (pss_one (ps_ret (pe_lc (own := [("_law_k", 3)]) (g := (gName 3)) (tt := tYes) rfl nd (pi_range1 rfl gR (pa_cons (pe_call GD (hr.mono (by decide)) (by rfl) T.draw G.kp bG .nil pass0 (pa_cons (pv 0) (pa_cons (pe_op op_add (pv 1) pe_int) pa_nil))) pa_nil)) (blkOk_by (own := [("_law_k", 3)]) (N := ["_law_pen_here", "_law_most", "_law_kinds_here", "_law_k"]) (sc := defScope sLRow) (by decide +kernel)) (fun _ _ _ _ _ => (pg_name (i := 3) nd rfl (Or.inl rfl))) (fun _ _ _ _ _ => pts_nil) (fun _ _ _ _ _ => (pe_call GT (hr.mono (by decide)) (by rfl) gT FT.kp bT .nil pass0 (pa_cons (pe_call GS hr (by rfl) gS FS.kp bS .nil pass0 (pa_cons (pv 0) (pa_cons (pv 2) pa_nil))) pa_nil))))))), ?_⟩
    refine ⟨_, rfl, rfl, fun l1 h1 => ⟨rfl, fun l2 h2 => ⟨by show 2 ≤ sizeLine; decide, fun l3 h3 => ⟨by show 4 ≤ sizeLine; decide, fun l4 h4 => ⟨by show 4 ≤ sizeLine; decide, fun l5 h5 => ?_⟩⟩⟩⟩⟩
    have s2 := same_upd (o := .lst (kindsR.map V.str)) h2
    have s3 := same_upd (o := .lst ((["deal", "undeal"] : List Str).map V.str)) h3
    have s4 := same_upd (o := .lst ((["deal", "undeal", "turn", "swap"] : List Str).map V.str)) h4
    have s5 := same_upd (o := .lst [.ref l1, .ref l2, .ref l3, .ref l4]) h5
    have e1 := s5 _ _ (s4 _ _ (s3 _ _ (s2 _ _ (upd_same (H := H) (a := l1) (o := .lst (kindsR.map V.str))))))
    have e2 := s5 _ _ (s4 _ _ (s3 _ _ (upd_same (a := l2) (o := .lst (kindsR.map V.str)))))
    have e3 := s5 _ _ (s4 _ _ (upd_same (a := l3) (o := .lst ((["deal", "undeal"] : List Str).map V.str))))
    have e4 := s5 _ _ (upd_same (a := l4) (o := .lst ((["deal", "undeal", "turn", "swap"] : List Str).map V.str)))
    have s15 := ((((same_upd (o := .lst (kindsR.map V.str)) h1).trans s2).trans s3).trans s4).trans s5
    have P0 := Pn.same s15
    refine ⟨p, c, l5, [.ref l1, .ref l2, .ref l3, .ref l4], n, rfl, P0, by omega, SqL.of upd_same, by show 0 < 4; decide, by show 4 ≤ 1000000; decide, fun r v H1 hv b1 P1 => ?_⟩
    obtain ⟨cells, ii, ll, ep, _⟩ := P0.ex
    have got : ∃ (lk : Addr) (ks : List Str), v = .ref lk ∧ H1 lk = some (.lst (ks.map V.str)) ∧ 0 < ks.length ∧ ks.length ≤ 1000 ∧ ∀ x ∈ ks, x ∈ kindsR := by
      match r, hv with
      | 0, hv => cases hv; exact ⟨l1, kindsR, rfl, b1 _ _ e1 (ne_of e1 ep (fun z => by cases z)), by decide, by decide, fun x hx => hx⟩
      | 1, hv => cases hv; exact ⟨l2, kindsR, rfl, b1 _ _ e2 (ne_of e2 ep (fun z => by cases z)), by decide, by decide, fun x hx => hx⟩
      | 2, hv => cases hv; exact ⟨l3, ["deal", "undeal"], rfl, b1 _ _ e3 (ne_of e3 ep (fun z => by cases z)), by decide, by decide, by decide +kernel⟩
      | 3, hv => cases hv; exact ⟨l4, ["deal", "undeal", "turn", "swap"], rfl, b1 _ _ e4 (ne_of e4 ep (fun z => by cases z)), by decide, by decide, by decide +kernel⟩
      | m + 4, hv => simp at hv
    obtain ⟨lk, ks, rfl, hlk, k0, k1, kk⟩ := got
    refine ⟨_, rfl, _, rfl, most, 1, rfl, rfl, p, c, most + 1, n + 1, rfl, P1, by omega, by omega, by omega, fun j H2 j0 j1 b2 P2 => ⟨j, rfl, by omega, by omega, fun D hD => ?_⟩⟩
    obtain ⟨jn, rfl⟩ : ∃ jn : Nat, j = (jn : Int) := ⟨j.toNat, by omega⟩
    obtain ⟨op, eop⟩ := P2.some1
    have nDp : D ≠ p := (ne_of_none eop hD).symm
    obtain ⟨cells1, ii1, ll1, ep1, _⟩ := P1.ex
    have hlk2 : H2 lk = some (.lst (ks.map V.str)) := b2 _ _ hlk (ne_of hlk ep1 (fun z => by cases z))
    obtain ⟨cells2, ii2, ll2, ep2, _⟩ := P2.ex
    have nlkp : lk ≠ p := ne_of hlk2 ep2 (fun z => by cases z)
    refine lc_range (lo := 0) (n := (jn : Int).toNat) (fun m H3 => But p H2 H3 ∧ Pen H3 p c (n + 2 + 6 * m) ∧ ∃ ts : List Str, H3 D = some (.lst (ts.map V.str)) ∧ ts.length = m ∧ ∀ t ∈ ts, ∃ q ∈ known, t = q.1) ⟨But.same (same_upd hD), P2.new hD, [], upd_same, rfl, fun t ht => absurd ht (by simp)⟩ ?_ ?_
    · rintro m H3 hm ⟨b3, P3, ts, e3, l3', k3⟩
      have hlk3 := b3 _ _ hlk2 nlkp
      refine ⟨rfl, _, rfl, _, rfl, p, c, lk, n + 2 + 6 * m, ks, rfl, P3, by omega, hlk3, k0, k1, kk, fun u r H4 hrow du b4 P4 => ?_⟩
      have hmem : (textOf r, r) ∈ known := of_decide_eq_true hrow
      refine ⟨u, r, rfl, du, known_smI _ hmem, ?_⟩
      have e4' := b4 _ _ e3 nDp
      refine ⟨_, e4', small200' (by rw [List.length_map]; omega), fun b o eb nb => ?_, ?_, ts ++ [textOf r], ?_, by rw [List.length_append, l3']; rfl, fun t ht => ?_⟩
      · rw [upd_ne (ne_of_none eb hD)]
        exact b4 _ _ (b3 _ _ eb nb) nb
      · exact (P4.upd nDp (by
          obtain ⟨oc, eoc⟩ := P2.some2
          exact (ne_of_none eoc hD).symm)).mono (by omega)
      · rw [upd_same, List.map_append]
        rfl
      · rcases List.mem_append.mp ht with h | h
        · exact k3 t h
        · exact ⟨_, hmem, List.mem_singleton.mp h⟩
    · rintro H3 ⟨b3, P3, ts, e3, l3', k3⟩
      have hb : But p H H3 := ((But.same s15 : But p H _).trans b1).trans (b2.trans b3)
      have hD0 : H D = none := by
        cases e : H D with
        | none => rfl
        | some o =>
          have z := ((But.same s15 : But p H _).trans b1).trans b2 D o e nDp
          rw [hD] at z
          cases z
      exact k D ts H3 hb e3 hD0 (by omega) k3 (P3.mono (by omega))
end
end Aw

namespace Aw
open PySem PySem.Spec PyProof.Rows L2 NdefX
abbrev sLErr : Stmt := (top 33)
structure Errs4 (P : Program) (K : PySem.W.Frag) (mg : Str → Option Value) (Ce : Nat → Addr) : Prop where
  e0 : Err P K mg "BadText" "text" "text" (Ce 0)
  e1 : Err P K mg "BadStep" "index" "index" (Ce 1)
  e2 : Err P K mg "BadNumber" "number" "number" (Ce 2)
  e3 : Err P K mg "TooMany" "most" "most" (Ce 3)
  isi : mg "isinstance" = none
  kit : ∀ i j, i < 4 → j < 4 → PySem.W.kitOne K (.ref (Ce i)) (.ref (Ce j)) = some (decide (i = j))
def fldE : Nat → Str
  | 0 => "text"
  | 1 => "index"
  | 2 => "number"
  | _ => "most"
def nmE4 : Nat → Str
  | 0 => "BadText"
  | 1 => "BadStep"
  | 2 => "BadNumber"
  | _ => "TooMany"
def spLErr (Ce : Nat → Addr) : Addr → Value → Option Addr → Sp := fun a cls d vs H Q _ => ∃ (dd : Addr) (i : Nat) (v : V), vs = [.ref a] ∧ cls = .ref (Ce i) ∧ i < 4 ∧ d = some dd ∧ H dd = some (.xd [(fldE i, v)]) ∧ ∀ t H', Same H H' → H' t = some (.tup [.str (nmE4 i), v]) → Q (.ref t) H'
section
variable {P : Program} {w : World} {K : PySem.W.Frag} {mg : Str → Option Value} {base : Heap} {Ce : Nat → Addr}
theorem scLErr : FnScope ["_law_e"] ["_law_e"] (defScope sLErr) := ⟨rfl, rfl, rfl, by decide +kernel, rfl, by decide +kernel, by decide +kernel⟩
theorem ok_lerr {f : Addr} {fd : FuncData} (F : Fun K "_law_error" "_law_error" sLErr f fd) (R : Errs4 P K mg Ce) : FnE P w K mg base 1 f fd ["_law_e"] (spLErr Ce) := by
  obtain ⟨oc, od, kV, doc, pm, an, cdv, ct, osl, rfl, lk, hcd⟩ := F.ex
  refine fn_ofE lk hcd scLErr (fun a c d vs H Q E h => ?_) fun A outer s H vs Q E p cls d hz hf hr hsp => ?_
  · obtain ⟨dd, i, v, rfl, _⟩ := h
    rfl
  · obtain ⟨dd, i, v, rfl, rfl, hi, rfl, hd, hQ⟩ := hsp
    have nd := scLErr.nd
    refine ⟨_, (pss_cons (ps_if (pt_val (pe_callB (call_isP (List.mem_singleton_self p) hz hf) (by rfl) R.isi (by decide +kernel) (pa_cons (pv 0) (pa_cons (pe_glob (v := .ref (Ce 0)) (by rfl) R.e0.g rfl) pa_nil))))
        (pss_one (ps_ret (pe_tup (pa_cons pe_str (pa_cons (pe_xp (List.mem_singleton_self p) hz hf (pv 0)) pa_nil))))) pss_nil)
      (pss_cons (ps_if (pt_val (pe_callB (call_isP (List.mem_singleton_self p) hz hf) (by rfl) R.isi (by decide +kernel) (pa_cons (pv 0) (pa_cons (pe_glob (v := .ref (Ce 1)) (by rfl) R.e1.g rfl) pa_nil))))
        (pss_one (ps_ret (pe_tup (pa_cons pe_str (pa_cons (pe_xp (List.mem_singleton_self p) hz hf (pv 0)) pa_nil))))) pss_nil)
      (pss_cons (ps_if (pt_val (pe_callB (call_isP (List.mem_singleton_self p) hz hf) (by rfl) R.isi (by decide +kernel) (pa_cons (pv 0) (pa_cons (pe_glob (v := .ref (Ce 2)) (by rfl) R.e2.g rfl) pa_nil))))
        (pss_one (ps_ret (pe_tup (pa_cons pe_str (pa_cons (pe_xp (List.mem_singleton_self p) hz hf (pv 0)) pa_nil))))) pss_nil)
      (pss_cons (ps_if (pt_val (pe_callB (call_isP (List.mem_singleton_self p) hz hf) (by rfl) R.isi (by decide +kernel) (pa_cons (pv 0) (pa_cons (pe_glob (v := .ref (Ce 3)) (by rfl) R.e3.g rfl) pa_nil))))
        (pss_one (ps_ret (pe_tup (pa_cons pe_str (pa_cons (pe_xp (List.mem_singleton_self p) hz hf (pv 0)) pa_nil))))) pss_nil)
      (pss_one (ps_ret (pe_tup (pa_cons pe_str (pa_cons pe_non pa_nil))))))))), ?_⟩
    have hdd : ∀ dd', some dd = some dd' → ∃ fs, H dd' = some (.xd fs) := fun dd' e => ⟨_, by cases e; exact hd⟩
    have D : ExcD K (Ce i) := by
      match i, hi with
      | 0, _ => exact R.e0.D
      | 1, _ => exact R.e1.D
      | 2, _ => exact R.e2.D
      | 3, _ => exact R.e3.D
    have k0 := R.kit i 0 hi (by decide)
    have k1 := R.kit i 1 hi (by decide)
    have k2 := R.kit i 2 hi (by decide)
    have k3 := R.kit i 3 hi (by decide)
    refine ⟨_, rfl, Ce i, .ref (Ce 0), .ref (Ce 0), _, rfl, rfl, D, hdd, .own _, k0, _, rfl, ?_⟩
    refine ite_dec (fun e => ?_) (fun _ => ?_)
    · subst e
      exact ⟨_, rfl, rfl, Ce 0, dd, _, v, rfl, D, R.e0.hno, rfl, hd, rfl, by show 2 ≤ sizeLine; decide, fun t ht => hQ t _ (same_upd ht) upd_same⟩
    refine ⟨_, rfl, Ce i, .ref (Ce 1), .ref (Ce 1), _, rfl, rfl, D, hdd, .own _, k1, _, rfl, ?_⟩
    refine ite_dec (fun e => ?_) (fun _ => ?_)
    · subst e
      exact ⟨_, rfl, rfl, Ce 1, dd, _, v, rfl, D, R.e1.hno, rfl, hd, rfl, by show 2 ≤ sizeLine; decide, fun t ht => hQ t _ (same_upd ht) upd_same⟩
    refine ⟨_, rfl, Ce i, .ref (Ce 2), .ref (Ce 2), _, rfl, rfl, D, hdd, .own _, k2, _, rfl, ?_⟩
    refine ite_dec (fun e => ?_) (fun _ => ?_)
    · subst e
      exact ⟨_, rfl, rfl, Ce 2, dd, _, v, rfl, D, R.e2.hno, rfl, hd, rfl, by show 2 ≤ sizeLine; decide, fun t ht => hQ t _ (same_upd ht) upd_same⟩
    refine ⟨_, rfl, Ce i, .ref (Ce 3), .ref (Ce 3), _, rfl, rfl, D, hdd, .own _, k3, _, rfl, ?_⟩
    refine ite_dec (fun e => ?_) (fun _ => ?_)
    · subst e
      exact ⟨_, rfl, rfl, Ce 3, dd, _, v, rfl, D, R.e3.hno, rfl, hd, rfl, by show 2 ≤ sizeLine; decide, fun t ht => hQ t _ (same_upd ht) upd_same⟩
    · omega
end
end Aw

namespace Aw
open PySem PySem.Spec PyProof.Rows L2 NdefX
abbrev sPTold : Stmt := (top 34)
def tb_ptold (K : PySem.W.Frag) (C CS CB CI CM : Addr) (W : WX) : TS := tSeq (tAsg (tMakeS C (spPInit K C CS CB CI CM) (WE W) (tCons (tVar 0) tNil)) (gName 2))
  (tAsg (tTup (tCons (tC (.str "program")) (tCons (tFld K (tVar 2) "text") (tCons (tLc (iTup K (tFld K (tVar 2) "steps")) (gName 4) tYes (tFld K (tVar 4) "text") [4])
    (tCons (tCB (rIsi K) (tCons (tFld K (tVar 2) "steps") (tCons (tC (.ty "tuple")) tNil))) tNil))))) (gName 1))
def ts_ptold (Ce : Nat → Addr) (a : Addr) (cls : Value) (d : Option Addr) : TS := tAsg (fun σ H Q => (tCons (tVar 3) tNil) σ H fun vs H1 => spLErr Ce a cls d vs H1 Q E0) (gName 1)
/-- what Program(v) is, told -/
def spPTold (K : PySem.W.Frag) : Sp := fun vs H Q _ => ∃ v, vs = [v] ∧ VOk H v ∧ (isStr v = false → ∀ t H', Same H H' → H' t = some (.tup [.str "BadText", v]) → Q (.ref t) H') ∧
  (∀ x i, v = .str x → firstBad (partsOf x) = some i → ∀ t H', Same H H' → H' t = some (.tup [.str "BadStep", .int (i : Nat)]) → Q (.ref t) H') ∧
  (∀ x m, v = .str x → firstBad (partsOf x) = none → boundsE (rowsOf (partsOf x)) = some m → ∀ t H', Same H H' → H' t = some (.tup [.str "TooMany", .int m]) → Q (.ref t) H') ∧
  (∀ x, v = .str x → firstBad (partsOf x) = none → boundsE (rowsOf (partsOf x)) = none → ∀ t l H', Same H H' → H' t = some (.tup [.str "program", .str x, .ref l, .bl true]) → H' l = some (.lst ((rowsOf (partsOf x)).map fun p => V.str p.1)) → Q (.ref t) H')
section
variable {P : Program} {w : World} {K : PySem.W.Frag} {mg : Str → Option Value} {base : Heap} {C CS CB CI CM CW fPI : Addr} {Ce : Nat → Addr}
theorem scPTold : FnScope ["_law_text_here", "_law_found", "_law_program", "_law_e", "_law_step_here"] ["_law_text_here"] (defScope sPTold) := ⟨rfl, rfl, rfl, by decide +kernel, rfl, by decide +kernel, by decide +kernel⟩
theorem ok_ptold {f fT : Addr} {fd id td : FuncData} (F : Fun K "_law_told" "_law_told" sPTold f fd) (J : TxtJ K mg C CS fPI) (cl : Cls K C) (nT : NoAttr K C "text") (nS : NoAttr K C "steps") (gW : mg "WordsError" = some (.ref CW)) (isi : mg "isinstance" = none) (gTu : mg "tuple" = none)
    (GI : FnOk P w K mg base (L2.CX P w) 5 fPI id ["self", "text"] (spPInit K C CS CB CI CM)) (bI : Binds K id ["self", "text"] []) (GT : FnE P w K mg base 1 fT td ["_law_e"] (spLErr Ce)) (gT : mg "_law_error" = some (.ref fT)) (kT : PySem.W.keepIn K (.ref fT) = true) (bT : Binds K td ["_law_e"] [])
    (hB : CB = Ce 0) (hI : CI = Ce 1) (hM : CM = Ce 3) (xW : ∀ i, i < 4 → PySem.W.exmOne K (.ref (Ce i)) (.ref CW) = some true) : FnOk P w K mg base CX0 7 f fd ["_law_text_here"] (spPTold K) := by
  refine F.ok scPTold (fun vs H Q E h => ?_) (fun cdv A outer s H vs Q E hr h => ?_)
  · obtain ⟨v, rfl, _⟩ := h
    rfl
  · obtain ⟨v, rfl, hv, kB, kI, kM, kQ⟩ := h
    have nd := scPTold.nd
    refine ⟨_, (pss_cons (ps_set (i := 1) nd rfl (Or.inl rfl) (pe_tup (pa_cons pe_str (pa_cons pe_non pa_nil))))
      (pss_cons (ps_try_as (i := 3) (tb := fun W => tb_ptold K C CS CB CI CM W) (ts := fun a cls d => ts_ptold Ce a cls d) (Wout := fun _ _ _ _ => False) rfl rfl nd rfl rfl ⟨rfl, by decide, Or.inl gW⟩ takes0
        (fun W pn xe tk _ => (pss_cons (ps_set (i := 2) nd rfl (Or.inl rfl) (pe_makeS J.mkr GI hr rfl J.g bI (fun σ => passAt tk σ) (pa_cons (pv 0) pa_nil)))
        (pss_one (ps_set (i := 1) nd rfl (Or.inl rfl) (pe_tup (pa_cons pe_str (pa_cons (pe_fld (pv 2) rfl) (pa_cons (pe_lc (own := [("_law_step_here", 4)]) (g := (gName 4)) (tt := tYes) rfl nd (pi_tup (pe_fld (pv 2) rfl)) (blkOk_by (own := [("_law_step_here", 4)]) (N := ["_law_text_here", "_law_found", "_law_program", "_law_e", "_law_step_here"]) (sc := defScope sPTold) (by decide +kernel)) (fun _ _ _ _ _ => (pg_name (i := 4) nd rfl (Or.inl rfl))) (fun _ _ _ _ _ => pts_nil) (fun _ _ _ _ _ => (show PE _ _ (tFld K (tVar 4) "text") from pe_fld (pv 4) rfl))) (pa_cons (pe_callB call_isi rfl isi (by decide +kernel) (pa_cons (pe_fld (pv 2) rfl) (pa_cons (pe_bltn (v := .ty "tuple") rfl gTu (by decide +kernel) rfl) pa_nil))) pa_nil)))))))))
        (fun a oe cls d pn hz hf => (pss_one (ps_set (i := 1) nd rfl (Or.inl rfl) (pe_callE GT (roomH_suite (hr.mono (by decide))) (List.mem_cons_self ..) hz hf rfl gT kT bT (pa_cons (pv 3) pa_nil))))))
      (pss_one (ps_ret (pv 1))))), ?_⟩
    refine ⟨by show 2 ≤ sizeLine; decide, fun t0 ht0 => ?_⟩
    have s0 := same_upd (o := .tup [.str "none", .non]) ht0
    obtain ⟨H1, hH1⟩ : ∃ H1, upd H t0 (.tup [.str "none", .non]) = H1 := ⟨_, rfl⟩
    change tb_ptold K C CS CB CI CM _ _ _ (upd H t0 (.tup [.str "none", .non]))
    rw [hH1] at s0 ⊢
    have hv1 := hv.same s0
    refine ⟨_, rfl, fun x dx hx hdx ne => ?_⟩
    have sx1 := same_upd (o := .own x) hdx
    have hx' : upd H1 dx (.own x) x = none := by rw [upd_ne (Ne.symm ne)]; exact hx
    have sx2 := sx1.trans (same_upd (o := .ins C dx []) hx')
    refine ⟨x, dx, v, rfl, upd_same, hv1.same sx2, fun hn d H2 s2 hd0 hd => ?_, fun z hz i hi d H2 s2 hd0 hd => ?_, fun z hz hf m hm d H2 s2 hd0 hd => ?_, fun z hz hf hb H2 sb pa => ?_⟩
    · refine ⟨true, hB ▸ xW 0 (by decide), fun _ a ha => ?_, fun z => Bool.noConfusion z⟩
      refine ⟨_, rfl, d, 0, v, rfl, by rw [hB], by decide, rfl, hd, fun t H3 s3 e3 => ?_⟩
      exact ⟨_, rfl, kB hn t _ (((s0.trans sx2).trans s2).trans s3) e3⟩
    · refine ⟨true, hI ▸ xW 1 (by decide), fun _ a ha => ?_, fun z => Bool.noConfusion z⟩
      refine ⟨_, rfl, d, 1, _, rfl, by rw [hI], by decide, rfl, hd, fun t H3 s3 e3 => ?_⟩
      exact ⟨_, rfl, kI z i hz hi t _ (((s0.trans sx2).trans s2).trans s3) e3⟩
    · refine ⟨true, hM ▸ xW 3 (by decide), fun _ a ha => ?_, fun z => Bool.noConfusion z⟩
      refine ⟨_, rfl, d, 3, _, rfl, by rw [hM], by decide, rfl, hd, fun t H3 s3 e3 => ?_⟩
      exact ⟨_, rfl, kM z m hz hf hm t _ (((s0.trans sx2).trans s2).trans s3) e3⟩
    · subst hz
      obtain ⟨ex, st, xs, ea, es, hS⟩ := pa.ex
      have sH : Same H1 H2 := fun c o e => sb c o (sx2 c o e) (fun z => by rw [z, hx] at e; cases e)
      refine ⟨rfl, ?_⟩
      refine ⟨_, rfl, x, C, ex, _, _, rfl, ea, cl, nT, pText, ?_⟩
      refine ⟨_, rfl, x, C, ex, _, _, rfl, ea, cl, nS, pSteps, st, rfl, ⟨xs, SqT.of es⟩, fun D hD => ?_⟩
      obtain ⟨ps, hps⟩ : ∃ ps, rowsOf (partsOf z) = ps := ⟨_, rfl⟩
      have kQ := kQ z rfl hf hb
      rw [hps] at hS kQ
      have lx := hS.length
      refine lc_tup (a := st) (xs := xs) (fun m H3 => Same H2 H3 ∧ H3 D = some (.lst ((ps.take m).map fun p => V.str p.1))) ⟨same_upd hD, upd_same⟩ (fun m H3 hm p => SqT.of (p.1 _ _ es)) ?_ ?_
      · rintro m y H3 hy ⟨s3, e3⟩
        obtain ⟨b, p, ip, rfl, sp⟩ := (hS.same s3).get hy
        obtain ⟨dy, bv, tv, eb, _, _⟩ := sp.ex
        have et : ps.take (m + 1) = ps.take m ++ [p] := by
          rw [List.take_succ, ip]
          rfl
        refine ⟨rfl, _, rfl, b, CS, dy, _, _, rfl, eb, J.cs, J.nT, gText, _, e3, ?_, same_fresh hD s3, ?_⟩
        · rw [List.length_map, List.length_take]
          have hb5 : ps.length ≤ 5 := by
            rw [← hps]
            unfold boundsE at hb
            split at hb
            · cases hb
            · omega
          exact small200' (by omega)
        · rw [upd_same, et, List.map_append]
          rfl
      · rintro H3 ⟨s3, e3⟩
        rw [List.take_of_length_le (by omega)] at e3
        refine ⟨_, rfl, x, C, ex, _, _, rfl, s3 _ _ ea, cl, nS, pSteps, .ref st, .ty "tuple", .type "tuple", .type "tuple", true, rfl, .ty _, .base (.tup (s3 _ _ es)), kit_ty (show kitB "tuple" "tuple" = some true by decide +kernel), by show 4 ≤ sizeLine; decide, fun t ht => ?_⟩
        exact ⟨_, rfl, kQ t D _ (((s0.trans sH).trans s3).trans (same_upd ht)) upd_same (same_upd ht _ _ e3)⟩
end
end Aw

namespace Aw
open PySem PySem.Spec PyProof.Rows L2 NdefX
/-! ### C.m(..), m a classmethod, an exception passed on as the state has it -/
def tCMethS (C : Addr) (sp : Sp) (E : Aw.St → XK) (ta : TE) (t : TA) : TE := fun σ H Q => ta σ H fun x H1 => x = .ref C ∧ t σ H1 fun vs H2 => sp (.ref C :: vs) H2 Q (E σ)
section
variable {X : Cx} {CX : CXT} {k : Nat} {C p g : Addr} {mc : Value} {sp : Sp} {o e : Expr} {es : List Expr} {m : Str} {pos apos : Pos} {ta : TE} {t : TA} {pl : Sem Bool} {fd : FuncData} {ps : List Str} {E : Aw.St → XK}
theorem pe_cmethS (he : PE X o ta) (r : ClX.CRead X.K C mc) (c : ClX.CMet X.K C mc m p g) (F : FnOk X.prog X.w X.K X.mg X.base CX k g fd ps sp) (hr : Room k X.A) (hb : Binds X.K fd ps []) (hx : ∀ σ, PassesAt CX X σ (E σ)) (ha : PA X (e :: es) t)
    (hst : starEach (e :: es) X.env = (false, eval e X.env) :: starEach es X.env := by rfl) (hpl : (backTo pos (starEach es X.env)).any (·.1) = false := by rfl)
    (ht : eval (.Call (.Attribute o m apos) (e :: es) [] pos) X.env = (do
      let ov ← eval o X.env
      standAt apos.atName
      let (f, first) ← holding [ov] (getMethod ov m pl)
      callWith pos f first (backTo pos (starEach (e :: es) X.env)) (backToKw pos (keywordEach [] X.env))) := by rfl) :
    PE X (.Call (.Attribute o m apos) (e :: es) [] pos) (tCMethS C sp E ta t) := by
  refine ⟨fun pins s σ H Q I h => ?_⟩
  refine PySem.W.methodCall_KW (pl := pl) (thn (he.run pins s σ H _ I h) fun u s1 ⟨x, H1, I1, rx, ex, q⟩ => ?_) ht
  subst ex
  obtain rfl : u = Value.ref C := rx
  refine ClX.getmethcm_ok I1 r c fun s2 I2 => ?_
  refine ClX.callwith_cm I2 (ClX.base_none I1 (Nat.le_refl _)) c.fi (thn (ha.run pos _ s2 σ H1 _ I2 q) fun us s3 ⟨vs, H2, I3, rv, q2⟩ => ⟨⟨ClX.pin_at I3, I3.kIn⟩, ?_⟩) hst hpl
  have r2 : Vals (V.ref C :: vs) (Value.ref C :: us) := .cons rfl rv
  have hl : (Value.ref C :: us).length = ps.length := by rw [← r2.length]; exact F.len _ _ _ _ q2
  have bb := hb s3 (Value.ref C :: us) I3.kIn (by rw [List.append_nil]; exact hl)
  rw [List.append_nil] at bb
  have z : wpAny (model X.prog X.w) X.A (call (.ref s1.heap.objs.size) us) (EP X ((s1.heap.objs.size, PySem.W.methodObj (.ref g) (.ref C)) :: pins) σ Q) X.xe s3 :=
    wpAny_call (PySem.W.method_call (ClX.pin_at I3) (codeAny_mono (F.run X.A X.stack s3 H2 ⟨Value.ref C :: us, []⟩ (Value.ref C :: us) (V.ref C :: vs) Q (E σ) hr I3.env0 bb r2 q2) fun r s' hq => by
      cases r with
      | error e => exact hx σ _ _ _ e s' I3 hq
      | ok fl =>
        cases fl with
        | ret w => exact I3.after hq
        | next => exact False.elim hq
        | brk => exact False.elim hq
        | cont => exact False.elim hq))
  exact thn z fun _ _ y => ClX.unpinE y
end
end Aw

namespace Aw
open PySem PySem.Spec PyProof.Rows L2 NdefX
abbrev sPOf : Stmt := (top 35)
def tb_pof (K : PySem.W.Frag) (C CS CI CM : Addr) (W : WX) : TS := tSeq (tAsg (tCMethS C (spOf K C CS CI CM) (WE W) (tC (.ref C)) (tCons (tVar 0) tNil)) (gName 2))
  (tAsg (tTup (tCons (tC (.str "program")) (tCons (tFld K (tVar 2) "text") (tCons (tLc (iTup K (tFld K (tVar 2) "steps")) (gName 4) tYes (tFld K (tVar 4) "text") [4])
    (tCons (tCB (rIsi K) (tCons (tFld K (tVar 2) "steps") (tCons (tC (.ty "tuple")) tNil))) tNil))))) (gName 1))
theorem BadOf.same {K : PySem.W.Frag} {CS : Addr} {H H' : Hp} {xs : List V} {i : Nat} (b : BadOf K CS H xs i) (s : Same H H') : BadOf K CS H' xs i := by
  refine ⟨fun j v hj hv => ?_, ?_⟩
  · obtain ⟨p, a, e, sa⟩ := b.pre j v hj hv
    exact ⟨p, a, e, sa.same s⟩
  · obtain ⟨v, hv, t, ty, kt⟩ := b.bad
    exact ⟨v, hv, t, tyX_same s ty, kt⟩
def spPOf (K : PySem.W.Frag) (CS : Addr) : Sp := fun vs H Q _ => ∃ (l : Addr) (xs : List V), vs = [.ref l] ∧ (H l = some (.lst xs) ∨ H l = some (.tup xs)) ∧ xs.length ≤ 30 ∧
  ((∃ i, BadOf K CS H xs i ∧ ∀ t H', Same H H' → H' t = some (.tup [.str "BadStep", .int (i : Nat)]) → Q (.ref t) H') ∨
   (∃ ps, StepsAt K CS H xs ps ∧ (∀ m, boundsE ps = some m → ∀ t H', Same H H' → H' t = some (.tup [.str "TooMany", .int m]) → Q (.ref t) H') ∧
     (boundsE ps = none → ∀ t l H', Same H H' → H' t = some (.tup [.str "program", .str (textP ps), .ref l, .bl true]) → H' l = some (.lst (ps.map fun p => V.str p.1)) → Q (.ref t) H')))
section
variable {P : Program} {w : World} {K : PySem.W.Frag} {mg : Str → Option Value} {base : Heap} {C CS CI CM CW fPI pO gO : Addr} {mc : Value} {Ce : Nat → Addr}
theorem scPOf : FnScope ["_law_steps", "_law_found", "_law_program", "_law_e", "_law_step_here"] ["_law_steps"] (defScope sPOf) := ⟨rfl, rfl, rfl, by decide +kernel, rfl, by decide +kernel, by decide +kernel⟩
theorem ok_pof {f fT : Addr} {fd od td : FuncData} (F : Fun K "_law_of" "_law_of" sPOf f fd) (J : TxtJ K mg C CS fPI) (cl : Cls K C) (nT : NoAttr K C "text") (nS : NoAttr K C "steps") (gW : mg "WordsError" = some (.ref CW)) (isi : mg "isinstance" = none) (gTu : mg "tuple" = none)
    (CR : ClX.CRead K C mc) (CMt : ClX.CMet K C mc "of" pO gO) (GO : FnOk P w K mg base (L2.CX P w) 8 gO od ["cls", "steps"] (spOf K C CS CI CM)) (bO : Binds K od ["cls", "steps"] []) (GT : FnE P w K mg base 1 fT td ["_law_e"] (spLErr Ce)) (gT : mg "_law_error" = some (.ref fT)) (kT : PySem.W.keepIn K (.ref fT) = true) (bT : Binds K td ["_law_e"] [])
    (hI : CI = Ce 1) (hM : CM = Ce 3) (xW : ∀ i, i < 4 → PySem.W.exmOne K (.ref (Ce i)) (.ref CW) = some true) : FnOk P w K mg base CX0 9 f fd ["_law_steps"] (spPOf K CS) := by
  refine F.ok scPOf (fun vs H Q E h => ?_) (fun cdv A outer s H vs Q E hr h => ?_)
  · obtain ⟨l, xs, rfl, _⟩ := h
    rfl
  · obtain ⟨l, xs, rfl, hl, hn, hcase⟩ := h
    have nd := scPOf.nd
    refine ⟨_, (pss_cons (ps_set (i := 1) nd rfl (Or.inl rfl) (pe_tup (pa_cons pe_str (pa_cons pe_non pa_nil))))
      (pss_cons (ps_try_as (i := 3) (tb := fun W => tb_pof K C CS CI CM W) (ts := fun a cls d => ts_ptold Ce a cls d) (Wout := fun _ _ _ _ => False) rfl rfl nd rfl rfl ⟨rfl, by decide, Or.inl gW⟩ takes0
        (fun W pn xe tk _ => (pss_cons (ps_set (i := 2) nd rfl (Or.inl rfl) (pe_cmethS (pl := _) (pe_glob (v := .ref C) rfl J.g rfl) CR CMt GO hr bO (fun σ => passAt tk σ) (pa_cons (pv 0) pa_nil)))
        (pss_one (ps_set (i := 1) nd rfl (Or.inl rfl) (pe_tup (pa_cons pe_str (pa_cons (pe_fld (pv 2) rfl) (pa_cons (pe_lc (own := [("_law_step_here", 4)]) (g := (gName 4)) (tt := tYes) rfl nd (pi_tup (pe_fld (pv 2) rfl)) (blkOk_by (own := [("_law_step_here", 4)]) (N := ["_law_steps", "_law_found", "_law_program", "_law_e", "_law_step_here"]) (sc := defScope sPOf) (by decide +kernel)) (fun _ _ _ _ _ => (pg_name (i := 4) nd rfl (Or.inl rfl))) (fun _ _ _ _ _ => pts_nil) (fun _ _ _ _ _ => (show PE _ _ (tFld K (tVar 4) "text") from pe_fld (pv 4) rfl))) (pa_cons (pe_callB call_isi rfl isi (by decide +kernel) (pa_cons (pe_fld (pv 2) rfl) (pa_cons (pe_bltn (v := .ty "tuple") rfl gTu (by decide +kernel) rfl) pa_nil))) pa_nil)))))))))
        (fun a oe cls d pn hz hf => (pss_one (ps_set (i := 1) nd rfl (Or.inl rfl) (pe_callE GT (roomH_suite (hr.mono (by decide))) (List.mem_cons_self ..) hz hf rfl gT kT bT (pa_cons (pv 3) pa_nil))))))
      (pss_one (ps_ret (pv 1))))), ?_⟩
    refine ⟨by show 2 ≤ sizeLine; decide, fun t0 ht0 => ?_⟩
    have s0 := same_upd (o := .tup [.str "none", .non]) ht0
    obtain ⟨H1, hH1⟩ : ∃ H1, upd H t0 (.tup [.str "none", .non]) = H1 := ⟨_, rfl⟩
    change tb_pof K C CS CI CM _ _ _ (upd H t0 (.tup [.str "none", .non]))
    rw [hH1] at s0 ⊢
    have hl1 : H1 l = some (.lst xs) ∨ H1 l = some (.tup xs) := hl.imp (fun e => s0 _ _ e) (fun e => s0 _ _ e)
    refine ⟨rfl, _, rfl, l, xs, rfl, hl1, hn, ?_⟩
    rcases hcase with ⟨i, hb, kI⟩ | ⟨ps, hS, kM, kQ⟩
    · refine .inl ⟨i, hb.same s0, fun d H2 s2 hd0 hd => ?_⟩
      refine ⟨true, hI ▸ xW 1 (by decide), fun _ a ha => ?_, fun z => Bool.noConfusion z⟩
      refine ⟨_, rfl, d, 1, _, rfl, by rw [hI], by decide, rfl, hd, fun t H3 s3 e3 => ?_⟩
      exact ⟨_, rfl, kI t _ ((s0.trans s2).trans s3) e3⟩
    · refine .inr ⟨ps, hS.same s0, fun m hm d H2 s2 hd0 hd => ?_, fun hb x H2 sH pa => ?_⟩
      · refine ⟨true, hM ▸ xW 3 (by decide), fun _ a ha => ?_, fun z => Bool.noConfusion z⟩
        refine ⟨_, rfl, d, 3, _, rfl, by rw [hM], by decide, rfl, hd, fun t H3 s3 e3 => ?_⟩
        exact ⟨_, rfl, kM m hm t _ ((s0.trans s2).trans s3) e3⟩
      obtain ⟨ex, st, xs', ea, es, hS⟩ := pa.ex
      have kQ := kQ hb
      refine ⟨_, rfl, x, C, ex, _, _, rfl, ea, cl, nT, pText, ?_⟩
      refine ⟨_, rfl, x, C, ex, _, _, rfl, ea, cl, nS, pSteps, st, rfl, ⟨xs', SqT.of es⟩, fun D hD => ?_⟩
      have lx := hS.length
      refine lc_tup (a := st) (xs := xs') (fun m H3 => Same H2 H3 ∧ H3 D = some (.lst ((ps.take m).map fun p => V.str p.1))) ⟨same_upd hD, upd_same⟩ (fun m H3 hm p => SqT.of (p.1 _ _ es)) ?_ ?_
      · rintro m y H3 hy ⟨s3, e3⟩
        obtain ⟨b, p, ip, rfl, sp⟩ := (hS.same s3).get hy
        obtain ⟨dy, bv, tv, eb, _, _⟩ := sp.ex
        have et : ps.take (m + 1) = ps.take m ++ [p] := by
          rw [List.take_succ, ip]
          rfl
        refine ⟨rfl, _, rfl, b, CS, dy, _, _, rfl, eb, J.cs, J.nT, gText, _, e3, ?_, same_fresh hD s3, ?_⟩
        · rw [List.length_map, List.length_take]
          have hb5 : ps.length ≤ 5 := by
            unfold boundsE at hb
            split at hb
            · cases hb
            · omega
          exact small200' (by omega)
        · rw [upd_same, et, List.map_append]
          rfl
      · rintro H3 ⟨s3, e3⟩
        rw [List.take_of_length_le (by omega)] at e3
        refine ⟨_, rfl, x, C, ex, _, _, rfl, s3 _ _ ea, cl, nS, pSteps, .ref st, .ty "tuple", .type "tuple", .type "tuple", true, rfl, .ty _, .base (.tup (s3 _ _ es)), kit_ty (show kitB "tuple" "tuple" = some true by decide +kernel), by show 4 ≤ sizeLine; decide, fun t ht => ?_⟩
        exact ⟨_, rfl, kQ t D _ (((s0.trans sH).trans s3).trans (same_upd ht)) upd_same (same_upd ht _ _ e3)⟩
end
end Aw

namespace Aw
open PySem PySem.Spec PyProof.Rows L2 NdefX
abbrev sPDue : Stmt := (top 37)
theorem sum_le_mul {l : List Nat} {b : Nat} (h : ∀ x ∈ l, x ≤ b) : l.sum ≤ l.length * b := by
  induction l with
  | nil => exact Nat.zero_le _
  | cons x l ih =>
    have h1 := h x (List.mem_cons_self ..)
    have h2 := ih fun y hy => h y (List.mem_cons_of_mem _ hy)
    rw [List.sum_cons, List.length_cons, Nat.add_mul, Nat.one_mul]
    omega
def spPDue (K : PySem.W.Frag) : Sp := fun vs H Q _ => ∃ (v : V) (lk : Addr), vs = [v, .ref lk] ∧ VOk H v ∧ H lk = some (.lst ((known.map (·.1)).map V.str)) ∧ (isStr v = false → ∀ t H', Same H H' → H' t = some (.tup [.str "BadText", v]) → Q (.ref t) H') ∧
  (∀ x i, v = .str x → firstBad (partsOf x) = some i → ∀ t H', Same H H' → H' t = some (.tup [.str "BadStep", .int (i : Nat)]) → Q (.ref t) H') ∧
  (∀ x m, v = .str x → firstBad (partsOf x) = none → dueE (partsOf x) = some m → ∀ t H', Same H H' → H' t = some (.tup [.str "TooMany", .int m]) → Q (.ref t) H') ∧
  (∀ x, v = .str x → firstBad (partsOf x) = none → dueE (partsOf x) = none → ∀ t l H', Same H H' → H' t = some (.tup [.str "program", .str (Str.join " then " (partsOf x)), .ref l, .bl true]) → H' l = some (.lst ((partsOf x).map V.str)) → H l = none → Q (.ref t) H')
theorem join_partsOf (x : Str) : Str.join " then " (partsOf x) = x := by
  unfold partsOf
  split
  · rename_i e
    rw [e]
    rfl
  · exact StrLaws.join_split x " then "
theorem parts_sum {x : Str} (hx : x.length ≤ 1000) : ((partsOf x).map (·.length)).sum ≤ 2000000 := by
  have h1 := partsOf_len hx
  have h2 := sum_le_mul (l := (partsOf x).map (·.length)) (b := 1000) fun n hn => by
    obtain ⟨y, hy, rfl⟩ := List.mem_map.mp hn
    exact Nat.le_trans (partsOf_short hy) hx
  rw [List.length_map] at h2
  have : (partsOf x).length * 1000 ≤ 1002 * 1000 := Nat.mul_le_mul_right _ h1
  omega
section
variable {P : Program} {w : World} {K : PySem.W.Frag} {mg : Str → Option Value} {base : Heap}
theorem scPDue : FnScope ["_law_text_here", "_law_known", "_law_parts", "_law_k"] ["_law_text_here", "_law_known"] (defScope sPDue) := ⟨rfl, rfl, rfl, by decide +kernel, rfl, by decide +kernel, by decide +kernel⟩
theorem ok_pdue {f fRd : Addr} {fd rd : FuncData} (F : Fun K "_law_due" "_law_due" sPDue f fd) (isi : mg "isinstance" = none) (hs : mg "str" = none) (ln : mg "len" = none) (gR : mg "range" = none) (FRd : Fun K "_law_row_due" "_law_row_due" sRowDue fRd rd) (bRd : Binds K rd ["_law_parts"] []) (gRd : mg "_law_row_due" = some (.ref fRd)) :
    FnOk P w K mg base CX0 2 f fd ["_law_text_here", "_law_known"] (spPDue K) := by
  have GRd : FnOk P w K mg base CX0 1 fRd rd ["_law_parts"] (spRowDue K) := ok_rowdue FRd ln
  refine F.ok scPDue (fun vs H Q E h => ?_) (fun cdv A outer s H vs Q E hr h => ?_)
  · obtain ⟨v, lk, rfl, _⟩ := h
    rfl
  · obtain ⟨v, lk, rfl, hv, hk, kB, kI, kM, kQ⟩ := h
    have nd := scPDue.nd
    refine ⟨_, (pss_cons (ps_if (pt_not (pt_val (pe_callB call_isi (by rfl) isi (by decide +kernel) (pa_cons (pv 0) (pa_cons (pe_bltn (v := .ty "str") (by rfl) hs (by decide +kernel) rfl) pa_nil)))))
        (pss_one (ps_ret (pe_tup (pa_cons pe_str (pa_cons (pv 0) pa_nil))))) pss_nil)
      (pss_cons (ps_set (i := 2) nd rfl (Or.inl rfl) (pe_lst pa_nil))
      (pss_cons (ps_if (pt_cmpR op_ne (pv 0) pe_str (nomark _))
        (pss_one (ps_set (i := 2) nd rfl (Or.inl rfl) (pe_split (pv 0) pe_str))) pss_nil)
      (pss_cons (ps_for PassesOwn.never rfl (pi_range1 rfl gR (pa_cons (pe_callB call_len_seq (by rfl) ln PySem.boot_len (pa_cons (pv 2) pa_nil)) pa_nil)) (pg_name (i := 3) nd rfl (Or.inl rfl))
        (pss_one (ps_if (pt_cmpR op_notIn_seq (pe_ix ix_list (pv 2) (pv 3) (fun _ _ => rfl)) (pv 1) (by rfl))
          (pss_one (ps_ret (pe_tup (pa_cons pe_str (pa_cons (pv 3) pa_nil))))) pss_nil)))
      (pss_one (ps_ret (pe_call GRd (hr.mono (by decide)) (by rfl) gRd FRd.kp bRd .nil pass0 (pa_cons (pv 2) pa_nil)))))))), ?_⟩
    obtain ⟨t, ty, kt⟩ := hv.isi (K := K)
    refine ⟨_, rfl, v, .ty "str", t, .type "str", isStr v, rfl, .ty _, ty, kt, _, rfl, ?_⟩
    have notS : isStr v = false → ∀ t, H t = none → Q (.ref t) (upd H t (.tup [.str "BadText", v])) := fun e t ht => kB e t _ (same_upd ht) upd_same
    cases hv with
    | str x hx =>
      refine iteF ?_
      refine ⟨by show 0 ≤ sizeLine; decide, fun l0 h0 => ?_⟩
      have s0 := same_upd (o := .lst []) h0
      have lL0 := partsOf_len hx
      obtain ⟨L, hL⟩ : ∃ L, partsOf x = L := ⟨_, rfl⟩
      rw [hL] at lL0
      refine ⟨_, rfl, rfl, _, rfl, ?_⟩
      refine ite_nstr (fun e => ?_) (fun e => ?_)
      · refine ⟨_, rfl, ⟨_, rfl⟩, x, " then ", rfl, rfl, by decide +kernel, Nat.le_trans (by omega : x.length + 2 ≤ 2000) (by decide), fun lp hp => ?_⟩
        have s1 := s0.trans (same_upd (o := .lst ((Txt.split x " then ").map V.str)) hp)
        have e1 : upd (upd H l0 (.lst [])) lp (.lst ((Txt.split x " then ").map V.str)) lp = some (.lst (L.map V.str)) := by
          rw [upd_same, ← hL, partsOf, if_neg e]
        obtain ⟨H1, hH1⟩ : ∃ H1, upd (upd H l0 (.lst [])) lp (.lst ((Txt.split x " then ").map V.str)) = H1 := ⟨_, rfl⟩
        rw [hH1] at s1 e1 ⊢
        refine ⟨_, rfl, lp, L.map V.str, rfl, .inl (SqL.of e1), ((L.map V.str).length : Int), rfl, by rw [List.length_map]; omega, by rw [List.length_map]; omega, for_range (n := ((L.map V.str).length : Int).toNat) (fun i σ H3 => ∃ (v3 : Option V), σ = [some (.str x), some (.ref lk), some (.ref lp), v3] ∧ H3 = H1 ∧ ∀ y ∈ L.take i, parse y ≠ none) ⟨none, rfl, rfl, fun y hy => absurd hy (by simp)⟩ ?_ ?_⟩
        · rintro i σ H3 hi ⟨v3, rfl, rfl, np⟩
          have hi' : i < L.length := by rw [List.length_map] at hi; omega
          obtain ⟨z, hz⟩ : ∃ z, L[i]? = some z := ⟨L[i], List.getElem?_eq_getElem hi'⟩
          have hat : atI (L.map V.str) ((0 : Int) + (i : Int)) = some (.str z) := by
            rw [Int.zero_add]
            exact atI_nat (by rw [List.getElem?_map, hz]; rfl)
          refine ⟨_, rfl, _, rfl, lp, _, _, _, rfl, rfl, SqL.of e1, hat, _, rfl, lk, _, rfl, .inl (SqL.of (s1 _ _ hk)), rfl, flat_strs _, _, rfl, ?_⟩
          show if (!inV (.str z) ((known.map (·.1)).map V.str)) = true then _ else _
          rw [in_strs]
          refine ite_ndec (fun hn => ?_) (fun hn => ?_)
          · have pz : parse z = none := by
              cases e : parse z with
              | none => rfl
              | some r => exact absurd (List.mem_map.mpr ⟨(z, r), parse_iff.mp e, rfl⟩) hn
            refine ⟨_, rfl, by show 2 ≤ sizeLine; decide, fun t ht => ?_⟩
            refine kI x i rfl (by rw [hL]; exact firstBad_at np hz pz) t _ (s1.trans (same_upd ht)) ?_
            rw [upd_same, Int.zero_add]
          · refine ⟨_, rfl, rfl, fun y hy => ?_⟩
            have et : L.take (i + 1) = L.take i ++ [z] := by
              rw [List.take_succ, hz]
              rfl
            rw [et] at hy
            rcases List.mem_append.mp hy with h | h
            · exact np y h
            · rw [List.mem_singleton.mp h]
              obtain ⟨q, hq, e⟩ := List.mem_map.mp hn
              rw [← e, show parse q.1 = some q.2 from parse_iff.mpr hq]
              exact fun z => by cases z
        · rintro σ H3 ⟨v3, rfl, rfl, np⟩
          rw [List.take_of_length_le (by rw [List.length_map]; omega)] at np
          have fb := firstBad_none np
          refine ⟨_, rfl, lp, L, rfl, e1, by omega, ?_, fun m hm t H4 s4 e4 => kM x m rfl (by rw [hL]; exact fb) (by rw [hL]; exact hm) t H4 (s1.trans s4) e4, fun hm t H4 s4 e4 => kQ x rfl (by rw [hL]; exact fb) (by rw [hL]; exact hm) t lp H4 (s1.trans s4) (by rw [hL]; exact e4) (by rw [hL]; exact s4 _ _ e1) (s0.free hp)⟩
          rw [← hL]
          exact parts_sum hx
      · obtain ⟨lp, hlp⟩ : ∃ lp, l0 = lp := ⟨_, rfl⟩
        subst hlp
        have s1 := s0
        have e1 : upd H l0 (.lst []) l0 = some (.lst (L.map V.str)) := by
          rw [upd_same, ← hL, partsOf, if_pos e]
          rfl
        obtain ⟨H1, hH1⟩ : ∃ H1, upd H l0 (.lst []) = H1 := ⟨_, rfl⟩
        rw [hH1] at s1 e1 ⊢
        refine ⟨_, rfl, l0, L.map V.str, rfl, .inl (SqL.of e1), ((L.map V.str).length : Int), rfl, by rw [List.length_map]; omega, by rw [List.length_map]; omega, for_range (n := ((L.map V.str).length : Int).toNat) (fun i σ H3 => ∃ (v3 : Option V), σ = [some (.str x), some (.ref lk), some (.ref l0), v3] ∧ H3 = H1 ∧ ∀ y ∈ L.take i, parse y ≠ none) ⟨none, rfl, rfl, fun y hy => absurd hy (by simp)⟩ ?_ ?_⟩
        · rintro i σ H3 hi ⟨v3, rfl, rfl, np⟩
          have hi' : i < L.length := by rw [List.length_map] at hi; omega
          obtain ⟨z, hz⟩ : ∃ z, L[i]? = some z := ⟨L[i], List.getElem?_eq_getElem hi'⟩
          have hat : atI (L.map V.str) ((0 : Int) + (i : Int)) = some (.str z) := by
            rw [Int.zero_add]
            exact atI_nat (by rw [List.getElem?_map, hz]; rfl)
          refine ⟨_, rfl, _, rfl, l0, _, _, _, rfl, rfl, SqL.of e1, hat, _, rfl, lk, _, rfl, .inl (SqL.of (s1 _ _ hk)), rfl, flat_strs _, _, rfl, ?_⟩
          show if (!inV (.str z) ((known.map (·.1)).map V.str)) = true then _ else _
          rw [in_strs]
          refine ite_ndec (fun hn => ?_) (fun hn => ?_)
          · have pz : parse z = none := by
              cases e : parse z with
              | none => rfl
              | some r => exact absurd (List.mem_map.mpr ⟨(z, r), parse_iff.mp e, rfl⟩) hn
            refine ⟨_, rfl, by show 2 ≤ sizeLine; decide, fun t ht => ?_⟩
            refine kI x i rfl (by rw [hL]; exact firstBad_at np hz pz) t _ (s1.trans (same_upd ht)) ?_
            rw [upd_same, Int.zero_add]
          · refine ⟨_, rfl, rfl, fun y hy => ?_⟩
            have et : L.take (i + 1) = L.take i ++ [z] := by
              rw [List.take_succ, hz]
              rfl
            rw [et] at hy
            rcases List.mem_append.mp hy with h | h
            · exact np y h
            · rw [List.mem_singleton.mp h]
              obtain ⟨q, hq, e⟩ := List.mem_map.mp hn
              rw [← e, show parse q.1 = some q.2 from parse_iff.mpr hq]
              exact fun z => by cases z
        · rintro σ H3 ⟨v3, rfl, rfl, np⟩
          rw [List.take_of_length_le (by rw [List.length_map]; omega)] at np
          have fb := firstBad_none np
          refine ⟨_, rfl, l0, L, rfl, e1, by omega, ?_, fun m hm t H4 s4 e4 => kM x m rfl (by rw [hL]; exact fb) (by rw [hL]; exact hm) t H4 (s1.trans s4) e4, fun hm t H4 s4 e4 => kQ x rfl (by rw [hL]; exact fb) (by rw [hL]; exact hm) t l0 H4 (s1.trans s4) (by rw [hL]; exact e4) (by rw [hL]; exact s4 _ _ e1) h0⟩
          rw [← hL]
          exact parts_sum hx
    | _ =>
      refine iteT ?_
      exact ⟨_, rfl, by show 2 ≤ sizeLine; decide, fun t ht => notS rfl t ht⟩
end
end Aw

namespace Aw
open PySem PySem.Spec PyProof.Rows L2 NdefX
/-! ### for x in o, where o's own __iter__ tells iter(tuple) -/
/-- a def whose promise knows how many objects there were -/
structure FnN (P : Program) (w : World) (K : PySem.W.Frag) (mg : Str → Option Value) (base : Heap) (k : Nat) (f : Addr) (fd : FuncData) (ps : List Str) (sp : Nat → Sp) : Prop where
  len : ∀ n vs H Q E, sp n vs H Q E → vs.length = ps.length
  run : ∀ (A : Around) (outer : List Env) (s : Shared) (H : Hp) (args : Args) (us : List Value) (vs : List V) (Q : VK) (E : XK), Room k A → Env0 P w K mg base A outer s H → BindsTo s fd args (ps.zip us) → Vals vs us → sp s.heap.objs.size vs H Q E →
    codeAny (model P w) A (.call (.ref f) args) (CR CX0 outer P w H s Q E) s
theorem fn_ofN {P : Program} {w : World} {K : PySem.W.Frag} {mg : Str → Option Value} {base : Heap} {k : Nat} {f : Addr} {name qual : Str} {params : Arguments} {body : List Stmt} {scope : Scope} {dV kV doc pm cdv ct oc : Value} {an od : Option Addr}
    {osl : Array (Option Value)} {N ps : List Str} {sp : Nat → Sp} (lk : K.lookup f = some ⟨oc, od, .func (PySem.W.fnOf name qual params body scope dV kV doc pm an cdv ct), osl⟩) (hcd : PySem.W.codeIn K cdv qual = true) (S : FnScope N ps scope)
    (len : ∀ n vs H Q E, sp n vs H Q E → vs.length = ps.length)
    (hbody : ∀ (A : Around) (outer : List Env) (s : Shared) (H : Hp) (vs : List V) (Q : VK) (E : XK), Room k (A.deeper (envOfC qual scope s.heap.objs.size f cdv)) → sp s.heap.objs.size vs H Q E →
      ∃ t, PSs (cxOf CX0 P w K mg base N qual scope f cdv A outer s H E) body t ∧ t { nx := fun _ H' => Q .non H', rt := Q } (L2.start N vs) H) :
    FnN P w K mg base (k + 1) f (PySem.W.fnOf name qual params body scope dV kV doc pm an cdv ct) ps sp := by
  refine ⟨len, fun A outer s H args us vs Q E hr e0 hb r hsp => ?_⟩
  have hl := len _ _ _ _ _ hsp
  have KX : K.In s.heap := e0.mod.kin.keeps fun b o e => (e0.bs b o e).1
  have lim : s.heap.NoLimit := e0.mod.nolimit.keeps fun b o e => (e0.bs b o e).1
  have hkind : ∀ y ∈ ps.zip us, scope.names.lookup y.1 = some .local ∨ (scope.names.lookup y.1 = some .cell ∧ ((cellsFrom (s.heap.objs.size + 1) scope.names []).lookup y.1).isSome = true) := fun ⟨n, v⟩ hy => by
    rcases S.par n (List.of_mem_zip hy).1 with q | q
    · exact .inl q
    · exact .inr ⟨q, PySem.W.cellsFrom_some _ _ _ (.inl q)⟩
  refine codeAny_call_function hr.depth (KX _ _ lk) rfl S.co S.gen rfl (PySem.W.codeRec_of KX hcd) (hb _ _ _ _ ?_)
  refine wpAny_newFunctionEnv_cells S.kind hkind fun env he s1 x => ?_
  subst he
  refine ⟨lim.keeps x.toInCall.keep, codeAny_func ?_⟩
  obtain ⟨t, ht, hq⟩ := hbody A outer s H vs Q E (hr.deeper _) hsp
  have I : Inv (cxOf CX0 P w K mg base N qual scope f cdv A outer s H E) [] (L2.start N vs) H s1 := inv_start S hr.hd e0 hl r x
  refine wpAny_mono (ht.run [] s1 (L2.start N vs) H _ I hq) (fun fl s' hs => ?_) fun e s' hs => hs
  have fin : ∀ {σ' : Aw.St} {H' : Hp} {v : V} {u : Value}, Inv (cxOf CX0 P w K mg base N qual scope f cdv A outer s H E) [] σ' H' s' → RelV v u → Q v H' → CE outer P w H s Q u s' :=
    fun {σ' H' v u} J rv q => ⟨v, H', J.os, J.bare, J.base, J.hok, rv, q⟩
  cases fl with
  | ret u =>
    obtain ⟨v, σ', H', J, rv, q⟩ := hs
    exact fin J rv q
  | next =>
    obtain ⟨σ', H', J, q⟩ := hs
    exact fin (v := V.non) (u := Value.none) J rfl q
  | brk =>
    obtain ⟨_, _, _, q⟩ := hs
    exact False.elim q
  | cont =>
    obtain ⟨_, _, _, q⟩ := hs
    exact False.elim q
/-! iter(tuple) as a value -/
def tupIt (t : Addr) : Obj := { cls := .type "tuple_iterator", data := .fields #[.ref t, .int 0 0] }
def ItT (t it : Addr) : HO := .ext fun h => h.get? it = some (tupIt t)
theorem itT_ok {P : Program} {w : World} {H : Hp} {h : Heap} {t it : Addr} (e : h.get? it = some (tupIt t)) : ObjOk P w H h it (ItT t it) := ⟨e, ⟨_, e⟩, fun h1 h2 q k => k _ q⟩
theorem call_iter_tup {prog : Program} {w : World} {A : Around} {E : Value → Shared → Prop} {s : Shared} {l : Addr} {items : Array Value} {Q : Value → Shared → Prop} (hl : s.heap.IsTuple l items) (h : Q (.ref s.heap.objs.size) { s with heap := s.heap.push (tupIt l) }) : wpAny (model prog w) A (call (.builtin "iter") [.ref l]) Q E s := by
  refine Calls.call_function_entry (by decide +kernel) (by decide +kernel) PySem.W.kdk_entry_iter (PySem.W.kdk_args_iter _) ?_
  unfold Builtin.«iter»
  refine wpAny_bind (m := someArgs "iter" 1 2 _) (wpAny_of_eq (a := [Value.ref l]) (by first | rfl | kernel_rfl!) ?_)
  show wpAny _ _ (pyIter (.ref l) >>= _) _ _ _
  refine wpAny_bind (wpAny_pyIter_tuple hl ?_)
  exact wpAny_pure ⟨_, rfl, h⟩
def rIterT (K : PySem.W.Frag) (n : Nat) : List V → Hp → VK → Prop := fun xs H Q => ∃ (l : Addr) (zs : List V), xs = [.ref l] ∧ SqT K H l zs ∧ ∀ it, H it = Option.none → n ≤ it → Q (.ref it) (upd H it (ItT l it))
theorem call_iterT {X : Cx} : CallR X (.builtin "iter") (rIterT X.K X.s_0.heap.objs.size) := by
  intro pins s σ H xs us Q I r h
  obtain ⟨l, zs, rfl, hq, q⟩ := h
  obtain ⟨u, rfl, ru⟩ := vals1 r
  cases ru
  obtain ⟨its, rv, pl, hz⟩ := I.tuple hq
  refine call_iter_tup (show s.heap.IsTuple l its.toArray from pl) ?_
  exact ⟨.ref s.heap.objs.size, _, I.laid (t' := s.toks) (fun b u e => Heap.get?_push_of_some _ e) (Nat.le_refl _) (itT_ok (Heap.get?_push_size _ rfl)), rfl, q _ (I.hok.fresh (Nat.le_refl _)) I.sz⟩
theorem pyIter_own {M : Model} {A : Around} {E : Value → Shared → Prop} {s : Shared} {K : PySem.W.Frag} {x C f : Addr} {ox : Obj} {od : Option Obj} {Q : Value → Shared → Prop} (X : K.In s.heap) (I : PySem.W.InstAt s.heap x ox C od) (hs : PySem.W.findIn K (.ref C) "__iter__" = some (some (.ref f))) (hf : PySem.W.isFn K (.ref f) = true)
    (h : wpAny M A (call (.ref f) [.ref x]) (fun v s' => ∃ it t, v = .ref it ∧ s'.heap.get? it = some (tupIt t) ∧ Q v s') E s) : wpAny M A (pyIter (.ref x)) Q E s := by
  unfold pyIter
  refine wpAny_bind (wpAny_bind (I.type.here ((PySem.W.looks_findIn X hs).here ?_)))
  show wpAny M A (callSpecialIfBoundUnlessNone? (.ref x) "__iter__" _ >>= _) Q E s
  refine wpAny_bind ?_
  simp only [callSpecialIfBoundUnlessNone?, bindSpecialIfBound?]
  refine wpAny_holding (wpAny_bind (wpAny_bind (wpAny_bind (I.type.here ((PySem.W.looks_findIn X hs).here ?_)))))
  refine wpAny_bind (wpAny_askSetting (wpAny_ite ?_))
  have fin : wpAny M A (call (.ref f) [.ref x] >>= fun v => pure (some v)) (fun r s' => wpAny M A (match r with
      | some it => (do match ← specialOf it "__next__" with
        | none => do rule "iter.non-iterator"; raiseError "TypeError" s!"iter() returned non-iterator of type '{← typeNameOf it}'"
        | some _ => pure it : Sem Value)
      | none => (do match ← bindSpecialIfBound? (.ref x) "__getitem__" with
        | none => do rule "iter.not-iterable"; raiseError "TypeError" s!"'{← typeNameOf (.ref x)}' object is not iterable"
        | some _ => do rule "iter.getitem-fallback"; newFields "iterator" [.ref x, ← mkInt 0] : Sem Value)) Q E s') E s := by
    refine wpAny_bind (wpAny_mono h (fun v s' h' => wpAny_pure ?_) fun _ _ z => z)
    obtain ⟨it, t, rfl, ho, q⟩ := h'
    exact wpAny_bind (wpAny_specialOf (show s'.TypeIs (.ref it) "tuple_iterator" from ⟨_, ho, rfl⟩) F.slot_tuple_iterator_next.lookup (wpAny_pure q))
  split
  · exact wpAny_bind ((PySem.W.bind_fn X _ (beq_iff_eq.mp hf)).here (wpAny_pure (by exact fin)))
  · exact wpAny_tryCatch (wpAny_bind ((PySem.W.bind_fn X _ (beq_iff_eq.mp hf)).here (wpAny_pure (by exact fin))))
/-- what such an __iter__ promises: n objects were there -/
def spIter (K : PySem.W.Frag) (C : Addr) (fl : Str) : Nat → Sp := fun n vs H Q _ => ∃ (a dx : Addr) (fs : List (Str × V)) (t : Addr) (xs : List V), vs = [.ref a] ∧ H a = some (.ins C dx fs) ∧ fs.lookup fl = some (.ref t) ∧ SqT K H t xs ∧
  ∀ it, H it = Option.none → n ≤ it → Q (.ref it) (upd H it (ItT t it))
def iOwnT (K : PySem.W.Frag) (C : Addr) (fl : Str) (te : TE) : TI := fun σ H R => te σ H fun x H1 => ∃ (a dx : Addr) (fs : List (Str × V)) (t : Addr) (xs : List V), x = .ref a ∧ H1 a = some (.ins C dx fs) ∧ fs.lookup fl = some (.ref t) ∧ SqT K H1 t xs ∧ R (Itt K t) H1
theorem pi_own {X : Cx} {tg e : Expr} {te : TE} {C f : Addr} {fl : Str} {fd : FuncData} {ps : List Str} {k : Nat} (hs : PySem.W.findIn X.K (.ref C) "__iter__" = some (some (.ref f))) (hf : PySem.W.isFn X.K (.ref f) = true) (F : FnN X.prog X.w X.K X.mg X.base k f fd ps (spIter X.K C fl)) (hr : Room k X.A) (hb : Binds X.K fd ps [])
    (he : PE X e te) : PI X tg e (iOwnT X.K C fl te) := by
  refine ⟨fun pins s σ H R I h => ?_⟩
  refine thn (he.run pins s σ H _ I h) fun u s1 ⟨x, H1, I1, rx, a, dx, fs, t, xs, ex, ha, hl, hq, q⟩ => ?_
  subst ex
  cases rx
  obtain ⟨mA, J, _⟩ := ins_get I1.hok ha
  obtain ⟨od, J, _⟩ := J.look
  have hsp : spIter X.K C fl s1.heap.objs.size [.ref a] H1 (fun v H2 => ∃ it, v = .ref it ∧ H1 it = Option.none ∧ s1.heap.objs.size ≤ it ∧ H2 = upd H1 it (ItT t it)) E0 := ⟨a, dx, fs, t, xs, rfl, ha, hl, hq, fun it h1 h2 => ⟨it, rfl, h1, h2, rfl⟩⟩
  have r2 : Vals [V.ref a] [Value.ref a] := .cons rfl .nil
  have hlen : [Value.ref a].length = ps.length := by
    have e := F.len _ _ _ _ _ hsp
    exact e
  have bb := hb s1 [Value.ref a] I1.kIn (by rw [List.append_nil]; exact hlen)
  rw [List.append_nil] at bb
  refine pyIter_own I1.kIn J hs hf (wpAny_call (codeAny_mono (F.run X.A X.stack s1 H1 ⟨[Value.ref a], []⟩ [Value.ref a] [V.ref a] _ E0 hr I1.env0 bb r2 hsp) fun r s' hq' => ?_))
  cases r with
  | error e => exact False.elim hq'
  | ok fl =>
    cases fl with
    | ret w =>
      obtain ⟨z, H', I', rz, it, rfl, h1, h2, rfl⟩ := I1.after hq'
      cases rz
      have eo : s'.heap.get? it = some (tupIt t) := (I'.hok it _ upd_same).1
      refine ⟨it, t, rfl, eo, ?_⟩
      have hd : ItX.dropH (upd H1 it (ItT t it)) it = H1 := ItX.dropH_upd h1
      have I2 : Inv X pins σ (ItX.dropH (upd H1 it (ItT t it)) it) s' := ItX.inv_drop I' (φ := fun h => h.get? it = some (tupIt t)) upd_same
      rw [hd] at I2
      refine ⟨it, [it], _, _, H1, rfl, I2, turn_tuple t it, ⟨_, eo, rfl, rfl⟩, fun b hb => ?_, q⟩
      have e : b = it := by simpa using hb
      rw [e]
      have fp := ItX.inv_fp I' (a := it) (u := ItT t it) upd_same (Nat.le_trans I1.sz h2)
      rw [hd] at fp
      exact fp
    | next => exact False.elim hq'
    | brk => exact False.elim hq'
    | cont => exact False.elim hq'
end Aw

namespace Aw
open PySem PySem.Spec PyProof.Rows L2 NdefX
abbrev sPIter : Stmt := (inClass (top 21) 6)
section
variable {P : Program} {w : World} {K : PySem.W.Frag} {mg : Str → Option Value} {base : Heap} {C : Addr}
theorem scPIter : FnScope ["self"] ["self"] (defScope sPIter) := ⟨rfl, rfl, rfl, by decide +kernel, rfl, by decide +kernel, by decide +kernel⟩
theorem ok_piter {f : Addr} {fd : FuncData} (F : Fun K "__iter__" "Program.__iter__" sPIter f fd) (cl : Cls K C) (nS : NoAttr K C "steps") (gIt : mg "iter" = none) : FnN P w K mg base 1 f fd ["self"] (spIter K C "steps") := by
  obtain ⟨oc, od, kV, doc, pm, an, cdv, ct, osl, rfl, lk, hcd⟩ := F.ex
  refine fn_ofN lk hcd scPIter (fun n vs H Q E h => ?_) fun A outer s H vs Q E hr hsp => ?_
  · obtain ⟨a, dx, fs, t, xs, rfl, _⟩ := h
    rfl
  · obtain ⟨a, dx, fs, t, xs, rfl, ha, hl, hq, k⟩ := hsp
    have nd := scPIter.nd
    refine ⟨_, (pss_one (ps_ret (pe_callB call_iterT (by rfl) gIt (by decide +kernel) (pa_cons (pe_fld (pv 0) rfl) pa_nil)))), ?_⟩
    exact ⟨_, rfl, a, C, dx, fs, _, rfl, ha, cl, nS, hl, t, xs, rfl, hq, fun it h1 h2 => k it h1 h2⟩
end
end Aw

namespace Aw
open PySem PySem.Spec PyProof.Rows L2 NdefX
abbrev sPValue : Stmt := (top 39)
def oddL : List Str := ["", "turn ", " turn", "then", "near 0", "sum 1 at 0 of 2", "roll 4", "flip 2 of 2", "near 1 at 1 of 5", "Turn", "turn\n", "turn then", "roll +1", "sum 2 at 0 of 3", "flip 0 of 5", "roll 1 at 0 of 2", "flip"]
def sepL : List Str := ["then", " then", " then  ", " Then ", " then then ", ", ", " and then ", "\nthen ", " "]
def okT (z : Str) : Bool := decide (z.length ≤ 20) && PyData.strOk z
theorem odd_ok : ∀ z ∈ oddL, okT z = true := by decide +kernel
theorem sep_ok : ∀ z ∈ sepL, okT z = true := by decide +kernel
theorem pre_ok : ∀ z ∈ ([" then ", " ", "then "] : List Str), okT z = true := by decide +kernel
theorem post_ok : ∀ z ∈ ([" then ", " ", " then", "\n"] : List Str), okT z = true := by decide +kernel
theorem known_ok : ∀ p ∈ known, okT p.1 = true := by decide +kernel
theorem okT_len {z : Str} (h : okT z = true) : z.length ≤ 20 := by
  unfold okT at h
  rw [Bool.and_eq_true, decide_eq_true_eq] at h
  exact h.1
theorem okT_str {z : Str} (h : okT z = true) : PyData.strOk z = true := by
  unfold okT at h
  rw [Bool.and_eq_true] at h
  exact h.2
theorem strs_dp {K : PySem.W.Frag} {H : Hp} (l : List Str) : DpAll K H (l.map V.str) (l.map PyData.str) := by
  induction l with
  | nil => exact .nil
  | cons x l ih => exact .cons (.str x) ih
theorem strs_shaped {l : List Str} (h : ∀ z ∈ l, PyData.strOk z = true) : SeqAt.shaped (.list (l.map PyData.str)) = true := by
  have h1 : ∀ l : List Str, (∀ z ∈ l, PyData.strOk z = true) → PyData.canLayAll0 (l.map PyData.str) = true := fun l => by
    induction l with
    | nil => exact fun _ => rfl
    | cons x l ih =>
      intro hz
      have a := hz x (List.mem_cons_self ..)
      have b := ih fun z hz' => hz z (List.mem_cons_of_mem _ hz')
      simp only [List.map_cons, PyData.canLayAll0, PyData.canLay0, a, b, Bool.and_self]
  have h2 : ∀ l : List Str, PyData.depthAll (l.map PyData.str) ≤ 1 := fun l => by
    induction l with
    | nil => simp [PyData.depthAll]
    | cons x l ih => simp [PyData.depthAll, PyData.depth]; omega
  unfold SeqAt.shaped
  refine Bool.and_eq_true_iff.mpr ⟨h1 l h, decide_eq_true ?_⟩
  have := h2 l
  simp only [PyData.depth]
  omega
theorem sum_ok {l : List Str} (h : ∀ z ∈ l, okT z = true) : (l.map (·.length)).sum ≤ 20 * l.length := by
  induction l with
  | nil => exact Nat.zero_le _
  | cons x l ih =>
    have h1 := okT_len (h x (List.mem_cons_self ..))
    have h2 := ih fun z hz => h z (List.mem_cons_of_mem _ hz)
    simp only [List.map_cons, List.sum_cons, List.length_cons]
    omega
theorem then6 : (" then " : Str).length = 6 := rfl
/-- a list of short texts, joined -/
theorem join_ok {l : List Str} (h : ∀ z ∈ l, okT z = true) (hn : l.length ≤ 20) : (Str.join " then " l).length ≤ 26 * l.length ∧ (l.map (·.length)).sum + l.length * (" then " : Str).length ≤ 16777216 := by
  have h1 := join_len " then " l
  have h2 := sum_ok h
  rw [then6] at h1 ⊢
  constructor <;> omega
theorem cutV_strs (l : List Str) (lo hi : Option Int) : cutV (l.map V.str) lo hi = ((l.drop (HT.sIx l.length 0 lo)).take (HT.sIx l.length l.length hi - HT.sIx l.length 0 lo)).map V.str := by
  unfold cutV
  rw [List.length_map, List.map_take, List.map_drop]
theorem sub_ok {l : List Str} (h : ∀ z ∈ l, okT z = true) (a b : Nat) : ∀ z ∈ (l.drop a).take b, okT z = true := fun z hz => h z (List.mem_of_mem_drop (List.mem_of_mem_take hz))
theorem sub_len {l : List Str} (a b : Nat) : ((l.drop a).take b).length ≤ l.length := by
  rw [List.length_take, List.length_drop]
  omega
theorem strMem {l : List Str} {r : Nat} {v : V} (h : (l.map V.str)[r]? = some v) : ∃ z, z ∈ l ∧ v = .str z := by
  rw [List.getElem?_map] at h
  cases e : l[r]? with
  | none => rw [e] at h; cases h
  | some z => rw [e] at h; cases h; exact ⟨z, List.mem_of_getElem? e, rfl⟩
theorem ite_and2 {a : Prop} [Decidable a] {R A B : Prop} (h : B) (hx : B → a → R) : if decide a = true then R else (if false = true then A else B) := by
  by_cases e : a
  · rw [decide_eq_true e]
    exact iteT (hx h e)
  · rw [decide_eq_false e]
    exact iteF (iteF h)
def spPValue (K : PySem.W.Frag) : Sp := fun vs H Q _ => ∃ (p c : Addr) (k0 : V) (n : Nat), vs = [.ref p, k0] ∧ Pen H p c n ∧ n ≤ 700000 ∧ ∀ (v : V) (H' : Hp), VOk H' v → But p H H' → Pen H' p c (n + 500) → Q v H'
section
variable {P : Program} {w : World} {K : PySem.W.Frag} {mg : Str → Option Value} {base : Heap}
theorem scPValue : FnScope ["_law_pen_here", "_law_known", "_law_parts", "_law_way", "_law_odd", "_law_k", "_law_text_here", "_law_rows", "_law_spot"] ["_law_pen_here", "_law_known"] (defScope sPValue) := ⟨rfl, rfl, rfl, by decide +kernel, rfl, by decide +kernel, by decide +kernel⟩
theorem ok_pvalue {f g fP fRow : Addr} {fd gd pd rd : FuncData} (F : Fun K "_law_value" "_law_value" sPValue f fd) (T : TxtP mg g) (gR : mg "range" = none) (gMx : mg "max" = none) (gTu : mg "tuple" = none) (G : Fun K "_law_draw" "_law_draw" sDraw g gd) (bG : Binds K gd ["_law_pen_here", "_law_many"] []) (FP : Fun K "_law_pick" "_law_pick" sPick fP pd) (bP : Binds K pd ["_law_pen_here", "_law_some"] []) (gP : mg "_law_pick" = some (.ref fP))
    (FRow : Fun K "_law_row" "_law_row" sLRow fRow rd) (bRow : Binds K rd ["_law_pen_here", "_law_most"] []) (gRow : mg "_law_row" = some (.ref fRow)) (GRow : FnOk P w K mg base CX0 4 fRow rd ["_law_pen_here", "_law_most"] (spLRow K)) : FnOk P w K mg base CX0 5 f fd ["_law_pen_here", "_law_known"] (spPValue K) := by
  have GD : FnOk P w K mg base CX0 1 g gd ["_law_pen_here", "_law_many"] spDraw := ok_draw G T
  have GP : FnOk P w K mg base CX0 2 fP pd ["_law_pen_here", "_law_some"] (spPick K) := ok_pick FP T G bG
  refine F.ok scPValue (fun vs H Q E h => ?_) (fun cdv A outer s H vs Q E hr h => ?_)
  · obtain ⟨p, c, k0, n, rfl, _⟩ := h
    rfl
  · obtain ⟨p, c, k0, n, rfl, Pn, hn, k⟩ := h
    have nd := scPValue.nd
    refine ⟨_, (pss_cons (ps_par (i := 2) (j := 3) rfl nd rfl rfl (by decide) rfl rfl (pa_cons (pe_call GRow hr (by rfl) gRow FRow.kp bRow .nil pass0 (pa_cons (pv 0) (pa_cons pe_int pa_nil))) (pa_cons (pe_call GD (hr.mono (by decide)) (by rfl) T.draw G.kp bG .nil pass0 (pa_cons (pv 0) (pa_cons pe_int pa_nil))) pa_nil)) (by rfl))
      (pss_cons (ps_set (i := 4) nd rfl (Or.inl rfl) (pe_lst (pa_cons pe_str (pa_cons pe_str (pa_cons pe_str (pa_cons pe_str (pa_cons pe_str (pa_cons pe_str (pa_cons pe_str (pa_cons pe_str (pa_cons pe_str (pa_cons pe_str (pa_cons pe_str (pa_cons pe_str (pa_cons pe_str (pa_cons pe_str (pa_cons pe_str (pa_cons pe_str (pa_cons pe_str pa_nil)))))))))))))))))))
      (pss_cons (ps_for PassesOwn.never rfl (pi_range1 rfl gR (pa_cons (pe_callB (call_max2 rfl) (by rfl) gMx (by decide +kernel) (pa_cons pe_int (pa_cons (pe_op op_sub (pv 3) pe_int) pa_nil))) pa_nil)) (pg_name (i := 5) nd rfl (Or.inl rfl))
        (pss_one (ps_if (pt_cmpR (op_neD hr.units) (pv 2) (pe_lst pa_nil) (nomark _))
          (pss_one (ps_asg (pe_call GP (hr.mono (by decide)) (by rfl) gP FP.kp bP .nil pass0 (pa_cons (pv 0) (pa_cons (pv 4) pa_nil))) (pg_sub (pv 2) (pe_call GD (hr.mono (by decide)) (by rfl) T.draw G.kp bG .nil pass0 (pa_cons (pv 0) (pa_cons (pe_callB call_len_seq (by rfl) T.len PySem.boot_len (pa_cons (pv 2) pa_nil)) pa_nil))) set_list))) pss_nil)))
      (pss_cons (ps_set (i := 6) nd rfl (Or.inl rfl) (pe_join pe_str (pv 2)))
      (pss_cons (ps_if (pt_cmpR op_eq (pv 3) pe_int (nomark _))
        (pss_cons (ps_set (i := 7) nd rfl (Or.inl rfl) (pe_lst (pa_cons pe_non (pa_cons pe_bl (pa_cons pe_int (pa_cons pe_int (pa_cons (pv 2) (pa_cons (pe_callTy call_tuple_of (by rfl) gTu (by decide +kernel) (pa_cons (pv 2) pa_nil)) (pa_cons pe_str (pa_cons pe_str (pa_cons pe_str (pa_cons pe_str (pa_cons pe_str pa_nil)))))))))))))
        (pss_one (ps_ret (pe_call GP (hr.mono (by decide)) (by rfl) gP FP.kp bP .nil pass0 (pa_cons (pv 0) (pa_cons (pv 7) pa_nil)))))) pss_nil)
      (pss_cons (ps_if (PW.pt (pw_and (pt_cmpR op_eq (pv 3) pe_int (nomark _)) (pw_and1 (pt_cmpR op_gt (pe_callB call_len_seq (by rfl) T.len PySem.boot_len (pa_cons (pv 2) pa_nil)) pe_int (nomark _)))))
        (pss_cons (ps_set (i := 8) nd rfl (Or.inl rfl) (pe_op op_add pe_int (pe_call GD (hr.mono (by decide)) (by rfl) T.draw G.kp bG .nil pass0 (pa_cons (pv 0) (pa_cons (pe_op op_sub (pe_callB call_len_seq (by rfl) T.len PySem.boot_len (pa_cons (pv 2) pa_nil)) pe_int) pa_nil)))))
        (pss_cons (ps_set (i := 7) nd rfl (Or.inl rfl) (pe_lst (pa_cons pe_str (pa_cons pe_str (pa_cons pe_str (pa_cons pe_str (pa_cons pe_str (pa_cons pe_str (pa_cons pe_str (pa_cons pe_str (pa_cons pe_str pa_nil)))))))))))
        (pss_one (ps_ret (pe_op op_add_str (pe_op op_add_str (pe_join pe_str (pe_slice sl_list (pv 2) po_none (po_some (pv 8)))) (pe_call GP (hr.mono (by decide)) (by rfl) gP FP.kp bP .nil pass0 (pa_cons (pv 0) (pa_cons (pv 7) pa_nil)))) (pe_join pe_str (pe_slice sl_list (pv 2) (po_some (pv 8)) po_none))))))) pss_nil)
      (pss_cons (ps_if (pt_cmpR op_eq (pv 3) pe_int (nomark _))
        (pss_one (ps_ret (pe_op op_add_str (pe_call GP (hr.mono (by decide)) (by rfl) gP FP.kp bP .nil pass0 (pa_cons (pv 0) (pa_cons (pe_lst (pa_cons pe_str (pa_cons pe_str (pa_cons pe_str pa_nil)))) pa_nil))) (pv 6)))) pss_nil)
      (pss_cons (ps_if (pt_cmpR op_eq (pv 3) pe_int (nomark _))
        (pss_one (ps_ret (pe_op op_add_str (pv 6) (pe_call GP (hr.mono (by decide)) (by rfl) gP FP.kp bP .nil pass0 (pa_cons (pv 0) (pa_cons (pe_lst (pa_cons pe_str (pa_cons pe_str (pa_cons pe_str (pa_cons pe_str pa_nil))))) pa_nil)))))) pss_nil)
      (pss_one (ps_ret (pv 6))))))))))), ?_⟩
    refine ⟨_, rfl, p, c, 7, n, rfl, Pn, by omega, by decide, by decide, fun L ts0 H1 b1 e1 hL lts0 kn P1 => ?_⟩
    have ok0 : ∀ z ∈ ts0, okT z = true := fun z hz => by
      obtain ⟨q, hq, rfl⟩ := kn z hz
      exact known_ok q hq
    obtain ⟨op, ep⟩ := Pn.some1
    have nLp : L ≠ p := (ne_of_none ep hL).symm
    refine ⟨_, rfl, p, c, 9, n + 400, rfl, P1, by omega, by decide, by decide, fun way H2 w0 w1 b2 P2 => ⟨_, _, rfl, ?_⟩⟩
    have e2 := b2.lst e1 nLp
    refine ⟨by show 17 ≤ sizeLine; decide, fun lo hlo => ?_⟩
    have P3 := P2.new (o := .lst (oddL.map V.str)) hlo
    have e3 : upd H2 lo (.lst (oddL.map V.str)) L = some (.lst (ts0.map V.str)) := same_upd hlo _ _ e2
    have x3 : upd H2 lo (.lst (oddL.map V.str)) lo = some (.lst (oddL.map V.str)) := upd_same
    have nol : lo ≠ L := (ne_of_none e2 hlo).symm
    obtain ⟨op2, ep2⟩ := P2.some1
    have nop : lo ≠ p := (ne_of_none ep2 hlo).symm
    have b3 : But p H (upd H2 lo (.lst (oddL.map V.str))) := (b1.trans b2).trans (But.same (same_upd hlo))
    have hN : (if way - 6 > 0 then way - 6 else 0).toNat ≤ 2 := by split <;> omega
    obtain ⟨oc, ec⟩ := Pn.some2
    have nLc : L ≠ c := (ne_of_none ec hL).symm
    refine ⟨_, rfl, way, 6, rfl, rfl, _, _, rfl, _, rfl, by split <;> omega, by split <;> omega, for_range (n := (if way - 6 > 0 then way - 6 else 0).toNat) (fun i σ H4 => ∃ (v5 : Option V) (ts : List Str), σ = [some (.ref p), some k0, some (.ref L), some (.int way), some (.ref lo), v5, none, none, none] ∧ But p H H4 ∧ H4 L = some (.lst (ts.map V.str)) ∧ H4 lo = some (.lst (oddL.map V.str)) ∧ Pen H4 p c (n + 401 + 2 * i) ∧ (∀ z ∈ ts, okT z = true) ∧ ts.length ≤ 20) ⟨none, ts0, rfl, b3, e3, x3, P3, ok0, lts0⟩ ?_ ?_⟩
    · rintro i σ H4 hi ⟨v5, ts, rfl, b4, e4, x4, P4, ok4, l4⟩
      refine ⟨_, rfl, by show 0 ≤ sizeLine; decide, fun q hq => ?_⟩
      have e5 := same_upd (o := .lst []) hq _ _ e4
      have x5 := same_upd (o := .lst []) hq _ _ x4
      have P5 := P4.new (o := .lst []) hq
      have b5 : But p H (upd H4 q (.lst [])) := b4.trans (But.same (same_upd hq))
      refine ⟨.list (ts.map PyData.str), .list [], .lst (SqL.of e5) (strs_dp _), .lst (SqL.of upd_same) .nil, strs_shaped (fun z hz => okT_str (ok4 z hz)), by decide, _, rfl, ?_⟩
      cases ts with
      | nil =>
        refine iteF ?_
        exact ⟨_, [], rfl, b5, e5, x5, P5.mono (by omega), ok4, l4⟩
      | cons t1 tr =>
        refine iteT ?_
        have hpos : 0 < (t1 :: tr).length := Nat.succ_pos _
        generalize t1 :: tr = ts at *
        refine ⟨_, rfl, _, rfl, p, c, lo, oddL.map V.str, _, rfl, P5, by omega, SqL.of x5, by decide, by decide, fun r v H6 hv b6 P6 => ?_⟩
        obtain ⟨z, mz, rfl⟩ := strMem hv
        have e6 := b6.lst e5 nLp
        have x6 := b6.lst x5 nop
        have lm : (ts.map V.str).length = ts.length := List.length_map ..
        refine ⟨_, rfl, _, rfl, _, rfl, L, ts.map V.str, rfl, .inl (SqL.of e6), p, c, _, _, rfl, P6, by omega, by omega, by omega, fun r5 H7 a0 a1 b7 P7 => ?_⟩
        have e7 := b7.lst e6 nLp
        have x7 := b7.lst x6 nop
        obtain ⟨jn, rfl⟩ : ∃ jn : Nat, r5 = (jn : Int) := ⟨r5.toNat, by omega⟩
        have hix : ixN (ts.map V.str).length (jn : Int) = some jn := by
          unfold ixN
          rw [if_pos (by omega), if_pos (by omega)]
          rfl
        refine ⟨L, ts.map V.str, (jn : Int), jn, rfl, rfl, e7, hix, ?_⟩
        have b8 : But p H H7 := (b5.trans b6).trans b7
        refine ⟨_, ts.set jn z, rfl, fun b o e hb => by rw [upd_ne (ne_of_none e hL)]; exact b8 b o e hb, by rw [upd_same, List.map_set], by rw [upd_ne nol]; exact x7, (P7.upd nLp nLc).mono (by omega), fun y hy => ?_, by rw [List.length_set]; exact l4⟩
        rcases List.mem_or_eq_of_mem_set hy with h | h
        · exact ok4 y h
        · rw [h]
          exact odd_ok z mz
    · rintro σ H4 ⟨v5, ts, rfl, b4, e4, x4, P4, ok4, l4⟩
      have lm : (ts.map V.str).length = ts.length := List.length_map ..
      obtain ⟨m, hm⟩ : ∃ m, n + 401 + 2 * (if way - 6 > 0 then way - 6 else 0).toNat = m := ⟨_, rfl⟩
      have hmn : m ≤ n + 405 := by omega
      rw [hm] at P4
      clear hm
      have j4 := join_ok ok4 l4
      refine ⟨⟨_, rfl⟩, _, rfl, " then ", L, ts, rfl, rfl, .inl (SqL.of e4), j4.2, ?_⟩
      rw [TL.join_eq]
      obtain ⟨tx, htx⟩ : ∃ tx, Str.join " then " ts = tx := ⟨_, rfl⟩
      rw [htx] at j4 ⊢
      refine ⟨_, rfl, rfl, _, rfl, ?_⟩
      refine ite_int (fun _ => ?_) (fun _ => ?_)
      · refine ⟨_, rfl, _, rfl, L, ts.map V.str, rfl, .inl ⟨SqL.of e4, fun t ht => ?_⟩⟩
        refine ⟨by show 11 ≤ sizeLine; decide, fun l9 h9 => ?_⟩
        have s9 := (same_upd (o := .tup (ts.map V.str)) ht).trans (same_upd (o := .lst [.non, .bl true, .int 0, .int 5, .ref L, .ref t, .str "then", .str " then ", .str " ", .str "\n", .str "turn then then turn"]) h9)
        have P9 := P4.same s9
        have y1 := s9 _ _ e4
        have y2 := same_upd (o := .lst [.non, .bl true, .int 0, .int 5, .ref L, .ref t, .str "then", .str " then ", .str " ", .str "\n", .str "turn then then turn"]) h9 _ _ (upd_same (H := H4) (a := t) (o := .tup (ts.map V.str)))
        obtain ⟨cells, i', l', ep, _⟩ := P9.ex
        refine ⟨_, rfl, _, rfl, p, c, l9, [.non, .bl true, .int 0, .int 5, .ref L, .ref t, .str "then", .str " then ", .str " ", .str "\n", .str "turn then then turn"], m, rfl, P9, by omega, SqL.of upd_same, by show 0 < 11; decide, by show 11 ≤ 1000000; decide, fun r v H6 hv b6 P6 => ?_⟩
        refine k v H6 ?_ ((b4.trans (But.same s9)).trans b6) (P6.mono (by omega))
        match r, hv with
        | 0, hv => cases hv; exact .non
        | 1, hv => cases hv; exact .bl _
        | 2, hv => cases hv; exact .int _
        | 3, hv => cases hv; exact .int _
        | 4, hv => cases hv; exact .lst (b6 _ _ y1 (ne_of y1 ep (fun z => by cases z)))
        | 5, hv => cases hv; exact .tup (b6 _ _ y2 (ne_of y2 ep (fun z => by cases z)))
        | 6, hv => cases hv; exact .str _ (by decide)
        | 7, hv => cases hv; exact .str _ (by decide)
        | 8, hv => cases hv; exact .str _ (by decide)
        | 9, hv => cases hv; exact .str _ (by decide)
        | 10, hv => cases hv; exact .str _ (by decide)
        | q + 11, hv => simp at hv
      refine ⟨_, rfl, rfl, _, rfl, ?_⟩
      refine ite_and2 ?_ (fun hB _ => ?_)
      · refine ⟨_, rfl, rfl, _, rfl, ?_⟩
        refine ite_int (fun _ => ?_) (fun _ => ?_)
        · refine ⟨_, rfl, by show 3 ≤ sizeLine; decide, fun l9 h9 => ⟨p, c, l9, ([" then ", " ", "then "] : List Str).map V.str, m, rfl, P4.new h9, by omega, SqL.of upd_same, by decide, by decide, fun r v H6 hv b6 P6 => ?_⟩⟩
          obtain ⟨z, mz, rfl⟩ := strMem hv
          have hz := okT_len (pre_ok z mz)
          refine ⟨_, rfl, _, _, rfl, rfl, len_add (by rw [Str.length_append]; omega), ?_⟩
          exact k _ _ (.str _ (by rw [Str.length_append]; omega)) ((b4.trans (But.same (same_upd h9))).trans b6) (P6.mono (by omega))
        refine ⟨_, rfl, rfl, _, rfl, ?_⟩
        refine ite_int (fun _ => ?_) (fun _ => ?_)
        · refine ⟨_, rfl, _, rfl, by show 4 ≤ sizeLine; decide, fun l9 h9 => ⟨p, c, l9, ([" then ", " ", " then", "\n"] : List Str).map V.str, m, rfl, P4.new h9, by omega, SqL.of upd_same, by decide, by decide, fun r v H6 hv b6 P6 => ?_⟩⟩
          obtain ⟨z, mz, rfl⟩ := strMem hv
          have hz := okT_len (post_ok z mz)
          refine ⟨_, _, rfl, rfl, len_add (by rw [Str.length_append]; omega), ?_⟩
          exact k _ _ (.str _ (by rw [Str.length_append]; omega)) ((b4.trans (But.same (same_upd h9))).trans b6) (P6.mono (by omega))
        · exact ⟨_, rfl, k _ _ (.str _ (by omega)) b4 (P4.mono (by omega))⟩
      · refine ⟨_, rfl, L, ts.map V.str, rfl, .inl (SqL.of e4), ((ts.map V.str).length : Int), 1, rfl, rfl, _, rfl, ?_⟩
        refine ite_dec (fun h1 => ?_) (fun _ => hB)
        refine ⟨_, rfl, _, rfl, L, ts.map V.str, rfl, .inl (SqL.of e4), ((ts.map V.str).length : Int), 1, rfl, rfl, p, c, _, m, rfl, P4, by omega, by omega, by omega, fun r5 H5 a0 a1 b5 P5 => ?_⟩
        refine ⟨_, _, rfl, rfl, ?_⟩
        refine ⟨by show 9 ≤ sizeLine; decide, fun l9 h9 => ?_⟩
        have e5 := b5.lst e4 nLp
        have P6 := P5.new (o := .lst (sepL.map V.str)) h9
        have e6 := same_upd (o := .lst (sepL.map V.str)) h9 _ _ e5
        have y6 : upd H5 l9 (.lst (sepL.map V.str)) l9 = some (.lst (sepL.map V.str)) := upd_same
        have b6 : But p H (upd H5 l9 (.lst (sepL.map V.str))) := (b4.trans b5).trans (But.same (same_upd h9))
        refine ⟨⟨_, rfl⟩, _, rfl, _, rfl, _, rfl, L, _, rfl, SqL.of e6, fun q hq => ?_⟩
        have P7 := P6.new (o := .lst (cutV (ts.map V.str) none (some (1 + r5)))) hq
        have e7 := same_upd (o := .lst (cutV (ts.map V.str) none (some (1 + r5)))) hq _ _ e6
        have y7 := same_upd (o := .lst (cutV (ts.map V.str) none (some (1 + r5)))) hq _ _ y6
        have q7 : upd (upd H5 l9 (.lst (sepL.map V.str))) q (.lst (cutV (ts.map V.str) none (some (1 + r5)))) q = some (.lst (((ts.drop (HT.sIx ts.length 0 none)).take (HT.sIx ts.length ts.length (some (1 + r5)) - HT.sIx ts.length 0 none)).map V.str)) := by rw [upd_same, cutV_strs]
        have b7 : But p H (upd (upd H5 l9 (.lst (sepL.map V.str))) q (.lst (cutV (ts.map V.str) none (some (1 + r5))))) := b6.trans (But.same (same_upd hq))
        have j7 := join_ok (sub_ok ok4 (HT.sIx ts.length 0 none) (HT.sIx ts.length ts.length (some (1 + r5)) - HT.sIx ts.length 0 none)) (Nat.le_trans (sub_len _ _) l4)
        refine ⟨" then ", q, _, rfl, rfl, .inl (SqL.of q7), j7.2, ?_⟩
        rw [TL.join_eq]
        obtain ⟨ta, hta⟩ : ∃ ta, Str.join " then " ((ts.drop (HT.sIx ts.length 0 none)).take (HT.sIx ts.length ts.length (some (1 + r5)) - HT.sIx ts.length 0 none)) = ta := ⟨_, rfl⟩
        rw [hta] at j7 ⊢
        have j7l : ta.length ≤ 520 := Nat.le_trans j7.1 (Nat.le_trans (Nat.mul_le_mul_left 26 (Nat.le_trans (sub_len _ _) l4)) (by decide))
        refine ⟨_, rfl, _, rfl, p, c, l9, sepL.map V.str, m + 1, rfl, P7, by omega, SqL.of y7, by decide, by decide, fun r v H8 hv b8 P8 => ?_⟩
        obtain ⟨z, mz, rfl⟩ := strMem hv
        have hz := okT_len (sep_ok z mz)
        refine ⟨_, _, rfl, rfl, len_add (by rw [Str.length_append]; omega), ?_⟩
        have e8 := b8.lst e7 nLp
        refine ⟨⟨_, rfl⟩, _, rfl, _, rfl, _, rfl, L, _, rfl, SqL.of e8, fun q2 hq2 => ?_⟩
        have q8 : upd H8 q2 (.lst (cutV (ts.map V.str) (some (1 + r5)) none)) q2 = some (.lst (((ts.drop (HT.sIx ts.length 0 (some (1 + r5)))).take (HT.sIx ts.length ts.length none - HT.sIx ts.length 0 (some (1 + r5)))).map V.str)) := by rw [upd_same, cutV_strs]
        have j8 := join_ok (sub_ok ok4 (HT.sIx ts.length 0 (some (1 + r5))) (HT.sIx ts.length ts.length none - HT.sIx ts.length 0 (some (1 + r5)))) (Nat.le_trans (sub_len _ _) l4)
        refine ⟨" then ", q2, _, rfl, rfl, .inl (SqL.of q8), j8.2, ?_⟩
        rw [TL.join_eq]
        obtain ⟨tb, htb⟩ : ∃ tb, Str.join " then " ((ts.drop (HT.sIx ts.length 0 (some (1 + r5)))).take (HT.sIx ts.length ts.length none - HT.sIx ts.length 0 (some (1 + r5)))) = tb := ⟨_, rfl⟩
        rw [htb] at j8 ⊢
        have la := List.length_take (i := HT.sIx ts.length ts.length (some (1 + r5)) - HT.sIx ts.length 0 none) (l := ts.drop (HT.sIx ts.length 0 none))
        have lb := List.length_take (i := HT.sIx ts.length ts.length none - HT.sIx ts.length 0 (some (1 + r5))) (l := ts.drop (HT.sIx ts.length 0 (some (1 + r5))))
        have ex : HT.sIx ts.length ts.length (some (1 + r5)) = HT.sIx ts.length 0 (some (1 + r5)) := rfl
        have en : HT.sIx ts.length 0 none = 0 := HT.sIx_none ts.length 0
        have em : HT.sIx ts.length ts.length none = ts.length := rfl
        rw [List.length_drop] at la lb
        rw [en, ex] at la
        rw [em] at lb
        rw [en, ex] at j7
        rw [em] at j8
        obtain ⟨sx, hsx⟩ : ∃ sx, HT.sIx ts.length 0 (some (1 + r5)) = sx := ⟨_, rfl⟩
        rw [hsx] at la lb j7 j8
        have tot : ta.length + tb.length ≤ 520 := by
          have a1 := j7.1
          have a2 := j8.1
          rw [la] at a1
          rw [lb] at a2
          have : 26 * min (sx - 0) (ts.length - 0) + 26 * min (ts.length - sx) (ts.length - sx) ≤ 26 * ts.length := by omega
          omega
        have lz : (ta ++ z).length + tb.length ≤ 540 := by rw [Str.length_append]; omega
        refine ⟨_, _, rfl, rfl, Nat.le_trans (by omega : (ta ++ z).length + tb.length ≤ 1000) kz, ?_⟩
        exact k _ _ (.str _ (by rw [Str.length_append]; omega)) ((b7.trans b8).trans (But.same (same_upd hq2))) ((P8.new hq2).mono (by omega))
end
end Aw

namespace Aw
open PySem PySem.Spec PyProof.Rows L2 NdefX
/-! ### list(o), where o's own __iter__ tells iter(tuple), and o has an own __len__ -/
theorem fp_upd {X : Cx} {pins : List (Addr × Obj)} {H : Hp} {b q : Addr} {o : HO} (F : FpOk X pins H b) (h : b ≠ q) : FpOk X pins (upd H q o) b := ⟨by rw [upd_ne h]; exact F.1, F.2⟩
section
variable {X : Cx} {pins : List (Addr × Obj)} {σ : Aw.St} {H0 : Hp} {t q it : Addr} {xs : List V} {A1 : Around} {Rs : Result → Shared → Prop}
theorem it_loop (hh : A1.in1.handled = Option.none) (hf : FpOk X pins H0 it) (ne : it ≠ q) (hT : ∀ acc, SqT X.K (upd H0 q (.lst acc)) t xs) (hz : xs.length ≤ sizeLine)
    (hdone : ∀ s, Inv X pins σ (upd H0 q (.lst xs)) s → Rs (.ok (.ret .none)) s) : ∀ (m i : Nat) (s : Shared), m = xs.length - i → i ≤ xs.length → Inv X pins σ (upd H0 q (.lst (xs.take i))) s → s.heap.IsTupleIter it t i →
    codeAny (model X.prog X.w) A1 (.builtin "list.extend.loop" ⟨[.ref q, .ref it, .none], []⟩) Rs s := by
  intro m
  induction m with
  | zero =>
    intro i s hm hi I st
    have e : i = xs.length := by omega
    subst e
    rw [List.take_of_length_le (Nat.le_refl _)] at I
    refine codeAny_builtin PySem.F.entry_extend_loop ?_
    rw [Around.under_plainId PySem.F.plain_extend_loop _]
    show wpAny _ A1.in1 (pyNext (.ref it) >>= _) _ _ s
    obtain ⟨its, rv, p, hz'⟩ := I.tuple (hT _)
    obtain ⟨f0, f1, f2, f3, f4, f5⟩ := fp_upd (o := .lst xs) hf ne
    have hl := rv.length
    refine wpAny_bind (wpAny_pyNext_tuple_end hh st (show s.heap.IsTuple t its.toArray from p) (by simp; omega) fun h' eb => ?_)
    exact wpAny_pure (hdone _ (I.turned (t' := s.toks) (fun b o hb e => eb b o hb e) f0 f1 f3 f4 f5))
  | succ m ih =>
    intro i s hm hi I st
    refine codeAny_builtin PySem.F.entry_extend_loop ?_
    rw [Around.under_plainId PySem.F.plain_extend_loop _]
    show wpAny _ A1.in1 (pyNext (.ref it) >>= _) _ _ s
    obtain ⟨its, rv, p, hz'⟩ := I.tuple (hT _)
    obtain ⟨f0, f1, f2, f3, f4, f5⟩ := fp_upd (o := .lst (xs.take i)) hf ne
    have hlt : i < xs.length := by omega
    have hx : xs[i]? = some xs[i] := List.getElem?_eq_getElem hlt
    obtain ⟨u, hu, ru⟩ := rv.get hx
    refine wpAny_bind (wpAny_pyNext_tuple_item st (show s.heap.IsTuple t its.toArray from p) (x := u) (by simpa using hu) fun h' st' sb => ?_)
    have I1 := I.turned (t' := s.toks) (fun b o hb e => (sb.2 b hb).trans e) f0 f1 f3 f4 f5
    show wpAny _ A1.in1 (updateSeq q (·.push u) >>= _) _ _ _
    obtain ⟨z, its2, k, r2, hl, e⟩ := I1.lstM upd_same
    rw [List.length_take] at hl
    refine wpAny_bind (wpAny_updateSeq e rfl (wpAny_pure ⟨plainId_quiet PySem.F.plain_extend_loop _, ?_⟩) (by rw [List.size_toArray]; omega) (by show (its2.toArray.push u).size ≤ sizeLine + 1; rw [Array.size_push, List.size_toArray]; omega))
    have et : xs.take (i + 1) = xs.take i ++ [xs[i]] := by
      rw [List.take_succ, hx]
      rfl
    have I2 := I1.lset (f := (·.push u)) (its' := its2 ++ [u]) (ys := xs.take (i + 1)) (t' := s.toks) upd_same e (by simp) (by rw [et]; exact r2.append (.cons ru .nil)) (by rw [List.length_take]; omega)
    rw [upd_upd] at I2
    refine ih (i + 1) _ (by omega) (by omega) I2 ?_
    obtain ⟨o, ho, hc, hd⟩ := st'
    exact ⟨o, (Heap.get?_update_other _ _ (Ne.symm ne)).trans ho, hc, hd⟩
end
section
variable {X : Cx} {C f fL : Addr} {fl : Str} {fd fdL : FuncData} {ps psL : List Str} {k kL : Nat} {spL : Sp}
def rListIt (K : PySem.W.Frag) (C : Addr) (fl : Str) (spL : Sp) : List V → Hp → VK → Prop := fun xs H Q => ∃ (a dx : Addr) (fs : List (Str × V)) (t : Addr) (zs : List V), xs = [.ref a] ∧ H a = some (.ins C dx fs) ∧ fs.lookup fl = some (.ref t) ∧ SqT K H t zs ∧ zs.length ≤ 1000 ∧
  (∀ H', Same H H' → spL [.ref a] H' (fun v H2 => v = .int (zs.length : Nat) ∧ H2 = H') E0) ∧ ∀ q, H q = Option.none → Q (.ref q) (upd H q (.lst zs))
theorem run_sub {pins : List (Addr × Obj)} {σ : Aw.St} {H : Hp} {s : Shared} {vs : List V} {us : List Value} {Q : VK} {sp : Sp} {A : Around} {E : Value → Shared → Prop} (F : FnOk X.prog X.w X.K X.mg X.base CX0 k f fd ps sp) (sb : Sub X k A) (hb : Binds X.K fd ps []) (I : Inv X pins σ H s) (r : Vals vs us) (h : sp vs H Q E0) : wpAny (model X.prog X.w) A (call (.ref f) us) (EP X pins σ Q) E s := by
  have hl : us.length = ps.length := by rw [← r.length]; exact F.len _ _ _ _ h
  have bb := hb s us I.kIn (by rw [List.append_nil]; exact hl)
  rw [List.append_nil] at bb
  have e0 : Env0 X.prog X.w X.K X.mg X.base A X.stack s H := by
    have e := I.env0
    exact ⟨by rw [sb.fr]; exact e.frames, e.mod, e.bs, e.bsz, e.funs, e.frf, e.hok, e.bare⟩
  refine wpAny_call (codeAny_mono (F.run A X.stack s H ⟨us, []⟩ us vs Q E0 sb.room e0 bb r h) fun r s' hq => ?_)
  cases r with
  | error e => exact False.elim hq
  | ok fl =>
    cases fl with
    | ret w => exact I.after hq
    | next => exact False.elim hq
    | brk => exact False.elim hq
    | cont => exact False.elim hq
/-- the length of o is asked, nothing hangs on it -/
theorem hint_own {pins : List (Addr × Obj)} {σ : Aw.St} {H : Hp} {s : Shared} {a dx : Addr} {fs : List (Str × V)} {A : Around} {n : Nat} {Q : Bool → Shared → Prop} {E : Value → Shared → Prop} (hsL : PySem.W.findIn X.K (.ref C) "__len__" = some (some (.ref fL))) (hfL : PySem.W.isFn X.K (.ref fL) = true)
    (FL : FnOk X.prog X.w X.K X.mg X.base CX0 kL fL fdL psL spL) (hbL : Binds X.K fdL psL []) (sb : Sub X kL A.in1) (I : Inv X pins σ H s) (ha : H a = some (.ins C dx fs)) (hn : n ≤ 1000) (hsp : spL [.ref a] H (fun v H2 => v = .int (n : Nat) ∧ H2 = H) E0)
    (h : ∀ b s', Inv X pins σ H s' → Q b s') : wpAny (model X.prog X.w) A (Builtin.List.listLengthHint (.ref a)) Q E s := by
  obtain ⟨mA, J, _⟩ := ins_get I.hok ha
  obtain ⟨od, J, _⟩ := J.look
  obtain ⟨m, hF⟩ := I.fr
  unfold Builtin.List.listLengthHint
  refine wpAny_bind (wpAny_bind (J.type.here ((PySem.W.looks_findIn I.kIn hsL).here ?_)))
  refine PySem.W.KFB.if_not rfl ?_
  refine wpAny_ite_split (fun _ => ?_) (fun hab => absurd rfl hab)
  refine wpAny_bind (wpAny_rule ?_)
  refine wpAny_bind (wpAny_attempt ?_)
  refine PySem.W.len_K hF I.ok.mod.kin J hsL hfL (wpAny_mono (run_sub (E := fun _ _ => False) (vs := [V.ref a]) (us := [Value.ref a]) FL sb hbL I (.cons rfl .nil) hsp) (fun v s' hv => ?_) fun _ _ z => (show False from z).elim)
  obtain ⟨z, H', I', rz, rfl, rfl⟩ := hv
  obtain ⟨tk, rfl⟩ := (show ∃ t, v = Value.int (n : Int) t from rz)
  refine ⟨⟨by omega, by omega⟩, ?_⟩
  have htl : Builtin.List.listTooLong ((n : Int).toNat) = false := by simp [Builtin.List.listTooLong, sizeLine]; omega
  refine wpAny_bind (m := asInt? _) (wpAny_pure ?_)
  exact wpAny_ite_split (fun hab => absurd hab (by rw [htl]; decide)) (fun _ => wpAny_pure (h _ _ (I'.tok _)))
theorem call_listIt (hs : PySem.W.findIn X.K (.ref C) "__iter__" = some (some (.ref f))) (hf : PySem.W.isFn X.K (.ref f) = true) (F : FnN X.prog X.w X.K X.mg X.base k f fd ps (spIter X.K C fl)) (hb : Binds X.K fd ps [])
    (hsL : PySem.W.findIn X.K (.ref C) "__len__" = some (some (.ref fL))) (hfL : PySem.W.isFn X.K (.ref fL) = true) (FL : FnOk X.prog X.w X.K X.mg X.base CX0 kL fL fdL psL spL) (hbL : Binds X.K fdL psL []) (hr : Room (k + 2) X.A) (hrL : Room (kL + 3) X.A) (hc : X.calm = true) :
    CallR X (.type "list") (rListIt X.K C fl spL) := by
  intro pins s σ H xs us Q I rv h
  obtain ⟨a, dx, fs, t, zs, rfl, ha, hl, hq, hz, hsp, hQ⟩ := h
  obtain ⟨u, rfl, ru⟩ := vals1 rv
  cases ru
  refine callType_codes (Q₁ := fun obj s₁ => obj = .ref s.heap.objs.size ∧ s₁ = { s with heap := s.heap.push { cls := .type "list", data := .seq #[] } }) PySem.F.called_list (PySem.F.typeCall_list_1 _) PySem.F.entry_list_init
    (code_list_new _ ⟨rfl, rfl⟩) fun obj s₁ h₁ => ?_
  obtain ⟨rfl, rfl⟩ := h₁
  have hS : (s.heap.push { cls := .type "list", data := .seq #[] }).get? s.heap.objs.size = some { cls := .type "list", data := .seq #[] } := Heap.get?_push_size _ rfl
  refine ⟨⟨_, hS, rfl⟩, PySem.F.args_list_init_2 _ _, ?_⟩
  have fr : H s.heap.objs.size = Option.none := I.hok.fresh (Nat.le_refl _)
  have I1 : Inv X pins σ (upd H s.heap.objs.size (.lst [])) { s with heap := s.heap.push { cls := .type "list", data := .seq #[] } } := I.lnew (its := []) (t' := s.toks) .nil (Nat.zero_le _)
  show wpAny _ _ (do let old ← Builtin.List.listItems (.ref s.heap.objs.size); Builtin.List.listUpdate (.ref s.heap.objs.size) (fun _ => #[]); letGo old.toList.reverse; Builtin.List.listExtendWith (.ref s.heap.objs.size) (.ref a) .none) _ _ _
  refine wpAny_bind ?_
  unfold Builtin.List.listItems
  refine wpAny_bind (wpAny_seqItems hS rfl (wpAny_pure ?_))
  show wpAny _ _ (updateSeq s.heap.objs.size (fun _ => #[]) >>= fun _ => letGo (#[] : Array Value).toList.reverse >>= fun _ => Builtin.List.listExtendWith (.ref s.heap.objs.size) (.ref a) .none) _ _ _
  refine wpAny_bind (wpAny_updateSeq hS rfl ?_)
  have I2 := I1.lset (f := fun _ => #[]) (its := []) (its' := []) (ys := []) (t' := s.toks) upd_same hS rfl .nil (Nat.zero_le _)
  rw [upd_upd] at I2
  refine wpAny_bind (wpAny_letGo ?_)
  obtain ⟨S, hSz⟩ : ∃ S, s.heap.objs.size = S := ⟨_, rfl⟩
  rw [hSz] at fr I2 ⊢
  have hQ := hQ S fr
  have sS := same_upd (o := .lst []) fr
  have ha2 := sS _ _ ha
  have hT : ∀ acc, SqT X.K (upd H S (.lst acc)) t zs := fun acc => (TK.new fr).tup hq
  obtain ⟨mA, J, _⟩ := ins_get I2.hok ha2
  obtain ⟨od, J, _⟩ := J.look
  have nSa : ¬ S = a := fun z => by rw [z] at fr; rw [fr] at ha; cases ha
  unfold Builtin.List.listExtendWith
  refine wpAny_bind (J.type.here ?_)
  have h1 : Builtin.List.listSameRef (.ref S) (.ref a) = false := by simp [Builtin.List.listSameRef, nSa]
  have h2 : (Value.ref C == Value.type "list") = false := rfl
  have h3 : (Value.ref C == Value.type "tuple") = false := rfl
  simp only [h1, h2, h3, Bool.or_false, Bool.false_eq_true, if_false]
  have r2 : Vals [V.ref a] [Value.ref a] := .cons rfl .nil
  refine wpAny_bind (pyIter_own I2.kIn J hs hf (wpAny_call (codeAny_mono (F.run X.A.in1.in1 X.stack _ (upd H S (.lst [])) ⟨[Value.ref a], []⟩ [Value.ref a] [V.ref a] (fun v H' => ∃ it, v = .ref it ∧ upd H S (.lst []) it = Option.none ∧ _ ≤ it ∧ H' = upd (upd H S (.lst [])) it (ItT t it)) E0 hr.in1.in1 (by
    have e := I2.env0
    exact ⟨e.frames, e.mod, e.bs, e.bsz, e.funs, e.frf, e.hok, e.bare⟩) (by
    have bb := hb _ [Value.ref a] I2.kIn (by rw [List.append_nil]; exact F.len 0 [V.ref a] (upd H S (.lst [])) (fun _ _ => True) E0 ⟨a, dx, fs, t, zs, rfl, ha2, hl, hT _, fun _ _ _ => trivial⟩)
    rw [List.append_nil] at bb
    exact bb) r2 ⟨a, dx, fs, t, zs, rfl, ha2, hl, hT _, fun it h1 h2 => ⟨it, rfl, h1, h2, rfl⟩⟩) fun r s' hq' => ?_)))
  cases r with
  | error e => exact False.elim hq'
  | ok fl =>
    cases fl with
    | next => exact False.elim hq'
    | brk => exact False.elim hq'
    | cont => exact False.elim hq'
    | ret w =>
      obtain ⟨z, H', I', rz, it, rfl, h1, h2, rfl⟩ := I2.after hq'
      cases rz
      have eo : s'.heap.get? it = some (tupIt t) := (I'.hok it _ upd_same).1
      refine ⟨it, t, rfl, eo, ?_⟩
      have s3 : Same H (upd (upd H S (.lst [])) it (ItT t it)) := sS.trans (same_upd h1)
      refine wpAny_bind (wpAny_holding (hint_own hsL hfL FL hbL ⟨hrL.in1.in1.in1, rfl⟩ I' (s3 _ _ ha) hz (hsp _ s3) fun b s4 I4 => ?_))
      have eo4 : s4.heap.get? it = some (tupIt t) := (I4.hok it _ upd_same).1
      have fp := ItX.inv_fp I4 (a := it) (u := ItT t it) upd_same (Nat.le_trans I2.sz h2)
      have I5 := ItX.inv_drop I4 (φ := fun h => h.get? it = some (tupIt t)) upd_same
      rw [ItX.dropH_upd h1] at I5 fp
      have ne : it ≠ S := fun z => by rw [z, upd_same] at h1; cases h1
      have fp0 : FpOk X pins H it := ⟨by rw [upd_ne ne] at h1; exact h1, fp.2⟩
      have hd : ∀ s6, Inv X pins σ (upd H S (.lst zs)) s6 → (wants (fun r s₂ => r = Value.none ∧ EP X pins σ Q (Value.ref S) s₂) X.xe) (.ok (.ret .none)) s6 := fun s6 I6 => ⟨rfl, .ref S, _, I6, rfl, hQ⟩
      have hloop := it_loop (A1 := X.A.in1) (σ := σ) (H0 := H) (t := t) (q := S) (xs := zs) (I.ok.hd hc) fp0 ne hT (small200 hz) hd
      refine wpAny_ite_split (fun _ => ?_) (fun _ => wpAny_pure ⟨plainId_quiet PySem.F.plain_extend_loop _, hloop _ 0 s4 rfl (Nat.zero_le _) I5 ⟨_, eo4, rfl, rfl⟩⟩)
      refine wpAny_bind (wpAny_rule ?_)
      refine wpAny_bind ?_
      show wpAny _ _ (updateSeq S (·.push .none) >>= fun _ => updateSeq S (·.pop)) _ _ _
      obtain ⟨z, its, k', r3, hl3, e3⟩ := I5.lstM upd_same
      cases r3
      refine wpAny_bind (wpAny_updateSeq e3 rfl ?_)
      have I6 := I5.lset (f := (·.push Value.none)) (its' := [Value.none]) (ys := [.non]) (t' := s4.toks) upd_same e3 (by simp) (.cons rfl .nil) (by rw [List.length_singleton, sizeLine_eq]; decide)
      obtain ⟨z4, its4, k4, r4, hl4, e4⟩ := I6.lstM upd_same
      obtain ⟨u4, rfl, ru4⟩ := r4.one
      refine wpAny_updateSeq e4 rfl ?_ (by show 1 ≤ sizeLine; rw [sizeLine_eq]; decide) (by show 0 ≤ sizeLine + 1; exact Nat.zero_le _)
      have I7 := I6.lset (f := (·.pop)) (its := [u4]) (its' := []) (ys := []) (t' := s4.toks) upd_same e4 (by rfl) .nil (Nat.zero_le _)
      rw [upd_upd, upd_upd] at I7
      exact wpAny_pure ⟨plainId_quiet PySem.F.plain_extend_loop _, hloop _ 0 _ rfl (Nat.zero_le _) I7 ⟨_, (Heap.get?_update_other _ _ (Ne.symm ne)).trans ((Heap.get?_update_other _ _ (Ne.symm ne)).trans eo4), rfl, rfl⟩⟩
end
end Aw

namespace Aw
open PySem PySem.Spec PyProof.Rows L2 NdefX
abbrev sPInd : Stmt := (top 40)
def tb_pind (K : PySem.W.Frag) (C CS CN : Addr) (W : WX) : TS := tAsg (tFld K (tItO C (spPGet K C CS CN) (WE W) (tVar 0) (tVar 3)) "text") (gName 4)
def ts_pind (Ce : Nat → Addr) (a : Addr) (cls : Value) (d : Option Addr) : TS := tAsg (fun σ H Q => (tCons (tVar 5) tNil) σ H fun vs H1 => spLErr Ce a cls d vs H1 Q E0) (gName 4)
def spPInd (K : PySem.W.Frag) (C CS : Addr) : Sp := fun vs H Q _ => ∃ (a l : Addr) (x : Str) (ps : List (Str × Row)), vs = [.ref a, .ref l] ∧ ProgAt K C CS H a x ps ∧ H l = some (.lst ((ps.map (·.1)).map V.str)) ∧ ps.length ≤ 30 ∧ ∀ H', Same H H' → Q (.bl true) H'
theorem eqv_self {d : PyData} (h : SeqAt.shaped d = true) : PyData.eqv d d = true := SeqAt.eqv_refl d (SeqAt.canLay_of_shaped h)
theorem ite_andB {b : Bool} {R A B : Prop} (h : B) (hx : B → b = true → R) : if b = true then R else (if false = true then A else B) := by
  cases b with
  | true => exact iteT (hx h rfl)
  | false => exact iteF (iteF h)
/-- the values that are asked -/
def AskOk (v : V) : Prop := (∃ i, v = .int i) ∨ v = .bl true ∨ v = .non ∨ v = .str "0"
theorem AskOk.ok {H : Hp} {v : V} (h : AskOk v) : VOk H v := by
  rcases h with ⟨i, rfl⟩ | rfl | rfl | rfl
  · exact .int _
  · exact .bl _
  · exact .non
  · exact .str _ (by decide)
theorem AskOk.dp {K : PySem.W.Frag} {H : Hp} {v : V} (h : AskOk v) : ∃ d, Dp K H v d ∧ SeqAt.shaped (.tuple [.str "BadNumber", d]) = true := by
  rcases h with ⟨i, rfl⟩ | rfl | rfl | rfl
  · refine ⟨_, .int i, ?_⟩
    unfold SeqAt.shaped
    refine Bool.and_eq_true_iff.mpr ⟨?_, decide_eq_true ?_⟩
    · have e : PyData.strOk "BadNumber" = true := by decide +kernel
      simp only [PyData.canLay0, PyData.canLayAll0, e, Bool.and_self]
    · simp only [PyData.depth, PyData.depthAll]
      decide
  · exact ⟨_, .bl true, by decide +kernel⟩
  · exact ⟨_, .non, by decide +kernel⟩
  · exact ⟨_, .str "0", by decide +kernel⟩
section
variable {P : Program} {w : World} {K : PySem.W.Frag} {mg : Str → Option Value} {base : Heap} {C CS CN CW fI fL fG fPI : Addr} {Ce : Nat → Addr}
theorem scPInd : FnScope ["_law_program", "_law_parts", "_law_step_here", "_law_n", "_law_found", "_law_e", "_law_due_here"] ["_law_program", "_law_parts"] (defScope sPInd) := ⟨rfl, rfl, rfl, by decide +kernel, rfl, by decide +kernel, by decide +kernel⟩
theorem ok_pind {f fT : Addr} {fd dI dL dG td : FuncData} (F : Fun K "_law_indices_right" "_law_indices_right" sPInd f fd) (J : TxtJ K mg C CS fPI) (cl : Cls K C) (isi : mg "isinstance" = none) (ln : mg "len" = none) (gR : mg "range" = none) (gLi : mg "list" = none) (gI : mg "int" = none) (gB : mg "bool" = none) (gW : mg "WordsError" = some (.ref CW))
    (hsI : PySem.W.findIn K (.ref C) "__iter__" = some (some (.ref fI))) (hfI : PySem.W.isFn K (.ref fI) = true) (FI : FnN P w K mg base 1 fI dI ["self"] (spIter K C "steps")) (bI : Binds K dI ["self"] [])
    (hsL : PySem.W.findIn K (.ref C) "__len__" = some (some (.ref fL))) (hfL : PySem.W.isFn K (.ref fL) = true) (GL : FnOk P w K mg base CX0 1 fL dL ["self"] (spPLen K C CS)) (bL : Binds K dL ["self"] [])
    (hsG : PySem.W.findIn K (.ref C) "__getitem__" = some (some (.ref fG))) (hfiG : PySem.W.fnIn K fG = true) (hfG : PySem.W.isFn K (.ref fG) = true) (GG : FnOk P w K mg base (L2.CX P w) 3 fG dG ["self", "at"] (spPGet K C CS CN)) (bG : Binds K dG ["self", "at"] [])
    (GT : FnE P w K mg base 1 fT td ["_law_e"] (spLErr Ce)) (gT : mg "_law_error" = some (.ref fT)) (kT : PySem.W.keepIn K (.ref fT) = true) (bT : Binds K td ["_law_e"] []) (hN : CN = Ce 2) (xW : ∀ i, i < 4 → PySem.W.exmOne K (.ref (Ce i)) (.ref CW) = some true) :
    FnOk P w K mg base CX0 6 f fd ["_law_program", "_law_parts"] (spPInd K C CS) := by
  refine F.ok scPInd (fun vs H Q E h => ?_) (fun cdv A outer s H vs Q E hr h => ?_)
  · obtain ⟨a, l, x, ps, rfl, _⟩ := h
    rfl
  · obtain ⟨a, l, x, ps, rfl, pa, hl, hn, k⟩ := h
    have nd := scPInd.nd
    refine ⟨_, (pss_cons (ps_if (PW.pt (pw_or (pt_cmpR op_ne (pe_callB (call_lenO hsL hfL GL (hr.mono (by decide)) bL) (by rfl) ln PySem.boot_len (pa_cons (pv 0) pa_nil)) (pe_callB call_len_seq (by rfl) ln PySem.boot_len (pa_cons (pv 1) pa_nil)) (nomark _)) (pw_or1 (pt_cmpR (op_neD hr.units) (pe_lc (own := [("_law_step_here", 2)]) (g := (gName 2)) (tt := tYes) rfl nd (pi_own hsI hfI FI (hr.mono (by decide)) bI (pv 0)) (blkOk_by (own := [("_law_step_here", 2)]) (N := ["_law_program", "_law_parts", "_law_step_here", "_law_n", "_law_found", "_law_e", "_law_due_here"]) (sc := defScope sPInd) (by decide +kernel)) (fun _ _ _ _ _ => (pg_name (i := 2) nd rfl (Or.inl rfl))) (fun _ _ _ _ _ => pts_nil) (fun _ _ _ _ _ => (show PE _ _ (tFld K (tVar 2) "text") from pe_fld (pv 2) rfl))) (pv 1) (nomark _)))))
        (pss_one (ps_ret pe_bl)) pss_nil)
      (pss_cons (ps_for PassesOwn.never rfl (pi_list (pe_op op_cat (pe_listRg rfl (by rfl) gLi (prg_2 (by rfl) gR (pe_un un_neg pe_int) (pe_op op_add (pe_callB call_len_seq (by rfl) ln PySem.boot_len (pa_cons (pv 1) pa_nil)) pe_int))) (pe_lst (pa_cons pe_bl (pa_cons pe_non (pa_cons pe_str (pa_cons (pe_op op_pow pe_int pe_int) pa_nil))))))) (pg_name (i := 3) nd rfl (Or.inl rfl))
        (pss_cons (ps_set (i := 4) nd rfl (Or.inl rfl) (pe_tup (pa_cons pe_str (pa_cons pe_non pa_nil))))
        (pss_cons (ps_try_as (i := 5) (tb := fun W => tb_pind K C CS CN W) (ts := fun a cls d => ts_pind Ce a cls d) (Wout := fun _ _ _ _ => False) rfl rfl nd rfl rfl ⟨rfl, by decide, Or.inl gW⟩ takes0
          (fun W pn xe tk _ => (pss_one (ps_set (i := 4) nd rfl (Or.inl rfl) (pe_fld (pe_itO hsG hfiG hfG GG (hr.mono (by decide)) bG (fun σ => passAt tk σ) (pv 0) (pv 3) (fun _ _ => rfl)) rfl))))
          (fun a oe cls d pn hz hf => (pss_one (ps_set (i := 4) nd rfl (Or.inl rfl) (pe_callE GT (roomH_suite (hr.mono (by decide))) (List.mem_cons_self ..) hz hf rfl gT kT bT (pa_cons (pv 5) pa_nil))))))
        (pss_cons (ps_set (i := 6) nd rfl (Or.inl rfl) (pe_tup (pa_cons pe_str (pa_cons (pv 3) pa_nil))))
        (pss_cons (ps_if (PW.pt (pw_and (pt_val (pe_callB call_isi (by rfl) isi (by decide +kernel) (pa_cons (pv 3) (pa_cons (pe_bltn (v := .ty "int") (by rfl) gI (by decide +kernel) rfl) pa_nil)))) (pw_and (pt_not (pt_val (pe_callB call_isi (by rfl) isi (by decide +kernel) (pa_cons (pv 3) (pa_cons (pe_bltn (v := .ty "bool") (by rfl) gB (by decide +kernel) rfl) pa_nil))))) (pw_and1 (pt_chain op_le op_lt pe_int (pv 3) (pe_callB call_len_seq (by rfl) ln PySem.boot_len (pa_cons (pv 1) pa_nil)))))))
          (pss_one (ps_set (i := 6) nd rfl (Or.inl rfl) (pe_ix ix_list (pv 1) (pv 3) (fun _ _ => rfl)))) pss_nil)
        (pss_one (ps_if (pt_cmpR (op_neD hr.units) (pv 4) (pv 6) (nomark _))
          (pss_one (ps_ret pe_bl)) pss_nil)))))))
      (pss_one (ps_ret pe_bl)))), ?_⟩
    obtain ⟨ex, st, xs, ea, es, hS⟩ := pa.ex
    have lx := hS.length
    obtain ⟨ts, hts⟩ : ∃ ts, ps.map (·.1) = ts := ⟨_, rfl⟩
    have lt : ts.length = ps.length := by rw [← hts, List.length_map]
    have okt : ∀ z ∈ ts, okT z = true := fun z hz => by
      rw [← hts] at hz
      obtain ⟨q, hq, rfl⟩ := List.mem_map.mp hz
      exact known_ok q (StepsAt.known hS q hq)
    have sh : SeqAt.shaped (.list (ts.map PyData.str)) = true := strs_shaped fun z hz => okT_str (okt z hz)
    rw [hts] at hl
    have lm : (ts.map V.str).length = ts.length := List.length_map ..
    refine ⟨_, rfl, a, ex, _, rfl, ea, ⟨a, x, ps, rfl, pa, ps.length, rfl, by omega, ?_⟩⟩
    refine ⟨_, rfl, l, _, rfl, .inl (SqL.of hl), rfl, _, rfl, ?_⟩
    rw [lm, lt]
    refine ite_ndec (fun z => absurd rfl z) (fun _ => ?_)
    refine ⟨_, rfl, a, ex, _, st, xs, rfl, ea, pSteps, SqT.of es, fun D hD => ?_⟩
    refine lc_tup (a := st) (xs := xs) (fun m H3 => Same H H3 ∧ H3 D = some (.lst ((ps.take m).map fun p => V.str p.1))) ⟨same_upd hD, upd_same⟩ (fun m H3 hm p => SqT.of (p.1 _ _ es)) ?_ ?_
    · rintro m y H3 hy ⟨s3, e3⟩
      obtain ⟨b, p, ip, rfl, sp⟩ := (hS.same s3).get hy
      obtain ⟨dy, bv, tv, eb, _, _⟩ := sp.ex
      have et : ps.take (m + 1) = ps.take m ++ [p] := by
        rw [List.take_succ, ip]
        rfl
      refine ⟨rfl, _, rfl, b, CS, dy, _, _, rfl, eb, J.cs, J.nT, gText, _, e3, ?_, same_fresh hD s3, ?_⟩
      · rw [List.length_map, List.length_take]
        exact small200' (by omega)
      · rw [upd_same, et, List.map_append]
        rfl
    · rintro H3 ⟨s3, e3⟩
      rw [List.take_of_length_le (by omega)] at e3
      have e3 : H3 D = some (.lst (ts.map V.str)) := by rw [e3, ← hts, List.map_map]; rfl
      refine ⟨_, rfl, .list (ts.map PyData.str), .list (ts.map PyData.str), .lst (SqL.of e3) (strs_dp _), .lst (SqL.of (s3 _ _ hl)) (strs_dp _), sh, sh, _, rfl, ?_⟩
      rw [eqv_self sh]
      refine iteF ?_
      refine ⟨_, rfl, _, rfl, l, _, rfl, .inl (SqL.of (s3 _ _ hl)), _, _, rfl, rfl, _, _, rfl, rfl, ⟨by omega, by omega, by omega, by omega, by omega⟩, fun q hq => ?_⟩
      refine ⟨_, _, rfl, rfl, ⟨by decide, by decide, by decide⟩, by show 4 ≤ sizeLine; decide, fun q2 hq2 => ?_⟩
      have e4 := same_upd (o := .lst [.bl true, .non, .str "0", .int (10 ^ 40)]) hq2 _ _ (upd_same (H := H3) (a := q) (o := .lst (rgV (-2) (((ts.map V.str).length : Int) + 2))))
      refine ⟨q, q2, _, _, rfl, rfl, e4, upd_same, ?_, fun W hW => ?_⟩
      · rw [rgV_length]
        show (((ts.map V.str).length : Int) + 2 - -2).toNat + 4 ≤ sizeLine
        exact Nat.le_trans (by omega : _ ≤ 1000) kz
      have hAsk : ∀ (i : Nat) (v : V), (rgV (-2) (((ts.map V.str).length : Int) + 2) ++ [.bl true, .non, .str "0", .int (10 ^ 40)])[i]? = some v → AskOk v := fun i v hv => by
        rcases List.mem_append.mp (List.mem_of_getElem? hv) with h | h
        · obtain ⟨j, _, rfl⟩ := List.mem_map.mp h
          exact .inl ⟨_, rfl⟩
        · simp only [List.mem_cons, List.not_mem_nil, or_false] at h
          rcases h with rfl | rfl | rfl | rfl
          · exact .inr (.inl rfl)
          · exact .inr (.inr (.inl rfl))
          · exact .inr (.inr (.inr rfl))
          · exact .inl ⟨_, rfl⟩
      have sW : Same H (upd (upd (upd H3 q (.lst (rgV (-2) (((ts.map V.str).length : Int) + 2)))) q2 (.lst [.bl true, .non, .str "0", .int (10 ^ 40)])) W (.lst (rgV (-2) (((ts.map V.str).length : Int) + 2) ++ [.bl true, .non, .str "0", .int (10 ^ 40)]))) := ((s3.trans (same_upd hq)).trans (same_upd hq2)).trans (same_upd hW)
      refine ⟨W, rfl, ⟨_, SqL.of upd_same⟩, for_list (a := W) (xs := rgV (-2) (((ts.map V.str).length : Int) + 2) ++ [.bl true, .non, .str "0", .int (10 ^ 40)]) (fun i σ H4 => ∃ (v3 v4 v5 v6 : Option V), σ = [some (.ref a), some (.ref l), none, v3, v4, v5, v6] ∧ Same H H4 ∧ H4 W = some (.lst (rgV (-2) (((ts.map V.str).length : Int) + 2) ++ [.bl true, .non, .str "0", .int (10 ^ 40)]))) ⟨none, none, none, none, rfl, sW, upd_same⟩ (fun i σ H4 _ p => by
        obtain ⟨_, _, _, _, _, _, e⟩ := p
        exact SqL.of e) ?_ ?_⟩
      · rintro i v σ H4 hv ⟨v3, v4, v5, v6, rfl, s4, eW⟩
        have ask := hAsk i v hv
        refine ⟨by show 2 ≤ sizeLine; decide, fun t0 ht0 => ?_⟩
        obtain ⟨H5, hH5⟩ : ∃ H5, upd H4 t0 (.tup [.str "none", .non]) = H5 := ⟨_, rfl⟩
        have s5 : Same H4 H5 := hH5 ▸ same_upd ht0
        change tb_pind K C CS CN _ _ _ (upd H4 t0 (.tup [.str "none", .non]))
        rw [hH5]
        have sH5 := s4.trans s5
        refine ⟨_, rfl, _, rfl, a, ex, _, rfl, sH5 _ _ ea, a, v, x, ps, rfl, pa.same sH5, ask.ok, by omega, fun hb d H6 s6 hd0 hd => ?_, fun j p b hvj hp sb => ?_⟩
        · refine ⟨true, hN ▸ xW 2 (by decide), fun _ a' ha' => ?_, fun z => Bool.noConfusion z⟩
          refine ⟨_, rfl, d, 2, v, rfl, by rw [hN], by decide, rfl, hd, fun t H7 s7 e7 => ?_⟩
          have s47 : Same H H7 := (sH5.trans s6).trans s7
          refine ⟨_, rfl, by show 2 ≤ sizeLine; decide, fun t2 ht2 => ?_⟩
          have s8 : Same H7 (upd H7 t2 (.tup [.str "BadNumber", v])) := same_upd ht2
          have e8 := s8 _ _ e7
          have x8 : upd H7 t2 (.tup [.str "BadNumber", v]) t2 = some (.tup [.str "BadNumber", v]) := upd_same
          obtain ⟨H8, hH8⟩ : ∃ H8, upd H7 t2 (.tup [.str "BadNumber", v]) = H8 := ⟨_, rfl⟩
          rw [hH8] at s8 e8 x8 ⊢
          have s48 := s47.trans s8
          have fin : ∀ i', ∃ (v3 v4 v5 v6 : Option V), [some (V.ref a), some (V.ref l), none, some v, some (V.ref t), none, some (V.ref t2)] = [some (V.ref a), some (V.ref l), none, v3, v4, v5, v6] ∧ Same H H8 ∧ H8 W = some (.lst (rgV (-2) (((ts.map V.str).length : Int) + 2) ++ [.bl true, .non, .str "0", .int (10 ^ 40)])) := fun _ : Nat => ⟨_, _, _, _, rfl, s48, s8 _ _ (s7 _ _ (s6 _ _ (s5 _ _ eW)))⟩
          obtain ⟨d', dv, sh'⟩ := ask.dp (K := K) (H := H8)
          obtain ⟨ty, hty, kI, kB⟩ := ask.ok.ty (K := K) (H := H8)
          refine ⟨_, rfl, v, .ty "int", ty, .type "int", isIB v, rfl, .ty _, hty, kI, _, rfl, ?_⟩
          refine ite_andB (b := isIB v) ?_ (fun hB eI => ?_)
          · refine ⟨_, rfl, _, rfl, .tuple [.str "BadNumber", d'], .tuple [.str "BadNumber", d'], .tup (SqT.of e8) (.cons (.str _) (.cons dv .nil)), .tup (SqT.of x8) (.cons (.str _) (.cons dv .nil)), sh', sh', _, rfl, ?_⟩
            rw [eqv_self sh']
            exact iteF (fin 0)
          refine ⟨_, rfl, v, .ty "bool", ty, .type "bool", isBB v, rfl, .ty _, hty, kB, _, rfl, ?_⟩
          refine ite_andB (b := !isBB v) hB (fun hB eB => ?_)
          rcases ask with ⟨i', rfl⟩ | rfl | rfl | rfl
          · refine ⟨_, rfl, 0, i', rfl, rfl, _, rfl, ?_⟩
            refine ite_dec (fun h0 => ?_) (fun _ => ⟨_, rfl, iteF hB⟩)
            refine ⟨_, rfl, l, _, rfl, .inl (SqL.of (s48 _ _ hl)), i', _, rfl, rfl, _, rfl, ?_⟩
            refine ite_dec (fun h1 => ?_) (fun _ => hB)
            have hb : (decide (0 ≤ i') && decide (i' ≤ (ps.length : Nat) - 1)) = false := hb
            rw [lm] at h1
            rw [decide_eq_true h0, decide_eq_true (by omega)] at hb
            cases hb
          · exact absurd eB (by decide)
          · exact absurd eI (by decide)
          · exact absurd eI (by decide)
        · subst hvj
          obtain ⟨dy, bv, tv, eb, _, _⟩ := sb.ex
          refine ⟨b, CS, dy, _, _, rfl, eb, J.cs, J.nT, gText, ?_⟩
          refine ⟨_, rfl, by show 2 ≤ sizeLine; decide, fun t2 ht2 => ?_⟩
          have s8 := same_upd (o := .tup [.str "BadNumber", .int (j : Nat)]) ht2
          obtain ⟨H8, hH8⟩ : ∃ H8, upd H5 t2 (.tup [.str "BadNumber", .int (j : Nat)]) = H8 := ⟨_, rfl⟩
          rw [hH8] at s8 ⊢
          have s48 := sH5.trans s8
          obtain ⟨ty, hty, kI, kB⟩ := (VOk.int (H := H8) (j : Int)).ty (K := K)
          have hj : j < ps.length := (List.getElem?_eq_some_iff.mp hp).1
          have hat : atI (ts.map V.str) (j : Int) = some (.str p.1) := atI_nat (by rw [← hts, List.map_map, List.getElem?_map, hp]; rfl)
          refine ⟨_, rfl, .int (j : Int), .ty "int", ty, .type "int", true, rfl, .ty _, hty, kI, _, rfl, ?_⟩
          refine iteT ?_
          refine ⟨_, rfl, .int (j : Int), .ty "bool", ty, .type "bool", false, rfl, .ty _, hty, kB, _, rfl, ?_⟩
          refine iteT ?_
          refine ⟨_, rfl, 0, (j : Int), rfl, rfl, _, rfl, ?_⟩
          refine ite_dec (fun _ => ?_) (fun z => absurd (by omega) z)
          refine ⟨_, rfl, l, _, rfl, .inl (SqL.of (s48 _ _ hl)), (j : Int), _, rfl, rfl, _, rfl, ?_⟩
          refine ite_dec (fun _ => ?_) (fun z => absurd (by rw [lm]; omega) z)
          refine ⟨_, rfl, _, rfl, l, _, _, _, rfl, rfl, SqL.of (s48 _ _ hl), hat, ?_⟩
          have shp : SeqAt.shaped (.str p.1) = true := by
            have e : PyData.strOk p.1 = true := okT_str (okt p.1 (by rw [← hts]; exact List.mem_map.mpr ⟨p, List.mem_of_getElem? hp, rfl⟩))
            unfold SeqAt.shaped
            refine Bool.and_eq_true_iff.mpr ⟨?_, decide_eq_true ?_⟩
            · simp only [PyData.canLay0, e]
            · simp only [PyData.depth]
              decide
          refine ⟨_, rfl, _, rfl, .str p.1, .str p.1, .str _, .str _, shp, shp, _, rfl, ?_⟩
          rw [eqv_self shp]
          exact iteF ⟨_, _, _, _, rfl, s48, s8 _ _ (s5 _ _ eW)⟩
      · rintro σ H4 ⟨v3, v4, v5, v6, rfl, s4, eW⟩
        exact k H4 s4
end
end Aw

namespace Aw
open PySem PySem.Spec PyProof.Rows L2 NdefX
/-! ### texts of programs that can be read -/
theorem rowsOf_parts : ∀ {L : List Str}, firstBad L = none → (rowsOf L).map (·.1) = L ∧ ∀ p ∈ rowsOf L, p ∈ known
  | [], _ => ⟨rfl, fun _ h => absurd h (by simp [rowsOf])⟩
  | x :: l, h => by
    unfold firstBad at h
    cases e : parse x with
    | none => rw [e] at h; cases h
    | some r =>
      rw [e] at h
      have h2 : firstBad l = none := by
        cases q : firstBad l with
        | none => rfl
        | some i => rw [q] at h; cases h
      obtain ⟨a, b⟩ := rowsOf_parts h2
      rw [rowsOf_yes e, List.map_cons, a]
      refine ⟨rfl, fun p hp => ?_⟩
      rcases List.mem_cons.mp hp with z | z
      · subst z
        exact parse_iff.mp e
      · exact b p z
theorem deal_text : ∀ p ∈ known, isDealT p.1 = isDeal p := by decide +kernel
theorem filt_len : ∀ {ps : List (Str × Row)}, (∀ p ∈ ps, p ∈ known) → ((ps.map (·.1)).filter isDealT).length = (ps.filter isDeal).length
  | [], _ => rfl
  | p :: ps, h => by
    have e := deal_text p (h p (List.mem_cons_self ..))
    have ih := filt_len (ps := ps) fun q hq => h q (List.mem_cons_of_mem _ hq)
    rw [List.map_cons, List.filter_cons, List.filter_cons, e]
    cases isDeal p with
    | true => exact congrArg (· + 1) ih
    | false => exact ih
theorem due_rows {ps : List (Str × Row)} (h : ∀ p ∈ ps, p ∈ known) : dueE (ps.map (·.1)) = boundsE ps := by
  unfold dueE boundsE
  rw [filt_len h, List.length_map]
theorem due_bounds {L : List Str} (h : firstBad L = none) : dueE L = boundsE (rowsOf L) := by
  obtain ⟨a, b⟩ := rowsOf_parts h
  rw [← due_rows b, a]
theorem strOk_app {x y : Str} (hx : PyData.strOk x = true) (hy : PyData.strOk y = true) : PyData.strOk (x ++ y) = true := by
  show (x.cps ++ y.cps).all (· < 0x110000) = true
  rw [Array.all_append]
  exact Bool.and_eq_true_iff.mpr ⟨hx, hy⟩
theorem strOk_join : ∀ {l : List Str}, (∀ z ∈ l, PyData.strOk z = true) → PyData.strOk (Str.join " then " l) = true
  | [], _ => by decide +kernel
  | [x], h => h x (List.mem_cons_self ..)
  | x :: y :: r, h => strOk_app (strOk_app (h x (List.mem_cons_self ..)) (by decide +kernel)) (strOk_join fun z hz => h z (List.mem_cons_of_mem _ hz))
/-- what is told of a program with these texts -/
def dProg (x : Str) (L : List Str) : PyData := .tuple [.str "program", .str x, .list (L.map PyData.str), .bool true]
theorem sh_prog {x : Str} {L : List Str} (hx : PyData.strOk x = true) (hL : ∀ z ∈ L, PyData.strOk z = true) : SeqAt.shaped (dProg x L) = true := by
  have h := strs_shaped hL
  have h1 := SeqAt.canLay_of_shaped h
  have h2 : ∀ l : List Str, PyData.depthAll (l.map PyData.str) ≤ 1 := fun l => by
    induction l with
    | nil => simp [PyData.depthAll]
    | cons x l ih => simp [PyData.depthAll, PyData.depth]; omega
  have e : PyData.strOk "program" = true := by decide +kernel
  unfold dProg SeqAt.shaped
  refine Bool.and_eq_true_iff.mpr ⟨?_, decide_eq_true ?_⟩
  · simp only [PyData.canLay0, PyData.canLayAll0, hx, e, Bool.and_true, Bool.true_and]
    exact h1
  · have := h2 L
    simp only [PyData.depth, PyData.depthAll]
    omega
theorem known_strs {ps : List (Str × Row)} (h : ∀ p ∈ ps, p ∈ known) : ∀ z ∈ ps.map (·.1), PyData.strOk z = true := fun z hz => by
  obtain ⟨q, hq, rfl⟩ := List.mem_map.mp hz
  exact okT_str (known_ok q (h q hq))
/-- what is told of a row of steps -/
def dataOf (ps : List (Str × Row)) : PyData := match boundsE ps with
  | some m => .tuple [.str "TooMany", .int m]
  | none => dProg (textP ps) (ps.map (·.1))
theorem sh_two {n : Str} {m : Int} (h : PyData.strOk n = true) : SeqAt.shaped (.tuple [.str n, .int m]) = true := by
  unfold SeqAt.shaped
  refine Bool.and_eq_true_iff.mpr ⟨?_, decide_eq_true ?_⟩
  · simp only [PyData.canLay0, PyData.canLayAll0, h, Bool.and_self]
  · simp only [PyData.depth, PyData.depthAll]
    decide
theorem sh_data {ps : List (Str × Row)} (h : ∀ p ∈ ps, p ∈ known) : SeqAt.shaped (dataOf ps) = true := by
  unfold dataOf
  cases boundsE ps with
  | some m => exact sh_two (by decide +kernel)
  | none => exact sh_prog (strOk_join (known_strs h)) (known_strs h)
def Good (x : Str) : Prop := x.length ≤ 1000 ∧ firstBad (partsOf x) = none ∧ boundsE (rowsOf (partsOf x)) = none
theorem good_text {x : Str} (h : Good x) : textP (rowsOf (partsOf x)) = x := by
  unfold textP
  rw [(rowsOf_parts h.2.1).1, join_partsOf]
theorem good_len {x : Str} (h : Good x) : (rowsOf (partsOf x)).length ≤ 5 := by
  have hb := h.2.2
  unfold boundsE at hb
  split at hb
  · cases hb
  · omega
theorem texts_rows : ∀ {ts : List Str}, (∀ t ∈ ts, ∃ q ∈ known, t = q.1) → ∃ ps : List (Str × Row), ps.map (·.1) = ts ∧ ∀ q ∈ ps, q ∈ known
  | [], _ => ⟨[], rfl, fun _ h => absurd h List.not_mem_nil⟩
  | t :: ts, h => by
    obtain ⟨q, hq, e⟩ := h t (List.mem_cons_self ..)
    obtain ⟨ps, h1, h2⟩ := texts_rows (ts := ts) fun z hz => h z (List.mem_cons_of_mem _ hz)
    refine ⟨q :: ps, by rw [List.map_cons, h1, e], fun z hz => ?_⟩
    rcases List.mem_cons.mp hz with z | z
    · subst z
      exact hq
    · exact h2 _ z
theorem But.lst' {p c a : Addr} {n : Nat} {H H1 : Hp} {xs : List V} (b : But p H H1) (P : Pen H p c n) (h : H a = some (.lst xs)) : H1 a = some (.lst xs) := by
  obtain ⟨_, _, _, e, _⟩ := P.ex
  exact b a _ h (ne_of h e (fun z => by cases z))
theorem al_v {K : PySem.W.Frag} {H : Hp} {n : Nat} {v : V} (h : VOk H v) : Al K H (n + 1) v v := by
  cases h with
  | str x h => exact Al.flat rfl
  | non => exact Al.flat rfl
  | bl b => exact Al.flat rfl
  | int i => exact Al.flat rfl
  | lst h => exact Al.ref
  | tup h => exact Al.ref
  | dct h => exact Al.ref
section
variable {X : Cx}
def rNeX (K : PySem.W.Frag) : R2 := fun x y H Q => rNeAl K x y H Q ∨ rNeD K x y H Q
theorem op_neX (hu : X.A.units + 64 < cLine) : OpR X (compareOp .NotEq) (rNeX X.K) := by
  intro pins s σ H x y v u Q I rx ry h
  rcases h with h | h
  · exact op_neAl hu pins s σ H x y v u Q I rx ry h
  · exact op_neD hu pins s σ H x y v u Q I rx ry h
end
section
variable {K : PySem.W.Frag} {C CS CB CI CM : Addr} {H : Hp}
theorem mk_ok {x : Str} (g : Good x) {G : Addr → Hp → Prop} (k : ∀ a H', Same H H' → ProgAt K C CS H' a x (rowsOf (partsOf x)) → G a H') : ∀ y dx, H y = none → H dx = none → dx ≠ y →
    spPInit K C CS CB CI CM [.ref y, .str x] (upd (upd H dx (.own y)) y (.ins C dx [])) (fun v H2 => v = .non ∧ G y H2) E0 := by
  intro y dx hy hdx ne
  have hy' : upd H dx (.own y) y = none := by rw [upd_ne (Ne.symm ne)]; exact hy
  have s2 := (same_upd (o := .own y) hdx).trans (same_upd (o := .ins C dx []) hy')
  obtain ⟨hl, hf, hb⟩ := g
  refine ⟨y, dx, .str x, rfl, upd_same, .str _ hl, fun z => Bool.noConfusion z, fun z hz i hi => ?_, fun z hz hf' m hm d H' s' hd e => ?_, fun z hz hf' hb' H' but pa => ?_⟩
  · cases hz
    rw [hf] at hi
    cases hi
  · cases hz
    rw [hb] at hm
    cases hm
  · cases hz
    exact ⟨rfl, k y H' (fun c o e => but c o (s2 c o e) (fun z => by rw [z, hy] at e; cases e)) pa⟩
theorem own_peq {a b : Addr} {x y : Str} {ps qs : List (Str × Row)} (A : ProgAt K C CS H a x ps) (B : ProgAt K C CS H b y qs) {Q : VK} (q : Q (.bl (decide (x = y))) H) : rOwn K C (spPEq K C CS) false (.ref a) (.ref b) H Q := by
  obtain ⟨dx, tv, xs, e, _⟩ := A.ex
  obtain ⟨dx', tv', xs', e', _⟩ := B.ex
  exact ⟨a, dx, _, rfl, e, .inl ⟨b, _, _, rfl, e'⟩, a, .ref b, x, ps, rfl, A, .inl ⟨b, y, qs, rfl, B, _, rfl, q⟩⟩
theorem own_pne {a b : Addr} {x y : Str} {ps qs : List (Str × Row)} (A : ProgAt K C CS H a x ps) (B : ProgAt K C CS H b y qs) {Q : VK} (q : Q (.bl (!decide (x = y))) H) : rOwn K C (spPEq K C CS) true (.ref a) (.ref b) H Q := by
  obtain ⟨dx, tv, xs, e, _⟩ := A.ex
  obtain ⟨dx', tv', xs', e', _⟩ := B.ex
  exact ⟨a, dx, _, rfl, e, .inl ⟨b, _, _, rfl, e'⟩, a, .ref b, x, ps, rfl, A, .inl ⟨b, y, qs, rfl, B, _, rfl, q⟩⟩
theorem own_pstr {a : Addr} {x t : Str} {ps : List (Str × Row)} (A : ProgAt K C CS H a x ps) {Q : VK} (q : Q (.bl false) H) : rOwn K C (spPEq K C CS) false (.ref a) (.str t) H Q := by
  obtain ⟨dx, tv, xs, e, _⟩ := A.ex
  exact ⟨a, dx, _, rfl, e, .inr (.inl ⟨t, rfl⟩), a, .str t, x, ps, rfl, A, .inr ⟨.inl ⟨t, rfl⟩, _, rfl, q⟩⟩
/-- the row of steps, looked at by the law: one promise for both ways -/
theorem row_due_uni {L : Addr} {ps : List (Str × Row)} (hk : ∀ p ∈ ps, p ∈ known) (hn : ps.length ≤ 100) (hl : H L = some (.lst ((ps.map (·.1)).map V.str))) {Q : VK} {E : XK}
    (k : ∀ t nm rest H', Same H H' → H' t = some (.tup (.str nm :: rest)) → nm ≠ "BadStep" → (∀ H'', Same H' H'' → Dp K H'' (.ref t) (dataOf ps)) → Q (.ref t) H') : spRowDue K [.ref L] H Q E := by
  have hs := sum20 hk
  refine ⟨L, ps.map (·.1), rfl, hl, by rw [List.length_map]; omega, by omega, fun m hm t H' s e => ?_, fun hm t H' s e => ?_⟩
  · rw [due_rows hk] at hm
    refine k t _ _ H' s e (by decide) fun H'' s2 => ?_
    unfold dataOf
    rw [hm]
    exact .tup (SqT.of (s2 _ _ e)) (.cons (.str _) (.cons (.int _) .nil))
  · rw [due_rows hk] at hm
    refine k t _ _ H' s e (by decide) fun H'' s2 => ?_
    unfold dataOf
    rw [hm]
    exact .tup (SqT.of (s2 _ _ e)) (.cons (.str _) (.cons (.str _) (.cons (.lst (SqL.of (s2 _ _ (s _ _ hl))) (strs_dp _)) (.cons (.bl _) .nil))))
theorem of_uni {l : Addr} {xs : List V} {ps : List (Str × Row)} (hl : H l = some (.lst xs) ∨ H l = some (.tup xs)) (hn : ps.length ≤ 30) (hS : StepsAt K CS H xs ps) {Q : VK} {E : XK}
    (k : ∀ t H', Same H H' → Dp K H' (.ref t) (dataOf ps) → Q (.ref t) H') : spPOf K CS [.ref l] H Q E := by
  refine ⟨l, xs, rfl, hl, by rw [hS.length]; exact hn, .inr ⟨ps, hS, fun m hm t H' s e => ?_, fun hm t L H' s e el => ?_⟩⟩
  · refine k t H' s ?_
    unfold dataOf
    rw [hm]
    exact .tup (SqT.of e) (.cons (.str _) (.cons (.int _) .nil))
  · refine k t H' s ?_
    unfold dataOf
    rw [hm]
    have el : H' L = some (.lst ((ps.map (·.1)).map V.str)) := by rw [el, List.map_map]; rfl
    exact .tup (SqT.of e) (.cons (.str _) (.cons (.str _) (.cons (.lst (SqL.of el) (strs_dp _)) (.cons (.bl _) .nil))))
/-! ### rows of steps with other things among them -/
inductive NoS (C : Addr) (H : Hp) : V → Prop
  | str (z : Str) : NoS C H (.str z)
  | non : NoS C H .non
  | int (i : Int) : NoS C H (.int i)
  | bl (b : Bool) : NoS C H (.bl b)
  | tup {e : Addr} : H e = some (.tup []) → NoS C H (.ref e)
  | ins {e dx : Addr} {fs : List (Str × V)} : H e = some (.ins C dx fs) → NoS C H (.ref e)
structure Bad2 (K : PySem.W.Frag) (C CS : Addr) (H : Hp) (xs : List V) (j : Nat) : Prop where
  pre : ∀ i v, i < j → xs[i]? = some v → ∃ q, IsStep K CS H v q
  bad : ∃ v, xs[j]? = some v ∧ NoS C H v
/-- all but lists and dicts stay -/
def Kp (H H' : Hp) : Prop := (∀ a C dx fs, H a = some (.ins C dx fs) → H' a = some (.ins C dx fs)) ∧ TK H H'
theorem Kp.same {H H' : Hp} (s : Same H H') : Kp H H' := ⟨fun _ _ _ _ e => s _ _ e, TK.same s⟩
theorem Kp.but {H H' : Hp} {p c : Addr} {n : Nat} (b : But p H H') (P : Pen H p c n) : Kp H H' := by
  refine ⟨fun a C dx fs e => ?_, TK.but b P⟩
  obtain ⟨_, _, _, e1, _⟩ := P.ex
  exact b a _ e (ne_of e e1 (fun z => by cases z))
theorem Kp.lst {H : Hp} {a : Addr} {xs : List V} {o : HO} (h : H a = some (.lst xs)) : Kp H (upd H a o) := ⟨fun b C dx fs e => by rw [upd_ne (ne_of e h (fun z => by cases z))]; exact e, TK.lst h⟩
theorem Kp.trans {H H1 H2 : Hp} (a : Kp H H1) (b : Kp H1 H2) : Kp H H2 := ⟨fun x C dx fs e => b.1 x C dx fs (a.1 x C dx fs e), a.2.trans b.2⟩
theorem StepAt.kp {H H' : Hp} {a : Addr} {x : Str} {r : Row} (S : StepAt K CS H a x r) (k : Kp H H') : StepAt K CS H' a x r := by
  obtain ⟨ex, bv, tv, e, h1, h2⟩ := S.ex
  exact ⟨⟨ex, bv, tv, k.1 _ _ _ _ e, h1.keep k.2, h2.keep k.2⟩, S.pr⟩
theorem StepsAt.kp {H H' : Hp} (k : Kp H H') : ∀ {vs : List V} {ps : List (Str × Row)}, StepsAt K CS H vs ps → StepsAt K CS H' vs ps
  | _, _, .nil => .nil
  | _, _, .cons a r => .cons (a.kp k) (StepsAt.kp k r)
theorem NoS.kp {H H' : Hp} {v : V} (h : NoS C H v) (k : Kp H H') : NoS C H' v := by
  cases h with
  | str z => exact .str z
  | non => exact .non
  | int i => exact .int i
  | bl b => exact .bl b
  | tup e => exact .tup (k.2.1 _ _ e)
  | ins e => exact .ins (k.1 _ _ _ _ e)
theorem Bad2.kp {H H' : Hp} {xs : List V} {j : Nat} (h : Bad2 K C CS H xs j) (k : Kp H H') : Bad2 K C CS H' xs j := by
  refine ⟨fun i v hi hv => ?_, ?_⟩
  · obtain ⟨q, a, e, sa⟩ := h.pre i v hi hv
    exact ⟨q, a, e, sa.kp k⟩
  · obtain ⟨v, hv, n⟩ := h.bad
    exact ⟨v, hv, n.kp k⟩
/-- how the kinds stand to Step -/
structure KindS (K : PySem.W.Frag) (C CS : Addr) : Prop where
  str : PySem.W.kitOne K (.type "str") (.ref CS) = some false
  non : PySem.W.kitOne K (.type "NoneType") (.ref CS) = some false
  int : PySem.W.kitOne K (.type "int") (.ref CS) = some false
  bl : PySem.W.kitOne K (.type "bool") (.ref CS) = some false
  tup : PySem.W.kitOne K (.type "tuple") (.ref CS) = some false
  ins : PySem.W.kitOne K (.ref C) (.ref CS) = some false
  cl : Cls K C
  te : TxtE K C
theorem NoS.no {v : V} (h : NoS C H v) (k : KindS K C CS) : NoStep K CS H v := by
  cases h with
  | str z => exact ⟨_, .base (.str z), k.str⟩
  | non => exact ⟨_, .base .non, k.non⟩
  | int i => exact ⟨_, .base (.int i), k.int⟩
  | bl b => exact ⟨_, .base (.bl b), k.bl⟩
  | tup e => exact ⟨_, .base (.tup e), k.tup⟩
  | ins e => exact ⟨_, .base (.ins e k.cl k.te.ha k.te.hn k.te.ht k.te.hm), k.ins⟩
theorem Bad2.of {xs : List V} {j : Nat} (h : Bad2 K C CS H xs j) (k : KindS K C CS) : BadOf K CS H xs j := by
  refine ⟨h.pre, ?_⟩
  obtain ⟨v, hv, n⟩ := h.bad
  exact ⟨v, hv, n.no k⟩
theorem ins_get {α : Type} {xs : List α} {r i : Nat} {v : α} (hr : r ≤ xs.length) : (xs.take r ++ [v] ++ xs.drop r)[i]? = if i < r then xs[i]? else if i = r then some v else xs[i - 1]? := by
  have l1 : (xs.take r).length = r := by rw [List.length_take]; omega
  split
  · rename_i h
    rw [List.append_assoc, List.getElem?_append_left (by omega), List.getElem?_take_of_lt h]
  · split
    · rename_i h1 h2
      subst h2
      rw [List.append_assoc, List.getElem?_append_right (by omega), l1, Nat.sub_self]
      rfl
    · rename_i h1 h2
      rw [List.getElem?_append_right (by rw [List.length_append, l1]; show r + 1 ≤ i; omega), List.length_append, l1, List.getElem?_drop]
      show xs[r + (i - (r + 1))]? = _
      rw [show r + (i - (r + 1)) = i - 1 by omega]
/-- one more thing that is no Step, in a row of Steps -/
theorem Bad2.first {xs : List V} {ps : List (Str × Row)} {r : Nat} {v : V} (hS : StepsAt K CS H xs ps) (hr : r ≤ xs.length) (n : NoS C H v) : Bad2 K C CS H (xs.take r ++ [v] ++ xs.drop r) r := by
  refine ⟨fun i u hi hu => ?_, v, ?_, n⟩
  · rw [ins_get hr, if_pos hi] at hu
    obtain ⟨a, q, _, e, sa⟩ := hS.get hu
    exact ⟨q, a, e, sa⟩
  · rw [ins_get hr, if_neg (by omega), if_pos rfl]
theorem Bad2.more {xs : List V} {j r : Nat} {v : V} (h : Bad2 K C CS H xs j) (hr : r ≤ xs.length) (n : NoS C H v) : Bad2 K C CS H (xs.take r ++ [v] ++ xs.drop r) (if j < r then j else r) := by
  by_cases hj : j < r
  · rw [if_pos hj]
    refine ⟨fun i u hi hu => ?_, ?_⟩
    · rw [ins_get hr, if_pos (by omega)] at hu
      exact h.pre i u hi hu
    · obtain ⟨u, hu, m⟩ := h.bad
      exact ⟨u, by rw [ins_get hr, if_pos hj]; exact hu, m⟩
  · rw [if_neg hj]
    refine ⟨fun i u hi hu => ?_, v, ?_, n⟩
    · rw [ins_get hr, if_pos hi] at hu
      exact h.pre i u (by omega) hu
    · rw [ins_get hr, if_neg (by omega), if_pos rfl]
end
end Aw

namespace Aw
open PySem PySem.Spec PyProof.Rows L2 NdefX
abbrev sPLaw : Stmt := (top 41)
def spLaw (K : PySem.W.Frag) : Sp := fun vs H Q _ => ∃ (a : Addr) (ns : List Int), vs = [.ref a] ∧ SqL K H a (ns.map V.int) ∧ ns.length ≤ 63 ∧ ∀ H', Q (.bl true) H'
theorem shB : ∀ a b : Bool, SeqAt.shaped (.list [.bool a, .bool b]) = true := by decide +kernel
theorem knownAt {K : PySem.W.Frag} {H : Hp} {vs : List V} {r : Nat} {v : V} (d : DqAll K H vs knownD) (h : vs[r]? = some v) : ∃ p a rv, known[r]? = some p ∧ v = .ref a ∧ SqT K H a [.str p.1, rv] ∧ Dq K H rv (rowD p.2) := by
  obtain ⟨e, ed, hd⟩ := d.get h
  rw [knownD, List.getElem?_map] at ed
  cases ek : known[r]? with
  | none => rw [ek] at ed; cases ed
  | some p =>
    rw [ek] at ed
    cases ed
    obtain ⟨a, xs, rfl, sq, dxs⟩ := hd.of_tuple
    cases dxs with
    | cons d1 dxs => cases dxs with
      | cons d2 dxs =>
        cases dxs
        obtain rfl := d1.of_str
        exact ⟨p, a, _, rfl, rfl, sq, d2⟩
theorem good_turn : Good "turn" := by
  refine ⟨by decide, ?_, ?_⟩ <;> decide +kernel
section
variable {P : Program} {w : World} {K : PySem.W.Frag} {mg : Str → Option Value} {base : Heap} {C CS CB CI CM CN fP fI fPI fDraw fIt fL fE : Addr} {pO gO : Addr} {mc : Value}
theorem scPLaw : FnScope ["_law_script", "_law_pen_here", "_law_known", "_law_rows", "_law_k", "_law_value_here", "_law_due_here", "_law_parts", "_law_steps", "_law_spot", "_law_one", "_law_other", "_law_first", "_law_second", "_law_text_here", "_law_row_here", "_law_part", "_law_step_here"] ["_law_script"] (defScope sPLaw) := ⟨rfl, rfl, rfl, by decide +kernel, rfl, by decide +kernel, by decide +kernel⟩
theorem ok_plaw {f fPen fPick fAll fValue fTold fDue fOf fRow fRowDue fInd : Addr} {fd dPen dDraw dPick dAll dValue dTold dDue dOf dRow dRowDue dInd dSI dPI dPO dIt dL dE : FuncData} (F : Fun K "law" "law" sPLaw f fd) (T : TxtP mg fDraw) (gR : mg "range" = none) (gTu : mg "tuple" = none) (gMin : mg "min" = none)
    (FPen : Fun K "_law_pen" "_law_pen" sPen fPen dPen) (bPen : Binds K dPen ["_law_script"] []) (gPen : mg "_law_pen" = some (.ref fPen))
    (FDraw : Fun K "_law_draw" "_law_draw" sDraw fDraw dDraw) (bDraw : Binds K dDraw ["_law_pen_here", "_law_many"] [])
    (FPick : Fun K "_law_pick" "_law_pick" sPick fPick dPick) (bPick : Binds K dPick ["_law_pen_here", "_law_some"] []) (gPick : mg "_law_pick" = some (.ref fPick))
    (FAll : Fun K "_law_all" "_law_all" sAll fAll dAll) (bAll : Binds K dAll [] []) (gAll : mg "_law_all" = some (.ref fAll)) (GAll : FnOk P w K mg base CX0 2 fAll dAll [] (spAll K))
    (FValue : Fun K "_law_value" "_law_value" sPValue fValue dValue) (bValue : Binds K dValue ["_law_pen_here", "_law_known"] []) (gValue : mg "_law_value" = some (.ref fValue)) (GValue : FnOk P w K mg base CX0 5 fValue dValue ["_law_pen_here", "_law_known"] (spPValue K))
    (FTold : Fun K "_law_told" "_law_told" sPTold fTold dTold) (bTold : Binds K dTold ["_law_text_here"] []) (gTold : mg "_law_told" = some (.ref fTold)) (GTold : FnOk P w K mg base CX0 7 fTold dTold ["_law_text_here"] (spPTold K))
    (FOf : Fun K "_law_of" "_law_of" sPOf fOf dOf) (bOf : Binds K dOf ["_law_steps"] []) (gOf : mg "_law_of" = some (.ref fOf)) (GOf : FnOk P w K mg base CX0 9 fOf dOf ["_law_steps"] (spPOf K CS))
    (FDue : Fun K "_law_due" "_law_due" sPDue fDue dDue) (bDue : Binds K dDue ["_law_text_here", "_law_known"] []) (gDue : mg "_law_due" = some (.ref fDue)) (GDue : FnOk P w K mg base CX0 2 fDue dDue ["_law_text_here", "_law_known"] (spPDue K))
    (FRow : Fun K "_law_row" "_law_row" sLRow fRow dRow) (bRow : Binds K dRow ["_law_pen_here", "_law_most"] []) (gRow : mg "_law_row" = some (.ref fRow)) (GRow : FnOk P w K mg base CX0 4 fRow dRow ["_law_pen_here", "_law_most"] (spLRow K))
    (FRowDue : Fun K "_law_row_due" "_law_row_due" sRowDue fRowDue dRowDue) (bRowDue : Binds K dRowDue ["_law_parts"] []) (gRowDue : mg "_law_row_due" = some (.ref fRowDue)) (GRowDue : FnOk P w K mg base CX0 1 fRowDue dRowDue ["_law_parts"] (spRowDue K))
    (FInd : Fun K "_law_indices_right" "_law_indices_right" sPInd fInd dInd) (bInd : Binds K dInd ["_law_program", "_law_parts"] []) (gInd : mg "_law_indices_right" = some (.ref fInd)) (GInd : FnOk P w K mg base CX0 6 fInd dInd ["_law_program", "_law_parts"] (spPInd K C CS))
    (O : TxtO P K mg CS CB fP fI) (GSI : FnOk P w K mg base (L2.CX P w) 3 fI dSI ["self", "text"] (spInit K CS CB)) (bSI : Binds K dSI ["self", "text"] [])
    (J : TxtJ K mg C CS fPI) (GPI : FnOk P w K mg base (L2.CX P w) 5 fPI dPI ["self", "text"] (spPInit K C CS CB CI CM)) (bPI : Binds K dPI ["self", "text"] [])
    (CR : ClX.CRead K C mc) (CMt : ClX.CMet K C mc "of" pO gO) (GPO : FnOk P w K mg base (L2.CX P w) 8 gO dPO ["cls", "steps"] (spOf K C CS CI CM)) (bPO : Binds K dPO ["cls", "steps"] [])
    (hsI : PySem.W.findIn K (.ref C) "__iter__" = some (some (.ref fIt))) (hfI : PySem.W.isFn K (.ref fIt) = true) (FI : FnN P w K mg base 1 fIt dIt ["self"] (spIter K C "steps")) (bI : Binds K dIt ["self"] [])
    (hsL : PySem.W.findIn K (.ref C) "__len__" = some (some (.ref fL))) (hfL : PySem.W.isFn K (.ref fL) = true) (GL : FnOk P w K mg base CX0 1 fL dL ["self"] (spPLen K C CS)) (bL : Binds K dL ["self"] [])
    (TE : EqTxt K C fE) (GE : FnOk P w K mg base CX0 1 fE dE ["self", "other"] (spPEq K C CS)) (bE : Binds K dE ["self", "other"] []) (nS : PySem.W.notFirst K C (.type "str") = true) (nN : PySem.W.notFirst K C (.type "NoneType") = true) (kS : KindS K C CS) :
    FnOk P w K mg base CX0 10 f fd ["_law_script"] (spLaw K) := by
  have GPen : FnOk P w K mg base CX0 1 fPen dPen ["_law_script"] (spPen K) := ok_pen FPen T
  have GDraw : FnOk P w K mg base CX0 1 fDraw dDraw ["_law_pen_here", "_law_many"] spDraw := ok_draw FDraw T
  have GPick : FnOk P w K mg base CX0 2 fPick dPick ["_law_pen_here", "_law_some"] (spPick K) := ok_pick FPick T FDraw bDraw
  refine F.ok scPLaw (fun vs H Q E h => ?_) (fun cdv A outer s H vs Q E hr h => ?_)
  · obtain ⟨a, ns, rfl, _⟩ := h
    rfl
  · obtain ⟨a, ns, rfl, hS, hlen, k⟩ := h
    have nd := scPLaw.nd
    refine ⟨_, (pss_cons (ps_par3 (i := 1) (j := 2) (l := 3) rfl nd rfl rfl rfl (by decide) (by decide) (by decide) rfl rfl rfl (pa_cons (pe_call GPen (hr.mono (by decide)) (by rfl) gPen FPen.kp bPen .nil pass0 (pa_cons (pv 0) pa_nil)) (pa_cons (pe_lc (own := [("_law_text_here", 14), ("_law_row_here", 15)]) (g := (gTup _ 2 (gCons (gName 14) (gCons (gName 15) gNil)))) (tt := tYes) rfl nd (pi_list (pe_call0 GAll (hr.mono (by decide)) (by rfl) gAll FAll.kp bAll .nil pass0)) (blkOk_by (own := [("_law_text_here", 14), ("_law_row_here", 15)]) (N := ["_law_script", "_law_pen_here", "_law_known", "_law_rows", "_law_k", "_law_value_here", "_law_due_here", "_law_parts", "_law_steps", "_law_spot", "_law_one", "_law_other", "_law_first", "_law_second", "_law_text_here", "_law_row_here", "_law_part", "_law_step_here"]) (sc := defScope sPLaw) (by decide +kernel)) (fun _ _ _ _ _ => (pg_tup rfl (pgs_cons (pg_name (i := 14) nd rfl (Or.inl rfl)) (pgs_cons (pg_name (i := 15) nd rfl (Or.inl rfl)) pgs_nil)))) (fun _ _ _ _ _ => pts_nil) (fun _ _ _ _ _ => (pv 14))) (pa_cons (pe_lst pa_nil) pa_nil))) (by rfl))
      (pss_cons (ps_for PassesOwn.never rfl (pi_range1 rfl gR (pa_cons pe_int pa_nil)) (pg_name (i := 4) nd rfl (Or.inl rfl))
        (pss_cons (ps_set (i := 5) nd rfl (Or.inl rfl) (pe_call GValue (hr.mono (by decide)) (by rfl) gValue FValue.kp bValue .nil pass0 (pa_cons (pv 1) (pa_cons (pv 2) pa_nil))))
        (pss_cons (ps_set (i := 6) nd rfl (Or.inl rfl) (pe_call GDue (hr.mono (by decide)) (by rfl) gDue FDue.kp bDue .nil pass0 (pa_cons (pv 5) (pa_cons (pv 2) pa_nil))))
        (pss_cons (ps_if (pt_cmpR (op_neX hr.units) (pe_call GTold (hr.mono (by decide)) (by rfl) gTold FTold.kp bTold .nil pass0 (pa_cons (pv 5) pa_nil)) (pv 6) (nomark _))
          (pss_one (ps_ret pe_bl)) pss_nil)
        (pss_one (ps_if (pt_cmpR op_eq (pe_ix ix_tup (pv 6) pe_int (fun _ _ => rfl)) pe_str (nomark _))
          (pss_cons (ps_expr (pe_bm PySem.F.plainAttrs_list PySem.F.slot_list_append PySem.F.type_list_append mt_append (pv 3) (pa_cons (pv 5) pa_nil)))
          (pss_one (ps_if (pt_not (pt_val (pe_call GInd (hr.mono (by decide)) (by rfl) gInd FInd.kp bInd .nil pass0 (pa_cons (pe_makeS J.mkr GPI (hr.mono (by decide)) (by rfl) J.g bPI (fun σ => passE σ) (pa_cons (pv 5) pa_nil)) (pa_cons (pe_ix ix_tup (pv 6) pe_int (fun _ _ => rfl)) pa_nil)))))
            (pss_one (ps_ret pe_bl)) pss_nil))) pss_nil))))))
      (pss_cons (ps_set (i := 7) nd rfl (Or.inl rfl) (pe_call GRow (hr.mono (by decide)) (by rfl) gRow FRow.kp bRow .nil pass0 (pa_cons (pv 1) (pa_cons pe_int pa_nil))))
      (pss_cons (ps_par (i := 8) (j := 6) rfl nd rfl rfl (by decide) rfl rfl (pa_cons (pe_lc (own := [("_law_part", 16)]) (g := (gName 16)) (tt := tYes) rfl nd (pi_list (pv 7)) (blkOk_by (own := [("_law_part", 16)]) (N := ["_law_script", "_law_pen_here", "_law_known", "_law_rows", "_law_k", "_law_value_here", "_law_due_here", "_law_parts", "_law_steps", "_law_spot", "_law_one", "_law_other", "_law_first", "_law_second", "_law_text_here", "_law_row_here", "_law_part", "_law_step_here"]) (sc := defScope sPLaw) (by decide +kernel)) (fun _ _ _ _ _ => (pg_name (i := 16) nd rfl (Or.inl rfl))) (fun _ _ _ _ _ => pts_nil) (fun _ _ _ _ _ => (pe_makeS O.mkr GSI (hr.mono (by decide)) (by rfl) O.g bSI (fun σ => passE σ) (pa_cons (pv 16) pa_nil)))) (pa_cons (pe_call GRowDue (hr.mono (by decide)) (by rfl) gRowDue FRowDue.kp bRowDue .nil pass0 (pa_cons (pv 7) pa_nil)) pa_nil)) (by rfl))
      (pss_cons (ps_if (PW.pt (pw_or (pt_cmpR (op_neD hr.units) (pe_call GOf hr (by rfl) gOf FOf.kp bOf .nil pass0 (pa_cons (pv 8) pa_nil)) (pv 6) (nomark _)) (pw_or (pt_cmpR (op_neD hr.units) (pe_call GOf hr (by rfl) gOf FOf.kp bOf .nil pass0 (pa_cons (pe_callTy call_tuple_of (by rfl) gTu (by decide +kernel) (pa_cons (pv 8) pa_nil)) pa_nil)) (pv 6) (nomark _)) (pw_or1 (pt_cmpR (op_neD hr.units) (pe_lc (own := [("_law_step_here", 17)]) (g := (gName 17)) (tt := tYes) rfl nd (pi_list (pv 8)) (blkOk_by (own := [("_law_step_here", 17)]) (N := ["_law_script", "_law_pen_here", "_law_known", "_law_rows", "_law_k", "_law_value_here", "_law_due_here", "_law_parts", "_law_steps", "_law_spot", "_law_one", "_law_other", "_law_first", "_law_second", "_law_text_here", "_law_row_here", "_law_part", "_law_step_here"]) (sc := defScope sPLaw) (by decide +kernel)) (fun _ _ _ _ _ => (pg_name (i := 17) nd rfl (Or.inl rfl))) (fun _ _ _ _ _ => pts_nil) (fun _ _ _ _ _ => (show PE _ _ (tFld K (tVar 17) "text") from pe_fld (pv 17) rfl))) (pv 7) (nomark _))))))
        (pss_one (ps_ret pe_bl)) pss_nil)
      (pss_cons (ps_for PassesOwn.never rfl (pi_range1 rfl gR (pa_cons pe_int pa_nil)) (pg_name (i := 4) nd rfl (Or.inl rfl))
        (pss_cons (ps_set (i := 9) nd rfl (Or.inl rfl) (pe_call GDraw (hr.mono (by decide)) (by rfl) T.draw FDraw.kp bDraw .nil pass0 (pa_cons (pv 1) (pa_cons (pe_op op_add (pe_callB call_len_seq (by rfl) T.len PySem.boot_len (pa_cons (pv 8) pa_nil)) pe_int) pa_nil))))
        (pss_cons (ps_if (pt_cmpR op_eq (pe_ix ix_tup (pv 6) pe_int (fun _ _ => rfl)) pe_str (nomark _))
          (pss_one (ps_set (i := 6) nd rfl (Or.inl rfl) (pe_tup (pa_cons pe_str (pa_cons (pe_callB (call_min2 rfl) (by rfl) gMin (by decide +kernel) (pa_cons (pv 9) (pa_cons (pe_ix ix_tup (pv 6) pe_int (fun _ _ => rfl)) pa_nil))) pa_nil)))))
          (pss_one (ps_set (i := 6) nd rfl (Or.inl rfl) (pe_tup (pa_cons pe_str (pa_cons (pv 9) pa_nil))))))
        (pss_cons (ps_expr (pe_bm PySem.F.plainAttrs_list PySem.F.slot_list_insert PySem.F.type_list_insert mt_insert (pv 8) (pa_cons (pv 9) (pa_cons (pe_call GPick (hr.mono (by decide)) (by rfl) gPick FPick.kp bPick .nil pass0 (pa_cons (pv 1) (pa_cons (pe_lst (pa_cons pe_str (pa_cons pe_non (pa_cons pe_int (pa_cons (pe_makeS J.mkr GPI (hr.mono (by decide)) (by rfl) J.g bPI (fun σ => passE σ) (pa_cons pe_str pa_nil)) (pa_cons pe_bl (pa_cons (pe_tup pa_nil) (pa_cons pe_str pa_nil)))))))) pa_nil))) pa_nil))))
        (pss_one (ps_if (pt_cmpR (op_neD hr.units) (pe_call GOf hr (by rfl) gOf FOf.kp bOf .nil pass0 (pa_cons (pv 8) pa_nil)) (pv 6) (nomark _))
          (pss_one (ps_ret pe_bl)) pss_nil))))))
      (pss_cons (ps_for PassesOwn.never rfl (pi_list (pv 3)) (pg_name (i := 10) nd rfl (Or.inl rfl))
        (pss_cons (ps_for PassesOwn.never rfl (pi_list (pv 3)) (pg_name (i := 11) nd rfl (Or.inl rfl))
          (pss_cons (ps_par (i := 12) (j := 13) rfl nd rfl rfl (by decide) rfl rfl (pa_cons (pe_makeS J.mkr GPI (hr.mono (by decide)) (by rfl) J.g bPI (fun σ => passE σ) (pa_cons (pv 10) pa_nil)) (pa_cons (pe_makeS J.mkr GPI (hr.mono (by decide)) (by rfl) J.g bPI (fun σ => passE σ) (pa_cons (pv 11) pa_nil)) pa_nil)) (by rfl))
          (pss_one (ps_if (pt_cmpR (op_neD hr.units) (pe_lst (pa_cons (pe_cmpR (op_eqOwn TE nS nN GE (hr.mono (by decide)) bE) (pv 12) (pv 13) (nomark _)) (pa_cons (pe_cmpR (op_neOwn TE nS nN GE (hr.mono (by decide)) bE) (pv 12) (pv 13) (nomark _)) pa_nil))) (pe_lst (pa_cons (pe_cmpR op_eq (pv 10) (pv 11) (nomark _)) (pa_cons (pe_cmpR op_ne (pv 10) (pv 11) (nomark _)) pa_nil))) (nomark _))
            (pss_one (ps_ret pe_bl)) pss_nil))))
        (pss_one (ps_if (PW.pt (pw_or (pt_cmpR op_notBl (pe_cmpR (op_eqOwn TE nS nN GE (hr.mono (by decide)) bE) (pe_makeS J.mkr GPI (hr.mono (by decide)) (by rfl) J.g bPI (fun σ => passE σ) (pa_cons (pv 10) pa_nil)) (pv 10) (nomark _)) pe_bl (nomark _)) (pw_or1 (pt_cmpR op_notBl (pe_cmpR (op_eqOwn TE nS nN GE (hr.mono (by decide)) bE) (pe_makeS J.mkr GPI (hr.mono (by decide)) (by rfl) J.g bPI (fun σ => passE σ) (pa_cons (pv 10) pa_nil)) (pe_cmethS (pl := _) (pe_glob (v := .ref C) (by rfl) J.g rfl) CR CMt GPO (hr.mono (by decide)) bPO (fun σ => passE σ) (pa_cons (pe_callTy (call_listIt hsI hfI FI bI hsL hfL GL bL (hr.mono (by decide)) (hr.mono (by decide)) rfl) (by rfl) T.list (by decide +kernel) (pa_cons (pe_makeS J.mkr GPI (hr.mono (by decide)) (by rfl) J.g bPI (fun σ => passE σ) (pa_cons (pv 10) pa_nil)) pa_nil)) pa_nil)) (nomark _)) pe_bl (nomark _)))))
          (pss_one (ps_ret pe_bl)) pss_nil))))
      (pss_one (ps_ret pe_bl))))))))), ?_⟩
    refine ⟨_, rfl, a, ns, rfl, hS, hlen, fun p c H0 s0 hp hc Pn0 => ?_⟩
    refine ⟨rfl, fun La H1 s1 rL1 => ?_⟩
    obtain ⟨ws, el, dl⟩ := rL1.ex
    have lw := dl.length
    rw [show knownD.length = 99 by rw [knownD, List.length_map]; exact known_length] at lw
    refine ⟨La, rfl, ⟨ws, SqL.of el⟩, fun D hD => ?_⟩
    refine lc_list (a := La) (xs := ws) (fun m H2 => Same H1 H2 ∧ H2 D = some (.lst (((known.take m).map (·.1)).map V.str))) ⟨same_upd hD, upd_same⟩ (fun m H2 hm z => SqL.of (z.1 _ _ el)) ?_ ?_
    · rintro m y H2 hy ⟨s2, e2⟩
      obtain ⟨q, x5, rv, iq, rfl, sq, dr⟩ := knownAt (dl.keep (TK.same s2)) hy
      have et : known.take (m + 1) = known.take m ++ [q] := by
        rw [List.take_succ, iq]
        rfl
      refine ⟨x5, _, rfl, sq, rfl, _, _, rfl, _, _, rfl, rfl, rfl, _, rfl, _, e2, ?_, same_fresh hD s2, ?_⟩
      · rw [List.length_map, List.length_map, List.length_take]
        exact small200' (by rw [known_length]; omega)
      · rw [upd_same, et, List.map_append, List.map_append]
        rfl
    rintro H2 ⟨s2, e2⟩
    rw [List.take_of_length_le (by rw [known_length]; omega)] at e2
    refine ⟨by show 0 ≤ sizeLine; decide, fun R hR => ⟨_, _, _, rfl, ?_⟩⟩
    have Pn2 : Pen (upd H2 R (.lst [])) p c 0 := ((Pn0.same s1).same s2).new hR
    have eD2 := same_upd (o := .lst []) hR _ _ e2
    have nDR : D ≠ R := ne_of_none e2 hR
    obtain ⟨oc, ec⟩ := ((Pn0.same s1).same s2).some2
    obtain ⟨op, ep⟩ := ((Pn0.same s1).same s2).some1
    have nRc : R ≠ c := (ne_of_none ec hR).symm
    have nRp : R ≠ p := (ne_of_none ep hR).symm
    refine ⟨3, rfl, by decide, by decide, for_range (n := 3) (fun i σ H3 => ∃ (v4 v5 v6 : Option V) (zs : List Str), σ = [some (.ref a), some (.ref p), some (.ref D), some (.ref R), v4, v5, v6, none, none, none, none, none, none, none, none, none, none, none] ∧ Pen H3 p c (500 * i) ∧ H3 D = some (.lst ((known.map (·.1)).map V.str)) ∧ H3 R = some (.lst (zs.map V.str)) ∧ zs.length ≤ i ∧ ∀ z ∈ zs, Good z) ⟨none, none, none, [], rfl, Pn2, eD2, upd_same, Nat.le_refl _, fun z hz => absurd hz List.not_mem_nil⟩ ?_ ?_⟩
    · rintro i σ H3 hi ⟨v4, v5, v6, zs, rfl, Pn, eD, eR, lz, gz⟩
      have hi3 : i < 3 := hi
      refine ⟨_, rfl, _, rfl, p, c, _, 500 * i, rfl, Pn, by omega, fun v H4 hv b4 P4 => ?_⟩
      have eD4 := b4.lst' Pn eD
      have eR4 := b4.lst' Pn eR
      refine ⟨_, rfl, _, rfl, v, D, rfl, hv, eD4, fun hs t H5 s5 e5 => ?_, fun x j hx hj t H5 s5 e5 => ?_, fun x m hx hf hm t H5 s5 e5 => ?_, fun x hx hf hm t l H5 s5 e5 el5 hl0 => ?_⟩
      · refine ⟨_, rfl, v, rfl, hv.same s5, fun _ t' H6 s6 e6 => ?_, fun x _ hx => (by rw [hx] at hs; cases hs), fun x _ hx => (by rw [hx] at hs; cases hs), fun x hx => (by rw [hx] at hs; cases hs)⟩
        refine ⟨_, rfl, .inl ⟨2, t', t, _, _, by decide, rfl, rfl, SqT.of e6, SqT.of (s6 _ _ e5), .cons (Al.flat rfl) (.cons (al_v (hv.same (s5.trans s6))) .nil), _, rfl, ?_⟩⟩
        refine iteF ?_
        refine ⟨_, rfl, t, _, 0, _, rfl, rfl, SqT.of (s6 _ _ e5), rfl, rfl, _, rfl, ?_⟩
        refine ite_str (fun z => absurd z (by decide)) (fun _ => ?_)
        exact ⟨_, _, _, zs, rfl, ((P4.same s5).same s6).mono (by omega), s6 _ _ (s5 _ _ eD4), s6 _ _ (s5 _ _ eR4), by omega, gz⟩
      · subst hx
        refine ⟨_, rfl, _, rfl, hv.same s5, fun z => Bool.noConfusion z, fun x' j' hx' hj' t' H6 s6 e6 => ?_, fun x' m hx' hf' => (by cases hx'; rw [hj] at hf'; cases hf'), fun x' hx' hf' => (by cases hx'; rw [hj] at hf'; cases hf')⟩
        cases hx'
        rw [hj] at hj'
        cases hj'
        refine ⟨_, rfl, .inl ⟨2, t', t, _, _, by decide, rfl, rfl, SqT.of e6, SqT.of (s6 _ _ e5), .cons (Al.flat rfl) (.cons (Al.flat rfl) .nil), _, rfl, ?_⟩⟩
        refine iteF ?_
        refine ⟨_, rfl, t, _, 0, _, rfl, rfl, SqT.of (s6 _ _ e5), rfl, rfl, _, rfl, ?_⟩
        refine ite_str (fun z => absurd z (by decide)) (fun _ => ?_)
        exact ⟨_, _, _, zs, rfl, ((P4.same s5).same s6).mono (by omega), s6 _ _ (s5 _ _ eD4), s6 _ _ (s5 _ _ eR4), by omega, gz⟩
      · subst hx
        rw [due_bounds hf] at hm
        refine ⟨_, rfl, _, rfl, hv.same s5, fun z => Bool.noConfusion z, fun x' j' hx' hj' => (by cases hx'; rw [hf] at hj'; cases hj'), fun x' m' hx' hf' hm' t' H6 s6 e6 => ?_, fun x' hx' hf' hm' => (by cases hx'; rw [hm] at hm'; cases hm')⟩
        cases hx'
        rw [hm] at hm'
        cases hm'
        refine ⟨_, rfl, .inl ⟨2, t', t, _, _, by decide, rfl, rfl, SqT.of e6, SqT.of (s6 _ _ e5), .cons (Al.flat rfl) (.cons (Al.flat rfl) .nil), _, rfl, ?_⟩⟩
        refine iteF ?_
        refine ⟨_, rfl, t, _, 0, _, rfl, rfl, SqT.of (s6 _ _ e5), rfl, rfl, _, rfl, ?_⟩
        refine ite_str (fun z => absurd z (by decide)) (fun _ => ?_)
        exact ⟨_, _, _, zs, rfl, ((P4.same s5).same s6).mono (by omega), s6 _ _ (s5 _ _ eD4), s6 _ _ (s5 _ _ eR4), by omega, gz⟩
      · subst hx
        have hx1 : x.length ≤ 1000 := by
          cases hv
          assumption
        rw [due_bounds hf] at hm
        have g : Good x := ⟨hx1, hf, hm⟩
        obtain ⟨rp, rk⟩ := rowsOf_parts hf
        have ok : ∀ z ∈ partsOf x, PyData.strOk z = true := by rw [← rp]; exact known_strs rk
        have okx : PyData.strOk x = true := by
          have := strOk_join ok
          rw [join_partsOf] at this
          exact this
        rw [join_partsOf] at e5
        refine ⟨_, rfl, _, rfl, hv.same s5, fun z => Bool.noConfusion z, fun x' j' hx' hj' => (by cases hx'; rw [hf] at hj'; cases hj'), fun x' m' hx' hf' hm' => (by cases hx'; rw [hm] at hm'; cases hm'), fun x' hx' hf' hm' t' l' H6 s6 e6 el6 => ?_⟩
        cases hx'
        have er : ((rowsOf (partsOf x)).map fun p => V.str p.1) = ((rowsOf (partsOf x)).map (·.1)).map V.str := by rw [List.map_map]; rfl
        rw [rp] at er
        rw [er] at el6
        refine ⟨_, rfl, .inr ⟨dProg x (partsOf x), dProg x (partsOf x), .tup (SqT.of e6) (.cons (.str _) (.cons (.str _) (.cons (.lst (SqL.of el6) (strs_dp _)) (.cons (.bl _) .nil)))), .tup (SqT.of (s6 _ _ e5)) (.cons (.str _) (.cons (.str _) (.cons (.lst (SqL.of (s6 _ _ el5)) (strs_dp _)) (.cons (.bl _) .nil)))), sh_prog okx ok, sh_prog okx ok, _, rfl, ?_⟩⟩
        rw [eqv_self (sh_prog okx ok)]
        refine iteF ?_
        refine ⟨_, rfl, t, _, 0, _, rfl, rfl, SqT.of (s6 _ _ e5), rfl, rfl, _, rfl, ?_⟩
        refine ite_str (fun _ => ?_) (fun z => absurd rfl z)
        have eR6 := s6 _ _ (s5 _ _ eR4)
        have eD6 := s6 _ _ (s5 _ _ eD4)
        have P6 := (P4.same s5).same s6
        refine ⟨_, rfl, .inl ⟨rfl, _, SqL.of eR6⟩, _, rfl, R, _, _, rfl, rfl, eR6, small200' (by rw [List.length_map]; omega), ?_⟩
        have x7 : upd H6 R (.lst (zs.map V.str ++ [.str x])) R = some (.lst ((zs ++ [x]).map V.str)) := by rw [upd_same, List.map_append]; rfl
        have eD7 : upd H6 R (.lst (zs.map V.str ++ [.str x])) D = some (.lst ((known.map (·.1)).map V.str)) := by rw [upd_ne nDR]; exact eD6
        have P7 := P6.upd (o := .lst (zs.map V.str ++ [.str x])) nRp nRc
        have e7 : upd H6 R (.lst (zs.map V.str ++ [.str x])) t = some (.tup [.str "program", .str x, .ref l, .bl true]) := by rw [upd_ne (ne_of (s6 _ _ e5) eR6 (fun z => by cases z))]; exact s6 _ _ e5
        have nlR : l ≠ R := (ne_of_none eR4 hl0).symm
        have el7 : upd H6 R (.lst (zs.map V.str ++ [.str x])) l = some (.lst ((partsOf x).map V.str)) := by rw [upd_ne nlR]; exact s6 _ _ el5
        refine ⟨_, rfl, mk_ok g fun a1 H8 s8 pa8 => ?_⟩
        refine ⟨_, rfl, t, _, 2, _, rfl, rfl, SqT.of (s8 _ _ e7), rfl, ?_⟩
        refine ⟨a1, l, x, rowsOf (partsOf x), rfl, pa8, by rw [rp]; exact s8 _ _ el7, by have := good_len g; omega, fun H9 s9 => ?_⟩
        refine ⟨_, rfl, ?_⟩
        refine iteF ?_
        have s79 := s8.trans s9
        refine ⟨_, _, _, zs ++ [x], rfl, (P7.same s79).mono (by omega), s79 _ _ eD7, s79 _ _ x7, by rw [List.length_append]; show zs.length + 1 ≤ i + 1; omega, fun z hz => ?_⟩
        rcases List.mem_append.mp hz with h | h
        · exact gz z h
        · rw [List.mem_singleton.mp h]
          exact g
    · rintro σ H3 ⟨v4, v5, v6, zs, rfl, Pn, eD, eR, lz, gz⟩
      refine ⟨_, rfl, p, c, 7, _, rfl, Pn, by omega, by decide, by decide, fun L ts H4 b4 e4 hL lts kn P4 => ?_⟩
      have eR4 := b4.lst' Pn eR
      obtain ⟨ps, hps, hpk⟩ := texts_rows kn
      have lps : ps.length = ts.length := by rw [← hps, List.length_map]
      refine ⟨_, rfl, L, rfl, ⟨_, SqL.of e4⟩, fun S hS => ?_⟩
      refine lc_list (a := L) (xs := ts.map V.str) (fun m H5 => Same H4 H5 ∧ ∃ xs, H5 S = some (.lst xs) ∧ StepsAt K CS H5 xs (ps.take m)) ⟨same_upd hS, [], upd_same, .nil⟩ (fun m H5 hm z => SqL.of (z.1 _ _ e4)) ?_ ?_
      · rintro m y H5 hy ⟨s5, xs, e5, st5⟩
        obtain ⟨q, iq, rfl⟩ : ∃ q, ps[m]? = some q ∧ y = .str q.1 := by
          rw [← hps, List.map_map, List.getElem?_map] at hy
          cases e : ps[m]? with
          | none => rw [e] at hy; cases hy
          | some q => rw [e] at hy; cases hy; exact ⟨q, rfl, rfl⟩
        have hq := hpk q (List.mem_of_getElem? iq)
        have et : ps.take (m + 1) = ps.take m ++ [q] := by
          rw [List.take_succ, iq]
          rfl
        have lx := st5.length
        rw [List.length_take] at lx
        refine ⟨rfl, _, rfl, make_parse (parse_iff.mpr hq) (Nat.le_trans (known20 q hq) (by decide)) fun b H6 s6 sa => ?_⟩
        refine ⟨_, s6 _ _ e5, small200' (by omega), same_fresh hS (s5.trans s6), xs ++ [.ref b], upd_same, ?_⟩
        rw [et]
        exact ((st5.same s6).append (.cons sa .nil : StepsAt K CS H6 [.ref b] [q])).kp (Kp.lst (s6 _ _ e5))
      rintro H5 ⟨s5, xs, e5, st5⟩
      rw [List.take_of_length_le (by rw [List.length_map]; omega)] at st5
      have lx := st5.length
      have eL5 : H5 L = some (.lst ((ps.map (·.1)).map V.str)) := by rw [hps]; exact s5 _ _ e4
      refine ⟨_, rfl, ?_⟩
      dsimp only [tNil]
      refine row_due_uni hpk (by omega) eL5 fun t nm rest H6 s6 e6 hnm hd => ⟨_, _, rfl, ?_⟩
      have st6 := st5.same s6
      have e56 := s6 _ _ e5
      have sh := sh_data hpk
      refine ⟨_, rfl, ?_⟩
      dsimp only [tNil]
      refine of_uni (.inl e56) (by omega) st6 fun t1 H7 s7 d7 => ?_
      refine ⟨_, rfl, dataOf ps, dataOf ps, d7, hd _ s7, sh, sh, _, rfl, ?_⟩
      rw [eqv_self sh]
      refine iteF ?_
      refine ⟨_, rfl, S, xs, rfl, .inl ⟨SqL.of (s7 _ _ e56), fun tp htp => ?_⟩⟩
      have s8 := s7.trans (same_upd (o := .tup xs) htp)
      dsimp only [tNil]
      refine of_uni (ps := ps) (.inr upd_same) (by omega) (st6.same s8) fun t2 H9 s9 d9 => ?_
      have s69 := s8.trans s9
      refine ⟨_, rfl, dataOf ps, dataOf ps, d9, hd _ s69, sh, sh, _, rfl, ?_⟩
      rw [eqv_self sh]
      refine iteF ?_
      refine ⟨_, rfl, S, rfl, ⟨_, SqL.of (s69 _ _ e56)⟩, fun D2 hD2 => ?_⟩
      refine lc_list (a := S) (xs := xs) (fun m H10 => Same H9 H10 ∧ H10 D2 = some (.lst (((ps.take m).map (·.1)).map V.str))) ⟨same_upd hD2, upd_same⟩ (fun m H10 hm z => SqL.of (z.1 _ _ (s69 _ _ e56))) ?_ ?_
      · rintro m y H10 hy ⟨s10, e10⟩
        obtain ⟨b, q, iq, rfl, sb⟩ := (st6.same (s69.trans s10)).get hy
        obtain ⟨dy, bv, tv, eb, _, _⟩ := sb.ex
        have et : ps.take (m + 1) = ps.take m ++ [q] := by
          rw [List.take_succ, iq]
          rfl
        refine ⟨rfl, _, rfl, b, CS, dy, _, _, rfl, eb, J.cs, J.nT, gText, _, e10, ?_, same_fresh hD2 s10, ?_⟩
        · rw [List.length_map, List.length_map, List.length_take]
          exact small200' (by omega)
        · rw [upd_same, et, List.map_append, List.map_append]
          rfl
      rintro H10 ⟨s10, e10⟩
      rw [List.take_of_length_le (by omega)] at e10
      have s610 := s69.trans s10
      have eL10 := s610 _ _ (s6 _ _ eL5)
      have shL : SeqAt.shaped (.list ((ps.map (·.1)).map PyData.str)) = true := strs_shaped (known_strs hpk)
      refine ⟨_, rfl, .list ((ps.map (·.1)).map PyData.str), .list ((ps.map (·.1)).map PyData.str), .lst (SqL.of e10) (strs_dp _), .lst (SqL.of eL10) (strs_dp _), shL, shL, _, rfl, ?_⟩
      rw [eqv_self shL]
      refine iteF ?_
      have s4X : Same H4 H10 := (s5.trans s6).trans s610
      have PX := P4.same s4X
      have eRX := s4X _ _ eR4
      have eSX := s610 _ _ e56
      have nSR : S ≠ R := (ne_of_none eR4 hS).symm
      obtain ⟨oc4, ec4⟩ := P4.some2
      obtain ⟨op4, ep4⟩ := P4.some1
      have nSc : S ≠ c := (ne_of_none ec4 hS).symm
      have nSp : S ≠ p := (ne_of_none ep4 hS).symm
      obtain ⟨n0, hn0⟩ : ∃ n0, 500 * 3 + 400 = n0 := ⟨_, rfl⟩
      have PX : Pen H10 p c n0 := hn0 ▸ PX
      have hn0 : n0 = 1900 := hn0.symm
      refine ⟨2, rfl, by decide, by decide, for_range (n := 2) (fun i σ HA => ∃ (v4 v9 : Option V) (tA : Addr) (xA : List V), σ = [some (.ref a), some (.ref p), some (.ref D), some (.ref R), v4, v5, some (.ref tA), some (.ref L), some (.ref S), v9, none, none, none, none, none, none, none, none] ∧ Pen HA p c (n0 + 2 * i) ∧ HA R = some (.lst (zs.map V.str)) ∧ HA S = some (.lst xA) ∧ xA.length ≤ 20 + i ∧
        ((∃ nm rest, HA tA = some (.tup (.str nm :: rest)) ∧ nm ≠ "BadStep" ∧ StepsAt K CS HA xA ps) ∨ (∃ j : Nat, HA tA = some (.tup [.str "BadStep", .int (j : Nat)]) ∧ Bad2 K C CS HA xA j))) ⟨_, _, t, xs, rfl, PX, eRX, eSX, by omega, .inl ⟨nm, rest, s610 _ _ e6, hnm, st6.same s610⟩⟩ ?_ ?_⟩
      · rintro i σ HA hi ⟨v4, v9, tA, xA, rfl, PA, eRA, eSA, lA, cA⟩
        have hi2 : i < 2 := hi
        refine ⟨_, rfl, _, rfl, S, xA, rfl, .inl (SqL.of eSA), (xA.length : Int), 1, rfl, rfl, p, c, _, _, rfl, PA, by omega, by omega, by omega, fun r HB r0 r1 bB PB => ?_⟩
        obtain ⟨rn, rfl⟩ : ∃ rn : Nat, r = (rn : Int) := ⟨r.toNat, by omega⟩
        have kB := Kp.but bB PA
        have eRB := bB.lst' PA eRA
        have eSB := bB.lst' PA eSA
        have hrn : rn ≤ xA.length := by omega
        rcases cA with ⟨nm', rest', eA, hnA, stA⟩ | ⟨j, eA, bA⟩
        · have eB := kB.2.1 _ _ eA
          have stB := stA.kp kB
          have h0 : atI (.str nm' :: rest' : List V) (((0 : Nat) : Int)) = some (.str nm') := atI_nat rfl
          refine ⟨_, rfl, tA, _, 0, _, rfl, rfl, SqT.of eB, h0, rfl, _, rfl, ?_⟩
          refine ite_str (fun z => absurd z hnA) (fun _ => ?_)
          refine ⟨_, rfl, by show 2 ≤ sizeLine; decide, fun t2 ht2 => ?_⟩
          have hbad : ∀ HX v, Kp HB HX → NoS C HX v → Bad2 K C CS HX (xA.take rn ++ [v] ++ xA.drop rn) rn := fun HX v kX n => Bad2.first (stB.kp kX) hrn n
          have sC := same_upd (o := .tup [.str "BadStep", .int ((rn : Nat) : Int)]) ht2
          obtain ⟨HC, hHC⟩ : ∃ HC, upd HB t2 (.tup [.str "BadStep", .int ((rn : Nat) : Int)]) = HC := ⟨_, rfl⟩
          have eC : HC t2 = some (.tup [.str "BadStep", .int ((rn : Nat) : Int)]) := by rw [← hHC, upd_same]
          rw [hHC] at sC ⊢
          refine ⟨_, rfl, .inl ⟨rfl, _, SqL.of (sC _ _ eSB)⟩, _, rfl, _, rfl, mk_ok good_turn fun aP HD sD paP => ⟨by show 0 ≤ sizeLine; decide, fun te hte => ⟨by show 7 ≤ sizeLine; decide, fun lq hlq => ?_⟩⟩⟩
          have sE := (same_upd (o := .tup []) hte).trans (same_upd (o := .lst [.str "turn", .non, .int 0, .ref aP, .bl true, .ref te, .str ""]) hlq)
          have xte := same_upd (o := .lst [.str "turn", .non, .int 0, .ref aP, .bl true, .ref te, .str ""]) hlq _ _ (upd_same (H := HD) (a := te) (o := .tup []))
          obtain ⟨dP, tP, xP, eP, _, _⟩ := (paP.same sE).ex
          have sBE := (sC.trans sD).trans sE
          have PE := PB.same sBE
          refine ⟨p, c, lq, [.str "turn", .non, .int 0, .ref aP, .bl true, .ref te, .str ""], _, rfl, PE, by omega, SqL.of upd_same, by show 0 < 7; decide, by show 7 ≤ 1000000; decide, fun rr v HF hv bF PF => ?_⟩
          have kF := Kp.but bF PE
          have nv : NoS C HF v := by
            match rr, hv with
            | 0, hv => cases hv; exact .str _
            | 1, hv => cases hv; exact .non
            | 2, hv => cases hv; exact .int _
            | 3, hv => cases hv; exact .ins (kF.1 _ _ _ _ eP)
            | 4, hv => cases hv; exact .bl _
            | 5, hv => cases hv; exact .tup (kF.2.1 _ _ xte)
            | 6, hv => cases hv; exact .str _
            | q + 7, hv => simp at hv
          have eSF := bF.lst' PE (sBE _ _ eSB)
          have eRF := bF.lst' PE (sBE _ _ eRB)
          refine ⟨S, xA, (rn : Int), v, rfl, rfl, eSF, small200' (by omega), by omega, by omega, ?_⟩
          rw [Int.toNat_natCast]
          have kG : Kp HF (upd HF S (.lst (xA.take rn ++ [v] ++ xA.drop rn))) := Kp.lst eSF
          have kBG : Kp HB (upd HF S (.lst (xA.take rn ++ [v] ++ xA.drop rn))) := ((Kp.same sBE).trans kF).trans kG
          have hb := hbad _ v kBG (nv.kp kG)
          have e2G := kG.2.1 _ _ (kF.2.1 _ _ (sE _ _ (sD _ _ eC)))
          have lins : (xA.take rn ++ [v] ++ xA.drop rn).length = xA.length + 1 := by
            rw [List.length_append, List.length_append, List.length_take, List.length_drop]
            show min rn xA.length + 1 + (xA.length - rn) = xA.length + 1
            omega
          have sh2 : SeqAt.shaped (.tuple [.str "BadStep", .int ((rn : Nat) : Int)]) = true := sh_two (by decide +kernel)
          refine ⟨_, rfl, S, _, rfl, .inl upd_same, by rw [lins]; omega, .inl ⟨rn, hb.of kS, fun t3 HH sH eH => ?_⟩⟩
          refine ⟨_, rfl, .tuple [.str "BadStep", .int ((rn : Nat) : Int)], .tuple [.str "BadStep", .int ((rn : Nat) : Int)], .tup (SqT.of eH) (.cons (.str _) (.cons (.int _) .nil)), .tup (SqT.of (sH _ _ e2G)) (.cons (.str _) (.cons (.int _) .nil)), sh2, sh2, _, rfl, ?_⟩
          rw [eqv_self sh2]
          refine iteF ?_
          have eRG : upd HF S (.lst (xA.take rn ++ [v] ++ xA.drop rn)) R = some (.lst (zs.map V.str)) := by rw [upd_ne nSR.symm]; exact eRF
          exact ⟨_, _, t2, _, rfl, ((PF.upd nSp nSc).same sH).mono (by omega), sH _ _ eRG, sH _ _ upd_same, by rw [lins]; omega, .inr ⟨rn, sH _ _ e2G, hb.kp (Kp.same sH)⟩⟩
        · have eB := kB.2.1 _ _ eA
          have hB2 := bA.kp kB
          refine ⟨_, rfl, tA, _, 0, _, rfl, rfl, SqT.of eB, rfl, rfl, _, rfl, ?_⟩
          refine ite_str (fun _ => ?_) (fun z => absurd rfl z)
          refine ⟨_, rfl, _, rfl, tA, _, 1, _, rfl, rfl, SqT.of eB, rfl, _, _, rfl, by show 2 ≤ sizeLine; decide, fun t2 ht2 => ?_⟩
          obtain ⟨jx, hj1, hj2⟩ : ∃ jx : Nat, (if (j : Int) < (rn : Int) then (j : Int) else (rn : Int)) = (jx : Int) ∧ (if j < rn then j else rn) = jx := by
            refine ⟨_, ?_, rfl⟩
            by_cases e : j < rn
            · rw [if_pos e, if_pos (by omega)]
            · rw [if_neg e, if_neg (by omega)]
          rw [hj1]
          have hbad : ∀ HX v, Kp HB HX → NoS C HX v → Bad2 K C CS HX (xA.take rn ++ [v] ++ xA.drop rn) jx := fun HX v kX n => hj2 ▸ Bad2.more (hB2.kp kX) hrn n
          have sC := same_upd (o := .tup [.str "BadStep", .int ((jx : Nat) : Int)]) ht2
          obtain ⟨HC, hHC⟩ : ∃ HC, upd HB t2 (.tup [.str "BadStep", .int ((jx : Nat) : Int)]) = HC := ⟨_, rfl⟩
          have eC : HC t2 = some (.tup [.str "BadStep", .int ((jx : Nat) : Int)]) := by rw [← hHC, upd_same]
          rw [hHC] at sC ⊢
          refine ⟨_, rfl, .inl ⟨rfl, _, SqL.of (sC _ _ eSB)⟩, _, rfl, _, rfl, mk_ok good_turn fun aP HD sD paP => ⟨by show 0 ≤ sizeLine; decide, fun te hte => ⟨by show 7 ≤ sizeLine; decide, fun lq hlq => ?_⟩⟩⟩
          have sE := (same_upd (o := .tup []) hte).trans (same_upd (o := .lst [.str "turn", .non, .int 0, .ref aP, .bl true, .ref te, .str ""]) hlq)
          have xte := same_upd (o := .lst [.str "turn", .non, .int 0, .ref aP, .bl true, .ref te, .str ""]) hlq _ _ (upd_same (H := HD) (a := te) (o := .tup []))
          obtain ⟨dP, tP, xP, eP, _, _⟩ := (paP.same sE).ex
          have sBE := (sC.trans sD).trans sE
          have PE := PB.same sBE
          refine ⟨p, c, lq, [.str "turn", .non, .int 0, .ref aP, .bl true, .ref te, .str ""], _, rfl, PE, by omega, SqL.of upd_same, by show 0 < 7; decide, by show 7 ≤ 1000000; decide, fun rr v HF hv bF PF => ?_⟩
          have kF := Kp.but bF PE
          have nv : NoS C HF v := by
            match rr, hv with
            | 0, hv => cases hv; exact .str _
            | 1, hv => cases hv; exact .non
            | 2, hv => cases hv; exact .int _
            | 3, hv => cases hv; exact .ins (kF.1 _ _ _ _ eP)
            | 4, hv => cases hv; exact .bl _
            | 5, hv => cases hv; exact .tup (kF.2.1 _ _ xte)
            | 6, hv => cases hv; exact .str _
            | q + 7, hv => simp at hv
          have eSF := bF.lst' PE (sBE _ _ eSB)
          have eRF := bF.lst' PE (sBE _ _ eRB)
          refine ⟨S, xA, (rn : Int), v, rfl, rfl, eSF, small200' (by omega), by omega, by omega, ?_⟩
          rw [Int.toNat_natCast]
          have kG : Kp HF (upd HF S (.lst (xA.take rn ++ [v] ++ xA.drop rn))) := Kp.lst eSF
          have kBG : Kp HB (upd HF S (.lst (xA.take rn ++ [v] ++ xA.drop rn))) := ((Kp.same sBE).trans kF).trans kG
          have hb := hbad _ v kBG (nv.kp kG)
          have e2G := kG.2.1 _ _ (kF.2.1 _ _ (sE _ _ (sD _ _ eC)))
          have lins : (xA.take rn ++ [v] ++ xA.drop rn).length = xA.length + 1 := by
            rw [List.length_append, List.length_append, List.length_take, List.length_drop]
            show min rn xA.length + 1 + (xA.length - rn) = xA.length + 1
            omega
          have sh2 : SeqAt.shaped (.tuple [.str "BadStep", .int ((jx : Nat) : Int)]) = true := sh_two (by decide +kernel)
          refine ⟨_, rfl, S, _, rfl, .inl upd_same, by rw [lins]; omega, .inl ⟨jx, hb.of kS, fun t3 HH sH eH => ?_⟩⟩
          refine ⟨_, rfl, .tuple [.str "BadStep", .int ((jx : Nat) : Int)], .tuple [.str "BadStep", .int ((jx : Nat) : Int)], .tup (SqT.of eH) (.cons (.str _) (.cons (.int _) .nil)), .tup (SqT.of (sH _ _ e2G)) (.cons (.str _) (.cons (.int _) .nil)), sh2, sh2, _, rfl, ?_⟩
          rw [eqv_self sh2]
          refine iteF ?_
          have eRG : upd HF S (.lst (xA.take rn ++ [v] ++ xA.drop rn)) R = some (.lst (zs.map V.str)) := by rw [upd_ne nSR.symm]; exact eRF
          exact ⟨_, _, t2, _, rfl, ((PF.upd nSp nSc).same sH).mono (by omega), sH _ _ eRG, sH _ _ upd_same, by rw [lins]; omega, .inr ⟨jx, sH _ _ e2G, hb.kp (Kp.same sH)⟩⟩
      · rintro σ HA ⟨v4, v9, tA, xA, rfl, PA, eRA, eSA, lA, cA⟩
        have lz3 : zs.length ≤ 3 := lz
        refine ⟨_, rfl, R, rfl, ⟨_, SqL.of eRA⟩, for_list (a := R) (xs := zs.map V.str) (fun i σ HB => ∃ (v10 v11 v12 v13 : Option V), σ = [some (.ref a), some (.ref p), some (.ref D), some (.ref R), v4, v5, some (.ref tA), some (.ref L), some (.ref S), v9, v10, v11, v12, v13, none, none, none, none] ∧ HB R = some (.lst (zs.map V.str))) ⟨none, none, none, none, rfl, eRA⟩ (fun i σ HB _ z => by
          obtain ⟨_, _, _, _, _, e⟩ := z
          exact SqL.of e) ?_ ?_⟩
        · rintro i y σ HB hy ⟨v10, v11, v12, v13, rfl, eRB⟩
          obtain ⟨x1, m1, rfl⟩ := strMem hy
          have g1 := gz x1 m1
          refine ⟨_, rfl, R, rfl, ⟨_, SqL.of eRB⟩, for_list (a := R) (xs := zs.map V.str) (fun i σ HC => ∃ (v11 v12 v13 : Option V), σ = [some (.ref a), some (.ref p), some (.ref D), some (.ref R), v4, v5, some (.ref tA), some (.ref L), some (.ref S), v9, some (.str x1), v11, v12, v13, none, none, none, none] ∧ HC R = some (.lst (zs.map V.str))) ⟨_, _, _, rfl, eRB⟩ (fun i σ HC _ z => by
            obtain ⟨_, _, _, _, e⟩ := z
            exact SqL.of e) ?_ ?_⟩
          · rintro i2 y2 σ HC hy2 ⟨v11', v12', v13', rfl, eRC⟩
            obtain ⟨x2, m2, rfl⟩ := strMem hy2
            have g2 := gz x2 m2
            refine ⟨_, rfl, mk_ok g1 fun a1 G1 t1 A1 => ⟨_, rfl, mk_ok g2 fun a2 G2 t2 A2 => ⟨_, _, rfl, ?_⟩⟩⟩
            refine ⟨_, rfl, _, rfl, own_peq (A1.same t2) A2 ?_⟩
            refine ⟨_, rfl, _, rfl, own_pne (A1.same t2) A2 ?_⟩
            refine ⟨by show 2 ≤ sizeLine; decide, fun l1 hl1 => ⟨_, rfl, _, rfl, rfl, _, rfl, _, rfl, rfl, by show 2 ≤ sizeLine; decide, fun l2 hl2 => ?_⟩⟩
            refine ⟨_, _, .lst (SqL.of (same_upd hl2 _ _ upd_same)) (.cons (.bl _) (.cons (.bl _) .nil)), .lst (SqL.of upd_same) (.cons (.bl _) (.cons (.bl _) .nil)), shB _ _, shB _ _, _, rfl, ?_⟩
            rw [dec_strs2, eqv_self (shB _ _)]
            refine iteF ?_
            exact ⟨_, _, _, rfl, same_upd hl2 _ _ (same_upd hl1 _ _ (t2 _ _ (t1 _ _ eRC)))⟩
          · rintro σ HC ⟨v11', v12', v13', rfl, eRC⟩
            refine ⟨_, rfl, mk_ok g1 fun a1 G1 t1 A1 => ⟨_, rfl, own_pstr A1 ?_⟩⟩
            refine ⟨false, false, rfl, rfl, _, rfl, ?_⟩
            refine iteF ?_
            refine ⟨_, rfl, mk_ok g1 fun a2 G2 t2 A2 => ?_⟩
            refine ⟨rfl, _, rfl, mk_ok g1 fun a3 G3 t3 A3 => ?_⟩
            obtain ⟨dx3, st3, xs3, ea3, es3, hS3⟩ := A3.ex
            have l3 := hS3.length
            have g5 := good_len g1
            refine ⟨a3, dx3, _, st3, xs3, rfl, ea3, pSteps, SqT.of es3, by omega, fun G4 s4 => ⟨a3, x1, _, rfl, A3.same s4, by rw [l3], rfl⟩, fun q hq => ?_⟩
            have sq := same_upd (o := .lst xs3) hq
            refine ⟨q, xs3, rfl, .inl upd_same, by omega, .inr ⟨_, hS3.same sq, fun m hm => (by rw [g1.2.2] at hm; cases hm), fun _ a4 G4 t4 A4 => ?_⟩⟩
            rw [good_text g1] at A4
            have s24 := (t3.trans sq).trans t4
            refine own_peq (A2.same s24) A4 ?_
            rw [decide_eq_true rfl]
            refine ⟨true, true, rfl, rfl, _, rfl, ?_⟩
            refine iteF ?_
            exact ⟨_, _, _, _, rfl, s24 _ _ (t2 _ _ (t1 _ _ eRC))⟩
        · rintro σ HB ⟨v10, v11, v12, v13, rfl, eRB⟩
          exact k HB
end
end Aw

namespace Aw
open PySem PySem.Spec PyProof.Rows L2 NdefX He5
open He (eqO eqO_ok ga ma frG frG_in)
/-! ### facts of the written part, as Bools -/
theorem bo {a b : Bool} (h : (a && b) = true) : a = true ∧ b = true := Bool.and_eq_true_iff.mp h
def excDB (K : PySem.W.Frag) (C : Addr) : Bool := eqO (PySem.W.findIn K (.ref C) "__getattribute__") (some (some (.builtin "BaseException.__getattribute__"))) && (eqO (PySem.W.findIn K (.ref C) "__getattr__") (some none) && (decide (PySem.W.subIn K (.ref C) (.type "BaseException") = some true) &&
  (PySem.W.hasDictIn K C && (eqO (PySem.W.findIn K (.ref C) "__class__") (some (some (.builtin "object.__class__"))) && (eqO (PySem.W.specialIn K (.builtin "object.__class__") "__get__") (some (some (.builtin "getset_descriptor.__get__"))) && (decide (PySem.W.takesIn K (.builtin "object.__class__") = some true) && decide (PySem.W.mroIn K C (.type "object") = some true)))))))
theorem excDB_ok {K : PySem.W.Frag} {C : Addr} (h : excDB K C = true) : ExcD K C := by
  obtain ⟨h1, h⟩ := bo h
  obtain ⟨h2, h⟩ := bo h
  obtain ⟨h3, h⟩ := bo h
  obtain ⟨h4, h⟩ := bo h
  obtain ⟨h5, h⟩ := bo h
  obtain ⟨h6, h⟩ := bo h
  obtain ⟨h7, h8⟩ := bo h
  exact ⟨eqO_ok h1, eqO_ok h2, of_decide_eq_true h3, h4, eqO_ok h5, eqO_ok h6, of_decide_eq_true h7, of_decide_eq_true h8⟩
def rawC (K : PySem.W.Frag) (C : Addr) : Bool := match K.lookup C with
  | some ⟨.type T, _, .cls cd, sl⟩ => (match cd.mro, sl.toList with
    | .ref C' :: bm, [_, _, _, _, some (.builtin n), _] => decide (T = "type") && (decide (C' = C) && (PySem.HandSPX.refsVE bm && (cd.hasDict && (!cd.hasDel && decide (n = "ValueError.__new__")))))
    | _, _ => false)
  | _ => false
theorem rawC_ok {K : PySem.W.Frag} {C : Addr} (h : rawC K C = true) : ∃ nm q N bs bm sn sub ab col dd k0 k1 k2 k3 k5, K.lookup C = some (excClassObj nm q C N bs bm true sn sub ab col dd k0 k1 k2 k3 k5 "ValueError.__new__") ∧ PySem.HandSPX.refsVE bm = true := by
  unfold rawC at h
  split at h
  · rename_i T dd cd sl ho
    split at h
    · rename_i C' bm k0 k1 k2 k3 n k5 hm hs
      obtain ⟨h1, h⟩ := bo h
      obtain ⟨h2, h⟩ := bo h
      obtain ⟨h3, h⟩ := bo h
      obtain ⟨h4, h⟩ := bo h
      obtain ⟨h5, h6⟩ := bo h
      have e1 := of_decide_eq_true h1
      have e2 := of_decide_eq_true h2
      have e6 := of_decide_eq_true h6
      subst e1 e2 e6
      obtain ⟨nm, bs, mro, ns, qn, hd, sn, sub, ab, col, del⟩ := cd
      dsimp only at hm h4 h5
      subst hm h4
      have hdel : del = false := by simpa using h5
      subst hdel
      obtain ⟨l⟩ := sl
      simp only at hs
      subst hs
      exact ⟨nm, qn, ns, bs, bm, sn, sub, ab, col, dd, k0, k1, k2, k3, k5, ho, h3⟩
    · cases h
  · cases h
def oexB (K : PySem.W.Frag) (C : Addr) : Bool := rawC K C && (eqO (PySem.W.findIn K (.ref C) "__setattr__") (some (some (.builtin "object.__setattr__"))) && (decide (PySem.W.subIn K (.ref C) (.type "BaseException") = some true) && (decide (PySem.W.typeIn K (.ref C) = some (.type "type")) && PySem.W.keepIn K (.ref C))))
theorem oexB_ok {K : PySem.W.Frag} {C : Addr} (h : oexB K C = true) : OexC K C := by
  obtain ⟨h1, h⟩ := bo h
  obtain ⟨h2, h⟩ := bo h
  obtain ⟨h3, h⟩ := bo h
  obtain ⟨h4, h5⟩ := bo h
  exact ⟨rawC_ok h1, eqO_ok h2, of_decide_eq_true h3, of_decide_eq_true h4, h5⟩
/-- the own __init__ of the class x, as it stands -/
def supAt (K : PySem.W.Frag) (x : Str) : Addr := ma K (ga K x) "__init__"
abbrev SupW : Type := Option (Str × Str × Arguments × FuncBody × Scope × Addr × List Str × Addr)
def supW (K : PySem.W.Frag) (x : Str) : SupW := match K.lookup (supAt K x) with
  | some ⟨_, _, .func fd, _⟩ => some (fd.name, fd.qualname, fd.params, fd.body, fd.scope, fd.globals, fd.closure.map (·.1), fd.builtins)
  | _ => none
structure SupD where
  x : Str
  qual : Str
  y : Str
  fld : Str
  st : Stmt
def SupD.val (d : SupD) : SupW := some ("__init__", d.qual, defArgs d.st, .stmts (defBody d.st), defScope d.st, mainGlobals, ["__class__"], builtinsNs)
def SupD.ok (file : Str) (K : PySem.W.Frag) (d : SupD) : Bool := oexB K (ga K d.x) && (excDB K (ga K d.x) && (eqO (PySem.W.nsIn K mainGlobals d.x) (some (some (.ref (ga K d.x)))) && (eqO (PySem.W.findIn K (.ref (ga K d.x)) "__init__") (some (some (.ref (supAt K d.x)))) && (decide (PySem.W.typeIn K (.ref (supAt K d.x)) = some (.type "function")) &&
  (eqO (PySem.W.ks_superIn K (ga K d.x) (ga K d.x) "__init__") (some (some (.builtin "ValueError.__init__"))) && (decide (PySem.W.subIn K (.ref (ga K d.x)) (.type "ValueError") = some true) && (decide (PySem.W.mroIn K (ga K d.x) (.ref (ga K d.x)) = some true) && (eqO (PySem.W.nsIn K cStatics "thirdparty.any") (some none) && (eqO (PySem.W.findIn K (.ref (ga K d.x)) d.fld) (some none) &&
  (eqO (PySem.W.nsIn K mainGlobals "super") (some none) && (match K.lookup (supAt K d.x) with
    | some ⟨_, _, .func fd, _⟩ => (match fd.closure, fd.code, fd.defaults with
      | [(_, cc)], .ref cda, .none => PySem.W.codeIn K (.ref cda) d.qual && ((match K.lookup cda with
          | some ⟨_, _, .fields vs, _⟩ => (match (vs[2]? : Option Value) with
            | some (Value.str fl _) => (file == fl)
            | _ => false)
          | _ => false) && (match K.lookup cc with
          | some ⟨_, _, .cell (some (.ref D)), _⟩ => decide (D = ga K d.x)
          | _ => false))
      | _, _, _ => false)
    | _ => false)))))))))))
/-- what the text itself says of such an __init__ -/
structure SupS (d : SupD) : Prop where
  bd : ∃ z j p0 p1 p2 p3 p4 p5 p6 p7 p8 p9, defBody d.st = supBody z d.y d.fld j p0 p1 p2 p3 p4 p5 p6 p7 p8 p9 ∧ (p2.endLine == p4.line) = true
  ar : ((defArgs d.st).posonlyargs ++ (defArgs d.st).args).head?.map (·.arg) = some "self"
  sc : NScope ["self", d.y, "__class__"] ["self", d.y] ["__class__"] (defScope d.st)
  scs : (defScope d.st).names.lookup ("super" : Str) = some .globalImplicit
  ny : (d.y == ("__debug__" : Str)) = false ∧ (d.y == ("__classdict__" : Str)) = false
  bind : ∀ (kV doc pm : Value) (an : Option Addr) (cdv ct : Value) (cc : Addr) (us : List Value), us.length = 2 → bindArgs (PySem.W.fnX "__init__" d.qual (defArgs d.st) (defBody d.st) (defScope d.st) [("__class__", cc)] .none kV doc pm an cdv ct) ⟨us, []⟩ = pure ((["self", d.y] : List Str).zip us)
theorem sup_err {P : Program} {K : PySem.W.Frag} {h : Heap} {mg : Str → Option Value} {d : SupD} (X : K.In h) (G : h.Ns mainGlobals mg) (S : SupS d) (htop : (P.main.scope.names.lookup ("super" : Str)).isSome = false) (e : supW K d.x = d.val) (c : d.ok P.main.file K = true) : Err P K mg d.x d.y d.fld (ga K d.x) := by
  obtain ⟨c1, c⟩ := bo c
  obtain ⟨c2, c⟩ := bo c
  obtain ⟨c3, c⟩ := bo c
  obtain ⟨c4, c⟩ := bo c
  obtain ⟨c5, c⟩ := bo c
  obtain ⟨c6, c⟩ := bo c
  obtain ⟨c7, c⟩ := bo c
  obtain ⟨c8, c⟩ := bo c
  obtain ⟨c9, c⟩ := bo c
  obtain ⟨c10, c⟩ := bo c
  obtain ⟨c11, c⟩ := bo c
  refine ⟨?_, PySem.W.mg_of X G (eqO_ok c3), excDB_ok c2, eqO_ok c10⟩
  unfold supW at e
  split at c
  · rename_i oc od fd osl lk
    rw [lk] at e
    split at c
    · rename_i n0 cc cda hcl hco hdf
      obtain ⟨d1, c⟩ := bo c
      obtain ⟨d2, d3⟩ := bo c
      obtain ⟨n1, n2, n3, n4, n5, n6, n7, n8, n9, n10, n11, n12, n13, n14, n15⟩ := fd
      dsimp only at hcl hco hdf
      have e2 : (some (n1, n2, n3, n4, n5, n6, n7.map (·.1), n15) : SupW) = (some (("__init__" : Str), d.qual, defArgs d.st, FuncBody.stmts (defBody d.st), defScope d.st, mainGlobals, (["__class__"] : List Str), builtinsNs) : SupW) := e
      simp only [Option.some.injEq, Prod.mk.injEq] at e2
      obtain ⟨h1, h2, h3, h4, h5, h6, h7, h8⟩ := e2
      subst h1 h2 h3 h4 h5 h6 h8 hcl hco hdf
      have hn0 : n0 = "__class__" := by simpa using h7
      subst hn0
      refine ⟨supAt K d.x, cc, cda, _, _, _, _, _, { T := oexB_ok c1, fdE := ⟨_, _, _, _, _, _, rfl⟩, lk := ⟨_, _, _, lk⟩, cd := d1, file := ?_, cell := ?_, hm := eqO_ok c6, hB := of_decide_eq_true c7, hself := of_decide_eq_true c8, ho := eqO_ok c9, hno := eqO_ok c10, hsup := PySem.W.mg_none_of X G (eqO_ok c11), htop := htop, bd := S.bd, ar := S.ar, sc := S.sc, scs := S.scs, ny := S.ny }, eqO_ok c4, of_decide_eq_true c5, ?_⟩
      · split at d2
        · rename_i ccl cdd vs ccs lkc
          split at d2
          · rename_i fl tf hv
            exact ⟨ccl, cdd, vs, ccs, fl, tf, lkc, hv, d2⟩
          · cases d2
        · cases d2
      · split at d3
        · rename_i cl cld D csl lkcc
          have eD := of_decide_eq_true d3
          subst eD
          exact ⟨cl, cld, csl, lkcc⟩
        · cases d3
      · exact .all fun us hl => S.bind _ _ _ _ _ _ _ us hl
    · cases c
  · cases c
def err0B (K : PySem.W.Frag) (x : Str) : Bool := PySem.W.excIn K (ga K x) PySem.HandSPX.veTail "ValueError.__new__" && (PySem.W.keepIn K (.ref (ga K x)) && (eqO (PySem.W.nsIn K mainGlobals x) (some (some (.ref (ga K x)))) && excDB K (ga K x)))
theorem err0_of {K : PySem.W.Frag} {h : Heap} {mg : Str → Option Value} {x : Str} (X : K.In h) (G : h.Ns mainGlobals mg) (c : err0B K x = true) : Err0 K mg x (ga K x) := by
  obtain ⟨c1, c⟩ := bo c
  obtain ⟨c2, c⟩ := bo c
  obtain ⟨c3, c4⟩ := bo c
  exact ⟨c1, c2, PySem.W.mg_of X G (eqO_ok c3), excDB_ok c4⟩
def gloB (K : PySem.W.Frag) (x : Str) : Bool := eqO (PySem.W.nsIn K mainGlobals x) (some (some (.ref (ga K x))))
def freB (K : PySem.W.Frag) (x : Str) : Bool := eqO (PySem.W.nsIn K mainGlobals x) (some none)
theorem glo_of {K : PySem.W.Frag} {h : Heap} {mg : Str → Option Value} {x : Str} (X : K.In h) (G : h.Ns mainGlobals mg) (c : gloB K x = true) : mg x = some (.ref (ga K x)) := PySem.W.mg_of X G (eqO_ok c)
theorem fre_of {K : PySem.W.Frag} {h : Heap} {mg : Str → Option Value} {x : Str} (X : K.In h) (G : h.Ns mainGlobals mg) (c : freB K x = true) : mg x = none := PySem.W.mg_none_of X G (eqO_ok c)
/-! ### the Hook: the defs, the __init__s, the tables, a Bool -/
abbrev AlZ : Type := He.AlD × (List SupW × (List (Option (List (Option (Str × Int)))) × Bool))
def obsZ (fn : List DefA) (su : List SupD) (ts : List He.Tab) (ex : PySem.W.Frag → Bool) (K : PySem.W.Frag) : AlZ := (obsA [] fn K, su.map (fun d => supW K d.x), ts.map (fun t => He.dicW K (t.1 K)), ex K)
def valZ (fn : List DefA) (su : List SupD) (ts : List He.Tab) (w : World) : AlZ := (valA fn, su.map SupD.val, ts.map (fun t => some (He.keysIn w.params t.2)), true)
def SaysZ (fn : List DefA) (su : List SupD) (ts : List He.Tab) (ex : PySem.W.Frag → Bool) (w : World) (K : PySem.W.Frag) : Prop := obsZ fn su ts ex K = valZ fn su ts w
def obsZG (n : Nat) (fn : List DefA) (su : List SupD) (ts : List He.Tab) (ex : PySem.W.Frag → Bool) (g : Addr → Option Obj) : AlZ := obsZ fn su ts ex (frG g (asA g n))
def hookZ (n : Nat) (fn : List DefA) (su : List SupD) (ts : List He.Tab) (ex : PySem.W.Frag → Bool) : PySem.W.Hook where
  α := AlZ
  obs := fun s => obsZG n fn su ts ex s.heap.get?
  val := fun w => valZ fn su ts w
  says := fun w h => ∃ K : PySem.W.Frag, K.In h ∧ SaysZ fn su ts ex w K
  of := fun _ _ e => ⟨_, frG_in, e⟩
  keeps := fun _ _ _ ⟨K, hK, c⟩ k => ⟨K, PySem.W.Frag.In.keeps hK k, c⟩
theorem obsZG_eq {n : Nat} {fn : List DefA} {su : List SupD} {ts : List He.Tab} {ex : PySem.W.Frag → Bool} {g : Addr → Option Obj} {s : Shared} (h : ∀ a, g a = s.heap.get? a) : obsZG n fn su ts ex g = (hookZ n fn su ts ex).obs s := by
  have e : g = s.heap.get? := funext h
  rw [e] <;> rfl
section
variable {fn : List DefA} {su : List SupD} {ts : List He.Tab} {ex : PySem.W.Frag → Bool} {w : World} {K : PySem.W.Frag}
theorem SaysZ.more (c : SaysZ fn su ts ex w K) : ex K = true := congrArg (fun z : AlZ => z.2.2.2) c
theorem SaysZ.def_ (c : SaysZ fn su ts ex w K) (i : Nat) {d : DefA} (h : fn[i]? = some d := by rfl) : ∃ fd, L2.FunD K d.name d.qual d.params d.body d.scope (d.dvs K) (d.kws K) (d.at_ K) fd :=
  SaysA.def_ (fa := []) (fn := fn) (show obsA [] fn K = valA fn from congrArg (fun z : AlZ => z.1) c) i h
theorem SaysZ.sup (c : SaysZ fn su ts ex w K) (i : Nat) {d : SupD} (h : su[i]? = some d := by rfl) : supW K d.x = d.val := by
  have e : su.map (fun d => supW K d.x) = su.map SupD.val := congrArg (fun z : AlZ => z.2.1) c
  have e2 : (su.map fun d => supW K d.x)[i]? = (su.map SupD.val)[i]? := by rw [e]
  rw [List.getElem?_map, List.getElem?_map, h] at e2
  exact Option.some.inj e2
theorem SaysZ.tab (c : SaysZ fn su ts ex w K) (i : Nat) {t : He.Tab} (h : ts[i]? = some t := by rfl) : ∃ es n, KDict K w (t.1 K) es n := by
  have e : ts.map (fun t => He.dicW K (t.1 K)) = ts.map fun t => some (He.keysIn w.params t.2) := congrArg (fun z : AlZ => z.2.2.1) c
  have e2 : (ts.map fun t => He.dicW K (t.1 K))[i]? = (ts.map fun t => some (He.keysIn w.params t.2))[i]? := by rw [e]
  rw [List.getElem?_map, List.getElem?_map, h] at e2
  exact He.dicW_ok (Option.some.inj e2)
end
/-- a def of the top without defaults -/
def defG (x : Str) (st : Stmt) : DefA := ⟨fun K => ga K x, x, x, defArgs st, defBody st, defScope st, [], []⟩
/-- a method -/
def defM (x m q : Str) (st : Stmt) : DefA := ⟨fun K => ma K (ga K x) m, m, q, defArgs st, defBody st, defScope st, [], []⟩
end Aw

namespace Aw
open PySem PySem.Spec PyProof.Rows L2 NdefX He5
open He (eqO eqO_ok ga ma Fa cls_ok noat_ok meth_ok mkr_ok exm_ok int_ok tupB tupB_ok valsB valsB_ok Dv relAll relAll_ok)
/-! ### the dicts of the top -/
def keysB (K : PySem.W.Frag) (d : Addr) (L : List Str) : Bool := match K.lookup d with
  | some ⟨_, _, .dict es _, _⟩ => es.toList.all fun e => match e.key with
    | .str x _ => decide (x ∈ L)
    | _ => false
  | _ => false
theorem keysB_ok {K : PySem.W.Frag} {d : Addr} {L : List Str} (h : keysB K d L = true) {z : Str} (hz : z ∉ L) : PySem.W.nsIn K d z = some none := by
  unfold keysB at h
  split at h
  · rename_i oc od es n osl lk
    have hk : ∀ e ∈ es.toList, ∃ x t, e.key = .str x t ∧ x ∈ L := fun e he => by
      have h2 := List.all_eq_true.mp h e he
      split at h2
      · rename_i x t ek
        exact ⟨x, t, ek, of_decide_eq_true h2⟩
      · cases h2
    unfold PySem.W.nsIn
    rw [lk]
    have f0 : es.toList.find? (fun e => e.key.isStr z) = none := by
      rw [List.find?_eq_none]
      intro e he q
      obtain ⟨x, t, ek, hx⟩ := hk e he
      rw [ek] at q
      have e2 : x = z := by simpa [Value.isStr] using q
      exact hz (e2 ▸ hx)
    have f1 : es.toList.any (fun e => e.refKey) = false := by
      rw [List.any_eq_false]
      intro e he q
      obtain ⟨x, t, ek, hx⟩ := hk e he
      unfold DictEntry.refKey at q
      rw [ek] at q
      cases q
    simp only [f0, f1]
    rfl
  · cases h
theorem lookup_mem1 {α : Type} {z : Str} {v : α} : ∀ {l : List (Str × α)}, l.lookup z = some v → (z, v) ∈ l
  | (k, u) :: l, h => by
    by_cases e : z = k
    · subst e
      rw [List.lookup_cons_self] at h
      cases h
      exact List.mem_cons_self ..
    · have e2 : (z == k) = false := by simpa using e
      rw [List.lookup_cons, e2] at h
      exact List.mem_cons_of_mem _ (lookup_mem1 h)
theorem lookup_none1 {α : Type} {z : Str} : ∀ {l : List (Str × α)}, l.lookup z = none → z ∉ l.map (·.1)
  | [], _ => List.not_mem_nil
  | (k, u) :: l, h => by
    by_cases e : z = k
    · subst e
      rw [List.lookup_cons_self] at h
      cases h
    · have e2 : (z == k) = false := by simpa using e
      rw [List.lookup_cons, e2] at h
      intro m
      rcases List.mem_cons.mp m with q | q
      · exact e q
      · exact lookup_none1 h q
def restB (K : PySem.W.Frag) (d : Addr) : Bool := restL.all fun q => match PySem.W.nsIn K d q.1 with
  | some (some (.ref t)) => (match K.lookup t with
    | some ⟨.type c, _, .seq its _, _⟩ => decide (c = "tuple") && (decide (its.size ≤ sizeLine) && relAll [.int q.2.1, .int q.2.2] its.toList)
    | _ => false)
  | _ => false
theorem restB_ok {K : PySem.W.Frag} {d : Addr} (h : restB K d = true) {q : Str × (Int × Int)} (hq : q ∈ restL) : ∃ t, PySem.W.nsIn K d q.1 = some (some (.ref t)) ∧ ∀ H, SqT K H t [.int q.2.1, .int q.2.2] := by
  have h2 := List.all_eq_true.mp h q hq
  split at h2
  · rename_i t e
    split at h2
    · rename_i c dd its n sl lk
      obtain ⟨h1, h2⟩ := bo h2
      obtain ⟨h3, h4⟩ := bo h2
      exact ⟨t, e, fun H => .inr ⟨_, its, n, lk, congrArg Value.type (of_decide_eq_true h1), rfl, of_decide_eq_true h3, relAll_ok h4⟩⟩
    · cases h2
  · cases h2
def txteB (K : PySem.W.Frag) (C : Addr) : Bool := eqO (PySem.W.findIn K (.ref C) "__class__") (some (some (.builtin "object.__class__"))) && (eqO (PySem.W.specialIn K (.builtin "object.__class__") "__get__") (some (some (.builtin "getset_descriptor.__get__"))) && (decide (PySem.W.takesIn K (.builtin "object.__class__") = some true) &&
  (decide (PySem.W.mroIn K C (.type "object") = some true) && (decide (PySem.W.kitOne K (.ref C) (.ref C) = some true) && (decide (PySem.W.kitOne K (.type "str") (.ref C) = some false) && decide (PySem.W.kitOne K (.type "NoneType") (.ref C) = some false))))))
theorem txteB_ok {K : PySem.W.Frag} {C : Addr} (h : txteB K C = true) : TxtE K C := by
  obtain ⟨h1, h⟩ := bo h
  obtain ⟨h2, h⟩ := bo h
  obtain ⟨h3, h⟩ := bo h
  obtain ⟨h4, h⟩ := bo h
  obtain ⟨h5, h⟩ := bo h
  obtain ⟨h6, h7⟩ := bo h
  exact ⟨eqO_ok h1, eqO_ok h2, of_decide_eq_true h3, of_decide_eq_true h4, of_decide_eq_true h5, of_decide_eq_true h6, of_decide_eq_true h7⟩
def owneqB (K : PySem.W.Frag) (C : Addr) : Bool := eqO (PySem.W.findIn K (.ref C) "__eq__") (some (some (.ref (ma K C "__eq__")))) && (PySem.W.isFn K (.ref (ma K C "__eq__")) && (eqO (PySem.W.findIn K (.ref C) "__ne__") (some (some (.builtin "object.__ne__"))) && (decide (PySem.W.mroIn K C (.type "object") = some true) && (PySem.W.notFirst K C (.type "str") && PySem.W.notFirst K C (.type "NoneType")))))
theorem owneqB_ok {K : PySem.W.Frag} {C : Addr} (h : owneqB K C = true) : EqTxt K C (ma K C "__eq__") ∧ PySem.W.notFirst K C (.type "str") = true ∧ PySem.W.notFirst K C (.type "NoneType") = true := by
  obtain ⟨h1, h⟩ := bo h
  obtain ⟨h2, h⟩ := bo h
  obtain ⟨h3, h⟩ := bo h
  obtain ⟨h4, h⟩ := bo h
  obtain ⟨h5, h6⟩ := bo h
  exact ⟨⟨eqO_ok h1, h2, eqO_ok h3, of_decide_eq_true h4⟩, h5, h6⟩
def spmB (K : PySem.W.Frag) (C : Addr) (m : Str) : Bool := eqO (PySem.W.findIn K (.ref C) m) (some (some (.ref (ma K C m)))) && (PySem.W.isFn K (.ref (ma K C m)) && PySem.W.fnIn K (ma K C m))
theorem spmB_ok {K : PySem.W.Frag} {C : Addr} {m : Str} (h : spmB K C m = true) : PySem.W.findIn K (.ref C) m = some (some (.ref (ma K C m))) ∧ PySem.W.isFn K (.ref (ma K C m)) = true ∧ PySem.W.fnIn K (ma K C m) = true := by
  obtain ⟨h1, h⟩ := bo h
  obtain ⟨h2, h3⟩ := bo h
  exact ⟨eqO_ok h1, h2, h3⟩
def creadB (K : PySem.W.Frag) (C : Addr) : Bool := PySem.W.readsIn K C (.type "type") && eqO (PySem.W.specialIn K (.ref C) "__getattribute__") (some (some (.builtin "type.__getattribute__")))
theorem creadB_ok {K : PySem.W.Frag} {C : Addr} (h : creadB K C = true) : ClX.CRead K C (.type "type") := by
  obtain ⟨h1, h2⟩ := bo h
  exact ⟨h1, eqO_ok h2⟩
def clsmB (K : PySem.W.Frag) (C : Addr) (m : Str) : Bool := wrapB K C "classmethod" "classmethod.__get__" m && PySem.W.fnIn K (wf K C "classmethod" m)
theorem clsmB_ok {K : PySem.W.Frag} {C : Addr} {m : Str} (h : clsmB K C m = true) : ClX.CMet K C (.type "type") m (ma K C m) (wf K C "classmethod" m) := by
  obtain ⟨h1, h2⟩ := bo h
  exact cmet_of h1 h2
def CeK (K : PySem.W.Frag) : Nat → Addr
  | 0 => ga K "BadText"
  | 1 => ga K "BadStep"
  | 2 => ga K "BadNumber"
  | _ => ga K "TooMany"
def kitB' (K : PySem.W.Frag) (a b : Value) (r : Bool) : Bool := decide (PySem.W.kitOne K a b = some r)
def su0 : SupD := ⟨"BadText", "BadText.__init__", "text", "text", (inClass (top 3) 0)⟩
theorem ss0 : SupS su0 := ⟨⟨_, _, _, _, _, _, _, _, _, _, _, _, rfl, rfl⟩, rfl, nscope_by (by decide +kernel), rfl, ⟨by decide, by decide⟩, fun _ _ _ _ _ _ _ us hl => match us, hl with | [_, _], _ => rfl⟩
def su1 : SupD := ⟨"BadStep", "BadStep.__init__", "index", "index", (inClass (top 4) 0)⟩
theorem ss1 : SupS su1 := ⟨⟨_, _, _, _, _, _, _, _, _, _, _, _, rfl, rfl⟩, rfl, nscope_by (by decide +kernel), rfl, ⟨by decide, by decide⟩, fun _ _ _ _ _ _ _ us hl => match us, hl with | [_, _], _ => rfl⟩
def su2 : SupD := ⟨"BadNumber", "BadNumber.__init__", "number", "number", (inClass (top 5) 0)⟩
theorem ss2 : SupS su2 := ⟨⟨_, _, _, _, _, _, _, _, _, _, _, _, rfl, rfl⟩, rfl, nscope_by (by decide +kernel), rfl, ⟨by decide, by decide⟩, fun _ _ _ _ _ _ _ us hl => match us, hl with | [_, _], _ => rfl⟩
def su3 : SupD := ⟨"TooMany", "TooMany.__init__", "most", "most", (inClass (top 6) 0)⟩
theorem ss3 : SupS su3 := ⟨⟨_, _, _, _, _, _, _, _, _, _, _, _, rfl, rfl⟩, rfl, nscope_by (by decide +kernel), rfl, ⟨by decide, by decide⟩, fun _ _ _ _ _ _ _ us hl => match us, hl with | [_, _], _ => rfl⟩
def sus : List SupD := [su0, su1, su2, su3]
/-- a classmethod -/
def defC (x m q : Str) (st : Stmt) : DefA := ⟨fun K => wf K (ga K x) "classmethod" m, m, q, defArgs st, defBody st, defScope st, [], []⟩
def fns : List DefA := [defG "_law_pen" sPen, defG "_law_draw" sDraw, defG "_law_pick" sPick, defG "_law_kinds" sKinds, defG "_law_step" sLStep, defG "_law_text" sText, defG "_law_all" sAll, defG "_law_error" sLErr, defG "_law_told" sPTold, defG "_law_of" sPOf, defG "_law_row_due" sRowDue, defG "_law_due" sPDue, defG "_law_row" sLRow, defG "_law_value" sPValue, defG "_law_indices_right" sPInd, defG "law" sPLaw, defG "step_parts" sParts, defG "check_bounds" sBounds, defG "joined" sJoined, defG "is_number" sNum, defM "Step" "__init__" "Step.__init__" sInit, defM "Program" "__init__" "Program.__init__" sPInit, defM "Program" "__eq__" "Program.__eq__" sPEq, defM "Program" "__len__" "Program.__len__" sPLen, defM "Program" "__getitem__" "Program.__getitem__" sPGet, defM "Program" "__iter__" "Program.__iter__" sPIter, defC "Program" "of" "Program.of" sOf]
def globs : List Str := ["_law_pen", "_law_draw", "_law_pick", "_law_kinds", "_law_step", "_law_text", "_law_all", "_law_error", "_law_told", "_law_of", "_law_row_due", "_law_due", "_law_row", "_law_value", "_law_indices_right", "law", "step_parts", "check_bounds", "joined", "is_number", "WordsError", "BadText", "BadStep", "BadNumber", "TooMany", "Step", "Program", "NUMBERS", "RESTS", "BARE_KINDS"]
def frees : List Str := ["list", "int", "len", "isinstance", "range", "str", "bool", "tuple", "abs", "max", "min", "enumerate", "iter"]
def tabs : List He.Tab := [(fun K => ga K "NUMBERS", numL.map (·.1)), (fun K => ga K "RESTS", restL.map (·.1))]
def fas : List Fa := [.cls "Step", .noat "Step" "text", .noat "Step" "kind", .noat "Step" "by", .noat "Step" "rest", .mkr "Step", .cls "Program", .noat "Program" "text", .noat "Program" "steps", .mkr "Program", .int "MOST_STEPS" 5, .int "MOST_DEALS" 2, .exm "BadText" "WordsError" true, .exm "BadStep" "WordsError" true, .exm "BadNumber" "WordsError" true, .exm "TooMany" "WordsError" true]
def numD : List (Str × Dv) := numL.map fun p => (p.1, .int p.2)
def xTup (K : PySem.W.Frag) : Bool := tupB K "BARE_KINDS" (bareL.map Dv.str)
def xNum (K : PySem.W.Frag) : Bool := valsB K (ga K "NUMBERS") numD
def xNumK (K : PySem.W.Frag) : Bool := keysB K (ga K "NUMBERS") (numL.map (·.1))
def xRest (K : PySem.W.Frag) : Bool := restB K (ga K "RESTS")
def xRestK (K : PySem.W.Frag) : Bool := keysB K (ga K "RESTS") (restL.map (·.1))
def xTS (K : PySem.W.Frag) : Bool := txteB K (ga K "Step")
def xTP (K : PySem.W.Frag) : Bool := txteB K (ga K "Program")
def xEq (K : PySem.W.Frag) : Bool := owneqB K (ga K "Program")
def xIt (K : PySem.W.Frag) : Bool := spmB K (ga K "Program") "__iter__"
def xLen (K : PySem.W.Frag) : Bool := spmB K (ga K "Program") "__len__"
def xGet (K : PySem.W.Frag) : Bool := spmB K (ga K "Program") "__getitem__"
def xRead (K : PySem.W.Frag) : Bool := creadB K (ga K "Program")
def xOf (K : PySem.W.Frag) : Bool := clsmB K (ga K "Program") "of"
def xK (K : PySem.W.Frag) : Bool := ["str", "NoneType", "int", "bool", "tuple"].all fun t => kitB' K (.type t) (.ref (ga K "Step")) false
def xKP (K : PySem.W.Frag) : Bool := kitB' K (.ref (ga K "Program")) (.ref (ga K "Step")) false
def xKE (K : PySem.W.Frag) : Bool := (List.range 4).all fun i => (List.range 4).all fun j => decide (PySem.W.kitOne K (.ref (CeK K i)) (.ref (CeK K j)) = some (decide (i = j)))
def exs : List (PySem.W.Frag → Bool) := [xTup, xNum, xNumK, xRest, xRestK, xTS, xTP, xEq, xIt, xLen, xGet, xRead, xOf, xK, xKP, xKE]
def exB (K : PySem.W.Frag) : Bool := globs.all (gloB K) && (frees.all (freB K) && (sus.all (fun d => d.ok PySem.Challenge.pw_allwordlengths_k02_programs_are_read.main.file K) && (fas.all (Fa.ok K) && exs.all (fun f => f K))))
abbrev R0 : PySem.W.OpenRow := PySem.W.OpenLaw.row PySem.Challenge.rw_allwordlengths_k02_programs_are_read
abbrev hk : PySem.W.Hook := hookZ 5 fns sus tabs exB
def ob (s : PySem.W.SharedT) : AlZ := obsZG 5 fns sus tabs exB (HandSHeadRun.getT s)
theorem ob_eq (s : PySem.W.SharedT) : ob s = hk.obs s.abs := obsZG_eq (HandSHeadRun.getT_eq s)
def loose : List Str := (["_wall", "WordsError", "BadText", "BadStep", "BadNumber", "TooMany", "is_number", "BARE_KINDS", "NUMBERS", "RESTS", "OTHER_KINDS", "Step", "step_parts", "step_text", "is_own_inverse", "MOST_STEPS", "MOST_DEALS", "Program", "check_bounds", "joined", "repeated", "_law_pen", "_law_draw", "_law_pick", "_law_kinds", "_law_step", "_law_text", "_law_all", "_law_error", "_law_told"] : List Str) ++ (["_law_of", "_law_row_due", "_law_due", "_law_row", "_law_value", "_law_indices_right"] : List Str)
theorem run (w : World) : HandSHeadRun.RunEq R0 (PySem.W.view R0.prog [41]) hk ob 12000 loose w :=
  PySem.W.byRow2 "special-get-raises" (P := fun w => HandSHeadRun.RunEq R0 (PySem.W.view R0.prog [41]) hk ob 12000 loose w) (fun w os => by kernel_rfl) (fun w os => by kernel_rfl) w
theorem facts {w : World} {K : PySem.W.Frag} {h : Heap} {mg : Str → Option Value} {f : Addr} (X : K.In h) (G : h.Ns mainGlobals mg) (hfa : mg ("law" : Str) = some (.ref f)) (c : SaysZ fns sus tabs exB w K) :
    ∃ fd : FuncData, (∀ (s : Shared) (v : Value), BindsTo s fd ⟨[v], []⟩ [("_law_script", v)]) ∧ ∀ base : Heap, K.In base → base.Ns mainGlobals mg → FnOk (PySem.Challenge.rw_allwordlengths_k02_programs_are_read).prog w K mg base CX0 10 f fd ["_law_script"] (spLaw K) := by
  obtain ⟨c1, m⟩ := bo c.more
  obtain ⟨c2, m⟩ := bo m
  obtain ⟨c3, m⟩ := bo m
  obtain ⟨c4, c5⟩ := bo m
  have gl : ∀ x ∈ globs, mg x = some (.ref (ga K x)) := fun x hx => glo_of X G (List.all_eq_true.mp c1 x hx)
  have fr : ∀ x ∈ frees, mg x = none := fun x hx => fre_of X G (List.all_eq_true.mp c2 x hx)
  have so : ∀ d ∈ sus, d.ok PySem.Challenge.pw_allwordlengths_k02_programs_are_read.main.file K = true := fun d hd => List.all_eq_true.mp c3 d hd
  have fa : ∀ x ∈ fas, x.ok K = true := fun x hx => List.all_eq_true.mp c4 x hx
  have exk : ∀ f ∈ exs, f K = true := fun f hf => List.all_eq_true.mp c5 f hf
  have htop : ((PySem.Challenge.rw_allwordlengths_k02_programs_are_read).prog.main.scope.names.lookup ("super" : Str)).isSome = false := by decide +kernel
  have E0 : Err (PySem.Challenge.rw_allwordlengths_k02_programs_are_read).prog K mg "BadText" "text" "text" (ga K "BadText") := sup_err X G ss0 htop (c.sup 0) (so su0 (by simp [sus]))
  have E1 : Err (PySem.Challenge.rw_allwordlengths_k02_programs_are_read).prog K mg "BadStep" "index" "index" (ga K "BadStep") := sup_err X G ss1 htop (c.sup 1) (so su1 (by simp [sus]))
  have E2 : Err (PySem.Challenge.rw_allwordlengths_k02_programs_are_read).prog K mg "BadNumber" "number" "number" (ga K "BadNumber") := sup_err X G ss2 htop (c.sup 2) (so su2 (by simp [sus]))
  have E3 : Err (PySem.Challenge.rw_allwordlengths_k02_programs_are_read).prog K mg "TooMany" "most" "most" (ga K "TooMany") := sup_err X G ss3 htop (c.sup 3) (so su3 (by simp [sus]))
  have T : TxtP mg (ga K "_law_draw") := ⟨fr _ (by simp [frees]), fr _ (by simp [frees]), fr _ (by simp [frees]), gl _ (by simp [globs])⟩
  obtain ⟨eN, nn, kN⟩ := c.tab 0 (t := (fun K => ga K "NUMBERS", numL.map (·.1))) rfl
  obtain ⟨eR, nr, kR⟩ := c.tab 1 (t := (fun K => ga K "RESTS", restL.map (·.1))) rfl
  have xT : xTup K = true := exk _ (by simp [exs])
  have xN : xNum K = true := exk _ (by simp [exs])
  have xNK : xNumK K = true := exk _ (by simp [exs])
  have xR : xRest K = true := exk _ (by simp [exs])
  have xRK : xRestK K = true := exk _ (by simp [exs])
  have TS : TxtS K w mg (ga K "NUMBERS") (ga K "RESTS") (ga K "BARE_KINDS") eN eR nn nr :=
    { isi := fr _ (by simp [frees]), str := fr _ (by simp [frees]), gB := gl _ (by simp [globs]), bare := fun H => tupB_ok xT H,
      num := { g := gl _ (by simp [globs]), D := kN, no := fun z hz => keysB_ok xNK (lookup_none1 hz), yes := fun z i hz => valsB_ok (q := (z, .int i)) xN (List.mem_map.mpr ⟨_, lookup_mem1 hz, rfl⟩) },
      rest := { g := gl _ (by simp [globs]), D := kR, no := fun z hz => keysB_ok xRK (lookup_none1 hz), yes := fun z p hz => restB_ok xR (lookup_mem1 hz) } }
  have h_xTS : xTS K = true := exk _ (by simp [exs])
  have h_xTP : xTP K = true := exk _ (by simp [exs])
  have h_xEq : xEq K = true := exk _ (by simp [exs])
  have h_xIt : xIt K = true := exk _ (by simp [exs])
  have h_xLen : xLen K = true := exk _ (by simp [exs])
  have h_xGet : xGet K = true := exk _ (by simp [exs])
  have h_xRead : xRead K = true := exk _ (by simp [exs])
  have h_xOf : xOf K = true := exk _ (by simp [exs])
  have h_xK : xK K = true := exk _ (by simp [exs])
  have h_xKP : xKP K = true := exk _ (by simp [exs])
  have h_xKE : xKE K = true := exk _ (by simp [exs])
  obtain ⟨dPen, DPen⟩ := c.def_ 0 (d := defG "_law_pen" sPen) rfl
  have FPen : Fun K "_law_pen" "_law_pen" sPen (ga K "_law_pen") dPen := fun_of (kws := []) DPen
  have bPen := FPen.binds (ps := ["_law_script"]) fun _ _ _ _ _ _ us hl => match us, hl with | [_], _ => rfl
  obtain ⟨dDraw, DDraw⟩ := c.def_ 1 (d := defG "_law_draw" sDraw) rfl
  have FDraw : Fun K "_law_draw" "_law_draw" sDraw (ga K "_law_draw") dDraw := fun_of (kws := []) DDraw
  have bDraw := FDraw.binds (ps := ["_law_pen_here", "_law_many"]) fun _ _ _ _ _ _ us hl => match us, hl with | [_, _], _ => rfl
  obtain ⟨dPick, DPick⟩ := c.def_ 2 (d := defG "_law_pick" sPick) rfl
  have FPick : Fun K "_law_pick" "_law_pick" sPick (ga K "_law_pick") dPick := fun_of (kws := []) DPick
  have bPick := FPick.binds (ps := ["_law_pen_here", "_law_some"]) fun _ _ _ _ _ _ us hl => match us, hl with | [_, _], _ => rfl
  obtain ⟨dKinds, DKinds⟩ := c.def_ 3 (d := defG "_law_kinds" sKinds) rfl
  have FKinds : Fun K "_law_kinds" "_law_kinds" sKinds (ga K "_law_kinds") dKinds := fun_of (kws := []) DKinds
  have bKinds := FKinds.binds (ps := []) fun _ _ _ _ _ _ us hl => match us, hl with | [], _ => rfl
  obtain ⟨dLStep, DLStep⟩ := c.def_ 4 (d := defG "_law_step" sLStep) rfl
  have FLStep : Fun K "_law_step" "_law_step" sLStep (ga K "_law_step") dLStep := fun_of (kws := []) DLStep
  have bLStep := FLStep.binds (ps := ["_law_pen_here", "_law_kinds_here"]) fun _ _ _ _ _ _ us hl => match us, hl with | [_, _], _ => rfl
  obtain ⟨dText, DText⟩ := c.def_ 5 (d := defG "_law_text" sText) rfl
  have FText : Fun K "_law_text" "_law_text" sText (ga K "_law_text") dText := fun_of (kws := []) DText
  have bText := FText.binds (ps := ["_law_step_here"]) fun _ _ _ _ _ _ us hl => match us, hl with | [_], _ => rfl
  obtain ⟨dAll, DAll⟩ := c.def_ 6 (d := defG "_law_all" sAll) rfl
  have FAll : Fun K "_law_all" "_law_all" sAll (ga K "_law_all") dAll := fun_of (kws := []) DAll
  have bAll := FAll.binds (ps := []) fun _ _ _ _ _ _ us hl => match us, hl with | [], _ => rfl
  obtain ⟨dLErr, DLErr⟩ := c.def_ 7 (d := defG "_law_error" sLErr) rfl
  have FLErr : Fun K "_law_error" "_law_error" sLErr (ga K "_law_error") dLErr := fun_of (kws := []) DLErr
  have bLErr := FLErr.binds (ps := ["_law_e"]) fun _ _ _ _ _ _ us hl => match us, hl with | [_], _ => rfl
  obtain ⟨dTold, DTold⟩ := c.def_ 8 (d := defG "_law_told" sPTold) rfl
  have FTold : Fun K "_law_told" "_law_told" sPTold (ga K "_law_told") dTold := fun_of (kws := []) DTold
  have bTold := FTold.binds (ps := ["_law_text_here"]) fun _ _ _ _ _ _ us hl => match us, hl with | [_], _ => rfl
  obtain ⟨dLOf, DLOf⟩ := c.def_ 9 (d := defG "_law_of" sPOf) rfl
  have FLOf : Fun K "_law_of" "_law_of" sPOf (ga K "_law_of") dLOf := fun_of (kws := []) DLOf
  have bLOf := FLOf.binds (ps := ["_law_steps"]) fun _ _ _ _ _ _ us hl => match us, hl with | [_], _ => rfl
  obtain ⟨dRowDue, DRowDue⟩ := c.def_ 10 (d := defG "_law_row_due" sRowDue) rfl
  have FRowDue : Fun K "_law_row_due" "_law_row_due" sRowDue (ga K "_law_row_due") dRowDue := fun_of (kws := []) DRowDue
  have bRowDue := FRowDue.binds (ps := ["_law_parts"]) fun _ _ _ _ _ _ us hl => match us, hl with | [_], _ => rfl
  obtain ⟨dDue, DDue⟩ := c.def_ 11 (d := defG "_law_due" sPDue) rfl
  have FDue : Fun K "_law_due" "_law_due" sPDue (ga K "_law_due") dDue := fun_of (kws := []) DDue
  have bDue := FDue.binds (ps := ["_law_text_here", "_law_known"]) fun _ _ _ _ _ _ us hl => match us, hl with | [_, _], _ => rfl
  obtain ⟨dRow, DRow⟩ := c.def_ 12 (d := defG "_law_row" sLRow) rfl
  have FRow : Fun K "_law_row" "_law_row" sLRow (ga K "_law_row") dRow := fun_of (kws := []) DRow
  have bRow := FRow.binds (ps := ["_law_pen_here", "_law_most"]) fun _ _ _ _ _ _ us hl => match us, hl with | [_, _], _ => rfl
  obtain ⟨dValue, DValue⟩ := c.def_ 13 (d := defG "_law_value" sPValue) rfl
  have FValue : Fun K "_law_value" "_law_value" sPValue (ga K "_law_value") dValue := fun_of (kws := []) DValue
  have bValue := FValue.binds (ps := ["_law_pen_here", "_law_known"]) fun _ _ _ _ _ _ us hl => match us, hl with | [_, _], _ => rfl
  obtain ⟨dInd, DInd⟩ := c.def_ 14 (d := defG "_law_indices_right" sPInd) rfl
  have FInd : Fun K "_law_indices_right" "_law_indices_right" sPInd (ga K "_law_indices_right") dInd := fun_of (kws := []) DInd
  have bInd := FInd.binds (ps := ["_law_program", "_law_parts"]) fun _ _ _ _ _ _ us hl => match us, hl with | [_, _], _ => rfl
  obtain ⟨dLaw, DLaw⟩ := c.def_ 15 (d := defG "law" sPLaw) rfl
  have FLaw : Fun K "law" "law" sPLaw (ga K "law") dLaw := fun_of (kws := []) DLaw
  have bLaw := FLaw.binds (ps := ["_law_script"]) fun _ _ _ _ _ _ us hl => match us, hl with | [_], _ => rfl
  obtain ⟨dParts, DParts⟩ := c.def_ 16 (d := defG "step_parts" sParts) rfl
  have FParts : Fun K "step_parts" "step_parts" sParts (ga K "step_parts") dParts := fun_of (kws := []) DParts
  have bParts := FParts.binds (ps := ["text"]) fun _ _ _ _ _ _ us hl => match us, hl with | [_], _ => rfl
  obtain ⟨dBounds, DBounds⟩ := c.def_ 17 (d := defG "check_bounds" sBounds) rfl
  have FBounds : Fun K "check_bounds" "check_bounds" sBounds (ga K "check_bounds") dBounds := fun_of (kws := []) DBounds
  have bBounds := FBounds.binds (ps := ["steps"]) fun _ _ _ _ _ _ us hl => match us, hl with | [_], _ => rfl
  obtain ⟨dJoined, DJoined⟩ := c.def_ 18 (d := defG "joined" sJoined) rfl
  have FJoined : Fun K "joined" "joined" sJoined (ga K "joined") dJoined := fun_of (kws := []) DJoined
  have bJoined := FJoined.binds (ps := ["steps"]) fun _ _ _ _ _ _ us hl => match us, hl with | [_], _ => rfl
  obtain ⟨dNum, DNum⟩ := c.def_ 19 (d := defG "is_number" sNum) rfl
  have FNum : Fun K "is_number" "is_number" sNum (ga K "is_number") dNum := fun_of (kws := []) DNum
  have bNum := FNum.binds (ps := ["value", "low", "high"]) fun _ _ _ _ _ _ us hl => match us, hl with | [_, _, _], _ => rfl
  obtain ⟨dSInit, DSInit⟩ := c.def_ 20 (d := defM "Step" "__init__" "Step.__init__" sInit) rfl
  have FSInit : Fun K "__init__" "Step.__init__" sInit (ma K (ga K "Step") "__init__") dSInit := fun_of (kws := []) DSInit
  have bSInit := FSInit.binds (ps := ["self", "text"]) fun _ _ _ _ _ _ us hl => match us, hl with | [_, _], _ => rfl
  obtain ⟨dPInit, DPInit⟩ := c.def_ 21 (d := defM "Program" "__init__" "Program.__init__" sPInit) rfl
  have FPInit : Fun K "__init__" "Program.__init__" sPInit (ma K (ga K "Program") "__init__") dPInit := fun_of (kws := []) DPInit
  have bPInit := FPInit.binds (ps := ["self", "text"]) fun _ _ _ _ _ _ us hl => match us, hl with | [_, _], _ => rfl
  obtain ⟨dPEq, DPEq⟩ := c.def_ 22 (d := defM "Program" "__eq__" "Program.__eq__" sPEq) rfl
  have FPEq : Fun K "__eq__" "Program.__eq__" sPEq (ma K (ga K "Program") "__eq__") dPEq := fun_of (kws := []) DPEq
  have bPEq := FPEq.binds (ps := ["self", "other"]) fun _ _ _ _ _ _ us hl => match us, hl with | [_, _], _ => rfl
  obtain ⟨dPLen, DPLen⟩ := c.def_ 23 (d := defM "Program" "__len__" "Program.__len__" sPLen) rfl
  have FPLen : Fun K "__len__" "Program.__len__" sPLen (ma K (ga K "Program") "__len__") dPLen := fun_of (kws := []) DPLen
  have bPLen := FPLen.binds (ps := ["self"]) fun _ _ _ _ _ _ us hl => match us, hl with | [_], _ => rfl
  obtain ⟨dPGet, DPGet⟩ := c.def_ 24 (d := defM "Program" "__getitem__" "Program.__getitem__" sPGet) rfl
  have FPGet : Fun K "__getitem__" "Program.__getitem__" sPGet (ma K (ga K "Program") "__getitem__") dPGet := fun_of (kws := []) DPGet
  have bPGet := FPGet.binds (ps := ["self", "at"]) fun _ _ _ _ _ _ us hl => match us, hl with | [_, _], _ => rfl
  obtain ⟨dPIter, DPIter⟩ := c.def_ 25 (d := defM "Program" "__iter__" "Program.__iter__" sPIter) rfl
  have FPIter : Fun K "__iter__" "Program.__iter__" sPIter (ma K (ga K "Program") "__iter__") dPIter := fun_of (kws := []) DPIter
  have bPIter := FPIter.binds (ps := ["self"]) fun _ _ _ _ _ _ us hl => match us, hl with | [_], _ => rfl
  obtain ⟨dPOf, DPOf⟩ := c.def_ 26 (d := defC "Program" "of" "Program.of" sOf) rfl
  have FPOf : Fun K "of" "Program.of" sOf (wf K (ga K "Program") "classmethod" "of") dPOf := fun_of (kws := []) DPOf
  have bPOf := FPOf.binds (ps := ["cls", "steps"]) fun _ _ _ _ _ _ us hl => match us, hl with | [_, _], _ => rfl
  have e := hfa.symm.trans (gl "law" (by simp [globs]))
  cases e
  refine ⟨dLaw, fun s v => by
      have hb := FunD.bindsA (ps := ["_law_script"]) DLaw fun _ _ _ _ _ _ us hl => match us, hl with | [_], _ => rfl
      exact hb s [v] rfl, fun base _ _ => ?_⟩
  have TeS := txteB_ok h_xTS
  have TeP := txteB_ok h_xTP
  obtain ⟨TEq, nfS, nfN⟩ := owneqB_ok h_xEq
  obtain ⟨hsI, hfI, _⟩ := spmB_ok h_xIt
  obtain ⟨hsL, hfL, _⟩ := spmB_ok h_xLen
  obtain ⟨hsG, hfG, hfiG⟩ := spmB_ok h_xGet
  have CR := creadB_ok h_xRead
  have CMt := clsmB_ok h_xOf
  have kk : ∀ t ∈ ["str", "NoneType", "int", "bool", "tuple"], PySem.W.kitOne K (.type t) (.ref (ga K "Step")) = some false := fun t ht => of_decide_eq_true (List.all_eq_true.mp h_xK t ht)
  have kP : PySem.W.kitOne K (.ref (ga K "Program")) (.ref (ga K "Step")) = some false := of_decide_eq_true h_xKP
  have kE : ∀ i j, i < 4 → j < 4 → PySem.W.kitOne K (.ref (CeK K i)) (.ref (CeK K j)) = some (decide (i = j)) := fun i j hi hj => of_decide_eq_true (List.all_eq_true.mp (List.all_eq_true.mp h_xKE i (List.mem_range.mpr hi)) j (List.mem_range.mpr hj))
  have xW : ∀ i, i < 4 → PySem.W.exmOne K (.ref (CeK K i)) (.ref (ga K "WordsError")) = some true := fun i hi => by
    match i, hi with
    | 0, _ => exact exm_ok (fa (.exm "BadText" "WordsError" true) (by simp [fas]))
    | 1, _ => exact exm_ok (fa (.exm "BadStep" "WordsError" true) (by simp [fas]))
    | 2, _ => exact exm_ok (fa (.exm "BadNumber" "WordsError" true) (by simp [fas]))
    | 3, _ => exact exm_ok (fa (.exm "TooMany" "WordsError" true) (by simp [fas]))
  have clS : Cls K (ga K "Step") := cls_ok (fa (.cls "Step") (by simp [fas]))
  have clP : Cls K (ga K "Program") := cls_ok (fa (.cls "Program") (by simp [fas]))
  have pT : NoAttr K (ga K "Program") "text" := noat_ok (fa (.noat "Program" "text") (by simp [fas]))
  have pS : NoAttr K (ga K "Program") "steps" := noat_ok (fa (.noat "Program" "steps") (by simp [fas]))
  have sT : NoAttr K (ga K "Step") "text" := noat_ok (fa (.noat "Step" "text") (by simp [fas]))
  have sK : NoAttr K (ga K "Step") "kind" := noat_ok (fa (.noat "Step" "kind") (by simp [fas]))
  obtain ⟨t5, g5⟩ := int_ok X G (fa (.int "MOST_STEPS" 5) (by simp [fas]))
  obtain ⟨t2, g2⟩ := int_ok X G (fa (.int "MOST_DEALS" 2) (by simp [fas]))
  have O : TxtO (PySem.Challenge.rw_allwordlengths_k02_programs_are_read).prog K mg (ga K "Step") (ga K "BadText") (ga K "step_parts") (ma K (ga K "Step") "__init__") :=
    { parts := (gl _ (by simp [globs])), bt := E0, cl := clS, nT := sT, nK := sK, nB := noat_ok (fa (.noat "Step" "by") (by simp [fas])), nR := noat_ok (fa (.noat "Step" "rest") (by simp [fas])), g := (gl _ (by simp [globs])), mkr := mkr_ok (fa (.mkr "Step") (by simp [fas])) }
  have R : TxtR (PySem.Challenge.rw_allwordlengths_k02_programs_are_read).prog K mg (ga K "Program") (ga K "BadStep") (ga K "check_bounds") :=
    { isi := (fr _ (by simp [frees])), str := (fr _ (by simp [frees])), tup := (fr _ (by simp [frees])), enum := (fr _ (by simp [frees])), gB := (gl _ (by simp [globs])), bi := E1, cl := clP, nT := pT, nS := pS }
  have B : TxtB (PySem.Challenge.rw_allwordlengths_k02_programs_are_read).prog K mg (ga K "Step") (ga K "TooMany") t5 t2 := { len := (fr _ (by simp [frees])), g5 := g5, g2 := g2, tm := E3, cl := clS, nK := sK }
  have J : TxtJ K mg (ga K "Program") (ga K "Step") (ma K (ga K "Program") "__init__") := { g := (gl _ (by simp [globs])), mkr := mkr_ok (fa (.mkr "Program") (by simp [fas])), cs := clS, nT := sT }
  have ER : Errs4 (PySem.Challenge.rw_allwordlengths_k02_programs_are_read).prog K mg (CeK K) := { e0 := E0, e1 := E1, e2 := E2, e3 := E3, isi := (fr _ (by simp [frees])), kit := kE }
  have GSI := ok_init (w := w) (base := base) FSInit O TS FParts bParts
  have GPI := ok_pinit (w := w) (base := base) (C := ga K "Program") FPInit O R TS FParts bParts FSInit bSInit B FBounds bBounds
  have GJ := ok_joined (P := (PySem.Challenge.rw_allwordlengths_k02_programs_are_read).prog) (w := w) (base := base) FJoined J GPI bPInit
  have GPO := ok_of (w := w) (base := base) FPOf R (gl _ (by simp [globs])) clS TeS FJoined bJoined (gl _ (by simp [globs])) GJ
  have GT := ok_lerr (w := w) (base := base) FLErr ER
  have GTold := ok_ptold (CW := ga K "WordsError") FTold J clP pT pS (gl _ (by simp [globs])) (fr _ (by simp [frees])) (fr _ (by simp [frees])) GPI bPInit GT (gl _ (by simp [globs])) FLErr.kp bLErr rfl rfl rfl xW
  have GOf := ok_pof (CW := ga K "WordsError") FLOf J clP pT pS (gl _ (by simp [globs])) (fr _ (by simp [frees])) (fr _ (by simp [frees])) CR CMt GPO bPOf GT (gl _ (by simp [globs])) FLErr.kp bLErr rfl rfl xW
  have GRD := ok_rowdue (P := (PySem.Challenge.rw_allwordlengths_k02_programs_are_read).prog) (w := w) (base := base) FRowDue (fr _ (by simp [frees]))
  have GDue := ok_pdue (P := (PySem.Challenge.rw_allwordlengths_k02_programs_are_read).prog) (w := w) (base := base) FDue (fr _ (by simp [frees])) (fr _ (by simp [frees])) (fr _ (by simp [frees])) (fr _ (by simp [frees])) FRowDue bRowDue (gl _ (by simp [globs]))
  have GRow := ok_lrow (P := (PySem.Challenge.rw_allwordlengths_k02_programs_are_read).prog) (w := w) (base := base) FRow T (fr _ (by simp [frees])) (fr _ (by simp [frees])) (fr _ (by simp [frees])) FDraw bDraw FPick bPick (gl _ (by simp [globs])) FKinds bKinds (gl _ (by simp [globs])) FText bText (gl _ (by simp [globs])) FLStep bLStep (gl _ (by simp [globs]))
  have GValue := ok_pvalue (P := (PySem.Challenge.rw_allwordlengths_k02_programs_are_read).prog) (w := w) (base := base) FValue T (fr _ (by simp [frees])) (fr _ (by simp [frees])) (fr _ (by simp [frees])) FDraw bDraw FPick bPick (gl _ (by simp [globs])) FRow bRow (gl _ (by simp [globs])) GRow
  have GAll := ok_all (P := (PySem.Challenge.rw_allwordlengths_k02_programs_are_read).prog) (w := w) (base := base) FAll (fr _ (by simp [frees])) (fr _ (by simp [frees])) (fr _ (by simp [frees])) (gl _ (by simp [globs])) FText bText
  have GIt := ok_piter (P := (PySem.Challenge.rw_allwordlengths_k02_programs_are_read).prog) (w := w) (base := base) FPIter clP pS (fr _ (by simp [frees]))
  have GLen := ok_plen (P := (PySem.Challenge.rw_allwordlengths_k02_programs_are_read).prog) (w := w) (base := base) (CS := ga K "Step") FPLen clP pS (fr _ (by simp [frees]))
  have GGet := ok_pget (w := w) (base := base) (CS := ga K "Step") FPGet clP pS (fr _ (by simp [frees])) E2 FNum bNum (gl _ (by simp [globs])) (fr _ (by simp [frees])) (fr _ (by simp [frees])) (fr _ (by simp [frees]))
  have GEq := ok_peq (P := (PySem.Challenge.rw_allwordlengths_k02_programs_are_read).prog) (w := w) (base := base) FPEq J clP pT TeP (fr _ (by simp [frees]))
  have GInd := ok_pind (CW := ga K "WordsError") FInd J clP (fr _ (by simp [frees])) (fr _ (by simp [frees])) (fr _ (by simp [frees])) (fr _ (by simp [frees])) (fr _ (by simp [frees])) (fr _ (by simp [frees])) (gl _ (by simp [globs])) hsI hfI GIt bPIter hsL hfL GLen bPLen hsG hfiG hfG GGet bPGet GT (gl _ (by simp [globs])) FLErr.kp bLErr rfl xW
  have kS : KindS K (ga K "Program") (ga K "Step") := { str := kk _ (by simp), non := kk _ (by simp), int := kk _ (by simp), bl := kk _ (by simp), tup := kk _ (by simp), ins := kP, cl := clP, te := TeP }
  exact ok_plaw FLaw T (fr _ (by simp [frees])) (fr _ (by simp [frees])) (fr _ (by simp [frees])) FPen bPen (gl _ (by simp [globs])) FDraw bDraw FPick bPick (gl _ (by simp [globs])) FAll bAll (gl _ (by simp [globs])) GAll FValue bValue (gl _ (by simp [globs])) GValue FTold bTold (gl _ (by simp [globs])) GTold FLOf bLOf (gl _ (by simp [globs])) GOf FDue bDue (gl _ (by simp [globs])) GDue FRow bRow (gl _ (by simp [globs])) GRow FRowDue bRowDue (gl _ (by simp [globs])) GRD FInd bInd (gl _ (by simp [globs])) GInd O GSI bSInit J GPI bPInit CR CMt GPO bPOf hsI hfI GIt bPIter hsL hfL GLen bPLen TEq GEq bPEq nfS nfN kS
end Aw

open PySem PySem.W PySem.Calls PyProof.Rows
set_option maxRecDepth 100000 in
set_option maxHeartbeats 0 in
theorem PySem.Challenge.cw_allwordlengths_k02_programs_are_read_holds : PySem.Challenge.rw_allwordlengths_k02_programs_are_read.Holds := by
  w_on; o_law
  refine HandSHeadRun.head_any (r := OpenLaw.row PySem.Challenge.rw_allwordlengths_k02_programs_are_read) (q := view (OpenLaw.row PySem.Challenge.rw_allwordlengths_k02_programs_are_read).prog [41]) (H := Aw.hk) (ob := Aw.ob) (M := 12000) (loose := Aw.loose) (d := HandSHeadRun.topDef (OpenLaw.row PySem.Challenge.rw_allwordlengths_k02_programs_are_read).prog 41) (kwd := []) Aw.ob_eq
    (by kernel_rfl) (fun s => by kernel_rfl) Aw.run (by kernel_rfl) (by kernel_rfl) (by kernel_rfl) (by rfl) (by first | assumption | decide +kernel) (by decide +kernel) ⟨rfl, rfl, rfl, rfl, rfl, by decide +kernel⟩ ?hw ?hc
  case hw => w_witness2
  case hc =>
    refine L2.walk_ofE (l := PySem.Challenge.rw_allwordlengths_k02_programs_are_read) (n := 63) (k := 10) (x := "_law_script") (CX := L2.CX0) rfl (by decide) (by kernel_rfl) ⟨rfl, by decide, by decide⟩ ?F (fun _ _ _ _ z => z)
    intro w mg fa h Y G hmg0
    obtain ⟨K, KX, c⟩ := Y
    have hmg : mg ("law" : PySem.Str) = some (.ref fa) := by
      have e : (HandSHeadRun.topDef (OpenLaw.row PySem.Challenge.rw_allwordlengths_k02_programs_are_read).prog 41).name = ("law" : PySem.Str) := by kernel_rfl
      rw [← e]
      exact hmg0
    obtain ⟨fd, hb, hF⟩ := Aw.facts (w := w) KX G hmg c
    exact ⟨K, fd, Aw.spLaw K, KX, hb, fun H a ns hl _ hS => ⟨a, ns, rfl, hS, hl, fun _ => rfl⟩, hF⟩
#print axioms PySem.Challenge.cw_allwordlengths_k02_programs_are_read_holds

