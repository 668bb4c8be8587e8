import PyProof.Rows.All
import Wide.All
import OpenK.AllK
import Wide.FinOn
import KE.KExcSuper
import KE.KExcIs
import HandS.ForMost
import HandS.ForSpec
import HandS.ExcInit
import HandS.Nested
import HandS.IsInst
import HandS.HotCalls
import HandS.ExcValue
import HandS.ExcIs
import HandS.ExcField
import HandS.Head0
import HandS.Head1
import HandS.Head2
import HandS.HeadNt
import HandS.HeadEnd
import HandS.HeadHook4
import HandS.WrittenGet
import HandS.Style
import HandS.FStr
import HandS.Conv
import HandS.OwnEq
import HandS.Defaults
import HandS.MakeKw
import PySem.Challenge.RW_allwordlengths_k00_errors_made_from_thei
set_option Elab.async false
set_option linter.all false
set_option maxRecDepth 100000
set_option maxHeartbeats 4000000
namespace Aw
open PySem PySem.Spec PyProof.Rows L2 NdefX

def supBody (z y fld : Str) (j : Nat) (p0 p1 p2 p3 p4 p5 p6 p7 p8 p9 : Pos) : List Stmt :=
  [.Expr (.Call (.Attribute (.Call (.Name "super" p0) [] [] p1) "__init__" p2) [.Constant (.str z) j p3] [] p4) p5,
   .Assign [.Attribute (.Name "self" p6) fld p7] (.Name y p8) p9]

/-- the promise of such an __init__ -/
def spSup (C : Addr) (fld : Str) : Sp := fun vs H Q _ => ∃ (a : Addr) (v : V), vs = [.ref a, v] ∧ H a = some (exo a C none) ∧
  ∀ dx, H dx = none → dx ≠ a → Q .non (upd (upd H dx (exd dx [(fld, v)])) a (exo a C (some dx)))

/-- what the written part says of the class's __init__ -/
structure SupTxt (P : Program) (K : PySem.W.Frag) (mg : Str → Option Value) (C f cc cda : Addr) (qual y fld : Str) (args : Arguments) (body : List Stmt) (scope : Scope) (fd : FuncData) : Prop where
  T : OexC K C
  fdE : ∃ dV kV doc pm an ct, fd = PySem.W.fnX "__init__" qual args body scope [("__class__", cc)] dV kV doc pm an (.ref cda) ct
  lk : ∃ oc od osl, K.lookup f = some ⟨oc, od, .func fd, osl⟩
  cd : PySem.W.codeIn K (.ref cda) qual = true
  file : ∃ ccl cdd vs ccs fl tf, K.lookup cda = some ⟨ccl, cdd, .fields vs, ccs⟩ ∧ vs[2]? = some (.str fl tf) ∧ ((P.main.file : Str) == fl) = true
  cell : ∃ cl cld csl, K.lookup cc = some ⟨cl, cld, .cell (some (.ref C)), csl⟩
  hm : PySem.W.ks_superIn K C C "__init__" = some (some (.builtin "ValueError.__init__"))
  hB : PySem.W.subIn K (.ref C) (.type "ValueError") = some true
  hself : PySem.W.mroIn K C (.ref C) = some true
  ho : PySem.W.nsIn K cStatics "thirdparty.any" = some none
  hno : PySem.W.findIn K (.ref C) fld = some none
  hsup : mg "super" = none
  htop : (P.main.scope.names.lookup ("super" : Str)).isSome = false
  bd : ∃ z j p0 p1 p2 p3 p4 p5 p6 p7 p8 p9, body = supBody z y fld j p0 p1 p2 p3 p4 p5 p6 p7 p8 p9 ∧ (p2.endLine == p4.line) = true
  ar : (args.posonlyargs ++ args.args).head?.map (·.arg) = some "self"
  sc : NScope ["self", y, "__class__"] ["self", y] ["__class__"] scope
  scs : scope.names.lookup ("super" : Str) = some .globalImplicit
  ny : (y == ("__debug__" : Str)) = false ∧ (y == ("__classdict__" : Str)) = false

section
variable {X : Cx} {C f cc cda a : Addr} {v : V} {y fld z : Str} {j : Nat} {p0 p1 p2 p3 p4 p5 p6 p7 p8 p9 : Pos} {H : Hp} {s : Shared} {fd : FuncData} {body : List Stmt} {D : Ends} {Q : Flow → Shared → Prop}
/-- what the body's context is -/
structure SupCx (X : Cx) (C f cc cda : Addr) (y : Str) (fd : FuncData) : Prop where
  n0 : X.N[0]? = some ("self" : Str)
  n1 : X.N[1]? = some y
  ks : X.env.kindOf "super" = some .globalImplicit
  kc : X.env.kindOf "__class__" = some .free
  k0 : X.env.kindOf "self" = some .local
  k1 : X.env.kindOf y = some .local
  fn : X.env.func = some f
  co : X.env.code = .ref cda
  ce : X.env.cells = ([("__class__", cc)] : List (Str × Addr))
  lk : ∃ oc od osl, X.K.lookup f = some ⟨oc, od, .func fd, osl⟩
  ar : (fd.params.posonlyargs ++ fd.params.args).head?.map (·.arg) = some "self"
  file : ∃ ccl cdd vs ccs fl tf, X.K.lookup cda = some ⟨ccl, cdd, .fields vs, ccs⟩ ∧ vs[2]? = some (.str fl tf) ∧ ((X.prog.main.file : Str) == fl) = true
  cell : ∃ cl cld csl, X.K.lookup cc = some ⟨cl, cld, .cell (some (.ref C)), csl⟩
  hm : PySem.W.ks_superIn X.K C C "__init__" = some (some (.builtin "ValueError.__init__"))
  hB : PySem.W.subIn X.K (.ref C) (.type "ValueError") = some true
  hself : PySem.W.mroIn X.K C (.ref C) = some true
  ho : PySem.W.nsIn X.K cStatics "thirdparty.any" = some none
  hsup : X.mg "super" = none
  htop : (X.prog.main.scope.names.lookup ("super" : Str)).isSome = false
  T : OexC X.K C

theorem sup_eval {env : Env} (hp : (p2.endLine == p4.line) = true) : eval (.Call (.Attribute (.Call (.Name "super" p0) [] [] p1) "__init__" p2) [.Constant (.str z) j p3] [] p4) env = (do
      let ov ← attributeBase (.Call (.Name "super" p0) [] [] p1) "__init__" env (eval (.Call (.Name "super" p0) [] [] p1) env)
      standAt p2.atName
      let (f, first) ← holding [ov] (getMethod ov "__init__" (do return (← importBound (.Call (.Name "super" p0) [] [] p1) env).getD true))
      callWith p4 f first (backTo p4 (starEach [.Constant (.str z) j p3] env)) []) := by
  have e : ∀ few, methodCallPos few (.Call (.Name "super" p0) [] [] p1) env p2 p4 = pure p4 := fun few => by
    unfold methodCallPos
    rw [hp, Bool.or_true]
    rfl
  rw [eval]
  unfold methodCall
  simp only [e]
  rfl
theorem sup_first (hp4 : (p2.endLine == p4.line) = true) (S : SupCx X C f cc cda y fd) (I : Inv X [] [some (V.ref a), some v, some (V.ref C)] H s) (ha : H a = some (exo a C none))
    (h : ∀ s', Inv X [] [some (V.ref a), some v, some (V.ref C)] H s' → Q .next s') : 
    PySem.wpAt (model X.prog X.w) X.A (.func body X.env) (exec (.Expr (.Call (.Attribute (.Call (.Name "super" p0) [] [] p1) "__init__" p2) [.Constant (.str z) j p3] [] p4) p5) X.env) Q X.xe s := by
  obtain ⟨oc, od, osl, lk⟩ := S.lk
  obtain ⟨ccl, cdd, fvs, ccs, fl, tf, lkc, hvs, hfile⟩ := S.file
  obtain ⟨cl, cld, csl, lkcc⟩ := S.cell
  obtain ⟨ar, har, harg⟩ : ∃ ar : Arg, (fd.params.posonlyargs ++ fd.params.args).head? = some ar ∧ ar.arg = "self" := by
    have h := S.ar
    cases e : (fd.params.posonlyargs ++ fd.params.args).head? with
    | none => rw [e] at h; cases h
    | some ar => rw [e] at h; exact ⟨ar, rfl, Option.some.inj h⟩
  obtain ⟨nm, q, N, bs, bm, sn, sub, ab, col, dd, k0, k1, k2, k3, k5, hC, hbm⟩ := S.T.cls
  have hcl : PySem.W.clsIn X.K C = some { name := nm, bases := bs, mro := .ref C :: bm, ns := N, qualname := q, hasDict := true, slotNames := sn, subclasses := sub, abstract := ab, collection := col, hasDel := false } := by unfold PySem.W.clsIn; rw [hC] <;> rfl
  have KX := I.kIn
  have hCs := KX _ _ hC
  obtain ⟨t1, hoa⟩ := exo_at I.hok ha
  refine PySem.ks_wpAt_Expr_any (PySem.ks_wpAt_MethodCall (PySem.ks_wpAt_super_base S.ks S.kc (by decide) S.fn (KX _ _ lk) rfl har S.co (KX _ _ lkc) rfl hvs hfile S.htop ?_) (sup_eval hp4)) I.quiet (by rfl)
  obtain ⟨mb, hb1, hb2⟩ := I.mod.blt
  refine PySem.W.ks_loadName_global I.ok.kind S.ks (Calls.loadGlobal_builtin (by rw [I.ok.glob]; exact I.mod.glob.keeps I.bk) S.hsup (by rw [I.ok.blt]; exact hb1.keeps I.bk) ((hb2 _ (by decide)).trans (by decide +kernel : bootBuiltins "super" = some (.type "super"))) ⟨rfl, ?_⟩)
  refine wpAny_loadName_free I.ok.kind S.kc (by rw [S.ce]; rfl) ⟨_, KX _ _ lkcc, rfl⟩ ?_
  rw [harg]
  obtain ⟨m, hm, hl⟩ := I.loc
  obtain ⟨u0, ru0, lu0⟩ := hl 0 "self" (V.ref a) S.n0 rfl (.inl S.k0)
  obtain rfl : u0 = Value.ref a := ru0
  have hms : m "self" = some (.ref a) := by
    rcases lu0 with ⟨_, h⟩ | ⟨h, _⟩
    · exact h
    · rw [S.k0] at h
      rcases h with h | h <;> cases h
  refine wpAny_loadName_local I.ok.kind S.k0 hm hms ?_
  refine PySem.ks_wpAny_isType_cls hCs rfl ⟨rfl, ?_⟩
  obtain ⟨hp, g, dr, tk, os⟩ := s
  refine PySem.ks_wpAny_call_super hCs rfl hoa rfl (fun c e => by cases e) (PySem.W.looks_mroIn KX S.hself) (fun h' e k => ?_)
  have I1 := I.kept (t' := tk) k
  have hoa' := k _ _ hoa
  have KX' := I1.kIn
  have hnaC : a ≠ C := fun z => by
    have q1 := (I.bs C _ (I.ok.mod.kin _ _ hC)).2
    rw [← z, ha] at q1
    cases q1
  have J : PySem.W.InstAt h' a { cls := .ref C, dict := none, data := .fields #[.ref t1, .none, .none, .none, .bool false, .none] } C none := ⟨hoa', rfl, rfl, trivial⟩
  have hsup := S.hm
  unfold PySem.W.ks_superIn at hsup
  rw [hcl] at hsup
  refine PySem.W.kxs_getMethod PySem.W.kxs_ValueError e (PySem.W.looks_opaque KX' S.ho) (fun A Q E s k q => wpAny_bind ((PySem.W.looks_clsIn KX' hcl) A _ E s k (wpAny_pure q))) rfl KX' hsup (J.type.andThen (PySem.W.looks_subIn KX' S.hB)) hnaC (by decide) ?_
  have k2 : ∀ b o, h'.get? b = some o → (h'.push (PySem.W.kxs_mw "ValueError.__init__" a)).get? b = some o := fun b o e => Heap.get?_push_of_some _ e
  have hu : (h'.push (PySem.W.kxs_mw "ValueError.__init__" a)).get? h'.objs.size = some (PySem.W.kxs_mw "ValueError.__init__" a) := Heap.get?_push_at rfl rfl
  have I2 := I1.kept (t' := tk + 1) k2
  have I3 : Inv X [(h'.objs.size, PySem.W.kxs_mw "ValueError.__init__" a)] [some (V.ref a), some v, some (V.ref C)] H ⟨h'.push (PySem.W.kxs_mw "ValueError.__init__" a), g, dr, tk + 1, os⟩ := I2.pins_of fun p hp => by
    have ep : p = (h'.objs.size, PySem.W.kxs_mw "ValueError.__init__" a) := by simpa using hp
    subst ep
    exact ⟨hu, I1.hok.fresh (Nat.le_refl _), Nat.ne_of_gt I1.lt, I1.nofs (Nat.le_refl _), fun v => by simp [PySem.W.kxs_mw]⟩
  refine PySem.W.kxs_callWith (i := "ValueError.__init__") (x := a) rfl (PySem.Calls.evalArgs_plain (thn ((pa_cons pe_str pa_nil).run p4 [(h'.objs.size, PySem.W.kxs_mw "ValueError.__init__" a)] _ _ H (fun vs H1 => H1 = H ∧ vs = [V.str z]) I3 ⟨rfl, rfl⟩) fun us s1 hq => ?_))
  obtain ⟨vs, H1, I4, rv, rfl, rfl⟩ := hq
  have hu4 := (I4.pin (h'.objs.size, PySem.W.kxs_mw "ValueError.__init__" a) (List.mem_append_right _ List.mem_cons_self)).1
  refine ⟨hu4, ?_⟩
  have I5 : Inv X [] [some (V.ref a), some v, some (V.ref C)] H1 s1 := I4.pins_of fun p hp => by cases hp
  obtain ⟨t5, hoa5⟩ := exo_at I5.hok ha
  have hC5 := I5.kIn _ _ hC
  have hlen : us.length ≤ sizeLine := by
    rw [← Paired.length rv, sizeLine_eq]
    show 1 ≤ 16777216
    decide
  obtain ⟨hp5, g5, dr5, tk5, os5⟩ := s1
  show wpAny (model X.prog X.w) X.A (call (Value.ref h'.objs.size) us) _ _ _
  refine wpAny_call (codeAny_of_tree ?_)
  show wpAny _ X.A.in1 (callAny (.ref h'.objs.size) ⟨us, []⟩) _ _ _
  simp only [callAny]
  refine wpAny_bind (wpAny_load hu4 ?_)
  simp only [PySem.W.kxs_mw, show (Value.type "method-wrapper" == Value.type "method" || Value.type "method-wrapper" == Value.type "builtin_function_or_method" || Value.type "method-wrapper" == Value.type "method-wrapper") = true by decide, if_true]
  refine PySem.W.KFB.if_so (by decide) ?_
  refine wpAny_bind (PySem.W.check_bound_init F.excBase_ValueError.toExcCallFacts hC5 hoa5 rfl ?_)
  refine wpAny_bind (wpAny_pure (wpAny_pure ?_))
  refine ⟨plainId_quiet F.excBase_ValueError.init.plain _, codeAny_builtin F.excBase_ValueError.initEntry ?_⟩
  refine PySem.W.exc_init_tree (cls := .ref C) (t0 := t5) (dv := none) (c2 := .none) (c3 := .none) (b4 := .bool false) hoa5 hlen fun h6 k6 e6 _ => ?_
  have J6 := I5.write (t' := tk5) (x := a) (e := a) (o := exo a C none) (by rw [ha]; exact True.intro) (.inl rfl) k6 ⟨_, e6⟩ (exo_ok e6)
  have eu : upd H1 a (exo a C none) = H1 := by
    funext b
    by_cases hb : b = a
    · rw [hb, upd_same, ha]
    · rw [upd_ne hb]
  rw [eu] at J6
  exact h _ J6
end

section
variable {P : Program} {w : World} {K : PySem.W.Frag} {mg : Str → Option Value} {base : Heap} {C f cc cda : Addr} {qual y fld : Str} {args : Arguments} {body : List Stmt} {scope : Scope} {fd : FuncData}
theorem ok_sup (S : SupTxt P K mg C f cc cda qual y fld args body scope fd) : FnOk P w K mg base CX0 1 f fd ["self", y] (spSup C fld) := by
  refine ⟨fun vs H Q E h => ?_, fun A outer s H as us vs Q E hr e0 hb r hsp => ?_⟩
  · obtain ⟨a, v, rfl, _⟩ := h
    rfl
  obtain ⟨a, v, rfl, ha, q⟩ := hsp
  obtain ⟨dV, kV, doc, pm, an, ct, rfl⟩ := S.fdE
  obtain ⟨oc, od, osl, lk⟩ := S.lk
  obtain ⟨ccl, cdd, fvs, ccs, fl, tf, lkc, hvs, hfile⟩ := S.file
  obtain ⟨cl, cld, csl, lkcc⟩ := S.cell
  obtain ⟨z, j, p0, p1, p2, p3, p4, p5, p6, p7, p8, p9, rfl, hp4⟩ := S.bd
  obtain ⟨ar, har, harg⟩ : ∃ ar : Arg, (args.posonlyargs ++ args.args).head? = some ar ∧ ar.arg = "self" := by
    have h := S.ar
    cases e : (args.posonlyargs ++ args.args).head? with
    | none => rw [e] at h; cases h
    | some ar => rw [e] at h; exact ⟨ar, rfl, Option.some.inj h⟩
  have KX : K.In s.heap := e0.mod.kin.keeps fun b o e => (e0.bs b o e).1
  have lim : s.heap.NoLimit := e0.mod.nolimit.keeps fun b o e => (e0.bs b o e).1
  have hcc : H cc = none := (e0.bs cc _ (e0.mod.kin _ _ lkcc)).2
  have hC0 : H C = none := by
    obtain ⟨nm, q, N, bs, bm, sn, sub, ab, col, dd, k0, k1, k2, k3, k5, hC, hbm⟩ := S.T.cls
    exact (e0.bs C _ (e0.mod.kin _ _ hC)).2
  have r' := r
  let F : NF := ⟨"__init__", qual, args, supBody z y fld j p0 p1 p2 p3 p4 p5 p6 p7 p8 p9, scope, [("__class__", cc)], cda⟩
  have Ce : CellsAt F.cl ["__class__"] [some (V.ref C)] s.heap H := by
    have one : ∀ (x : Str) (c : Addr), ([("__class__", cc)] : List (Str × Addr)).lookup x = some c → x = "__class__" ∧ c = cc := fun x c e => by
      have h := PySem.mem_of_lookup e
      simp at h
      exact h
    refine ⟨rfl, fun x c e => ?_, fun x1 x2 c e1 e2 => ?_, fun i x e => ?_⟩
    · obtain ⟨_, rfl⟩ := one x c e
      exact ⟨hcc, _, _, KX _ _ lkcc, rfl⟩
    · rw [(one _ _ e1).1, (one _ _ e2).1]
    · cases i with
      | zero =>
        have e' : ("__class__" : Str) = x := Option.some.inj e
        subst e'
        refine ⟨cc, by simp [F, List.lookup], fun v e => ?_⟩
        have e'' : V.ref C = v := Option.some.inj (Option.some.inj e)
        subst e''
        exact ⟨.ref C, rfl, _, KX _ _ lkcc, rfl⟩
      | succ i => simp at e
  refine PySem.ks_codeAny_call_defAt (fd := PySem.W.fnX "__init__" qual args (supBody z y fld j p0 p1 p2 p3 p4 p5 p6 p7 p8 p9) scope [("__class__", cc)] dV kV doc pm an (.ref cda) ct) (body := supBody z y fld j p0 p1 p2 p3 p4 p5 p6 p7 p8 p9) (binds := (["self", y] : List Str).zip us)
    hr.depth (KX _ _ lk) rfl lim (PySem.W.codeRec_of KX S.cd) rfl hb S.sc.nocell (fun ⟨n, _⟩ hy => S.sc.par n (List.of_mem_zip hy).1) (fun h₁ hns kp => ?_) S.sc.co S.sc.gen S.sc.kind
  have I : Inv (ncx CX0 P w K mg base ["self", y, "__class__"] F f A outer s H E) [] (startF ["self", y, "__class__"] [V.ref a, v] [some (V.ref C)]) H { s with heap := h₁, toks := s.toks + ((["self", y] : List Str).zip us).length } := inv_startN S.sc hr.hd e0 rfl r Ce hns kp
  show PySem.wpAt (model P w) (A.deeper (envF F f s.heap.objs.size)) (.func F.body (envF F f s.heap.objs.size)) (execs F.body (envF F f s.heap.objs.size)) _ (ncx CX0 P w K mg base ["self", y, "__class__"] F f A outer s H E).xe _
  have SC : SupCx (ncx CX0 P w K mg base ["self", y, "__class__"] F f A outer s H E) C f cc cda y (PySem.W.fnX "__init__" qual args (supBody z y fld j p0 p1 p2 p3 p4 p5 p6 p7 p8 p9) scope [("__class__", cc)] dV kV doc pm an (.ref cda) ct) := {
    n0 := rfl, n1 := rfl, ks := S.scs, kc := S.sc.frk _ List.mem_cons_self, k0 := S.sc.par _ List.mem_cons_self, k1 := S.sc.par _ (List.mem_cons_of_mem _ List.mem_cons_self), fn := rfl, co := rfl, ce := rfl,
    lk := ⟨oc, od, osl, lk⟩, ar := S.ar, file := ⟨ccl, cdd, fvs, ccs, fl, tf, lkc, hvs, hfile⟩, cell := ⟨cl, cld, csl, lkcc⟩, hm := S.hm, hB := S.hB, hself := S.hself, ho := S.ho, hsup := S.hsup, htop := S.htop, T := S.T }
  refine PySem.ks_wpAt_execs_cons (sup_first hp4 SC I ha fun s' I' => ?_)
  refine PySem.ks_wpAt_execs_cons (wpAt_of_wpAny (wpAny_mono ((ps_ost (f := fld) (pe_var (i := 0) rfl (.inl SC.k0)) (pe_var (i := 1) rfl (.inl SC.k1) S.ny.1 S.ny.2)).run [] s' _ H { nx := fun _ H' => Q .non H', rt := fun _ _ => False } I' ?_) (fun fl s2 hs => ?_) fun _ _ z => z))
  · exact ⟨v, rfl, V.ref a, rfl, a, C, rfl, S.T, S.hno, .inl ⟨ha, fun dx hd hne => q dx hd hne⟩⟩
  · cases fl with
    | next =>
      obtain ⟨σ', H', J, hq⟩ := hs
      refine wpAt_of_wpAny (wpAny_pure ?_)
      exact ⟨V.non, H', J.os, J.bare, J.base, J.hok, rfl, hq⟩
    | ret u => obtain ⟨_, _, _, _, _, q⟩ := hs; exact False.elim q
    | brk => obtain ⟨_, _, _, q⟩ := hs; exact False.elim q
    | cont => obtain ⟨_, _, _, q⟩ := hs; exact False.elim q
end
end Aw

namespace Aw
open PySem PySem.Spec PyProof.Rows L2 NdefX
abbrev St := L2.St

/-! ### X(v) made: raised, or held as a value -/
/-- what pmk_oex asks behind the argument, answered -/
theorem mkS_ans {C : Addr} {fld : Str} {v : V} {H1 : Hp} {Q : XK} (q : ∀ d, H1 d = none → Q (.ref C) (some d) (upd H1 d (.xd [(fld, v)]))) :
    ([v] : List V).length ≤ 1000 ∧ ∀ a, H1 a = none → spSup C fld (.ref a :: ([v] ++ [])) (upd H1 a (exo a C none))
      (fun v H2 => v = .non ∧ ∃ (d : Addr) (fs : List (Str × V)), H2 a = some (exo a C (some d)) ∧ H2 d = some (exd d fs) ∧ H1 d = none ∧ Q (.ref C) (some d) (upd (del H2 a) d (.xd fs))) (fun _ _ _ => False) := by
  refine ⟨by show 1 ≤ 1000; decide, fun a hn => ⟨a, v, rfl, upd_same, fun dx hd hne => ⟨rfl, dx, [(fld, v)], upd_same, ?_, ?_, ?_⟩⟩⟩
  · rw [upd_ne hne, upd_same]
  · have := hd
    rw [upd_ne hne] at this
    exact this
  · have hd' : H1 dx = none := by
      have := hd
      rw [upd_ne hne] at this
      exact this
    have eh : upd (del (upd (upd (upd H1 a (exo a C none)) dx (exd dx [(fld, v)])) a (exo a C (some dx))) a) dx (.xd [(fld, v)]) = upd H1 dx (.xd [(fld, v)]) := by
      funext b
      by_cases hb : b = dx
      · rw [hb, upd_same, upd_same]
      · rw [upd_ne hb, upd_ne hb]
        by_cases hba : b = a
        · rw [hba, del_same, hn]
        · rw [del_ne hba, upd_ne hba, upd_ne hb, upd_ne hba]
    rw [eh]
    exact q dx hd'
section
variable {X : Cx} {C f cc cda : Addr} {qual y fld x : Str} {args : Arguments} {body : List Stmt} {scope : Scope} {fd : FuncData} {e : Expr} {es : List Expr} {ta : TA} {p pos : Pos}
/-- X(v), to be raised: the reading is tMkO C (spSup C fld) [] ta; behind the argument: mkS_ans -/
theorem pmk_sup (S : SupTxt X.prog X.K X.mg C f cc cda qual y fld args body scope fd) (iC : PySem.W.findIn X.K (.ref C) "__init__" = some (some (.ref f))) (tI : PySem.W.typeIn X.K (.ref f) = some (.type "function"))
    (hb : Binds X.K fd ["self", y] []) (hr : Room 2 X.A) (hg : Gl X x) (hm : X.mg x = some (.ref C)) (ha : PA X (e :: es) ta)
    (hdb : (x == ("__debug__" : Str)) = false := by decide) (he : starEach (e :: es) X.env = (false, eval e X.env) :: starEach es X.env := by rfl) (hpl : (backTo pos (starEach es X.env)).any (·.1) = false := by rfl) :
    PMk X (.Call (.Name x p) (e :: es) [] pos) (tMkO C (spSup C fld) [] ta) :=
  pmk_oex (ds := []) (dvs := []) (CX := CX0) S.T iC tI (ok_sup S) hr hb .nil pass0 hg hm ha hdb he hpl

/-- X(v) as a value -/
def tVaS (C : Addr) (fld : Str) (ta : TA) : TE := fun σ H Q => ta σ H fun vs H1 => ∃ v, vs = [v] ∧ ∀ a d, H1 a = none → H1 d = none → d ≠ a → Q (.ref a) (upd (upd H1 d (exd d [(fld, v)])) a (exo a C (some d)))
theorem pe_sup (S : SupTxt X.prog X.K X.mg C f cc cda qual y fld args body scope fd) (iC : PySem.W.findIn X.K (.ref C) "__init__" = some (some (.ref f))) (tI : PySem.W.typeIn X.K (.ref f) = some (.type "function"))
    (hb : Binds X.K fd ["self", y] []) (hr : Room 2 X.A) (hg : Gl X x) (hm : X.mg x = some (.ref C)) (ha : PA X (e :: es) ta)
    (hdb : (x == ("__debug__" : Str)) = false := by decide) (he : starEach (e :: es) X.env = (false, eval e X.env) :: starEach es X.env := by rfl) (hpl : (backTo pos (starEach es X.env)).any (·.1) = false := by rfl) :
    PE X (.Call (.Name x p) (e :: es) [] pos) (tVaS C fld ta) := by
  have T := S.T
  have F1 : FnOk X.prog X.w X.K X.mg X.base CX0 1 f fd ["self", y] (spSup C fld) := ok_sup S
  refine ⟨fun pins s σ H Q I h => ?_⟩
  obtain ⟨nm, q, N, bs, bm, sn, sub, ab, col, dd, k0, k1, k2, k3, k5, hC, hbm⟩ := T.cls
  refine wpAny_Call_Name_kw (ld_glob I hg hm ?_ hdb)
  refine PySem.W.callWith_K (h₀ := X.base) I.ok.mod.kin T.kC (thn (ha.run pos pins s σ H _ I h) fun us s1 ⟨vs, H1, I1, r1, v, ev, q1⟩ => ⟨I1.kIn, ?_⟩) he hpl
  subst ev
  show wpAny _ _ (call (.ref C) us) _ _ _
  obtain ⟨hp, g, dr, tk, os⟩ := s1
  have hsz : hp.objs.size ≤ hp.objs.size + 1 := Nat.le_succ _
  have hn : H1 (hp.objs.size + 1) = none := I1.hok.fresh hsz
  have kk : ∀ b o, hp.get? b = some o → ((hp.push (PySem.W.kdv_tup us)).push (PySem.HandSPX.excO C hp.objs.size)).get? b = some o := fun b o e => Heap.get?_push_of_some _ (Heap.get?_push_of_some _ e)
  have hget : ((hp.push (PySem.W.kdv_tup us)).push (PySem.HandSPX.excO C hp.objs.size)).get? (hp.objs.size + 1) = some (PySem.HandSPX.excO C hp.objs.size) := by heap_get
  have I2 : Inv X pins σ (upd H1 (hp.objs.size + 1) (exo (hp.objs.size + 1) C none)) ⟨(hp.push (PySem.W.kdv_tup us)).push (PySem.HandSPX.excO C hp.objs.size), g, dr, tk, os⟩ :=
    I1.laid (t' := tk) (a := hp.objs.size + 1) (o := exo (hp.objs.size + 1) C none) (h' := (hp.push (PySem.W.kdv_tup us)).push (PySem.HandSPX.excO C hp.objs.size)) kk hsz (exo_ok hget)
  have r2 : Vals (V.ref (hp.objs.size + 1) :: [v]) (Value.ref (hp.objs.size + 1) :: us) := .cons rfl r1
  have hus : us.length ≤ sizeLine := by
    rw [← Paired.length r1, sizeLine_eq]
    show 1 ≤ 16777216
    decide
  have hq : spSup C fld (V.ref (hp.objs.size + 1) :: [v]) (upd H1 (hp.objs.size + 1) (exo (hp.objs.size + 1) C none)) (fun w H2 => w = .non ∧ Q (.ref (hp.objs.size + 1)) H2) (fun _ _ _ => False) := by
    refine ⟨hp.objs.size + 1, v, rfl, upd_same, fun dx hd hne => ⟨rfl, ?_⟩⟩
    have hd' : H1 dx = none := by
      have := hd
      rw [upd_ne hne] at this
      exact this
    have eh : upd (upd (upd H1 (hp.objs.size + 1) (exo (hp.objs.size + 1) C none)) dx (exd dx [(fld, v)])) (hp.objs.size + 1) (exo (hp.objs.size + 1) C (some dx)) = upd (upd H1 dx (exd dx [(fld, v)])) (hp.objs.size + 1) (exo (hp.objs.size + 1) C (some dx)) := by
      funext b
      by_cases hb : b = hp.objs.size + 1
      · rw [hb, upd_same, upd_same]
      · rw [upd_ne hb, upd_ne hb]
        by_cases hbd : b = dx
        · rw [hbd, upd_same, upd_same]
        · rw [upd_ne hbd, upd_ne hbd, upd_ne hb]
    rw [eh]
    exact q1 _ dx hn hd' hne
  have hl : (Value.ref (hp.objs.size + 1) :: us ++ []).length = (["self", y] : List Str).length := by
    have e := r2.length
    rw [List.append_nil]
    rw [← e]
    rfl
  have bb := hb _ (Value.ref (hp.objs.size + 1) :: us) I2.kIn hl
  rw [List.append_nil] at bb
  refine wpAny_call (PySem.HandSPX.call_own F.excBase_ValueError (fun Y => PySem.HandSPX.refsVE_contains Y bm hbm) (I1.kIn _ _ hC) (PySem.W.looks_findIn I1.kIn iC) (fun self => PySem.W.bind_fn I1.kIn self tI) hus
    (codeAny_mono (F1.run _ X.stack _ _ ⟨Value.ref (hp.objs.size + 1) :: us, []⟩ (Value.ref (hp.objs.size + 1) :: us) _ _ (fun _ _ _ => False) (hr.make C us []) (I2.env0.make C us []) bb r2 hq) fun r s' hq' => ?_))
  cases r with
  | error er => exact pass0 pins σ _ _ er s' I2 hq'
  | ok fl =>
    cases fl with
    | ret u =>
      have ea := I2.after hq'
      obtain ⟨w', H2, I3, rv, ew, q2⟩ := ea
      subst ew
      exact ⟨rv, .ref (hp.objs.size + 1), H2, I3, rfl, q2⟩
    | next => exact False.elim hq'
    | brk => exact False.elim hq'
    | cont => exact False.elim hq'
end
end Aw

namespace Aw
open PySem PySem.Spec PyProof.Rows L2 NdefX

/-! ### what an exception class says, for isinstance and for its fields -/
structure ExcD (K : PySem.W.Frag) (C : Addr) : Prop where
  ga : PySem.W.findIn K (.ref C) "__getattribute__" = some (some (.builtin "BaseException.__getattribute__"))
  gg : PySem.W.findIn K (.ref C) "__getattr__" = some none
  exC : PySem.W.subIn K (.ref C) (.type "BaseException") = some true
  hdC : PySem.W.hasDictIn K C = true
  ha : PySem.W.findIn K (.ref C) "__class__" = some (some (.builtin "object.__class__"))
  hn : PySem.W.specialIn K (.builtin "object.__class__") "__get__" = some (some (.builtin "getset_descriptor.__get__"))
  ht : PySem.W.takesIn K (.builtin "object.__class__") = some true
  hm : PySem.W.mroIn K C (.type "object") = some true
theorem ExcD.cl {K : PySem.W.Frag} {C : Addr} (E : ExcD K C) : (PySem.W.clsIn K C).isSome = true := by
  obtain ⟨cd, hc, _⟩ := PySem.W.any_some E.hdC
  rw [hc]
  rfl
section
variable {K : PySem.W.Frag} {X : Cx} {a C d : Addr} {fs : List (Str × V)} {f : Str} {v : V} {oe : Obj} {H : Hp} {pins : List (Addr × Obj)} {σ : Aw.St} {s : Shared} {A : Around} {E : Value → Shared → Prop}
/-- isinstance(e, c) of an exception in hand, at a -/
def rIsV (K : PySem.W.Frag) : List V → Hp → VK → Prop := fun xs H Q => ∃ (a C : Addr) (d : Option Addr) (c : V) (cv : Value) (b : Bool), xs = [.ref a, c] ∧ ExcD K C ∧ H a = some (exo a C d) ∧ (∀ dd, d = some dd → ∃ fs, H dd = some (exd dd fs)) ∧ ClsV c cv ∧ PySem.W.kitOne K (.ref C) cv = some b ∧ Q (.bl b) H
theorem inst_exo (I : Inv X pins σ H s) {d : Option Addr} (ha : H a = some (exo a C d)) (hd : ∀ dd, d = some dd → ∃ fs, H dd = some (exd dd fs)) : ∃ oe od, PySem.W.InstAt s.heap a oe C od := by
  obtain ⟨t1, ho⟩ := exo_at I.hok ha
  cases d with
  | none => exact ⟨_, none, ho, rfl, rfl, trivial⟩
  | some dd =>
    obtain ⟨fs, hf⟩ := hd dd rfl
    obtain ⟨mA, hns, rel⟩ := exd_at I.hok hf
    obtain ⟨o, es, ep, ho', _⟩ := hns
    exact ⟨_, some o, ho, rfl, rfl, ho'⟩
theorem call_isV : CallR X (.builtin "isinstance") (rIsV X.K) := by
  intro pins s σ H xs us Q I r h
  obtain ⟨a, C, d, c, cv, b, rfl, D, ha, hd, hc, e, q⟩ := h
  cases r with
  | cons rx rr =>
    cases rr with
    | cons rt rr =>
      cases rr
      cases rx
      have ec := hc.eq rt
      subst ec
      obtain ⟨oe, od, J⟩ := inst_exo I ha hd
      exact PySem.W.kia_one (PySem.W.kitx_exc D.cl D.ga D.gg D.exC D.ha D.hn D.ht D.hm) I.kIn J e (fun z => nomatch z) fun tk => ⟨.bl b, H, I.kept (t' := tk) fun _ _ z => z, rfl, q⟩
/-- e.f of an exception in hand -/
def tXv (K : PySem.W.Frag) (f : Str) (te : TE) : TE := fun σ H Q => te σ H fun x H1 => ∃ (a C d : Addr) (fs : List (Str × V)) (v : V), x = .ref a ∧ ExcD K C ∧ PySem.W.findIn K (.ref C) f = some none ∧ H1 a = some (exo a C (some d)) ∧ H1 d = some (exd d fs) ∧ fs.lookup f = some v ∧ Q v H1
theorem pe_xv {e : Expr} {te : TE} {pos : Pos} {n : Str} (he : PE X e te) (hb : attributeBase e n X.env (eval e X.env) = eval e X.env := by rfl) : PE X (.Attribute e n pos) (tXv X.K n te) := by
  refine ⟨fun pins s σ H Q I h => ?_⟩
  refine attr_of hb (thn (he.run pins s σ H _ I h) fun u s1 hh => ?_)
  obtain ⟨x, H1, I1, rx, a, C, d, fs, v, ex, D, hno, ha, hd, l, q⟩ := hh
  subst ex
  obtain rfl : u = Value.ref a := rx
  obtain ⟨t1, ho⟩ := exo_at I1.hok ha
  obtain ⟨mA, hns, hr⟩ := exd_at I1.hok hd
  obtain ⟨od, hod, hl⟩ := lookIn_ns hns
  obtain ⟨u, hu, ru⟩ := RelO.some_of (v := v) (o := mA n) (by rw [← l]; exact hr n)
  have J : PySem.W.InstAt s1.heap a _ C (some od) := ⟨ho, rfl, rfl, hod⟩
  exact HandSPX.exc_get I1.kIn J D.ga D.gg D.exC (PySem.W.findObj_own D.hdC hno rfl (by rw [hl, hu])) (handed_of ru) ⟨v, H1, I1.tok _, ru, q⟩

/-! ### the same of an exception that is handled (pinned) -/
theorem inst_pin (I : Inv X pins σ H s) (hp : (a, oe) ∈ X.pn) {cls : Value} {d : Option Addr} (hz : Zc cls d oe) (hf : ∃ vs, oe.data = .fields vs) (ec : cls = .ref C) (hd : ∀ dd, d = some dd → ∃ fs, H dd = some (.xd fs)) : ∃ od, PySem.W.InstAt s.heap a oe C od := by
  obtain ⟨ha, _⟩ := I.pin (a, oe) (List.mem_append_left _ hp)
  obtain ⟨vs, hv⟩ := hf
  obtain ⟨z1, z2⟩ := hz
  have hn : PySem.W.notCls oe = true := by unfold PySem.W.notCls; rw [hv] <;> rfl
  cases d with
  | none => exact ⟨none, ha, z1.trans ec, hn, by rw [z2]; exact trivial⟩
  | some dd =>
    obtain ⟨fs, h⟩ := hd dd rfl
    have hx : ObjOk X.prog X.w H s.heap dd (.xd fs) := I.hok dd _ h
    obtain ⟨mA, ⟨o, es, ep, ho, _⟩, _⟩ := hx
    exact ⟨some o, ha, z1.trans ec, hn, by rw [z2]; exact ho⟩
def rIsP (K : PySem.W.Frag) (a : Addr) (cls : Value) (d : Option Addr) : List V → Hp → VK → Prop := fun xs H Q => ∃ (C : Addr) (c : V) (cv : Value) (b : Bool), xs = [.ref a, c] ∧ cls = .ref C ∧ ExcD K C ∧ (∀ dd, d = some dd → ∃ fs, H dd = some (.xd fs)) ∧ ClsV c cv ∧ PySem.W.kitOne K (.ref C) cv = some b ∧ Q (.bl b) H
theorem call_isP {cls : Value} {d : Option Addr} (hp : (a, oe) ∈ X.pn) (hz : Zc cls d oe) (hf : ∃ vs, oe.data = .fields vs) : CallR X (.builtin "isinstance") (rIsP X.K a cls d) := by
  intro pins s σ H xs us Q I r h
  obtain ⟨C, c, cv, b, rfl, ec, D, hd, hc, e, q⟩ := h
  cases r with
  | cons rx rr =>
    cases rr with
    | cons rt rr =>
      cases rr
      cases rx
      have eq := hc.eq rt
      subst eq
      obtain ⟨od, J⟩ := inst_pin I hp hz hf ec hd
      exact PySem.W.kia_one (PySem.W.kitx_exc D.cl D.ga D.gg D.exC D.ha D.hn D.ht D.hm) I.kIn J e (fun z => nomatch z) fun tk => ⟨.bl b, H, I.kept (t' := tk) fun _ _ z => z, rfl, q⟩
def tXp (K : PySem.W.Frag) (a : Addr) (cls : Value) (d : Option Addr) (f : Str) (te : TE) : TE := fun σ H Q => te σ H fun x H1 => x = .ref a ∧ ∃ (C dd : Addr) (fs : List (Str × V)) (v : V), cls = .ref C ∧ ExcD K C ∧ PySem.W.findIn K (.ref C) f = some none ∧ d = some dd ∧ H1 dd = some (.xd fs) ∧ fs.lookup f = some v ∧ Q v H1
theorem pe_xp {cls : Value} {d : Option Addr} {e : Expr} {te : TE} {pos : Pos} {n : Str} (hp : (a, oe) ∈ X.pn) (hz : Zc cls d oe) (hf : ∃ vs, oe.data = .fields vs) (he : PE X e te) (hb : attributeBase e n X.env (eval e X.env) = eval e X.env := by rfl) : PE X (.Attribute e n pos) (tXp X.K a cls d n te) := by
  refine ⟨fun pins s σ H Q I h => ?_⟩
  refine attr_of hb (thn (he.run pins s σ H _ I h) fun u s1 hh => ?_)
  obtain ⟨x, H1, I1, rx, ex, C, dd, fs, v, ec, D, hno, ed, ea, l, q⟩ := hh
  subst ex
  obtain rfl : u = Value.ref a := rx
  subst ec ed
  obtain ⟨ha, _⟩ := I1.pin (a, oe) (List.mem_append_left _ hp)
  obtain ⟨vs, hd⟩ := hf
  have hx : ObjOk X.prog X.w H1 s1.heap dd (.xd fs) := I1.hok dd _ ea
  obtain ⟨mA, hns, hr⟩ := hx
  obtain ⟨od, ho, hl⟩ := lookIn_ns hns
  obtain ⟨u, hu, ru⟩ := RelO.some_of (v := v) (o := mA n) (by rw [← l]; exact hr n)
  have J : PySem.W.InstAt s1.heap a oe C (some od) := ⟨ha, hz.1, by unfold PySem.W.notCls; rw [hd] <;> rfl, by rw [hz.2]; exact ho⟩
  exact HandSPX.exc_get I1.kIn J D.ga D.gg D.exC (PySem.W.findObj_own D.hdC hno rfl (by rw [hl, hu])) (handed_of ru) ⟨v, H1, I1.tok _, ru, q⟩
end
/-! ### a def that is called within an except suite, with the exception handled as argument -/
structure FnE (P : Program) (w : World) (K : PySem.W.Frag) (mg : Str → Option Value) (base : Heap) (k : Nat) (f : Addr) (fd : FuncData) (ps : List Str) (sp : Addr → Value → Option Addr → Sp) : Prop where
  len : ∀ a c d vs H Q E, sp a c d vs H Q E → vs.length = ps.length
  run : ∀ (A : Around) (outer : List Env) (s : Shared) (H : Hp) (args : Args) (us : List Value) (vs : List V) (Q : VK) (E : XK) (p : Addr × Obj) (cls : Value) (d : Option Addr), L2H.RoomH k A → L2H.PinOk outer H s p → Zc cls d p.2 → (∃ vs, p.2.data = .fields vs) → Env0 P w K mg base A outer s H → BindsTo s fd args (ps.zip us) → Vals vs us → sp p.1 cls d vs H Q E →
    codeAny (model P w) A (.call (.ref f) args) (CR CX0 outer P w H s Q E) s
theorem fn_ofE {P : Program} {w : World} {K : PySem.W.Frag} {mg : Str → Option Value} {base : Heap} {k : Nat} {f : Addr} {name qual : Str} {params : Arguments} {body : List Stmt} {scope : Scope} {dV kV doc pm cdv ct oc : Value} {an od : Option Addr}
    {osl : Array (Option Value)} {N ps : List Str} {sp : Addr → Value → Option Addr → Sp} (lk : K.lookup f = some ⟨oc, od, .func (PySem.W.fnOf name qual params body scope dV kV doc pm an cdv ct), osl⟩) (hcd : PySem.W.codeIn K cdv qual = true) (S : FnScope N ps scope)
    (len : ∀ a c d vs H Q E, sp a c d vs H Q E → vs.length = ps.length)
    (hbody : ∀ (A : Around) (outer : List Env) (s : Shared) (H : Hp) (vs : List V) (Q : VK) (E : XK) (p : Addr × Obj) (cls : Value) (d : Option Addr), Zc cls d p.2 → (∃ vs, p.2.data = .fields vs) → L2H.RoomH k (A.deeper (envOfC qual scope s.heap.objs.size f cdv)) → sp p.1 cls d vs H Q E →
      ∃ t, PSs (L2H.cxH CX0 P w K mg base N qual scope f cdv A outer s H E p) body t ∧ t { nx := fun _ H' => Q .non H', rt := Q } (L2.start N vs) H) :
    FnE P w K mg base (k + 1) f (PySem.W.fnOf name qual params body scope dV kV doc pm an cdv ct) ps sp := by
  refine ⟨len, fun A outer s H args us vs Q E p cls d hr hpin hz hf e0 hb r hsp => ?_⟩
  have hl := len _ _ _ _ _ _ _ hsp
  have KX : K.In s.heap := e0.mod.kin.keeps fun b o e => (e0.bs b o e).1
  have lim : s.heap.NoLimit := e0.mod.nolimit.keeps fun b o e => (e0.bs b o e).1
  have hkind : ∀ y ∈ ps.zip us, scope.names.lookup y.1 = some .local ∨ (scope.names.lookup y.1 = some .cell ∧ ((cellsFrom (s.heap.objs.size + 1) scope.names []).lookup y.1).isSome = true) := fun ⟨n, v⟩ hy => by
    rcases S.par n (List.of_mem_zip hy).1 with q | q
    · exact .inl q
    · exact .inr ⟨q, PySem.W.cellsFrom_some _ _ _ (.inl q)⟩
  refine codeAny_call_function hr.depth (KX _ _ lk) rfl S.co S.gen rfl (PySem.W.codeRec_of KX hcd) (hb _ _ _ _ ?_)
  refine wpAny_newFunctionEnv_cells S.kind hkind fun env he s1 x => ?_
  subst he
  refine ⟨lim.keeps x.toInCall.keep, codeAny_func ?_⟩
  obtain ⟨t, ht, hq⟩ := hbody A outer s H vs Q E p cls d hz hf (hr.deeper _) hsp
  have I : Inv (L2H.cxH CX0 P w K mg base N qual scope f cdv A outer s H E p) [] (L2.start N vs) H s1 := L2H.inv_startH S hpin e0 hl r x
  refine wpAny_mono (ht.run [] s1 (L2.start N vs) H _ I hq) (fun fl s' hs => ?_) fun e s' hs => hs
  have fin : ∀ {σ' : Aw.St} {H' : Hp} {v : V} {u : Value}, Inv (L2H.cxH CX0 P w K mg base N qual scope f cdv A outer s H E p) [] σ' H' s' → RelV v u → Q v H' → CE outer P w H s Q u s' :=
    fun {σ' H' v u} J rv q => ⟨v, H', J.os, J.bare, J.base, J.hok, rv, q⟩
  cases fl with
  | ret u =>
    obtain ⟨v, σ', H', J, rv, q⟩ := hs
    exact fin J rv q
  | next =>
    obtain ⟨σ', H', J, q⟩ := hs
    exact fin (v := V.non) (u := Value.none) J rfl q
  | brk =>
    obtain ⟨_, _, _, q⟩ := hs
    exact False.elim q
  | cont =>
    obtain ⟨_, _, _, q⟩ := hs
    exact False.elim q
section
variable {X : Cx} {k : Nat} {f : Addr} {fd : FuncData} {ps : List Str} {sp : Addr → Value → Option Addr → Sp} {x : Str} {q pos : Pos} {e : Expr} {es : List Expr} {t : TA} {a : Addr} {oe : Obj}
/-- f(.., e, ..) in the suite -/
theorem pe_callE {cls : Value} {d : Option Addr} (F : FnE X.prog X.w X.K X.mg X.base k f fd ps sp) (hr : L2H.RoomH k X.A) (hp : (a, oe) ∈ X.pn) (hz : Zc cls d oe) (hf : ∃ vs, oe.data = .fields vs) (hg : Gl X x) (hm : X.mg x = some (.ref f)) (hk : PySem.W.keepIn X.K (.ref f) = true) (hb : Binds X.K fd ps [])
    (ha : PA X (e :: es) t) (hdb : (x == ("__debug__" : Str)) = false := by decide) (he : starEach (e :: es) X.env = (false, eval e X.env) :: starEach es X.env := by rfl) (hpl : (backTo pos (starEach es X.env)).any (·.1) = false := by rfl) :
    PE X (.Call (.Name x q) (e :: es) [] pos) (fun σ H Q => t σ H fun vs H1 => sp a cls d vs H1 Q E0) := by
  refine ⟨fun pins s σ H Q I h => ?_⟩
  refine wpAny_Call_Name_kw (ld_glob I hg hm ?_ hdb)
  refine PySem.W.callWith_K (h₀ := X.base) I.ok.mod.kin hk (thn (ha.run pos pins s σ H _ I h) fun us s1 ⟨vs, H1, I1, r, q⟩ => ⟨I1.kIn, ?_⟩) he hpl
  have hl : us.length = ps.length := by rw [← r.length]; exact F.len _ _ _ _ _ _ _ q
  have b := hb s1 us I1.kIn (by rw [List.append_nil]; exact hl)
  rw [List.append_nil] at b
  have P1 := I1.pin (a, oe) (List.mem_append_left _ hp)
  have hpin : L2H.PinOk X.stack H1 s1 (a, oe) := ⟨P1.1, P1.2.1, fun hm => (List.mem_cons.mp (I1.stkSub a hm)).elim P1.2.2.1 P1.2.2.2.1, P1.2.2.2.2⟩
  refine wpAny_call (codeAny_mono (F.run X.A X.stack s1 H1 ⟨us, []⟩ us vs Q E0 (a, oe) cls d hr hpin hz hf I1.env0 b r q) fun r s' hq => ?_)
  cases r with
  | error e => exact False.elim hq
  | ok fl =>
    cases fl with
    | ret u => exact I1.after hq
    | next => exact False.elim hq
    | brk => exact False.elim hq
    | cont => exact False.elim hq
end
/-- room within the suite -/
theorem roomH_suite {X : Cx} {k : Nat} (r : Room k X.A) {a : Addr} {pn : List (Addr × Obj)} : L2H.RoomH k (X.suite a pn).A := ⟨r.dp, r.un⟩
end Aw

namespace Aw
open PySem PySem.Spec PyProof.Rows L2 NdefX
def top (i : Nat) : Stmt := PySem.Challenge.pw_allwordlengths_k00_errors_made_from_thei.main.body.getD i (.Pass ⟨0, 0, 0, 0⟩)
end Aw

namespace Aw
open PySem PySem.Spec PyProof.Rows L2 NdefX
abbrev sPen : Stmt := (top 20)
abbrev sDraw : Stmt := (top 21)
/-! ### the pen of a law -/
def penL (c : Addr) (i l : Int) : List (Key × V) := [(.inr "cells", .ref c), (.inr "at", .int i), (.inr "left", .int l)]
theorem ne_ca : ¬ ((Sum.inr "cells" : Key) = .inr "at") := by decide +kernel
theorem ne_cl : ¬ ((Sum.inr "cells" : Key) = .inr "left") := by decide +kernel
theorem ne_al : ¬ ((Sum.inr "at" : Key) = .inr "left") := by decide +kernel
theorem pen_cells {c : Addr} {i l : Int} : valV (penL c i l) (.inr "cells") = some (.ref c) := valV_pos rfl
theorem pen_at {c : Addr} {i l : Int} : valV (penL c i l) (.inr "at") = some (.int i) := (valV_neg ne_ca).trans (valV_pos rfl)
theorem pen_left {c : Addr} {i l : Int} : valV (penL c i l) (.inr "left") = some (.int l) := (valV_neg ne_cl).trans ((valV_neg ne_al).trans (valV_pos rfl))
theorem pen_putat {c : Addr} {i l j : Int} : putK (penL c i l) (.inr "at") (.int j) = penL c j l := by
  unfold putK
  rw [if_pos (by rw [valV_any, pen_at]; rfl)]
  simp only [penL, List.map_cons, List.map_nil, if_neg ne_ca, if_neg (fun z : (Sum.inr "left" : Key) = .inr "at" => ne_al z.symm), if_pos]
theorem pen_putleft {c : Addr} {i l j : Int} : putK (penL c i l) (.inr "left") (.int j) = penL c i j := by
  unfold putK
  rw [if_pos (by rw [valV_any, pen_left]; rfl)]
  simp only [penL, List.map_cons, List.map_nil, if_neg ne_cl, if_neg ne_al, if_pos]
/-- a pen stands at p, its cells at c; it has been drawn from at most n times -/
structure Pen (H : Hp) (p c : Addr) (n : Nat) : Prop where
  ex : ∃ (cells : List Int) (i l : Int), H p = some (.dK (penL c i l)) ∧ H c = some (.lst (cells.map V.int)) ∧ cells.length ≤ 63 ∧ 0 ≤ i ∧ i ≤ n ∧ 0 ≤ l
theorem Pen.pc {H : Hp} {p c : Addr} {n : Nat} (P : Pen H p c n) : p ≠ c := by
  obtain ⟨cells, i, l, h1, h2, _⟩ := P.ex
  exact ne_of h1 h2 (fun z => by cases z)
theorem Pen.mono {H : Hp} {p c : Addr} {n m : Nat} (P : Pen H p c n) (h : n ≤ m) : Pen H p c m := by
  obtain ⟨cells, i, l, h1, h2, h3, h4, h5, h6⟩ := P.ex
  exact ⟨cells, i, l, h1, h2, h3, h4, by omega, h6⟩
theorem Pen.same {H H' : Hp} {p c : Addr} {n : Nat} (P : Pen H p c n) (s : Same H H') : Pen H' p c n := by
  obtain ⟨cells, i, l, h1, h2, h3⟩ := P.ex
  exact ⟨cells, i, l, s _ _ h1, s _ _ h2, h3⟩
theorem Pen.upd {H : Hp} {p c a : Addr} {n : Nat} {o : HO} (P : Pen H p c n) (h1 : a ≠ p) (h2 : a ≠ c) : Pen (upd H a o) p c n := by
  obtain ⟨cells, i, l, e1, e2, h3⟩ := P.ex
  exact ⟨cells, i, l, by rw [upd_ne h1.symm]; exact e1, by rw [upd_ne h2.symm]; exact e2, h3⟩
theorem Pen.some1 {H : Hp} {p c : Addr} {n : Nat} (P : Pen H p c n) : ∃ o, H p = some o := by
  obtain ⟨cells, i, l, e1, e2, h3⟩ := P.ex
  exact ⟨_, e1⟩
theorem Pen.some2 {H : Hp} {p c : Addr} {n : Nat} (P : Pen H p c n) : ∃ o, H c = some o := by
  obtain ⟨cells, i, l, e1, e2, h3⟩ := P.ex
  exact ⟨_, e2⟩
theorem Pen.new {H : Hp} {p c a : Addr} {n : Nat} {o : HO} (P : Pen H p c n) (h : H a = none) : Pen (L2.upd H a o) p c n := by
  obtain ⟨o1, e1⟩ := P.some1
  obtain ⟨o2, e2⟩ := P.some2
  exact P.upd (ne_of_none e1 h).symm (ne_of_none e2 h).symm
/-- all but p is as it was -/
def But (p : Addr) (H H' : Hp) : Prop := ∀ b o, H b = some o → b ≠ p → H' b = some o
theorem But.trans {p : Addr} {H H1 H2 : Hp} (a : But p H H1) (b : But p H1 H2) : But p H H2 := fun c o e n => b c o (a c o e n) n
theorem But.same {p : Addr} {H H1 : Hp} (a : Same H H1) : But p H H1 := fun c o e _ => a c o e
theorem But.lst {p a : Addr} {H H1 : Hp} {xs : List V} (k : But p H H1) (h : H a = some (.lst xs)) (hp : a ≠ p) : H1 a = some (.lst xs) := k a _ h hp
theorem same_upd {H : Hp} {a : Addr} {o : HO} (h : H a = none) : Same H (upd H a o) := fun b u e => by rw [upd_ne (ne_of_none e h)]; exact e
/-- _law_pen: a new pen -/
def spPen (K : PySem.W.Frag) : Sp := fun vs H Q _ => ∃ (a : Addr) (ns : List Int), vs = [.ref a] ∧ SqL K H a (ns.map V.int) ∧ ns.length ≤ 63 ∧ ∀ p c H', Same H H' → H p = none → H c = none → Pen H' p c 0 → Q (.ref p) H'
/-- _law_draw: a number below many -/
def spDraw : Sp := fun vs H Q _ => ∃ (p c : Addr) (many : Int) (n : Nat), vs = [.ref p, .int many] ∧ Pen H p c n ∧ n ≤ 1000000 ∧ 0 < many ∧ many < 1073741824 ∧
  ∀ r H', 0 ≤ r → r < many → But p H H' → Pen H' p c (n + 1) → Q (.int r) H'
/-- what the walk asks of the top's names -/
structure TxtP (mg : Str → Option Value) (fDraw : Addr) : Prop where
  list : mg "list" = none
  int : mg "int" = none
  len : mg "len" = none
  draw : mg "_law_draw" = some (.ref fDraw)
section
variable {P : Program} {w : World} {K : PySem.W.Frag} {mg : Str → Option Value} {base : Heap}
theorem scPen : FnScope ["_law_script"] ["_law_script"] (defScope sPen) := ⟨rfl, rfl, rfl, by decide +kernel, rfl, by decide +kernel, by decide +kernel⟩
theorem ok_pen {f g : Addr} {fd : FuncData} (F : Fun K "_law_pen" "_law_pen" sPen f fd) (T : TxtP mg g) : FnOk P w K mg base CX0 1 f fd ["_law_script"] (spPen K) := by
  refine F.ok scPen (fun vs H Q E h => ?_) (fun cdv A outer s H vs Q E hr h => ?_)
  · obtain ⟨p, c, rfl, _⟩ := h
    rfl
  · obtain ⟨a, ns, rfl, hS, hl, k⟩ := h
    refine ⟨_, pss_one (ps_ret (pe_disp (pps_cons pe_str (pe_callTy call_list_of (by rfl) T.list (by decide +kernel) (pa_cons (pe_slice sl_list (pv 0) po_none (po_some pe_int)) pa_nil))
      (pps_cons pe_str pe_int (pps_cons pe_str pe_int pps_nil))) (by rfl) (by rfl) (fun z => by cases z) (by decide))), ?_⟩
    intro p hp
    have hS1 : SqL K (upd H p (.dK [])) a (ns.map V.int) := (same_upd hp).seq hS
    refine ⟨_, rfl, 63, rfl, a, _, rfl, hS1, fun q hq => ?_⟩
    have e63 : cutV (ns.map V.int) none (some (63 : Int)) = ns.map V.int := by
      unfold cutV
      rw [List.length_map, HT.sIx_none ns.length 0, List.drop_zero]
      have : HT.sIx ns.length ns.length (some (63 : Int)) = ns.length := by
        show (if (63 : Int) < 0 then ((63 : Int) + (ns.length : Int)).toNat else min (63 : Int).toNat ns.length) = ns.length
        rw [if_neg (by decide)]
        exact Nat.min_eq_right (by omega)
      rw [this, Nat.sub_zero]
      exact List.take_of_length_le (by rw [List.length_map]; exact Nat.le_refl ns.length)
    rw [e63]
    refine ⟨q, _, rfl, .inl (SqL.of upd_same), fun c hc => ?_⟩
    have hpq : p ≠ q := ne_of_none upd_same hq
    have hpc : p ≠ c := ne_of_none (show upd (upd H p (.dK [])) q (.lst (ns.map V.int)) p = some (.dK []) by rw [upd_ne hpq, upd_same]) hc
    have hcp : upd H p (.dK []) c = none := by
      by_cases e : c = q
      · rw [e, upd_same] at hc; cases hc
      · rw [upd_ne e] at hc; exact hc
    have hcn : H c = none := by
      rw [upd_ne hpc.symm] at hcp
      exact hcp
    refine ⟨by rw [upd_ne hpc, upd_ne hpq, upd_same], penL c 0 0, rfl, by show 3 ≤ 15; decide, ?_⟩
    have em : mergeK [] (penL c 0 0) = penL c 0 0 := by
      unfold mergeK penL
      simp only [List.foldl_cons, List.foldl_nil]
      rw [putK_new _ (show valV ([] : List (Key × V)) _ = none from rfl), putK_new, putK_new]
      · rfl
      · exact (valV_neg ne_ca).trans rfl
      · exact (valV_neg ne_cl).trans ((valV_neg ne_al).trans rfl)
    rw [em]
    refine k p c _ (fun b o e => ?_) hp hcn ⟨⟨ns, 0, 0, upd_same, ?_, hl, by decide, by decide, by decide⟩⟩
    · have hbp : b ≠ p := ne_of_none e hp
      have hbq : b ≠ q := ne_of_none (show upd H p (.dK []) b = some o by rw [upd_ne hbp]; exact e) hq
      rw [upd_ne hbp, upd_ne (ne_of_none e hcn), upd_ne hbq, upd_ne hbp]
      exact e
    · rw [upd_ne hpc.symm, upd_same]

theorem scDraw : FnScope ["_law_pen_here", "_law_many", "_law_digit", "_law_spot", "_law_cell", "_law_mixed"] ["_law_pen_here", "_law_many"] (defScope sDraw) := ⟨rfl, rfl, rfl, by decide +kernel, rfl, by decide +kernel, by decide +kernel⟩
theorem ints_flat {H : Hp} (ns : List Int) : DpAll K H (ns.map V.int) (ns.map PyData.int) := by
  induction ns with
  | nil => exact .nil
  | cons n ns ih => exact .cons (.int n) ih
theorem ints_shaped (ns : List Int) : SeqAt.shaped (.list (ns.map PyData.int)) = true := by
  have h1 : ∀ l : List Int, PyData.canLayAll0 (l.map PyData.int) = true := fun l => by
    induction l with
    | nil => rfl
    | cons n l ih => simp [PyData.canLayAll0, PyData.canLay0, ih]
  have h2 : ∀ l : List Int, PyData.depthAll (l.map PyData.int) ≤ 1 := fun l => by
    induction l with
    | nil => simp [PyData.depthAll]
    | cons n l ih => simp [PyData.depthAll, PyData.depth]; omega
  unfold SeqAt.shaped
  refine Bool.and_eq_true_iff.mpr ⟨h1 ns, decide_eq_true ?_⟩
  have := h2 ns
  simp only [PyData.depth]
  omega
theorem gCells {H : Hp} {p c : Addr} {i l : Int} (e : H p = some (.dK (penL c i l))) : DGet H p (.str "cells") (some (.ref c)) := by
  have h := DGet.k (k := .inr "cells") e
  rw [pen_cells] at h
  exact h
theorem gAt {H : Hp} {p c : Addr} {i l : Int} (e : H p = some (.dK (penL c i l))) : DGet H p (.str "at") (some (.int i)) := by
  have h := DGet.k (k := .inr "at") e
  rw [pen_at] at h
  exact h
theorem gLeft {H : Hp} {p c : Addr} {i l : Int} (e : H p = some (.dK (penL c i l))) : DGet H p (.str "left") (some (.int l)) := by
  have h := DGet.k (k := .inr "left") e
  rw [pen_left] at h
  exact h
theorem sAt {H : Hp} {p c : Addr} {i l j : Int} (e : H p = some (.dK (penL c i l))) : DPut H p (.str "at") (.int j) (upd H p (.dK (penL c j l))) := by
  have h := DPut.k (k := .inr "at") (v := .int j) e (by show 3 < sizeLine; decide)
  rw [pen_putat] at h
  exact h
theorem sLeft {H : Hp} {p c : Addr} {i l j : Int} (e : H p = some (.dK (penL c i l))) : DPut H p (.str "left") (.int j) (upd H p (.dK (penL c i j))) := by
  have h := DPut.k (k := .inr "left") (v := .int j) e (by show 3 < sizeLine; decide)
  rw [pen_putleft] at h
  exact h
theorem lt64 {x : Int} (h0 : 0 ≤ x) (h : x < 4294967296) : -(2 ^ 64) < x ∧ x < 2 ^ 64 := ⟨by omega, by omega⟩
theorem ok_draw {f : Addr} {fd : FuncData} (F : Fun K "_law_draw" "_law_draw" sDraw f fd) (T : TxtP mg f) : FnOk P w K mg base CX0 1 f fd ["_law_pen_here", "_law_many"] spDraw := by
  refine F.ok scDraw (fun vs H Q E h => ?_) (fun cdv A outer s H vs Q E hr h => ?_)
  · obtain ⟨p, c, many, n, rfl, _⟩ := h
    rfl
  · obtain ⟨p, c, many, n, rfl, Pn, hn, hm, hm2, k⟩ := h
    have hu := hu_of hr
    have nd := scDraw.nd
    refine ⟨_, (pss_cons (ps_if (pt_cmpR op_ge (pe_dget hu (pv 0) pe_str (fun _ _ => rfl)) (pv 1) (nomark _))
        (pss_cons (ps_set (i := 2) nd rfl (Or.inl rfl) (pe_op op_mod (pe_callTy call_int1 (by rfl) T.int (by decide +kernel) (pa_cons (pe_dget hu (pv 0) pe_str (fun _ _ => rfl)) pa_nil)) (pv 1)))
        (pss_cons (ps_dput hu (pv 0) pe_str (pe_op op_fdiv (pe_dget hu (pv 0) pe_str (fun _ _ => rfl)) (pv 1)) rfl)
        (pss_one (ps_ret (pv 2))))) pss_nil)
      (pss_cons (ps_set (i := 3) nd rfl (Or.inl rfl) (pe_dget hu (pv 0) pe_str (fun _ _ => rfl)))
      (pss_cons (ps_dput hu (pv 0) pe_str (pe_op op_add (pv 3) pe_int) rfl)
      (pss_cons (ps_if (pt_cmpR (op_eqD hr.units) (pe_dget hu (pv 0) pe_str (fun _ _ => rfl)) (pe_lst pa_nil) (nomark _))
        (pss_one (ps_ret (pe_op op_mod (pe_callTy call_int1 (by rfl) T.int (by decide +kernel) (pa_cons (pe_op op_add (pe_op op_mul pe_int (pv 3)) pe_int) pa_nil)) (pv 1)))) pss_nil)
      (pss_cons (ps_set (i := 4) nd rfl (Or.inl rfl) (pe_ix ix_list (pe_dget hu (pv 0) pe_str (fun _ _ => rfl)) (pe_op op_mod (pe_callTy call_int1 (by rfl) T.int (by decide +kernel) (pa_cons (pv 3) pa_nil)) (pe_callB call_len_seq (by rfl) T.len PySem.boot_len (pa_cons (pe_dget hu (pv 0) pe_str (fun _ _ => rfl)) pa_nil))) (fun _ _ => rfl)))
      (pss_cons (ps_if (pw_and (pt_cmpR op_lt (pv 3) (pe_callB call_len_seq (by rfl) T.len PySem.boot_len (pa_cons (pe_dget hu (pv 0) pe_str (fun _ _ => rfl)) pa_nil)) (nomark _)) (pw_and1 (pt_cmpR op_ge (pv 4) (pe_op op_pow pe_int pe_int) (nomark _)))).pt
        (pss_cons (ps_dput hu (pv 0) pe_str (pe_op op_fdiv (pe_op op_sub (pv 4) (pe_op op_pow pe_int pe_int)) (pv 1)) rfl)
        (pss_one (ps_ret (pe_op op_mod (pe_callTy call_int1 (by rfl) T.int (by decide +kernel) (pa_cons (pe_op op_sub (pv 4) (pe_op op_pow pe_int pe_int)) pa_nil)) (pv 1))))) pss_nil)
      (pss_cons (ps_set (i := 5) nd rfl (Or.inl rfl) (pe_op op_add (pe_op op_add (pe_op op_mul (pe_op op_add (pe_op op_mod (pe_callTy call_int1 (by rfl) T.int (by decide +kernel) (pa_cons (pv 4) pa_nil)) pe_int) pe_int) (pe_op op_add (pe_op op_mul pe_int (pv 3)) pe_int)) (pe_op op_mul (pe_op op_mul pe_int (pv 3)) (pv 3))) pe_int))
      (pss_cons (ps_set (i := 5) nd rfl (Or.inl rfl) (pe_op op_mod (pe_callTy call_int1 (by rfl) T.int (by decide +kernel) (pa_cons (pv 5) pa_nil)) pe_int))
      (pss_cons (ps_set (i := 5) nd rfl (Or.inl rfl) (pe_op op_mod (pe_callTy call_int1 (by rfl) T.int (by decide +kernel) (pa_cons (pe_op op_mul (pv 5) (pe_op op_add (pv 5) pe_int)) pa_nil)) pe_int))
      (pss_cons (ps_set (i := 5) nd rfl (Or.inl rfl) (pe_op op_mod (pe_callTy call_int1 (by rfl) T.int (by decide +kernel) (pa_cons (pe_op op_mul (pv 5) (pv 5)) pa_nil)) pe_int))
      (pss_one (ps_ret (pe_op op_mod (pe_callTy call_int1 (by rfl) T.int (by decide +kernel) (pa_cons (pe_op op_fdiv (pv 5) pe_int) pa_nil)) (pv 1)))))))))))))), ?_⟩
    obtain ⟨cells, i, l, e1, e2, hl, hi, hi2, hl0⟩ := Pn.ex
    have pc : p ≠ c := Pn.pc
    refine ⟨_, rfl, p, .int l, rfl, gLeft e1, _, rfl, l, many, rfl, rfl, _, rfl, ?_⟩
    by_cases hlm : many ≤ l
    · rw [decide_eq_true hlm]
      refine iteT ?_
      -- the digit
      refine ⟨_, rfl, p, .int l, rfl, gLeft e1, .inl ⟨l, rfl, _, rfl, l, many, rfl, rfl, hm, ?_⟩⟩
      refine ⟨_, rfl, p, .int l, rfl, gLeft e1, _, rfl, l, many, rfl, rfl, ⟨hm, hm2⟩, _, rfl, p, _, rfl, sLeft e1, ?_⟩
      refine ⟨_, rfl, k _ _ (Int.emod_nonneg _ (by omega)) (Int.emod_lt_of_pos _ hm) (fun b o e hb => by rw [upd_ne hb]; exact e) ⟨cells, i, l / many, upd_same, by rw [upd_ne pc.symm]; exact e2, hl, hi, by omega, Int.ediv_nonneg hl0 (by omega)⟩⟩
    · rw [decide_eq_false hlm]
      refine iteF ?_
      -- the place
      refine ⟨_, rfl, p, .int i, rfl, gAt e1, ?_⟩
      refine ⟨_, rfl, i, 1, rfl, rfl, _, rfl, p, _, rfl, sAt e1, ?_⟩
      generalize eH : upd H p (.dK (penL c (i + 1) l)) = H1
      have e1' : H1 p = some (.dK (penL c (i + 1) l)) := by rw [← eH, upd_same]
      have e2' : H1 c = some (.lst (cells.map V.int)) := by rw [← eH, upd_ne pc.symm]; exact e2
      have bt : But p H H1 := fun b o e hb => by rw [← eH, upd_ne hb]; exact e
      refine ⟨_, rfl, p, .ref c, rfl, gCells e1', by show 0 ≤ sizeLine; decide, fun q hq => ?_⟩
      have bt2 : But p H (upd H1 q (.lst [])) := bt.trans (But.same (same_upd hq))
      have e1q : upd H1 q (.lst []) p = some (.dK (penL c (i + 1) l)) := by rw [upd_ne (ne_of_none e1' hq)]; exact e1'
      have e2q : upd H1 q (.lst []) c = some (.lst (cells.map V.int)) := by rw [upd_ne (ne_of_none e2' hq)]; exact e2'
      refine ⟨.list (cells.map PyData.int), .list [], .lst (SqL.of e2q) (ints_flat _), .lst (SqL.of upd_same) .nil, ints_shaped _, by decide, _, rfl, ?_⟩
      cases cells with
      | nil =>
        refine iteT ?_
        refine ⟨_, rfl, 7, i, rfl, rfl, .inl ⟨by decide, by decide⟩, 7 * i, 3, rfl, rfl, .inl ⟨_, rfl, _, rfl, _, many, rfl, rfl, hm, ?_⟩⟩
        exact k _ _ (Int.emod_nonneg _ (by omega)) (Int.emod_lt_of_pos _ hm) bt2 ⟨[], i + 1, l, e1q, e2q, hl, by omega, by omega, hl0⟩
      | cons n0 rest =>
        refine iteF ?_
        generalize hcs : n0 :: rest = cs at *
        have hpos : 0 < cs.length := by rw [← hcs]; exact Nat.succ_pos _
        have fin : ∀ r l', 0 ≤ r → r < many → 0 ≤ l' → ∀ H', But p H H' → H' p = some (.dK (penL c (i + 1) l')) → H' c = some (.lst (cs.map V.int)) → Q (.int r) H' := fun r l' h1 h2 h3 H' b a1 a2 =>
          k r H' h1 h2 b ⟨cs, i + 1, l', a1, a2, hl, by omega, by omega, h3⟩
        have hlen : (cs.map V.int).length = cs.length := List.length_map ..
        obtain ⟨j, hj⟩ : ∃ j : Nat, i % (((cs.map V.int).length : Nat) : Int) = (j : Int) := ⟨(i % (((cs.map V.int).length : Nat) : Int)).toNat, by
          have := Int.emod_nonneg i (show (((cs.map V.int).length : Nat) : Int) ≠ 0 by rw [hlen]; omega)
          omega⟩
        have hjl : j < cs.length := by
          have := Int.emod_lt_of_pos i (show (0 : Int) < (((cs.map V.int).length : Nat) : Int) by rw [hlen]; omega)
          rw [hj, hlen] at this
          omega
        obtain ⟨x, hx⟩ : ∃ x, cs[j]? = some x := ⟨cs[j], List.getElem?_eq_getElem hjl⟩
        have hat : atI (cs.map V.int) (i % (((cs.map V.int).length : Nat) : Int)) = some (.int x) := by
          rw [hj]
          exact atI_nat (by rw [List.getElem?_map, hx]; rfl)
        refine ⟨_, rfl, p, .ref c, rfl, gCells e1q, _, rfl, .inl ⟨i, rfl, _, rfl, p, .ref c, rfl, gCells e1q, c, _, rfl, .inl (SqL.of e2q), i, _, rfl, rfl, by rw [hlen]; omega, c, _, _, .int x, rfl, rfl, SqL.of e2q, hat, ?_⟩⟩
        have hle : (0 : Int) ≤ 18 ∧ (18 : Int) ≤ 1000000 ∧ (10 : Int).natAbs < 2 ^ 64 := ⟨by decide, by decide, by decide⟩
        refine ⟨_, rfl, _, rfl, p, .ref c, rfl, gCells e1q, c, _, rfl, .inl (SqL.of e2q), i, _, rfl, rfl, _, rfl, ?_⟩
        have tail : ∀ {y : Int}, 0 ≤ y → y < 2147483648 → -(2 ^ 64) < y ∧ y < 2 ^ 64 := fun h1 h2 => ⟨by omega, by omega⟩
        have mods : ∀ (y m : Int), 0 < m → m < 2147483648 → 0 ≤ y % m ∧ y % m < 2147483648 := fun y m h1 h2 => ⟨Int.emod_nonneg _ (by omega), Int.lt_trans (Int.emod_lt_of_pos _ h1) h2⟩
        by_cases a1 : i < (((cs.map V.int).length : Nat) : Int)
        rw [decide_eq_true a1]
        refine iteT ?_
        refine ⟨_, rfl, 10, 18, rfl, rfl, hle, x, _, rfl, rfl, _, rfl, ?_⟩
        by_cases a2 : (10 : Int) ^ (18 : Int).toNat ≤ x
        · rw [decide_eq_true a2]
          refine iteT ?_
          refine ⟨_, rfl, 10, 18, rfl, rfl, hle, x, _, rfl, rfl, _, rfl, _, many, rfl, rfl, ⟨hm, hm2⟩, _, rfl, p, _, rfl, sLeft e1q, ?_⟩
          refine ⟨_, rfl, 10, 18, rfl, rfl, hle, x, _, rfl, rfl, .inl ⟨_, rfl, _, rfl, _, many, rfl, rfl, hm, ?_⟩⟩
          exact fin _ _ (Int.emod_nonneg _ (by omega)) (Int.emod_lt_of_pos _ hm) (Int.ediv_nonneg (by omega) (by omega)) _ (bt2.trans fun b o e hb => by rw [upd_ne hb]; exact e) upd_same (by rw [upd_ne pc.symm]; exact e2q)
        rw [decide_eq_false a2]
        refine iteF ?_
        rotate_left
        rw [decide_eq_false a1]
        refine iteF ?_
        refine iteF ?_
        all_goals
          obtain ⟨b1, b2⟩ := mods x 2147483629 (by decide) (by decide)
          refine ⟨_, rfl, .inl ⟨x, rfl, x, 2147483629, rfl, rfl, (by show (0 : Int) < 2147483629; decide), _, 1, rfl, rfl, _, rfl, 97, i, rfl, rfl, .inl ⟨by decide, by decide⟩, _, 40693, rfl, rfl, _, _, rfl, rfl, .inl ⟨by omega, by omega⟩,
            _, rfl, 69623, i, rfl, rfl, .inl ⟨by decide, by decide⟩, _, rfl, _, i, rfl, rfl, .inl ⟨by omega, by omega⟩, _, _, rfl, rfl, _, 11, rfl, rfl, ?_⟩⟩
          obtain ⟨y1, hy1⟩ : ∃ y, (x % 2147483629 + 1) * (97 * i + 40693) + 69623 * i * i + 11 = y := ⟨_, rfl⟩
          refine ⟨_, rfl, .inl ⟨y1, by rw [← hy1], y1, 2147483647, rfl, rfl, (by show (0 : Int) < 2147483647; decide), ?_⟩⟩
          obtain ⟨c1, c2⟩ := mods y1 2147483647 (by decide) (by decide)
          obtain ⟨y2, hy2⟩ : ∃ y, y1 % 2147483647 = y := ⟨_, rfl⟩
          rw [hy2] at c1 c2
          refine ⟨_, rfl, _, rfl, y2, 16811, by rw [← hy2], rfl, y2, _, by rw [← hy2], rfl, .inl (tail c1 c2), .inl ⟨_, rfl, _, 2147483587, rfl, rfl, (by show (0 : Int) < 2147483587; decide), ?_⟩⟩
          obtain ⟨y4, hy4⟩ : ∃ y, y2 * (y2 + 16811) % 2147483587 = y := ⟨_, rfl⟩
          obtain ⟨d1, d2⟩ := mods (y2 * (y2 + 16811)) 2147483587 (by decide) (by decide)
          rw [hy4] at d1 d2
          refine ⟨_, rfl, _, rfl, y4, y4, by rw [← hy4], by rw [← hy4], .inl (tail d1 d2), .inl ⟨_, rfl, _, 2147483563, rfl, rfl, (by show (0 : Int) < 2147483563; decide), ?_⟩⟩
          refine ⟨_, rfl, _, 64, rfl, rfl, ⟨by decide, by decide⟩, .inl ⟨_, rfl, _, rfl, _, many, rfl, rfl, hm, ?_⟩⟩
          exact fin _ l (Int.emod_nonneg _ (by omega)) (Int.emod_lt_of_pos _ hm) hl0 _ bt2 e1q e2q
end
end Aw

namespace Aw
open PySem PySem.Spec PyProof.Rows L2 NdefX
abbrev sPick : Stmt := (top 22)
/-- what But keeps -/
theorem But.seq {K : PySem.W.Frag} {p c : Addr} {n : Nat} {H H' : Hp} {a : Addr} {xs : List V} (b : But p H H') (P : Pen H p c n) (h : SqL K H a xs) : SqL K H' a xs := by
  obtain ⟨cells, i, l, e1, _⟩ := P.ex
  rcases h with (h | ⟨o, h⟩) | h
  · exact .inl (.inl (b _ _ h (ne_of h e1 (fun z => by cases z))))
  · exact .inl (.inr ⟨o, b _ _ h (ne_of h e1 (fun z => by cases z))⟩)
  · exact .inr h
theorem But.tup {K : PySem.W.Frag} {p c : Addr} {n : Nat} {H H' : Hp} {a : Addr} {xs : List V} (b : But p H H') (P : Pen H p c n) (h : SqT K H a xs) : SqT K H' a xs := by
  obtain ⟨cells, i, l, e1, _⟩ := P.ex
  rcases h with (h | ⟨o, h⟩) | h
  · exact .inl (.inl (b _ _ h (ne_of h e1 (fun z => by cases z))))
  · exact .inl (.inr ⟨o, b _ _ h (ne_of h e1 (fun z => by cases z))⟩)
  · exact .inr h
/-- _law_pick of a list -/
def spPick (K : PySem.W.Frag) : Sp := fun vs H Q _ => ∃ (p c l : Addr) (xs : List V) (n : Nat), vs = [.ref p, .ref l] ∧ Pen H p c n ∧ n ≤ 1000000 ∧ SqL K H l xs ∧ 0 < xs.length ∧ xs.length ≤ 1000000 ∧
  ∀ (r : Nat) (v : V) (H' : Hp), xs[r]? = some v → But p H H' → Pen H' p c (n + 1) → Q v H'
section
variable {P : Program} {w : World} {K : PySem.W.Frag} {mg : Str → Option Value} {base : Heap}
theorem scPick : FnScope ["_law_pen_here", "_law_some"] ["_law_pen_here", "_law_some"] (defScope sPick) := ⟨rfl, rfl, rfl, by decide +kernel, rfl, by decide +kernel, by decide +kernel⟩
theorem ok_pick {f g : Addr} {fd gd : FuncData} (F : Fun K "_law_pick" "_law_pick" sPick f fd) (T : TxtP mg g) (G : Fun K "_law_draw" "_law_draw" sDraw g gd) (bG : Binds K gd ["_law_pen_here", "_law_many"] []) : FnOk P w K mg base CX0 2 f fd ["_law_pen_here", "_law_some"] (spPick K) := by
  have GD : FnOk P w K mg base CX0 1 g gd ["_law_pen_here", "_law_many"] spDraw := ok_draw G T
  refine F.ok scPick (fun vs H Q E h => ?_) (fun cdv A outer s H vs Q E hr h => ?_)
  · obtain ⟨p, c, l, xs, n, rfl, _⟩ := h
    rfl
  · obtain ⟨p, c, l, xs, n, rfl, Pn, hn, hS, h0, h1, k⟩ := h
    refine ⟨_, (pss_one (ps_ret (pe_ix ix_list (pv 1) (pe_call GD hr (by rfl) T.draw G.kp bG .nil pass0 (pa_cons (pv 0) (pa_cons (pe_callB call_len_seq (by rfl) T.len PySem.boot_len (pa_cons (pv 1) pa_nil)) pa_nil))) (fun _ _ => rfl)))), ?_⟩
    refine ⟨_, rfl, _, rfl, _, rfl, l, xs, rfl, .inl hS, p, c, xs.length, n, rfl, Pn, hn, by omega, by omega, fun r H' hr0 hr1 b Pn' => ?_⟩
    obtain ⟨j, rfl⟩ : ∃ j : Nat, r = (j : Int) := ⟨r.toNat, by omega⟩
    obtain ⟨v, hv⟩ : ∃ v, xs[j]? = some v := ⟨xs[j]'(by omega), List.getElem?_eq_getElem (by omega)⟩
    exact ⟨l, xs, _, v, rfl, rfl, b.seq Pn hS, atI_nat hv, k j v H' hv b Pn'⟩
end
end Aw

namespace Aw
open PySem PySem.Spec PyProof.Rows L2 NdefX
/-- an own error class, made by X(v), with one field -/
structure Err (P : Program) (K : PySem.W.Frag) (mg : Str → Option Value) (x y fld : Str) (C : Addr) : Prop where
  ex : ∃ (f cc cda : Addr) (qual : Str) (args : Arguments) (body : List Stmt) (scope : Scope) (fd : FuncData), SupTxt P K mg C f cc cda qual y fld args body scope fd ∧ PySem.W.findIn K (.ref C) "__init__" = some (some (.ref f)) ∧ PySem.W.typeIn K (.ref f) = some (.type "function") ∧ Binds K fd ["self", y] []
  g : mg x = some (.ref C)
  D : ExcD K C
  hno : PySem.W.findIn K (.ref C) fld = some none
section
variable {X : Cx} {C : Addr} {y fld x : Str} {e : Expr} {es : List Expr} {ta : TA} {p pos : Pos}
theorem pe_err (Ex : Err X.prog X.K X.mg x y fld C) (hr : Room 2 X.A) (hg : Gl X x) (ha : PA X (e :: es) ta)
    (hdb : (x == ("__debug__" : Str)) = false := by decide) (he : starEach (e :: es) X.env = (false, eval e X.env) :: starEach es X.env := by rfl) (hpl : (backTo pos (starEach es X.env)).any (·.1) = false := by rfl) :
    PE X (.Call (.Name x p) (e :: es) [] pos) (tVaS C fld ta) := by
  obtain ⟨f, cc, cda, qual, args, body, scope, fd, S, iC, tI, hb⟩ := Ex.ex
  exact pe_sup S iC tI hb hr hg Ex.g ha hdb he hpl
theorem pmk_err (Ex : Err X.prog X.K X.mg x y fld C) (hr : Room 2 X.A) (hg : Gl X x) (ha : PA X (e :: es) ta)
    (hdb : (x == ("__debug__" : Str)) = false := by decide) (he : starEach (e :: es) X.env = (false, eval e X.env) :: starEach es X.env := by rfl) (hpl : (backTo pos (starEach es X.env)).any (·.1) = false := by rfl) :
    PMk X (.Call (.Name x p) (e :: es) [] pos) (tMkO C (spSup C fld) [] ta) := by
  obtain ⟨f, cc, cda, qual, args, body, scope, fd, S, iC, tI, hb⟩ := Ex.ex
  exact pmk_sup S iC tI hb hr hg Ex.g ha hdb he hpl
end
/-- an own error class without own __init__, made by X() -/
structure Err0 (K : PySem.W.Frag) (mg : Str → Option Value) (x : Str) (C : Addr) : Prop where
  q : PySem.W.excIn K C PySem.HandSPX.veTail "ValueError.__new__" = true
  kC : PySem.W.keepIn K (.ref C) = true
  g : mg x = some (.ref C)
  D : ExcD K C
section
variable {X : Cx} {C : Addr} {x : Str} {p pos : Pos}
theorem pe_err0 (Ex : Err0 X.K X.mg x C) (hg : Gl X x) (hdb : (x == ("__debug__" : Str)) = false := by decide) : PE X (.Call (.Name x p) [] [] pos) (fun _ H Q => ∀ a, H a = none → Q (.ref a) (upd H a (exo a C none))) := by
  refine ⟨fun pins s σ H Q I h => ?_⟩
  refine wpAny_Call_Name_kw (ld_glob I hg Ex.g ?_ hdb)
  refine PySem.W.callWith_K0 I.kIn Ex.kC ?_
  show wpAny _ _ (call (.ref C) []) _ _ _
  obtain ⟨bm, N, nm, qn, bs, hdct, sn, sub, ab, col, dd, k0, k1, k2, k3, k5, mN, hC, hN, hni, T⟩ := exc_obj I.kIn Ex.q
  refine wpAny_call_exc_subT F.excBase_ValueError T hC hN hni (fun h' a hm => ?_) (by show 0 ≤ sizeLine; omega)
  have hn : H a = none := I.hok.gone hm.new
  obtain ⟨t, ht, _, _⟩ := hm.there
  exact ⟨.ref a, upd H a (exo a C none), I.laidN hm.keeps hm.new hn (exo_ok ht), rfl, h a hn⟩
end
theorem ite_int {k j : Int} {A B : Prop} (h1 : k = j → A) (h2 : k ≠ j → B) : if decide (V.int k = V.int j) = true then A else B := by
  by_cases e : k = j
  · rw [decide_eq_true (by rw [e])]
    exact iteT (h1 e)
  · rw [decide_eq_false (fun z => e (V.int.inj z))]
    exact iteF (h2 e)
end Aw

namespace Aw
open PySem PySem.Spec PyProof.Rows L2 NdefX
abbrev sEarly : Stmt := (top 23)
abbrev sLate : Stmt := (top 24)
abbrev sKinds : Stmt := (top 25)
/-- the error classes of the package, by number -/
structure Errs (P : Program) (K : PySem.W.Frag) (mg : Str → Option Value) (Cf : Nat → Addr) (CW fLate : Addr) : Prop where
  e0 : Err P K mg "BadText" "text" "text" (Cf 0)
  e1 : Err P K mg "BadStep" "index" "index" (Cf 1)
  e2 : Err P K mg "BadNumber" "number" "number" (Cf 2)
  e3 : Err P K mg "BadSize" "size" "size" (Cf 3)
  e4 : Err P K mg "BadBits" "index" "index" (Cf 4)
  e5 : Err P K mg "BadLetter" "letter" "letter" (Cf 5)
  e6 : Err P K mg "TooMany" "most" "most" (Cf 6)
  e7 : Err P K mg "TooLarge" "most" "most" (Cf 7)
  e8 : Err P K mg "NotMoves" "index" "index" (Cf 8)
  e9 : Err P K mg "BadChoice" "choice" "choice" (Cf 9)
  e10 : Err P K mg "BadPlace" "place" "place" (Cf 10)
  e11 : Err P K mg "BadLook" "index" "index" (Cf 11)
  e12 : Err P K mg "BadName" "name" "name" (Cf 12)
  e13 : Err P K mg "NoName" "name" "name" (Cf 13)
  e14 : Err P K mg "BadLine" "number" "number" (Cf 14)
  e15 : Err0 K mg "NothingToUndo" (Cf 15)
  e16 : Err0 K mg "NothingToRedo" (Cf 16)
  kit : ∀ i j, i < 17 → j < 17 → PySem.W.kitOne K (.ref (Cf i)) (.ref (Cf j)) = some (decide (i = j))
  kitW : ∀ i, i < 17 → PySem.W.kitOne K (.ref (Cf i)) (.ref CW) = some true
  kitV : ∀ i, i < 17 → PySem.W.kitOne K (.ref (Cf i)) (.type "ValueError") = some true
  gW : mg "WordsError" = some (.ref CW)
  isi : mg "isinstance" = none
  ve : mg "ValueError" = none
  late : mg "_law_made_late" = some (.ref fLate)
theorem Errs.D {P : Program} {K : PySem.W.Frag} {mg : Str → Option Value} {Cf : Nat → Addr} {CW fL : Addr} (E : Errs P K mg Cf CW fL) : ∀ k, k < 17 → ExcD K (Cf k)
  | 0, _ => E.e0.D
  | 1, _ => E.e1.D
  | 2, _ => E.e2.D
  | 3, _ => E.e3.D
  | 4, _ => E.e4.D
  | 5, _ => E.e5.D
  | 6, _ => E.e6.D
  | 7, _ => E.e7.D
  | 8, _ => E.e8.D
  | 9, _ => E.e9.D
  | 10, _ => E.e10.D
  | 11, _ => E.e11.D
  | 12, _ => E.e12.D
  | 13, _ => E.e13.D
  | 14, _ => E.e14.D
  | 15, _ => E.e15.D
  | 16, _ => E.e16.D
  | k + 17, h => absurd h (by omega)
/-- an error of the class at C is in hand at a -/
def ExcAt (H : Hp) (a C : Addr) : Prop := ∃ od, H a = some (exo a C od) ∧ ∀ dd, od = some dd → ∃ fs, H dd = some (exd dd fs)
/-- the pair of the error k, made of v, and of what it keeps -/
def spMade (lo : Int) (Cf : Nat → Addr) : Sp := fun vs H Q _ => ∃ (k : Int) (v : V), vs = [.int k, v] ∧ lo ≤ k ∧ k < 17 ∧ ∀ t a H', Same H H' → H' t = some (.tup [.ref a, v]) → ExcAt H' a (Cf k.toNat) → Q (.ref t) H'
section
variable {P : Program} {w : World} {K : PySem.W.Frag} {mg : Str → Option Value} {base : Heap} {Cf : Nat → Addr} {CW : Addr}
theorem made_ans {H : Hp} {v : V} {C t a d : Addr} {f : Str} (ha : H a = none) (hd : H d = none) (hne : d ≠ a) (ht : upd (upd H d (exd d [(f, v)])) a (exo a C (some d)) t = none) :
    Same H (upd (upd (upd H d (exd d [(f, v)])) a (exo a C (some d))) t (.tup [.ref a, v])) ∧ ExcAt (upd (upd (upd H d (exd d [(f, v)])) a (exo a C (some d))) t (.tup [.ref a, v])) a C := by
  have hta : a ≠ t := ne_of_none upd_same ht
  have htd : d ≠ t := ne_of_none (show upd (upd H d (exd d [(f, v)])) a (exo a C (some d)) d = some (exd d [(f, v)]) by rw [upd_ne hne, upd_same]) ht
  refine ⟨fun b o e => ?_, some d, by rw [upd_ne hta, upd_same], fun dd e => ⟨[(f, v)], ?_⟩⟩
  · have h1 : b ≠ d := ne_of_none e hd
    have h2 : b ≠ a := ne_of_none e ha
    have e2 : upd (upd H d (exd d [(f, v)])) a (exo a C (some d)) b = some o := by rw [upd_ne h2, upd_ne h1]; exact e
    rw [upd_ne (ne_of_none e2 ht)]
    exact e2
  · have e' : d = dd := Option.some.inj e
    subst e'
    rw [upd_ne htd, upd_ne hne, upd_same]
theorem made0_ans {H : Hp} {v : V} {C t a : Addr} (ha : H a = none) (ht : upd H a (exo a C none) t = none) :
    Same H (upd (upd H a (exo a C none)) t (.tup [.ref a, v])) ∧ ExcAt (upd (upd H a (exo a C none)) t (.tup [.ref a, v])) a C := by
  have hta : a ≠ t := ne_of_none upd_same ht
  refine ⟨fun b o e => ?_, none, by rw [upd_ne hta, upd_same], fun dd e => by cases e⟩
  have h2 : b ≠ a := ne_of_none e ha
  have e2 : upd H a (exo a C none) b = some o := by rw [upd_ne h2]; exact e
  rw [upd_ne (ne_of_none e2 ht)]
  exact e2
theorem scLate : FnScope ["_law_k", "_law_worth", "_law_e"] ["_law_k", "_law_worth"] (defScope sLate) := ⟨rfl, rfl, rfl, by decide +kernel, rfl, by decide +kernel, by decide +kernel⟩
theorem scEarly : FnScope ["_law_k", "_law_worth", "_law_e"] ["_law_k", "_law_worth"] (defScope sEarly) := ⟨rfl, rfl, rfl, by decide +kernel, rfl, by decide +kernel, by decide +kernel⟩
theorem ok_late {f : Addr} {fd : FuncData} (F : Fun K "_law_made_late" "_law_made_late" sLate f fd) (Ex : Errs P K mg Cf CW f) : FnOk P w K mg base CX0 3 f fd ["_law_k", "_law_worth"] (spMade 8 Cf) := by
  refine F.ok scLate (fun vs H Q E h => ?_) (fun cdv A outer s H vs Q E hr h => ?_)
  · obtain ⟨p, c, rfl, _⟩ := h
    rfl
  · obtain ⟨k, v, rfl, h8, h17, kq⟩ := h
    have nd := scLate.nd
    refine ⟨_, (pss_cons (ps_if (pt_cmpR op_eq (pv 0) pe_int (nomark _))
        (pss_cons (ps_set (i := 2) nd rfl (Or.inl rfl) (pe_err Ex.e8 (hr.mono (by decide)) (by rfl) (pa_cons (pv 1) pa_nil)))
        (pss_one (ps_ret (pe_tup (pa_cons (pv 2) (pa_cons (pe_xv (pv 2)) pa_nil)))))) pss_nil)
      (pss_cons (ps_if (pt_cmpR op_eq (pv 0) pe_int (nomark _))
        (pss_cons (ps_set (i := 2) nd rfl (Or.inl rfl) (pe_err Ex.e9 (hr.mono (by decide)) (by rfl) (pa_cons (pv 1) pa_nil)))
        (pss_one (ps_ret (pe_tup (pa_cons (pv 2) (pa_cons (pe_xv (pv 2)) pa_nil)))))) pss_nil)
      (pss_cons (ps_if (pt_cmpR op_eq (pv 0) pe_int (nomark _))
        (pss_cons (ps_set (i := 2) nd rfl (Or.inl rfl) (pe_err Ex.e10 (hr.mono (by decide)) (by rfl) (pa_cons (pv 1) pa_nil)))
        (pss_one (ps_ret (pe_tup (pa_cons (pv 2) (pa_cons (pe_xv (pv 2)) pa_nil)))))) pss_nil)
      (pss_cons (ps_if (pt_cmpR op_eq (pv 0) pe_int (nomark _))
        (pss_cons (ps_set (i := 2) nd rfl (Or.inl rfl) (pe_err Ex.e11 (hr.mono (by decide)) (by rfl) (pa_cons (pv 1) pa_nil)))
        (pss_one (ps_ret (pe_tup (pa_cons (pv 2) (pa_cons (pe_xv (pv 2)) pa_nil)))))) pss_nil)
      (pss_cons (ps_if (pt_cmpR op_eq (pv 0) pe_int (nomark _))
        (pss_cons (ps_set (i := 2) nd rfl (Or.inl rfl) (pe_err Ex.e12 (hr.mono (by decide)) (by rfl) (pa_cons (pv 1) pa_nil)))
        (pss_one (ps_ret (pe_tup (pa_cons (pv 2) (pa_cons (pe_xv (pv 2)) pa_nil)))))) pss_nil)
      (pss_cons (ps_if (pt_cmpR op_eq (pv 0) pe_int (nomark _))
        (pss_cons (ps_set (i := 2) nd rfl (Or.inl rfl) (pe_err Ex.e13 (hr.mono (by decide)) (by rfl) (pa_cons (pv 1) pa_nil)))
        (pss_one (ps_ret (pe_tup (pa_cons (pv 2) (pa_cons (pe_xv (pv 2)) pa_nil)))))) pss_nil)
      (pss_cons (ps_if (pt_cmpR op_eq (pv 0) pe_int (nomark _))
        (pss_cons (ps_set (i := 2) nd rfl (Or.inl rfl) (pe_err Ex.e14 (hr.mono (by decide)) (by rfl) (pa_cons (pv 1) pa_nil)))
        (pss_one (ps_ret (pe_tup (pa_cons (pv 2) (pa_cons (pe_xv (pv 2)) pa_nil)))))) pss_nil)
      (pss_cons (ps_if (pt_cmpR op_eq (pv 0) pe_int (nomark _))
        (pss_one (ps_ret (pe_tup (pa_cons (pe_err0 Ex.e15 (by rfl)) (pa_cons (pv 1) pa_nil))))) pss_nil)
      (pss_one (ps_ret (pe_tup (pa_cons (pe_err0 Ex.e16 (by rfl)) (pa_cons (pv 1) pa_nil))))))))))))), ?_⟩
    refine ⟨_, rfl, rfl, _, rfl, ?_⟩
    refine ite_int (fun e => ?_) (fun ne8 => ?_)
    · subst e
      refine ⟨v, rfl, v, rfl, fun a d ha hd hne => ?_⟩
      refine ⟨_, rfl, _, rfl, a, Cf 8, d, _, v, rfl, Ex.e8.D, Ex.e8.hno, upd_same, (by rw [upd_ne hne, upd_same]), (by simp [List.lookup]), (by show 2 ≤ sizeLine; decide), fun t ht => ?_⟩
      obtain ⟨s1, x1⟩ := made_ans (v := v) ha hd hne ht
      exact kq t a _ s1 upd_same x1
    refine ⟨_, rfl, rfl, _, rfl, ?_⟩
    refine ite_int (fun e => ?_) (fun ne9 => ?_)
    · subst e
      refine ⟨v, rfl, v, rfl, fun a d ha hd hne => ?_⟩
      refine ⟨_, rfl, _, rfl, a, Cf 9, d, _, v, rfl, Ex.e9.D, Ex.e9.hno, upd_same, (by rw [upd_ne hne, upd_same]), (by simp [List.lookup]), (by show 2 ≤ sizeLine; decide), fun t ht => ?_⟩
      obtain ⟨s1, x1⟩ := made_ans (v := v) ha hd hne ht
      exact kq t a _ s1 upd_same x1
    refine ⟨_, rfl, rfl, _, rfl, ?_⟩
    refine ite_int (fun e => ?_) (fun ne10 => ?_)
    · subst e
      refine ⟨v, rfl, v, rfl, fun a d ha hd hne => ?_⟩
      refine ⟨_, rfl, _, rfl, a, Cf 10, d, _, v, rfl, Ex.e10.D, Ex.e10.hno, upd_same, (by rw [upd_ne hne, upd_same]), (by simp [List.lookup]), (by show 2 ≤ sizeLine; decide), fun t ht => ?_⟩
      obtain ⟨s1, x1⟩ := made_ans (v := v) ha hd hne ht
      exact kq t a _ s1 upd_same x1
    refine ⟨_, rfl, rfl, _, rfl, ?_⟩
    refine ite_int (fun e => ?_) (fun ne11 => ?_)
    · subst e
      refine ⟨v, rfl, v, rfl, fun a d ha hd hne => ?_⟩
      refine ⟨_, rfl, _, rfl, a, Cf 11, d, _, v, rfl, Ex.e11.D, Ex.e11.hno, upd_same, (by rw [upd_ne hne, upd_same]), (by simp [List.lookup]), (by show 2 ≤ sizeLine; decide), fun t ht => ?_⟩
      obtain ⟨s1, x1⟩ := made_ans (v := v) ha hd hne ht
      exact kq t a _ s1 upd_same x1
    refine ⟨_, rfl, rfl, _, rfl, ?_⟩
    refine ite_int (fun e => ?_) (fun ne12 => ?_)
    · subst e
      refine ⟨v, rfl, v, rfl, fun a d ha hd hne => ?_⟩
      refine ⟨_, rfl, _, rfl, a, Cf 12, d, _, v, rfl, Ex.e12.D, Ex.e12.hno, upd_same, (by rw [upd_ne hne, upd_same]), (by simp [List.lookup]), (by show 2 ≤ sizeLine; decide), fun t ht => ?_⟩
      obtain ⟨s1, x1⟩ := made_ans (v := v) ha hd hne ht
      exact kq t a _ s1 upd_same x1
    refine ⟨_, rfl, rfl, _, rfl, ?_⟩
    refine ite_int (fun e => ?_) (fun ne13 => ?_)
    · subst e
      refine ⟨v, rfl, v, rfl, fun a d ha hd hne => ?_⟩
      refine ⟨_, rfl, _, rfl, a, Cf 13, d, _, v, rfl, Ex.e13.D, Ex.e13.hno, upd_same, (by rw [upd_ne hne, upd_same]), (by simp [List.lookup]), (by show 2 ≤ sizeLine; decide), fun t ht => ?_⟩
      obtain ⟨s1, x1⟩ := made_ans (v := v) ha hd hne ht
      exact kq t a _ s1 upd_same x1
    refine ⟨_, rfl, rfl, _, rfl, ?_⟩
    refine ite_int (fun e => ?_) (fun ne14 => ?_)
    · subst e
      refine ⟨v, rfl, v, rfl, fun a d ha hd hne => ?_⟩
      refine ⟨_, rfl, _, rfl, a, Cf 14, d, _, v, rfl, Ex.e14.D, Ex.e14.hno, upd_same, (by rw [upd_ne hne, upd_same]), (by simp [List.lookup]), (by show 2 ≤ sizeLine; decide), fun t ht => ?_⟩
      obtain ⟨s1, x1⟩ := made_ans (v := v) ha hd hne ht
      exact kq t a _ s1 upd_same x1
    refine ⟨_, rfl, rfl, _, rfl, ?_⟩
    refine ite_int (fun e => ?_) (fun ne15 => ?_)
    · subst e
      intro a ha
      refine ⟨_, rfl, (by show 2 ≤ sizeLine; decide), fun t ht => ?_⟩
      obtain ⟨s1, x1⟩ := made0_ans (v := v) ha ht
      exact kq t a _ s1 upd_same x1
    obtain rfl : k = 16 := by omega
    intro a ha
    refine ⟨_, rfl, (by show 2 ≤ sizeLine; decide), fun t ht => ?_⟩
    obtain ⟨s1, x1⟩ := made0_ans (v := v) ha ht
    exact kq t a _ s1 upd_same x1
theorem ok_early {f g : Addr} {fd gd : FuncData} (F : Fun K "_law_made_early" "_law_made_early" sEarly f fd) (G : Fun K "_law_made_late" "_law_made_late" sLate g gd) (bG : Binds K gd ["_law_k", "_law_worth"] []) (Ex : Errs P K mg Cf CW g) : FnOk P w K mg base CX0 4 f fd ["_law_k", "_law_worth"] (spMade 0 Cf) := by
  have GL : FnOk P w K mg base CX0 3 g gd ["_law_k", "_law_worth"] (spMade 8 Cf) := ok_late G Ex
  refine F.ok scEarly (fun vs H Q E h => ?_) (fun cdv A outer s H vs Q E hr h => ?_)
  · obtain ⟨p, c, rfl, _⟩ := h
    rfl
  · obtain ⟨k, v, rfl, h8, h17, kq⟩ := h
    have nd := scEarly.nd
    refine ⟨_, (pss_cons (ps_if (pt_cmpR op_eq (pv 0) pe_int (nomark _))
        (pss_cons (ps_set (i := 2) nd rfl (Or.inl rfl) (pe_err Ex.e0 (hr.mono (by decide)) (by rfl) (pa_cons (pv 1) pa_nil)))
        (pss_one (ps_ret (pe_tup (pa_cons (pv 2) (pa_cons (pe_xv (pv 2)) pa_nil)))))) pss_nil)
      (pss_cons (ps_if (pt_cmpR op_eq (pv 0) pe_int (nomark _))
        (pss_cons (ps_set (i := 2) nd rfl (Or.inl rfl) (pe_err Ex.e1 (hr.mono (by decide)) (by rfl) (pa_cons (pv 1) pa_nil)))
        (pss_one (ps_ret (pe_tup (pa_cons (pv 2) (pa_cons (pe_xv (pv 2)) pa_nil)))))) pss_nil)
      (pss_cons (ps_if (pt_cmpR op_eq (pv 0) pe_int (nomark _))
        (pss_cons (ps_set (i := 2) nd rfl (Or.inl rfl) (pe_err Ex.e2 (hr.mono (by decide)) (by rfl) (pa_cons (pv 1) pa_nil)))
        (pss_one (ps_ret (pe_tup (pa_cons (pv 2) (pa_cons (pe_xv (pv 2)) pa_nil)))))) pss_nil)
      (pss_cons (ps_if (pt_cmpR op_eq (pv 0) pe_int (nomark _))
        (pss_cons (ps_set (i := 2) nd rfl (Or.inl rfl) (pe_err Ex.e3 (hr.mono (by decide)) (by rfl) (pa_cons (pv 1) pa_nil)))
        (pss_one (ps_ret (pe_tup (pa_cons (pv 2) (pa_cons (pe_xv (pv 2)) pa_nil)))))) pss_nil)
      (pss_cons (ps_if (pt_cmpR op_eq (pv 0) pe_int (nomark _))
        (pss_cons (ps_set (i := 2) nd rfl (Or.inl rfl) (pe_err Ex.e4 (hr.mono (by decide)) (by rfl) (pa_cons (pv 1) pa_nil)))
        (pss_one (ps_ret (pe_tup (pa_cons (pv 2) (pa_cons (pe_xv (pv 2)) pa_nil)))))) pss_nil)
      (pss_cons (ps_if (pt_cmpR op_eq (pv 0) pe_int (nomark _))
        (pss_cons (ps_set (i := 2) nd rfl (Or.inl rfl) (pe_err Ex.e5 (hr.mono (by decide)) (by rfl) (pa_cons (pv 1) pa_nil)))
        (pss_one (ps_ret (pe_tup (pa_cons (pv 2) (pa_cons (pe_xv (pv 2)) pa_nil)))))) pss_nil)
      (pss_cons (ps_if (pt_cmpR op_eq (pv 0) pe_int (nomark _))
        (pss_cons (ps_set (i := 2) nd rfl (Or.inl rfl) (pe_err Ex.e6 (hr.mono (by decide)) (by rfl) (pa_cons (pv 1) pa_nil)))
        (pss_one (ps_ret (pe_tup (pa_cons (pv 2) (pa_cons (pe_xv (pv 2)) pa_nil)))))) pss_nil)
      (pss_cons (ps_if (pt_cmpR op_eq (pv 0) pe_int (nomark _))
        (pss_cons (ps_set (i := 2) nd rfl (Or.inl rfl) (pe_err Ex.e7 (hr.mono (by decide)) (by rfl) (pa_cons (pv 1) pa_nil)))
        (pss_one (ps_ret (pe_tup (pa_cons (pv 2) (pa_cons (pe_xv (pv 2)) pa_nil)))))) pss_nil)
      (pss_one (ps_ret (pe_call GL hr (by rfl) Ex.late G.kp bG .nil pass0 (pa_cons (pv 0) (pa_cons (pv 1) pa_nil))))))))))))), ?_⟩
    refine ⟨_, rfl, rfl, _, rfl, ?_⟩
    refine ite_int (fun e => ?_) (fun ne0 => ?_)
    · subst e
      refine ⟨v, rfl, v, rfl, fun a d ha hd hne => ?_⟩
      refine ⟨_, rfl, _, rfl, a, Cf 0, d, _, v, rfl, Ex.e0.D, Ex.e0.hno, upd_same, (by rw [upd_ne hne, upd_same]), (by simp [List.lookup]), (by show 2 ≤ sizeLine; decide), fun t ht => ?_⟩
      obtain ⟨s1, x1⟩ := made_ans (v := v) ha hd hne ht
      exact kq t a _ s1 upd_same x1
    refine ⟨_, rfl, rfl, _, rfl, ?_⟩
    refine ite_int (fun e => ?_) (fun ne1 => ?_)
    · subst e
      refine ⟨v, rfl, v, rfl, fun a d ha hd hne => ?_⟩
      refine ⟨_, rfl, _, rfl, a, Cf 1, d, _, v, rfl, Ex.e1.D, Ex.e1.hno, upd_same, (by rw [upd_ne hne, upd_same]), (by simp [List.lookup]), (by show 2 ≤ sizeLine; decide), fun t ht => ?_⟩
      obtain ⟨s1, x1⟩ := made_ans (v := v) ha hd hne ht
      exact kq t a _ s1 upd_same x1
    refine ⟨_, rfl, rfl, _, rfl, ?_⟩
    refine ite_int (fun e => ?_) (fun ne2 => ?_)
    · subst e
      refine ⟨v, rfl, v, rfl, fun a d ha hd hne => ?_⟩
      refine ⟨_, rfl, _, rfl, a, Cf 2, d, _, v, rfl, Ex.e2.D, Ex.e2.hno, upd_same, (by rw [upd_ne hne, upd_same]), (by simp [List.lookup]), (by show 2 ≤ sizeLine; decide), fun t ht => ?_⟩
      obtain ⟨s1, x1⟩ := made_ans (v := v) ha hd hne ht
      exact kq t a _ s1 upd_same x1
    refine ⟨_, rfl, rfl, _, rfl, ?_⟩
    refine ite_int (fun e => ?_) (fun ne3 => ?_)
    · subst e
      refine ⟨v, rfl, v, rfl, fun a d ha hd hne => ?_⟩
      refine ⟨_, rfl, _, rfl, a, Cf 3, d, _, v, rfl, Ex.e3.D, Ex.e3.hno, upd_same, (by rw [upd_ne hne, upd_same]), (by simp [List.lookup]), (by show 2 ≤ sizeLine; decide), fun t ht => ?_⟩
      obtain ⟨s1, x1⟩ := made_ans (v := v) ha hd hne ht
      exact kq t a _ s1 upd_same x1
    refine ⟨_, rfl, rfl, _, rfl, ?_⟩
    refine ite_int (fun e => ?_) (fun ne4 => ?_)
    · subst e
      refine ⟨v, rfl, v, rfl, fun a d ha hd hne => ?_⟩
      refine ⟨_, rfl, _, rfl, a, Cf 4, d, _, v, rfl, Ex.e4.D, Ex.e4.hno, upd_same, (by rw [upd_ne hne, upd_same]), (by simp [List.lookup]), (by show 2 ≤ sizeLine; decide), fun t ht => ?_⟩
      obtain ⟨s1, x1⟩ := made_ans (v := v) ha hd hne ht
      exact kq t a _ s1 upd_same x1
    refine ⟨_, rfl, rfl, _, rfl, ?_⟩
    refine ite_int (fun e => ?_) (fun ne5 => ?_)
    · subst e
      refine ⟨v, rfl, v, rfl, fun a d ha hd hne => ?_⟩
      refine ⟨_, rfl, _, rfl, a, Cf 5, d, _, v, rfl, Ex.e5.D, Ex.e5.hno, upd_same, (by rw [upd_ne hne, upd_same]), (by simp [List.lookup]), (by show 2 ≤ sizeLine; decide), fun t ht => ?_⟩
      obtain ⟨s1, x1⟩ := made_ans (v := v) ha hd hne ht
      exact kq t a _ s1 upd_same x1
    refine ⟨_, rfl, rfl, _, rfl, ?_⟩
    refine ite_int (fun e => ?_) (fun ne6 => ?_)
    · subst e
      refine ⟨v, rfl, v, rfl, fun a d ha hd hne => ?_⟩
      refine ⟨_, rfl, _, rfl, a, Cf 6, d, _, v, rfl, Ex.e6.D, Ex.e6.hno, upd_same, (by rw [upd_ne hne, upd_same]), (by simp [List.lookup]), (by show 2 ≤ sizeLine; decide), fun t ht => ?_⟩
      obtain ⟨s1, x1⟩ := made_ans (v := v) ha hd hne ht
      exact kq t a _ s1 upd_same x1
    refine ⟨_, rfl, rfl, _, rfl, ?_⟩
    refine ite_int (fun e => ?_) (fun ne7 => ?_)
    · subst e
      refine ⟨v, rfl, v, rfl, fun a d ha hd hne => ?_⟩
      refine ⟨_, rfl, _, rfl, a, Cf 7, d, _, v, rfl, Ex.e7.D, Ex.e7.hno, upd_same, (by rw [upd_ne hne, upd_same]), (by simp [List.lookup]), (by show 2 ≤ sizeLine; decide), fun t ht => ?_⟩
      obtain ⟨s1, x1⟩ := made_ans (v := v) ha hd hne ht
      exact kq t a _ s1 upd_same x1
    exact ⟨_, rfl, _, rfl, k, v, rfl, by omega, h17, kq⟩
/-- which classes the error at a is of -/
def spKinds (Cf : Nat → Addr) : Sp := fun vs H Q _ => ∃ (a : Addr) (k : Nat), vs = [.ref a] ∧ k < 17 ∧ ExcAt H a (Cf k) ∧ ∀ l H', Same H H' → H' l = some (.lst ((List.range 17).map fun j => .bl (decide (k = j)))) → Q (.ref l) H'
theorem scKinds : FnScope ["_law_e", "_law_found"] ["_law_e"] (defScope sKinds) := ⟨rfl, rfl, rfl, by decide +kernel, rfl, by decide +kernel, by decide +kernel⟩
theorem ExcAt.same {H H' : Hp} {a C : Addr} (x : ExcAt H a C) (s : Same H H') : ExcAt H' a C := by
  obtain ⟨od, h1, h2⟩ := x
  exact ⟨od, s _ _ h1, fun dd e => by
    obtain ⟨fs, h⟩ := h2 dd e
    exact ⟨fs, s _ _ h⟩⟩
theorem ok_kinds {f g : Addr} {fd : FuncData} (F : Fun K "_law_kinds_of" "_law_kinds_of" sKinds f fd) (Ex : Errs P K mg Cf CW g) : FnOk P w K mg base CX0 1 f fd ["_law_e"] (spKinds Cf) := by
  refine F.ok scKinds (fun vs H Q E h => ?_) (fun cdv A outer s H vs Q E hr h => ?_)
  · obtain ⟨p, c, rfl, _⟩ := h
    rfl
  · obtain ⟨a, k, rfl, h17, X0, kq⟩ := h
    have nd := scKinds.nd
    refine ⟨_, (pss_cons (ps_set (i := 1) nd rfl (Or.inl rfl) (pe_lst (pa_cons (pe_callB call_isV (by rfl) Ex.isi (by decide +kernel) (pa_cons (pv 0) (pa_cons (pe_glob (v := .ref (Cf 0)) (by rfl) Ex.e0.g rfl) pa_nil))) (pa_cons (pe_callB call_isV (by rfl) Ex.isi (by decide +kernel) (pa_cons (pv 0) (pa_cons (pe_glob (v := .ref (Cf 1)) (by rfl) Ex.e1.g rfl) pa_nil))) (pa_cons (pe_callB call_isV (by rfl) Ex.isi (by decide +kernel) (pa_cons (pv 0) (pa_cons (pe_glob (v := .ref (Cf 2)) (by rfl) Ex.e2.g rfl) pa_nil))) pa_nil)))))
      (pss_cons (ps_set (i := 1) nd rfl (Or.inl rfl) (pe_op op_cat (pv 1) (pe_lst (pa_cons (pe_callB call_isV (by rfl) Ex.isi (by decide +kernel) (pa_cons (pv 0) (pa_cons (pe_glob (v := .ref (Cf 3)) (by rfl) Ex.e3.g rfl) pa_nil))) (pa_cons (pe_callB call_isV (by rfl) Ex.isi (by decide +kernel) (pa_cons (pv 0) (pa_cons (pe_glob (v := .ref (Cf 4)) (by rfl) Ex.e4.g rfl) pa_nil))) (pa_cons (pe_callB call_isV (by rfl) Ex.isi (by decide +kernel) (pa_cons (pv 0) (pa_cons (pe_glob (v := .ref (Cf 5)) (by rfl) Ex.e5.g rfl) pa_nil))) pa_nil))))))
      (pss_cons (ps_set (i := 1) nd rfl (Or.inl rfl) (pe_op op_cat (pv 1) (pe_lst (pa_cons (pe_callB call_isV (by rfl) Ex.isi (by decide +kernel) (pa_cons (pv 0) (pa_cons (pe_glob (v := .ref (Cf 6)) (by rfl) Ex.e6.g rfl) pa_nil))) (pa_cons (pe_callB call_isV (by rfl) Ex.isi (by decide +kernel) (pa_cons (pv 0) (pa_cons (pe_glob (v := .ref (Cf 7)) (by rfl) Ex.e7.g rfl) pa_nil))) (pa_cons (pe_callB call_isV (by rfl) Ex.isi (by decide +kernel) (pa_cons (pv 0) (pa_cons (pe_glob (v := .ref (Cf 8)) (by rfl) Ex.e8.g rfl) pa_nil))) pa_nil))))))
      (pss_cons (ps_set (i := 1) nd rfl (Or.inl rfl) (pe_op op_cat (pv 1) (pe_lst (pa_cons (pe_callB call_isV (by rfl) Ex.isi (by decide +kernel) (pa_cons (pv 0) (pa_cons (pe_glob (v := .ref (Cf 9)) (by rfl) Ex.e9.g rfl) pa_nil))) (pa_cons (pe_callB call_isV (by rfl) Ex.isi (by decide +kernel) (pa_cons (pv 0) (pa_cons (pe_glob (v := .ref (Cf 10)) (by rfl) Ex.e10.g rfl) pa_nil))) (pa_cons (pe_callB call_isV (by rfl) Ex.isi (by decide +kernel) (pa_cons (pv 0) (pa_cons (pe_glob (v := .ref (Cf 11)) (by rfl) Ex.e11.g rfl) pa_nil))) pa_nil))))))
      (pss_cons (ps_set (i := 1) nd rfl (Or.inl rfl) (pe_op op_cat (pv 1) (pe_lst (pa_cons (pe_callB call_isV (by rfl) Ex.isi (by decide +kernel) (pa_cons (pv 0) (pa_cons (pe_glob (v := .ref (Cf 12)) (by rfl) Ex.e12.g rfl) pa_nil))) (pa_cons (pe_callB call_isV (by rfl) Ex.isi (by decide +kernel) (pa_cons (pv 0) (pa_cons (pe_glob (v := .ref (Cf 13)) (by rfl) Ex.e13.g rfl) pa_nil))) (pa_cons (pe_callB call_isV (by rfl) Ex.isi (by decide +kernel) (pa_cons (pv 0) (pa_cons (pe_glob (v := .ref (Cf 14)) (by rfl) Ex.e14.g rfl) pa_nil))) pa_nil))))))
      (pss_cons (ps_set (i := 1) nd rfl (Or.inl rfl) (pe_op op_cat (pv 1) (pe_lst (pa_cons (pe_callB call_isV (by rfl) Ex.isi (by decide +kernel) (pa_cons (pv 0) (pa_cons (pe_glob (v := .ref (Cf 15)) (by rfl) Ex.e15.g rfl) pa_nil))) (pa_cons (pe_callB call_isV (by rfl) Ex.isi (by decide +kernel) (pa_cons (pv 0) (pa_cons (pe_glob (v := .ref (Cf 16)) (by rfl) Ex.e16.g rfl) pa_nil))) pa_nil)))))
      (pss_one (ps_ret (pv 1))))))))), ?_⟩
    obtain ⟨od, y1, y2⟩ := X0
    refine ⟨_, rfl, a, Cf k, od, .ref (Cf 0), .ref (Cf 0), _, rfl, Ex.D k h17, y1, y2, .own _, Ex.kit k 0 h17 (by decide), ⟨_, rfl, a, Cf k, od, .ref (Cf 1), .ref (Cf 1), _, rfl, Ex.D k h17, y1, y2, .own _, Ex.kit k 1 h17 (by decide), ⟨_, rfl, a, Cf k, od, .ref (Cf 2), .ref (Cf 2), _, rfl, Ex.D k h17, y1, y2, .own _, Ex.kit k 2 h17 (by decide), ⟨by show 3 ≤ sizeLine; decide, fun l0 h0 => ?_⟩⟩⟩⟩
    have s0 : Same H (upd H l0 (.lst [.bl (decide (k = 0)), .bl (decide (k = 1)), .bl (decide (k = 2))])) := same_upd h0
    generalize eH0 : upd H l0 (.lst [.bl (decide (k = 0)), .bl (decide (k = 1)), .bl (decide (k = 2))]) = H0 at *
    have g0 : H0 l0 = some (.lst [.bl (decide (k = 0)), .bl (decide (k = 1)), .bl (decide (k = 2))]) := by rw [← eH0, upd_same]
    refine ⟨_, rfl, ⟨_, rfl, a, Cf k, od, .ref (Cf 3), .ref (Cf 3), _, rfl, Ex.D k h17, s0 _ _ y1, (fun dd e => (y2 dd e).imp fun _ h => s0 _ _ h), .own _, Ex.kit k 3 h17 (by decide), ⟨_, rfl, a, Cf k, od, .ref (Cf 4), .ref (Cf 4), _, rfl, Ex.D k h17, s0 _ _ y1, (fun dd e => (y2 dd e).imp fun _ h => s0 _ _ h), .own _, Ex.kit k 4 h17 (by decide), ⟨_, rfl, a, Cf k, od, .ref (Cf 5), .ref (Cf 5), _, rfl, Ex.D k h17, s0 _ _ y1, (fun dd e => (y2 dd e).imp fun _ h => s0 _ _ h), .own _, Ex.kit k 5 h17 (by decide), ⟨by show 3 ≤ sizeLine; decide, fun m1 hm1 => ?_⟩⟩⟩⟩⟩
    have k1 : upd H0 m1 (.lst [.bl (decide (k = 3)), .bl (decide (k = 4)), .bl (decide (k = 5))]) l0 = some (.lst [.bl (decide (k = 0)), .bl (decide (k = 1)), .bl (decide (k = 2))]) := by rw [upd_ne (ne_of_none g0 hm1)]; exact g0
    have sm1 : Same H (upd H0 m1 (.lst [.bl (decide (k = 3)), .bl (decide (k = 4)), .bl (decide (k = 5))])) := s0.trans (same_upd hm1)
    refine ⟨l0, m1, _, _, rfl, rfl, k1, upd_same, (by show 6 ≤ sizeLine; decide), fun l1 h1 => ?_⟩
    obtain ⟨H1, eH1⟩ : ∃ Z, upd (upd H0 m1 (.lst [.bl (decide (k = 3)), .bl (decide (k = 4)), .bl (decide (k = 5))])) l1 (.lst [.bl (decide (k = 0)), .bl (decide (k = 1)), .bl (decide (k = 2)), .bl (decide (k = 3)), .bl (decide (k = 4)), .bl (decide (k = 5))]) = Z := ⟨_, rfl⟩
    have s1 : Same H H1 := by rw [← eH1]; exact sm1.trans (same_upd h1)
    have g1 : H1 l1 = some (.lst [.bl (decide (k = 0)), .bl (decide (k = 1)), .bl (decide (k = 2)), .bl (decide (k = 3)), .bl (decide (k = 4)), .bl (decide (k = 5))]) := by rw [← eH1, upd_same]
    rw [show upd (upd H0 m1 (.lst [.bl (decide (k = 3)), .bl (decide (k = 4)), .bl (decide (k = 5))])) l1 (.lst ([.bl (decide (k = 0)), .bl (decide (k = 1)), .bl (decide (k = 2))] ++ [.bl (decide (k = 3)), .bl (decide (k = 4)), .bl (decide (k = 5))])) = H1 from eH1]
    refine ⟨_, rfl, ⟨_, rfl, a, Cf k, od, .ref (Cf 6), .ref (Cf 6), _, rfl, Ex.D k h17, s1 _ _ y1, (fun dd e => (y2 dd e).imp fun _ h => s1 _ _ h), .own _, Ex.kit k 6 h17 (by decide), ⟨_, rfl, a, Cf k, od, .ref (Cf 7), .ref (Cf 7), _, rfl, Ex.D k h17, s1 _ _ y1, (fun dd e => (y2 dd e).imp fun _ h => s1 _ _ h), .own _, Ex.kit k 7 h17 (by decide), ⟨_, rfl, a, Cf k, od, .ref (Cf 8), .ref (Cf 8), _, rfl, Ex.D k h17, s1 _ _ y1, (fun dd e => (y2 dd e).imp fun _ h => s1 _ _ h), .own _, Ex.kit k 8 h17 (by decide), ⟨by show 3 ≤ sizeLine; decide, fun m2 hm2 => ?_⟩⟩⟩⟩⟩
    have k2 : upd H1 m2 (.lst [.bl (decide (k = 6)), .bl (decide (k = 7)), .bl (decide (k = 8))]) l1 = some (.lst [.bl (decide (k = 0)), .bl (decide (k = 1)), .bl (decide (k = 2)), .bl (decide (k = 3)), .bl (decide (k = 4)), .bl (decide (k = 5))]) := by rw [upd_ne (ne_of_none g1 hm2)]; exact g1
    have sm2 : Same H (upd H1 m2 (.lst [.bl (decide (k = 6)), .bl (decide (k = 7)), .bl (decide (k = 8))])) := s1.trans (same_upd hm2)
    refine ⟨l1, m2, _, _, rfl, rfl, k2, upd_same, (by show 9 ≤ sizeLine; decide), fun l2 h2 => ?_⟩
    obtain ⟨H2, eH2⟩ : ∃ Z, upd (upd H1 m2 (.lst [.bl (decide (k = 6)), .bl (decide (k = 7)), .bl (decide (k = 8))])) l2 (.lst [.bl (decide (k = 0)), .bl (decide (k = 1)), .bl (decide (k = 2)), .bl (decide (k = 3)), .bl (decide (k = 4)), .bl (decide (k = 5)), .bl (decide (k = 6)), .bl (decide (k = 7)), .bl (decide (k = 8))]) = Z := ⟨_, rfl⟩
    have s2 : Same H H2 := by rw [← eH2]; exact sm2.trans (same_upd h2)
    have g2 : H2 l2 = some (.lst [.bl (decide (k = 0)), .bl (decide (k = 1)), .bl (decide (k = 2)), .bl (decide (k = 3)), .bl (decide (k = 4)), .bl (decide (k = 5)), .bl (decide (k = 6)), .bl (decide (k = 7)), .bl (decide (k = 8))]) := by rw [← eH2, upd_same]
    rw [show upd (upd H1 m2 (.lst [.bl (decide (k = 6)), .bl (decide (k = 7)), .bl (decide (k = 8))])) l2 (.lst ([.bl (decide (k = 0)), .bl (decide (k = 1)), .bl (decide (k = 2)), .bl (decide (k = 3)), .bl (decide (k = 4)), .bl (decide (k = 5))] ++ [.bl (decide (k = 6)), .bl (decide (k = 7)), .bl (decide (k = 8))])) = H2 from eH2]
    refine ⟨_, rfl, ⟨_, rfl, a, Cf k, od, .ref (Cf 9), .ref (Cf 9), _, rfl, Ex.D k h17, s2 _ _ y1, (fun dd e => (y2 dd e).imp fun _ h => s2 _ _ h), .own _, Ex.kit k 9 h17 (by decide), ⟨_, rfl, a, Cf k, od, .ref (Cf 10), .ref (Cf 10), _, rfl, Ex.D k h17, s2 _ _ y1, (fun dd e => (y2 dd e).imp fun _ h => s2 _ _ h), .own _, Ex.kit k 10 h17 (by decide), ⟨_, rfl, a, Cf k, od, .ref (Cf 11), .ref (Cf 11), _, rfl, Ex.D k h17, s2 _ _ y1, (fun dd e => (y2 dd e).imp fun _ h => s2 _ _ h), .own _, Ex.kit k 11 h17 (by decide), ⟨by show 3 ≤ sizeLine; decide, fun m3 hm3 => ?_⟩⟩⟩⟩⟩
    have k3 : upd H2 m3 (.lst [.bl (decide (k = 9)), .bl (decide (k = 10)), .bl (decide (k = 11))]) l2 = some (.lst [.bl (decide (k = 0)), .bl (decide (k = 1)), .bl (decide (k = 2)), .bl (decide (k = 3)), .bl (decide (k = 4)), .bl (decide (k = 5)), .bl (decide (k = 6)), .bl (decide (k = 7)), .bl (decide (k = 8))]) := by rw [upd_ne (ne_of_none g2 hm3)]; exact g2
    have sm3 : Same H (upd H2 m3 (.lst [.bl (decide (k = 9)), .bl (decide (k = 10)), .bl (decide (k = 11))])) := s2.trans (same_upd hm3)
    refine ⟨l2, m3, _, _, rfl, rfl, k3, upd_same, (by show 12 ≤ sizeLine; decide), fun l3 h3 => ?_⟩
    obtain ⟨H3, eH3⟩ : ∃ Z, upd (upd H2 m3 (.lst [.bl (decide (k = 9)), .bl (decide (k = 10)), .bl (decide (k = 11))])) l3 (.lst [.bl (decide (k = 0)), .bl (decide (k = 1)), .bl (decide (k = 2)), .bl (decide (k = 3)), .bl (decide (k = 4)), .bl (decide (k = 5)), .bl (decide (k = 6)), .bl (decide (k = 7)), .bl (decide (k = 8)), .bl (decide (k = 9)), .bl (decide (k = 10)), .bl (decide (k = 11))]) = Z := ⟨_, rfl⟩
    have s3 : Same H H3 := by rw [← eH3]; exact sm3.trans (same_upd h3)
    have g3 : H3 l3 = some (.lst [.bl (decide (k = 0)), .bl (decide (k = 1)), .bl (decide (k = 2)), .bl (decide (k = 3)), .bl (decide (k = 4)), .bl (decide (k = 5)), .bl (decide (k = 6)), .bl (decide (k = 7)), .bl (decide (k = 8)), .bl (decide (k = 9)), .bl (decide (k = 10)), .bl (decide (k = 11))]) := by rw [← eH3, upd_same]
    rw [show upd (upd H2 m3 (.lst [.bl (decide (k = 9)), .bl (decide (k = 10)), .bl (decide (k = 11))])) l3 (.lst ([.bl (decide (k = 0)), .bl (decide (k = 1)), .bl (decide (k = 2)), .bl (decide (k = 3)), .bl (decide (k = 4)), .bl (decide (k = 5)), .bl (decide (k = 6)), .bl (decide (k = 7)), .bl (decide (k = 8))] ++ [.bl (decide (k = 9)), .bl (decide (k = 10)), .bl (decide (k = 11))])) = H3 from eH3]
    refine ⟨_, rfl, ⟨_, rfl, a, Cf k, od, .ref (Cf 12), .ref (Cf 12), _, rfl, Ex.D k h17, s3 _ _ y1, (fun dd e => (y2 dd e).imp fun _ h => s3 _ _ h), .own _, Ex.kit k 12 h17 (by decide), ⟨_, rfl, a, Cf k, od, .ref (Cf 13), .ref (Cf 13), _, rfl, Ex.D k h17, s3 _ _ y1, (fun dd e => (y2 dd e).imp fun _ h => s3 _ _ h), .own _, Ex.kit k 13 h17 (by decide), ⟨_, rfl, a, Cf k, od, .ref (Cf 14), .ref (Cf 14), _, rfl, Ex.D k h17, s3 _ _ y1, (fun dd e => (y2 dd e).imp fun _ h => s3 _ _ h), .own _, Ex.kit k 14 h17 (by decide), ⟨by show 3 ≤ sizeLine; decide, fun m4 hm4 => ?_⟩⟩⟩⟩⟩
    have k4 : upd H3 m4 (.lst [.bl (decide (k = 12)), .bl (decide (k = 13)), .bl (decide (k = 14))]) l3 = some (.lst [.bl (decide (k = 0)), .bl (decide (k = 1)), .bl (decide (k = 2)), .bl (decide (k = 3)), .bl (decide (k = 4)), .bl (decide (k = 5)), .bl (decide (k = 6)), .bl (decide (k = 7)), .bl (decide (k = 8)), .bl (decide (k = 9)), .bl (decide (k = 10)), .bl (decide (k = 11))]) := by rw [upd_ne (ne_of_none g3 hm4)]; exact g3
    have sm4 : Same H (upd H3 m4 (.lst [.bl (decide (k = 12)), .bl (decide (k = 13)), .bl (decide (k = 14))])) := s3.trans (same_upd hm4)
    refine ⟨l3, m4, _, _, rfl, rfl, k4, upd_same, (by show 15 ≤ sizeLine; decide), fun l4 h4 => ?_⟩
    obtain ⟨H4, eH4⟩ : ∃ Z, upd (upd H3 m4 (.lst [.bl (decide (k = 12)), .bl (decide (k = 13)), .bl (decide (k = 14))])) l4 (.lst [.bl (decide (k = 0)), .bl (decide (k = 1)), .bl (decide (k = 2)), .bl (decide (k = 3)), .bl (decide (k = 4)), .bl (decide (k = 5)), .bl (decide (k = 6)), .bl (decide (k = 7)), .bl (decide (k = 8)), .bl (decide (k = 9)), .bl (decide (k = 10)), .bl (decide (k = 11)), .bl (decide (k = 12)), .bl (decide (k = 13)), .bl (decide (k = 14))]) = Z := ⟨_, rfl⟩
    have s4 : Same H H4 := by rw [← eH4]; exact sm4.trans (same_upd h4)
    have g4 : H4 l4 = some (.lst [.bl (decide (k = 0)), .bl (decide (k = 1)), .bl (decide (k = 2)), .bl (decide (k = 3)), .bl (decide (k = 4)), .bl (decide (k = 5)), .bl (decide (k = 6)), .bl (decide (k = 7)), .bl (decide (k = 8)), .bl (decide (k = 9)), .bl (decide (k = 10)), .bl (decide (k = 11)), .bl (decide (k = 12)), .bl (decide (k = 13)), .bl (decide (k = 14))]) := by rw [← eH4, upd_same]
    rw [show upd (upd H3 m4 (.lst [.bl (decide (k = 12)), .bl (decide (k = 13)), .bl (decide (k = 14))])) l4 (.lst ([.bl (decide (k = 0)), .bl (decide (k = 1)), .bl (decide (k = 2)), .bl (decide (k = 3)), .bl (decide (k = 4)), .bl (decide (k = 5)), .bl (decide (k = 6)), .bl (decide (k = 7)), .bl (decide (k = 8)), .bl (decide (k = 9)), .bl (decide (k = 10)), .bl (decide (k = 11))] ++ [.bl (decide (k = 12)), .bl (decide (k = 13)), .bl (decide (k = 14))])) = H4 from eH4]
    refine ⟨_, rfl, ⟨_, rfl, a, Cf k, od, .ref (Cf 15), .ref (Cf 15), _, rfl, Ex.D k h17, s4 _ _ y1, (fun dd e => (y2 dd e).imp fun _ h => s4 _ _ h), .own _, Ex.kit k 15 h17 (by decide), ⟨_, rfl, a, Cf k, od, .ref (Cf 16), .ref (Cf 16), _, rfl, Ex.D k h17, s4 _ _ y1, (fun dd e => (y2 dd e).imp fun _ h => s4 _ _ h), .own _, Ex.kit k 16 h17 (by decide), ⟨by show 2 ≤ sizeLine; decide, fun m5 hm5 => ?_⟩⟩⟩⟩
    have k5 : upd H4 m5 (.lst [.bl (decide (k = 15)), .bl (decide (k = 16))]) l4 = some (.lst [.bl (decide (k = 0)), .bl (decide (k = 1)), .bl (decide (k = 2)), .bl (decide (k = 3)), .bl (decide (k = 4)), .bl (decide (k = 5)), .bl (decide (k = 6)), .bl (decide (k = 7)), .bl (decide (k = 8)), .bl (decide (k = 9)), .bl (decide (k = 10)), .bl (decide (k = 11)), .bl (decide (k = 12)), .bl (decide (k = 13)), .bl (decide (k = 14))]) := by rw [upd_ne (ne_of_none g4 hm5)]; exact g4
    have sm5 : Same H (upd H4 m5 (.lst [.bl (decide (k = 15)), .bl (decide (k = 16))])) := s4.trans (same_upd hm5)
    refine ⟨l4, m5, _, _, rfl, rfl, k5, upd_same, (by show 17 ≤ sizeLine; decide), fun l5 h5 => ?_⟩
    obtain ⟨H5, eH5⟩ : ∃ Z, upd (upd H4 m5 (.lst [.bl (decide (k = 15)), .bl (decide (k = 16))])) l5 (.lst [.bl (decide (k = 0)), .bl (decide (k = 1)), .bl (decide (k = 2)), .bl (decide (k = 3)), .bl (decide (k = 4)), .bl (decide (k = 5)), .bl (decide (k = 6)), .bl (decide (k = 7)), .bl (decide (k = 8)), .bl (decide (k = 9)), .bl (decide (k = 10)), .bl (decide (k = 11)), .bl (decide (k = 12)), .bl (decide (k = 13)), .bl (decide (k = 14)), .bl (decide (k = 15)), .bl (decide (k = 16))]) = Z := ⟨_, rfl⟩
    have s5 : Same H H5 := by rw [← eH5]; exact sm5.trans (same_upd h5)
    have g5 : H5 l5 = some (.lst [.bl (decide (k = 0)), .bl (decide (k = 1)), .bl (decide (k = 2)), .bl (decide (k = 3)), .bl (decide (k = 4)), .bl (decide (k = 5)), .bl (decide (k = 6)), .bl (decide (k = 7)), .bl (decide (k = 8)), .bl (decide (k = 9)), .bl (decide (k = 10)), .bl (decide (k = 11)), .bl (decide (k = 12)), .bl (decide (k = 13)), .bl (decide (k = 14)), .bl (decide (k = 15)), .bl (decide (k = 16))]) := by rw [← eH5, upd_same]
    rw [show upd (upd H4 m5 (.lst [.bl (decide (k = 15)), .bl (decide (k = 16))])) l5 (.lst ([.bl (decide (k = 0)), .bl (decide (k = 1)), .bl (decide (k = 2)), .bl (decide (k = 3)), .bl (decide (k = 4)), .bl (decide (k = 5)), .bl (decide (k = 6)), .bl (decide (k = 7)), .bl (decide (k = 8)), .bl (decide (k = 9)), .bl (decide (k = 10)), .bl (decide (k = 11)), .bl (decide (k = 12)), .bl (decide (k = 13)), .bl (decide (k = 14))] ++ [.bl (decide (k = 15)), .bl (decide (k = 16))])) = H5 from eH5]
    exact ⟨_, rfl, kq l5 H5 s5 g5⟩
end
end Aw

namespace Aw
open PySem PySem.Spec PyProof.Rows L2 NdefX
abbrev sLaw : Stmt := (top 26)

def spLaw (K : PySem.W.Frag) : Sp := fun vs H Q _ => ∃ (a : Addr) (ns : List Int), vs = [.ref a] ∧ SqL K H a (ns.map V.int) ∧ ns.length ≤ 63 ∧ ∀ H', Q (.bl true) H'
section
variable {P : Program} {w : World} {K : PySem.W.Frag} {mg : Str → Option Value} {base : Heap} {Cf : Nat → Addr} {CW : Addr}
theorem scLaw : FnScope ["_law_script", "_law_pen_here", "_law_k", "_law_worth", "_law_error", "_law_kept", "_law_j"] ["_law_script"] (defScope sLaw) := ⟨rfl, rfl, rfl, by decide +kernel, rfl, by decide +kernel, by decide +kernel⟩
theorem canLay_shaped {d : PyData} (h : SeqAt.shaped d = true) : PyData.eqv d d = true := SeqAt.eqv_refl d (SeqAt.canLay_of_shaped h)
theorem bools_flat {H : Hp} (bs : List Bool) : DpAll K H (bs.map V.bl) (bs.map PyData.bool) := by
  induction bs with
  | nil => exact .nil
  | cons n ns ih => exact .cons (.bl n) ih
theorem bools_shaped (bs : List Bool) : SeqAt.shaped (.list (bs.map PyData.bool)) = true := by
  have h1 : ∀ l : List Bool, PyData.canLayAll0 (l.map PyData.bool) = true := fun l => by
    induction l with
    | nil => rfl
    | cons n l ih => simp [PyData.canLayAll0, PyData.canLay0, ih]
  have h2 : ∀ l : List Bool, PyData.depthAll (l.map PyData.bool) ≤ 1 := fun l => by
    induction l with
    | nil => simp [PyData.depthAll]
    | cons n l ih => simp [PyData.depthAll, PyData.depth]; omega
  unfold SeqAt.shaped
  refine Bool.and_eq_true_iff.mpr ⟨h1 bs, decide_eq_true ?_⟩
  have := h2 bs
  simp only [PyData.depth]
  omega
theorem worths {t : Addr} {r : Nat} {v : V} (h : ([.non, .str "word", .int (-3), .int (10 ^ (40 : Int).toNat), .ref t, .bl true, .int 7] : List V)[r]? = some v) :
    ∃ d, SeqAt.shaped d = true ∧ ∀ H : Hp, H t = some (.tup [.str "a", .int 1]) → Dp K H v d := by
  match r, h with
  | 0, h => cases h; exact ⟨.none, by decide +kernel, fun H _ => .non⟩
  | 1, h => cases h; exact ⟨.str "word", by decide +kernel, fun H _ => .str _⟩
  | 2, h => cases h; exact ⟨.int (-3), by decide +kernel, fun H _ => .int _⟩
  | 3, h => cases h; exact ⟨.int (10 ^ (40 : Int).toNat), by decide +kernel, fun H _ => .int _⟩
  | 4, h => cases h; exact ⟨.tuple [.str "a", .int 1], by decide +kernel, fun H e => .tup (SqT.of e) (.cons (.str _) (.cons (.int _) .nil))⟩
  | 5, h => cases h; exact ⟨.bool true, by decide +kernel, fun H _ => .bl _⟩
  | 6, h => cases h; exact ⟨.int 7, by decide +kernel, fun H _ => .int _⟩
  | n + 7, h => simp at h
theorem ok_law {f fPen fDraw fPick fEarly fLate fKinds : Addr} {fd dPen dDraw dPick dEarly dLate dKinds : FuncData} (F : Fun K "law" "law" sLaw f fd) (T : TxtP mg fDraw) (Ex : Errs P K mg Cf CW fLate)
    (FPen : Fun K "_law_pen" "_law_pen" sPen fPen dPen) (bPen : Binds K dPen ["_law_script"] []) (gPen : mg "_law_pen" = some (.ref fPen))
    (FDraw : Fun K "_law_draw" "_law_draw" sDraw fDraw dDraw) (bDraw : Binds K dDraw ["_law_pen_here", "_law_many"] [])
    (FPick : Fun K "_law_pick" "_law_pick" sPick fPick dPick) (bPick : Binds K dPick ["_law_pen_here", "_law_some"] []) (gPick : mg "_law_pick" = some (.ref fPick))
    (FEarly : Fun K "_law_made_early" "_law_made_early" sEarly fEarly dEarly) (bEarly : Binds K dEarly ["_law_k", "_law_worth"] []) (gEarly : mg "_law_made_early" = some (.ref fEarly))
    (FLate : Fun K "_law_made_late" "_law_made_late" sLate fLate dLate) (bLate : Binds K dLate ["_law_k", "_law_worth"] [])
    (FKinds : Fun K "_law_kinds_of" "_law_kinds_of" sKinds fKinds dKinds) (bKinds : Binds K dKinds ["_law_e"] []) (gKinds : mg "_law_kinds_of" = some (.ref fKinds)) (gR : mg "range" = none) : FnOk P w K mg base CX0 6 f fd ["_law_script"] (spLaw K) := by
  have GPen : FnOk P w K mg base CX0 1 fPen dPen ["_law_script"] (spPen K) := ok_pen FPen T
  have GPick : FnOk P w K mg base CX0 2 fPick dPick ["_law_pen_here", "_law_some"] (spPick K) := ok_pick FPick T FDraw bDraw
  have GEarly : FnOk P w K mg base CX0 4 fEarly dEarly ["_law_k", "_law_worth"] (spMade 0 Cf) := ok_early FEarly FLate bLate Ex
  have GKinds : FnOk P w K mg base CX0 1 fKinds dKinds ["_law_e"] (spKinds Cf) := ok_kinds FKinds Ex
  refine F.ok scLaw (fun vs H Q E h => ?_) (fun cdv A outer s H vs Q E hr h => ?_)
  · obtain ⟨a, ns, rfl, _⟩ := h
    rfl
  · obtain ⟨a, ns, rfl, hS, hlen, k⟩ := h
    have nd := scLaw.nd
    refine ⟨_, (pss_cons (ps_set (i := 1) nd rfl (Or.inl rfl) (pe_call GPen (hr.mono (by decide)) (by rfl) gPen FPen.kp bPen .nil pass0 (pa_cons (pv 0) pa_nil)))
      (pss_cons (ps_for PassesOwn.never rfl (pi_range1 rfl gR (pa_cons pe_int pa_nil)) (pg_name (i := 2) nd rfl (Or.inr rfl))
        (pss_cons (ps_set (i := 3) nd rfl (Or.inl rfl) (pe_call GPick (hr.mono (by decide)) (by rfl) gPick FPick.kp bPick .nil pass0 (pa_cons (pv 1) (pa_cons (pe_lst (pa_cons pe_non (pa_cons pe_str (pa_cons (pe_un un_neg pe_int) (pa_cons (pe_op op_pow pe_int pe_int) (pa_cons (pe_tup (pa_cons pe_str (pa_cons pe_int pa_nil))) (pa_cons pe_bl (pa_cons pe_int pa_nil)))))))) pa_nil))))
        (pss_cons (ps_asg (pe_call GEarly (hr.mono (by decide)) (by rfl) gEarly FEarly.kp bEarly .nil pass0 (pa_cons (pv 2) (pa_cons (pv 3) pa_nil))) (pg_tup rfl (pgs_cons (pg_name (i := 4) nd rfl (Or.inl rfl)) (pgs_cons (pg_name (i := 5) nd rfl (Or.inl rfl)) pgs_nil))))
        (pss_cons (ps_if (pw_or (pt_cmpR (op_neD hr.units) (pv 5) (pv 3) (nomark _)) (pw_or (pt_not (pt_val (pe_callB call_isV (by rfl) Ex.isi (by decide +kernel) (pa_cons (pv 4) (pa_cons (pe_glob (v := .ref CW) (by rfl) Ex.gW rfl) pa_nil))))) (pw_or1 (pt_not (pt_val (pe_callB call_isV (by rfl) Ex.isi (by decide +kernel) (pa_cons (pv 4) (pa_cons (pe_bltn (v := .ty "ValueError") (by rfl) Ex.ve (by decide +kernel) rfl) pa_nil)))))))).pt
          (pss_one (ps_ret pe_bl)) pss_nil)
        (pss_one (ps_if (pt_cmpR (op_neD hr.units) (pe_call GKinds (hr.mono (by decide)) (by rfl) gKinds FKinds.kp bKinds .nil pass0 (pa_cons (pv 4) pa_nil)) (pe_lc (own := [("_law_j", 6)]) (g := gName 6) (tt := tYes) rfl nd (pi_range1 rfl gR (pa_cons pe_int pa_nil)) (blkOk_by (own := [("_law_j", 6)]) (N := ["_law_script", "_law_pen_here", "_law_k", "_law_worth", "_law_error", "_law_kept", "_law_j"]) (sc := defScope sLaw) (by decide +kernel)) (fun _ _ _ _ _ => pg_name (i := 6) nd rfl (Or.inl rfl)) (fun _ _ _ _ _ => pts_nil) (fun _ _ _ _ _ => pe_cmpR op_eq (pv 6) (pv 2) (nomark _))) (nomark _))
          (pss_one (ps_ret pe_bl)) pss_nil))))))
      (pss_one (ps_ret pe_bl)))), ?_⟩
    refine ⟨_, rfl, a, ns, rfl, hS, hlen, fun p c H0 s0 hp hc Pn0 => ?_⟩
    refine ⟨17, rfl, by decide, by decide, for_range (n := 17) (fun i σ H1 => ∃ (v2 v3 v4 v5 : Option V), σ = [some (.ref a), some (.ref p), v2, v3, v4, v5, none] ∧ Pen H1 p c i) ⟨none, none, none, none, rfl, Pn0⟩ ?_ ?_⟩
    · rintro i σ H1 hi ⟨v2, v3, v4, v5, rfl, Pn⟩
      have hi17 : i < 17 := hi
      refine ⟨_, rfl, 3, rfl, 10, 40, rfl, rfl, ⟨by decide, by decide, by decide⟩, by show 2 ≤ sizeLine; decide, fun t ht => ⟨by show 7 ≤ sizeLine; decide, fun l hl => ?_⟩⟩
      generalize eH2 : upd H1 t (.tup [.str "a", .int 1]) = H2 at *
      have t2 : H2 t = some (.tup [.str "a", .int 1]) := by rw [← eH2, upd_same]
      have Pn2 : Pen H2 p c i := by rw [← eH2]; exact Pn.new ht
      have Pn3 := Pn2.new (o := .lst [.non, .str "word", .int (-3), .int (10 ^ (40 : Int).toNat), .ref t, .bl true, .int 7]) hl
      refine ⟨p, c, l, _, i, rfl, Pn3, by omega, SqL.of upd_same, by show 0 < 7; decide, by show 7 ≤ 1000000; decide, fun r v H4 hv b Pn4 => ?_⟩
      obtain ⟨d, sd, hd⟩ := worths hv
      have t4 : H4 t = some (.tup [.str "a", .int 1]) := by
        refine b t _ (by rw [upd_ne (ne_of_none t2 hl)]; exact t2) ?_
        obtain ⟨cells, i', l', e1, _⟩ := Pn2.ex
        exact ne_of t2 e1 (fun z => by cases z)
      -- the error and what it keeps
      refine ⟨_, rfl, _, rfl, _, v, rfl, by omega, by omega, fun u e H5 s5 hu X5 => ?_⟩
      refine ⟨u, _, rfl, SqT.of hu, rfl, ?_⟩
      refine ⟨_, _, rfl, _, _, rfl, rfl, ?_⟩
      have X5' : ExcAt H5 e (Cf i) := by
        have h : ((0 : Int) + (i : Int)).toNat = i := by omega
        rw [h] at X5
        exact X5
      refine ⟨_, rfl, _, rfl, d, d, hd H5 (s5 _ _ t4), hd H5 (s5 _ _ t4), sd, sd, _, rfl, ?_⟩
      rw [canLay_shaped sd]
      refine iteF ?_
      obtain ⟨od, y1, y2⟩ := id X5'
      refine ⟨_, rfl, e, Cf i, od, .ref CW, .ref CW, _, rfl, Ex.D i hi17, y1, y2, .own _, Ex.kitW i hi17, _, rfl, ?_⟩
      refine iteF ?_
      refine ⟨_, rfl, e, Cf i, od, .ty "ValueError", .type "ValueError", _, rfl, Ex.D i hi17, y1, y2, .ty _, Ex.kitV i hi17, _, rfl, ?_⟩
      refine iteF ?_
      -- its classes
      refine ⟨_, rfl, e, i, rfl, hi17, X5', fun L H6 s6 hL => ?_⟩
      refine ⟨17, rfl, by decide, by decide, fun D hD => ?_⟩
      have Pn6 : Pen H6 p c (i + 1) := (Pn4.same s5).same s6
      have eb : ∀ j : Nat, decide (V.int (0 + (j : Int)) = V.int (0 + (i : Int))) = decide (i = j) := fun j => by
        by_cases h : i = j
        · subst h
          simp
        · rw [decide_eq_false h]
          refine decide_eq_false fun z => h ?_
          have z' := V.int.inj z
          omega
      refine lc_range (lo := 0) (n := 17) (fun m H7 => H7 D = some (.lst ((List.range m).map fun j => V.bl (decide (i = j)))) ∧ H7 L = some (.lst ((List.range 17).map fun j => V.bl (decide (i = j)))) ∧ Pen H7 p c (i + 1)) ⟨upd_same, by rw [upd_ne (ne_of_none hL hD)]; exact hL, Pn6.new hD⟩ ?_ ?_
      · rintro m H7 hm ⟨w1, w2, w3⟩
        refine ⟨rfl, ?_⟩
        refine ⟨_, rfl, _, rfl, rfl, ?_⟩
        have nDL : L ≠ D := ne_of_none hL hD
        have nDp : D ≠ p := by
          obtain ⟨cells, i', l', e1, _⟩ := w3.ex
          exact ne_of w1 e1 (fun z => by cases z)
        have nDc : D ≠ c := by
          obtain ⟨o, ho⟩ := Pn6.some2
          exact (ne_of_none ho hD).symm
        refine ⟨_, w1, small1000 (by rw [List.length_map, List.length_range]; omega), ?_, ?_, w3.upd nDp nDc⟩
        · rw [upd_same, eb m, List.range_succ, List.map_append]
          rfl
        · rw [upd_ne nDL]
          exact w2
      · rintro H7 ⟨w1, w2, w3⟩
        have fl := bools_flat (K := K) (H := H7) ((List.range 17).map fun j => decide (i = j))
        rw [List.map_map, List.map_map] at fl
        have sh := bools_shaped ((List.range 17).map fun j => decide (i = j))
        rw [List.map_map] at sh
        refine ⟨_, _, .lst (SqL.of w2) fl, .lst (SqL.of w1) fl, sh, sh, _, rfl, ?_⟩
        rw [canLay_shaped sh]
        refine iteF ?_
        exact ⟨_, _, _, _, rfl, w3⟩
    · rintro σ H1 _
      exact k H1
end
end Aw

namespace Aw
open PySem PySem.Spec PyProof.Rows L2 NdefX He5
open He (eqO eqO_ok ga ma frG frG_in)
/-! ### facts of the written part, as Bools -/
theorem bo {a b : Bool} (h : (a && b) = true) : a = true ∧ b = true := Bool.and_eq_true_iff.mp h
def excDB (K : PySem.W.Frag) (C : Addr) : Bool := eqO (PySem.W.findIn K (.ref C) "__getattribute__") (some (some (.builtin "BaseException.__getattribute__"))) && (eqO (PySem.W.findIn K (.ref C) "__getattr__") (some none) && (decide (PySem.W.subIn K (.ref C) (.type "BaseException") = some true) &&
  (PySem.W.hasDictIn K C && (eqO (PySem.W.findIn K (.ref C) "__class__") (some (some (.builtin "object.__class__"))) && (eqO (PySem.W.specialIn K (.builtin "object.__class__") "__get__") (some (some (.builtin "getset_descriptor.__get__"))) && (decide (PySem.W.takesIn K (.builtin "object.__class__") = some true) && decide (PySem.W.mroIn K C (.type "object") = some true)))))))
theorem excDB_ok {K : PySem.W.Frag} {C : Addr} (h : excDB K C = true) : ExcD K C := by
  obtain ⟨h1, h⟩ := bo h
  obtain ⟨h2, h⟩ := bo h
  obtain ⟨h3, h⟩ := bo h
  obtain ⟨h4, h⟩ := bo h
  obtain ⟨h5, h⟩ := bo h
  obtain ⟨h6, h⟩ := bo h
  obtain ⟨h7, h8⟩ := bo h
  exact ⟨eqO_ok h1, eqO_ok h2, of_decide_eq_true h3, h4, eqO_ok h5, eqO_ok h6, of_decide_eq_true h7, of_decide_eq_true h8⟩
def rawC (K : PySem.W.Frag) (C : Addr) : Bool := match K.lookup C with
  | some ⟨.type T, _, .cls cd, sl⟩ => (match cd.mro, sl.toList with
    | .ref C' :: bm, [_, _, _, _, some (.builtin n), _] => decide (T = "type") && (decide (C' = C) && (PySem.HandSPX.refsVE bm && (cd.hasDict && (!cd.hasDel && decide (n = "ValueError.__new__")))))
    | _, _ => false)
  | _ => false
theorem rawC_ok {K : PySem.W.Frag} {C : Addr} (h : rawC K C = true) : ∃ nm q N bs bm sn sub ab col dd k0 k1 k2 k3 k5, K.lookup C = some (excClassObj nm q C N bs bm true sn sub ab col dd k0 k1 k2 k3 k5 "ValueError.__new__") ∧ PySem.HandSPX.refsVE bm = true := by
  unfold rawC at h
  split at h
  · rename_i T dd cd sl ho
    split at h
    · rename_i C' bm k0 k1 k2 k3 n k5 hm hs
      obtain ⟨h1, h⟩ := bo h
      obtain ⟨h2, h⟩ := bo h
      obtain ⟨h3, h⟩ := bo h
      obtain ⟨h4, h⟩ := bo h
      obtain ⟨h5, h6⟩ := bo h
      have e1 := of_decide_eq_true h1
      have e2 := of_decide_eq_true h2
      have e6 := of_decide_eq_true h6
      subst e1 e2 e6
      obtain ⟨nm, bs, mro, ns, qn, hd, sn, sub, ab, col, del⟩ := cd
      dsimp only at hm h4 h5
      subst hm h4
      have hdel : del = false := by simpa using h5
      subst hdel
      obtain ⟨l⟩ := sl
      simp only at hs
      subst hs
      exact ⟨nm, qn, ns, bs, bm, sn, sub, ab, col, dd, k0, k1, k2, k3, k5, ho, h3⟩
    · cases h
  · cases h
def oexB (K : PySem.W.Frag) (C : Addr) : Bool := rawC K C && (eqO (PySem.W.findIn K (.ref C) "__setattr__") (some (some (.builtin "object.__setattr__"))) && (decide (PySem.W.subIn K (.ref C) (.type "BaseException") = some true) && (decide (PySem.W.typeIn K (.ref C) = some (.type "type")) && PySem.W.keepIn K (.ref C))))
theorem oexB_ok {K : PySem.W.Frag} {C : Addr} (h : oexB K C = true) : OexC K C := by
  obtain ⟨h1, h⟩ := bo h
  obtain ⟨h2, h⟩ := bo h
  obtain ⟨h3, h⟩ := bo h
  obtain ⟨h4, h5⟩ := bo h
  exact ⟨rawC_ok h1, eqO_ok h2, of_decide_eq_true h3, of_decide_eq_true h4, h5⟩
/-- the own __init__ of the class x, as it stands -/
def supAt (K : PySem.W.Frag) (x : Str) : Addr := ma K (ga K x) "__init__"
abbrev SupW : Type := Option (Str × Str × Arguments × FuncBody × Scope × Addr × List Str × Addr)
def supW (K : PySem.W.Frag) (x : Str) : SupW := match K.lookup (supAt K x) with
  | some ⟨_, _, .func fd, _⟩ => some (fd.name, fd.qualname, fd.params, fd.body, fd.scope, fd.globals, fd.closure.map (·.1), fd.builtins)
  | _ => none
structure SupD where
  x : Str
  qual : Str
  y : Str
  fld : Str
  st : Stmt
def SupD.val (d : SupD) : SupW := some ("__init__", d.qual, defArgs d.st, .stmts (defBody d.st), defScope d.st, mainGlobals, ["__class__"], builtinsNs)
def SupD.ok (file : Str) (K : PySem.W.Frag) (d : SupD) : Bool := oexB K (ga K d.x) && (excDB K (ga K d.x) && (eqO (PySem.W.nsIn K mainGlobals d.x) (some (some (.ref (ga K d.x)))) && (eqO (PySem.W.findIn K (.ref (ga K d.x)) "__init__") (some (some (.ref (supAt K d.x)))) && (decide (PySem.W.typeIn K (.ref (supAt K d.x)) = some (.type "function")) &&
  (eqO (PySem.W.ks_superIn K (ga K d.x) (ga K d.x) "__init__") (some (some (.builtin "ValueError.__init__"))) && (decide (PySem.W.subIn K (.ref (ga K d.x)) (.type "ValueError") = some true) && (decide (PySem.W.mroIn K (ga K d.x) (.ref (ga K d.x)) = some true) && (eqO (PySem.W.nsIn K cStatics "thirdparty.any") (some none) && (eqO (PySem.W.findIn K (.ref (ga K d.x)) d.fld) (some none) &&
  (eqO (PySem.W.nsIn K mainGlobals "super") (some none) && (match K.lookup (supAt K d.x) with
    | some ⟨_, _, .func fd, _⟩ => (match fd.closure, fd.code, fd.defaults with
      | [(_, cc)], .ref cda, .none => PySem.W.codeIn K (.ref cda) d.qual && ((match K.lookup cda with
          | some ⟨_, _, .fields vs, _⟩ => (match (vs[2]? : Option Value) with
            | some (Value.str fl _) => (file == fl)
            | _ => false)
          | _ => false) && (match K.lookup cc with
          | some ⟨_, _, .cell (some (.ref D)), _⟩ => decide (D = ga K d.x)
          | _ => false))
      | _, _, _ => false)
    | _ => false)))))))))))
/-- what the text itself says of such an __init__ -/
structure SupS (d : SupD) : Prop where
  bd : ∃ z j p0 p1 p2 p3 p4 p5 p6 p7 p8 p9, defBody d.st = supBody z d.y d.fld j p0 p1 p2 p3 p4 p5 p6 p7 p8 p9 ∧ (p2.endLine == p4.line) = true
  ar : ((defArgs d.st).posonlyargs ++ (defArgs d.st).args).head?.map (·.arg) = some "self"
  sc : NScope ["self", d.y, "__class__"] ["self", d.y] ["__class__"] (defScope d.st)
  scs : (defScope d.st).names.lookup ("super" : Str) = some .globalImplicit
  ny : (d.y == ("__debug__" : Str)) = false ∧ (d.y == ("__classdict__" : Str)) = false
  bind : ∀ (kV doc pm : Value) (an : Option Addr) (cdv ct : Value) (cc : Addr) (us : List Value), us.length = 2 → bindArgs (PySem.W.fnX "__init__" d.qual (defArgs d.st) (defBody d.st) (defScope d.st) [("__class__", cc)] .none kV doc pm an cdv ct) ⟨us, []⟩ = pure ((["self", d.y] : List Str).zip us)
theorem sup_err {P : Program} {K : PySem.W.Frag} {h : Heap} {mg : Str → Option Value} {d : SupD} (X : K.In h) (G : h.Ns mainGlobals mg) (S : SupS d) (htop : (P.main.scope.names.lookup ("super" : Str)).isSome = false) (e : supW K d.x = d.val) (c : d.ok P.main.file K = true) : Err P K mg d.x d.y d.fld (ga K d.x) := by
  obtain ⟨c1, c⟩ := bo c
  obtain ⟨c2, c⟩ := bo c
  obtain ⟨c3, c⟩ := bo c
  obtain ⟨c4, c⟩ := bo c
  obtain ⟨c5, c⟩ := bo c
  obtain ⟨c6, c⟩ := bo c
  obtain ⟨c7, c⟩ := bo c
  obtain ⟨c8, c⟩ := bo c
  obtain ⟨c9, c⟩ := bo c
  obtain ⟨c10, c⟩ := bo c
  obtain ⟨c11, c⟩ := bo c
  refine ⟨?_, PySem.W.mg_of X G (eqO_ok c3), excDB_ok c2, eqO_ok c10⟩
  unfold supW at e
  split at c
  · rename_i oc od fd osl lk
    rw [lk] at e
    split at c
    · rename_i n0 cc cda hcl hco hdf
      obtain ⟨d1, c⟩ := bo c
      obtain ⟨d2, d3⟩ := bo c
      obtain ⟨n1, n2, n3, n4, n5, n6, n7, n8, n9, n10, n11, n12, n13, n14, n15⟩ := fd
      dsimp only at hcl hco hdf
      have e2 : (some (n1, n2, n3, n4, n5, n6, n7.map (·.1), n15) : SupW) = (some (("__init__" : Str), d.qual, defArgs d.st, FuncBody.stmts (defBody d.st), defScope d.st, mainGlobals, (["__class__"] : List Str), builtinsNs) : SupW) := e
      simp only [Option.some.injEq, Prod.mk.injEq] at e2
      obtain ⟨h1, h2, h3, h4, h5, h6, h7, h8⟩ := e2
      subst h1 h2 h3 h4 h5 h6 h8 hcl hco hdf
      have hn0 : n0 = "__class__" := by simpa using h7
      subst hn0
      refine ⟨supAt K d.x, cc, cda, _, _, _, _, _, { T := oexB_ok c1, fdE := ⟨_, _, _, _, _, _, rfl⟩, lk := ⟨_, _, _, lk⟩, cd := d1, file := ?_, cell := ?_, hm := eqO_ok c6, hB := of_decide_eq_true c7, hself := of_decide_eq_true c8, ho := eqO_ok c9, hno := eqO_ok c10, hsup := PySem.W.mg_none_of X G (eqO_ok c11), htop := htop, bd := S.bd, ar := S.ar, sc := S.sc, scs := S.scs, ny := S.ny }, eqO_ok c4, of_decide_eq_true c5, ?_⟩
      · split at d2
        · rename_i ccl cdd vs ccs lkc
          split at d2
          · rename_i fl tf hv
            exact ⟨ccl, cdd, vs, ccs, fl, tf, lkc, hv, d2⟩
          · cases d2
        · cases d2
      · split at d3
        · rename_i cl cld D csl lkcc
          have eD := of_decide_eq_true d3
          subst eD
          exact ⟨cl, cld, csl, lkcc⟩
        · cases d3
      · exact .all fun us hl => S.bind _ _ _ _ _ _ _ us hl
    · cases c
  · cases c
def err0B (K : PySem.W.Frag) (x : Str) : Bool := PySem.W.excIn K (ga K x) PySem.HandSPX.veTail "ValueError.__new__" && (PySem.W.keepIn K (.ref (ga K x)) && (eqO (PySem.W.nsIn K mainGlobals x) (some (some (.ref (ga K x)))) && excDB K (ga K x)))
theorem err0_of {K : PySem.W.Frag} {h : Heap} {mg : Str → Option Value} {x : Str} (X : K.In h) (G : h.Ns mainGlobals mg) (c : err0B K x = true) : Err0 K mg x (ga K x) := by
  obtain ⟨c1, c⟩ := bo c
  obtain ⟨c2, c⟩ := bo c
  obtain ⟨c3, c4⟩ := bo c
  exact ⟨c1, c2, PySem.W.mg_of X G (eqO_ok c3), excDB_ok c4⟩
def gloB (K : PySem.W.Frag) (x : Str) : Bool := eqO (PySem.W.nsIn K mainGlobals x) (some (some (.ref (ga K x))))
def freB (K : PySem.W.Frag) (x : Str) : Bool := eqO (PySem.W.nsIn K mainGlobals x) (some none)
theorem glo_of {K : PySem.W.Frag} {h : Heap} {mg : Str → Option Value} {x : Str} (X : K.In h) (G : h.Ns mainGlobals mg) (c : gloB K x = true) : mg x = some (.ref (ga K x)) := PySem.W.mg_of X G (eqO_ok c)
theorem fre_of {K : PySem.W.Frag} {h : Heap} {mg : Str → Option Value} {x : Str} (X : K.In h) (G : h.Ns mainGlobals mg) (c : freB K x = true) : mg x = none := PySem.W.mg_none_of X G (eqO_ok c)
/-! ### the Hook: the defs, the __init__s, the tables, a Bool -/
abbrev AlZ : Type := He.AlD × (List SupW × (List (Option (List (Option (Str × Int)))) × Bool))
def obsZ (fn : List DefA) (su : List SupD) (ts : List He.Tab) (ex : PySem.W.Frag → Bool) (K : PySem.W.Frag) : AlZ := (obsA [] fn K, su.map (fun d => supW K d.x), ts.map (fun t => He.dicW K (t.1 K)), ex K)
def valZ (fn : List DefA) (su : List SupD) (ts : List He.Tab) (w : World) : AlZ := (valA fn, su.map SupD.val, ts.map (fun t => some (He.keysIn w.params t.2)), true)
def SaysZ (fn : List DefA) (su : List SupD) (ts : List He.Tab) (ex : PySem.W.Frag → Bool) (w : World) (K : PySem.W.Frag) : Prop := obsZ fn su ts ex K = valZ fn su ts w
def obsZG (n : Nat) (fn : List DefA) (su : List SupD) (ts : List He.Tab) (ex : PySem.W.Frag → Bool) (g : Addr → Option Obj) : AlZ := obsZ fn su ts ex (frG g (asA g n))
def hookZ (n : Nat) (fn : List DefA) (su : List SupD) (ts : List He.Tab) (ex : PySem.W.Frag → Bool) : PySem.W.Hook where
  α := AlZ
  obs := fun s => obsZG n fn su ts ex s.heap.get?
  val := fun w => valZ fn su ts w
  says := fun w h => ∃ K : PySem.W.Frag, K.In h ∧ SaysZ fn su ts ex w K
  of := fun _ _ e => ⟨_, frG_in, e⟩
  keeps := fun _ _ _ ⟨K, hK, c⟩ k => ⟨K, PySem.W.Frag.In.keeps hK k, c⟩
theorem obsZG_eq {n : Nat} {fn : List DefA} {su : List SupD} {ts : List He.Tab} {ex : PySem.W.Frag → Bool} {g : Addr → Option Obj} {s : Shared} (h : ∀ a, g a = s.heap.get? a) : obsZG n fn su ts ex g = (hookZ n fn su ts ex).obs s := by
  have e : g = s.heap.get? := funext h
  rw [e] <;> rfl
section
variable {fn : List DefA} {su : List SupD} {ts : List He.Tab} {ex : PySem.W.Frag → Bool} {w : World} {K : PySem.W.Frag}
theorem SaysZ.more (c : SaysZ fn su ts ex w K) : ex K = true := congrArg (fun z : AlZ => z.2.2.2) c
theorem SaysZ.def_ (c : SaysZ fn su ts ex w K) (i : Nat) {d : DefA} (h : fn[i]? = some d := by rfl) : ∃ fd, L2.FunD K d.name d.qual d.params d.body d.scope (d.dvs K) (d.kws K) (d.at_ K) fd :=
  SaysA.def_ (fa := []) (fn := fn) (show obsA [] fn K = valA fn from congrArg (fun z : AlZ => z.1) c) i h
theorem SaysZ.sup (c : SaysZ fn su ts ex w K) (i : Nat) {d : SupD} (h : su[i]? = some d := by rfl) : supW K d.x = d.val := by
  have e : su.map (fun d => supW K d.x) = su.map SupD.val := congrArg (fun z : AlZ => z.2.1) c
  have e2 : (su.map fun d => supW K d.x)[i]? = (su.map SupD.val)[i]? := by rw [e]
  rw [List.getElem?_map, List.getElem?_map, h] at e2
  exact Option.some.inj e2
theorem SaysZ.tab (c : SaysZ fn su ts ex w K) (i : Nat) {t : He.Tab} (h : ts[i]? = some t := by rfl) : ∃ es n, KDict K w (t.1 K) es n := by
  have e : ts.map (fun t => He.dicW K (t.1 K)) = ts.map fun t => some (He.keysIn w.params t.2) := congrArg (fun z : AlZ => z.2.2.1) c
  have e2 : (ts.map fun t => He.dicW K (t.1 K))[i]? = (ts.map fun t => some (He.keysIn w.params t.2))[i]? := by rw [e]
  rw [List.getElem?_map, List.getElem?_map, h] at e2
  exact He.dicW_ok (Option.some.inj e2)
end
/-- a def of the top without defaults -/
def defG (x : Str) (st : Stmt) : DefA := ⟨fun K => ga K x, x, x, defArgs st, defBody st, defScope st, [], []⟩
/-- a method -/
def defM (x m q : Str) (st : Stmt) : DefA := ⟨fun K => ma K (ga K x) m, m, q, defArgs st, defBody st, defScope st, [], []⟩
end Aw

namespace Aw
open PySem PySem.Spec PyProof.Rows L2 NdefX He5
open He (eqO eqO_ok ga ma)
def nmE : Nat → Str
  | 0 => "BadText"
  | 1 => "BadStep"
  | 2 => "BadNumber"
  | 3 => "BadSize"
  | 4 => "BadBits"
  | 5 => "BadLetter"
  | 6 => "TooMany"
  | 7 => "TooLarge"
  | 8 => "NotMoves"
  | 9 => "BadChoice"
  | 10 => "BadPlace"
  | 11 => "BadLook"
  | 12 => "BadName"
  | 13 => "NoName"
  | 14 => "BadLine"
  | 15 => "NothingToUndo"
  | 16 => "NothingToRedo"
  | _ => "WordsError"
def CfK (K : PySem.W.Frag) (i : Nat) : Addr := ga K (nmE i)
def su0 : SupD := ⟨"BadText", "BadText.__init__", "text", "text", (inClass (top 2) 0)⟩
theorem ss0 : SupS su0 := ⟨⟨_, _, _, _, _, _, _, _, _, _, _, _, rfl, rfl⟩, rfl, nscope_by (by decide +kernel), rfl, ⟨by decide, by decide⟩, fun _ _ _ _ _ _ _ us hl => match us, hl with | [_, _], _ => rfl⟩
def su1 : SupD := ⟨"BadStep", "BadStep.__init__", "index", "index", (inClass (top 3) 0)⟩
theorem ss1 : SupS su1 := ⟨⟨_, _, _, _, _, _, _, _, _, _, _, _, rfl, rfl⟩, rfl, nscope_by (by decide +kernel), rfl, ⟨by decide, by decide⟩, fun _ _ _ _ _ _ _ us hl => match us, hl with | [_, _], _ => rfl⟩
def su2 : SupD := ⟨"BadNumber", "BadNumber.__init__", "number", "number", (inClass (top 4) 0)⟩
theorem ss2 : SupS su2 := ⟨⟨_, _, _, _, _, _, _, _, _, _, _, _, rfl, rfl⟩, rfl, nscope_by (by decide +kernel), rfl, ⟨by decide, by decide⟩, fun _ _ _ _ _ _ _ us hl => match us, hl with | [_, _], _ => rfl⟩
def su3 : SupD := ⟨"BadSize", "BadSize.__init__", "size", "size", (inClass (top 5) 0)⟩
theorem ss3 : SupS su3 := ⟨⟨_, _, _, _, _, _, _, _, _, _, _, _, rfl, rfl⟩, rfl, nscope_by (by decide +kernel), rfl, ⟨by decide, by decide⟩, fun _ _ _ _ _ _ _ us hl => match us, hl with | [_, _], _ => rfl⟩
def su4 : SupD := ⟨"BadBits", "BadBits.__init__", "index", "index", (inClass (top 6) 0)⟩
theorem ss4 : SupS su4 := ⟨⟨_, _, _, _, _, _, _, _, _, _, _, _, rfl, rfl⟩, rfl, nscope_by (by decide +kernel), rfl, ⟨by decide, by decide⟩, fun _ _ _ _ _ _ _ us hl => match us, hl with | [_, _], _ => rfl⟩
def su5 : SupD := ⟨"BadLetter", "BadLetter.__init__", "letter", "letter", (inClass (top 7) 0)⟩
theorem ss5 : SupS su5 := ⟨⟨_, _, _, _, _, _, _, _, _, _, _, _, rfl, rfl⟩, rfl, nscope_by (by decide +kernel), rfl, ⟨by decide, by decide⟩, fun _ _ _ _ _ _ _ us hl => match us, hl with | [_, _], _ => rfl⟩
def su6 : SupD := ⟨"TooMany", "TooMany.__init__", "most", "most", (inClass (top 8) 0)⟩
theorem ss6 : SupS su6 := ⟨⟨_, _, _, _, _, _, _, _, _, _, _, _, rfl, rfl⟩, rfl, nscope_by (by decide +kernel), rfl, ⟨by decide, by decide⟩, fun _ _ _ _ _ _ _ us hl => match us, hl with | [_, _], _ => rfl⟩
def su7 : SupD := ⟨"TooLarge", "TooLarge.__init__", "most", "most", (inClass (top 9) 0)⟩
theorem ss7 : SupS su7 := ⟨⟨_, _, _, _, _, _, _, _, _, _, _, _, rfl, rfl⟩, rfl, nscope_by (by decide +kernel), rfl, ⟨by decide, by decide⟩, fun _ _ _ _ _ _ _ us hl => match us, hl with | [_, _], _ => rfl⟩
def su8 : SupD := ⟨"NotMoves", "NotMoves.__init__", "index", "index", (inClass (top 11) 0)⟩
theorem ss8 : SupS su8 := ⟨⟨_, _, _, _, _, _, _, _, _, _, _, _, rfl, rfl⟩, rfl, nscope_by (by decide +kernel), rfl, ⟨by decide, by decide⟩, fun _ _ _ _ _ _ _ us hl => match us, hl with | [_, _], _ => rfl⟩
def su9 : SupD := ⟨"BadChoice", "BadChoice.__init__", "choice", "choice", (inClass (top 12) 0)⟩
theorem ss9 : SupS su9 := ⟨⟨_, _, _, _, _, _, _, _, _, _, _, _, rfl, rfl⟩, rfl, nscope_by (by decide +kernel), rfl, ⟨by decide, by decide⟩, fun _ _ _ _ _ _ _ us hl => match us, hl with | [_, _], _ => rfl⟩
def su10 : SupD := ⟨"BadPlace", "BadPlace.__init__", "place", "place", (inClass (top 13) 0)⟩
theorem ss10 : SupS su10 := ⟨⟨_, _, _, _, _, _, _, _, _, _, _, _, rfl, rfl⟩, rfl, nscope_by (by decide +kernel), rfl, ⟨by decide, by decide⟩, fun _ _ _ _ _ _ _ us hl => match us, hl with | [_, _], _ => rfl⟩
def su11 : SupD := ⟨"BadLook", "BadLook.__init__", "index", "index", (inClass (top 14) 0)⟩
theorem ss11 : SupS su11 := ⟨⟨_, _, _, _, _, _, _, _, _, _, _, _, rfl, rfl⟩, rfl, nscope_by (by decide +kernel), rfl, ⟨by decide, by decide⟩, fun _ _ _ _ _ _ _ us hl => match us, hl with | [_, _], _ => rfl⟩
def su12 : SupD := ⟨"BadName", "BadName.__init__", "name", "name", (inClass (top 15) 0)⟩
theorem ss12 : SupS su12 := ⟨⟨_, _, _, _, _, _, _, _, _, _, _, _, rfl, rfl⟩, rfl, nscope_by (by decide +kernel), rfl, ⟨by decide, by decide⟩, fun _ _ _ _ _ _ _ us hl => match us, hl with | [_, _], _ => rfl⟩
def su13 : SupD := ⟨"NoName", "NoName.__init__", "name", "name", (inClass (top 16) 0)⟩
theorem ss13 : SupS su13 := ⟨⟨_, _, _, _, _, _, _, _, _, _, _, _, rfl, rfl⟩, rfl, nscope_by (by decide +kernel), rfl, ⟨by decide, by decide⟩, fun _ _ _ _ _ _ _ us hl => match us, hl with | [_, _], _ => rfl⟩
def su14 : SupD := ⟨"BadLine", "BadLine.__init__", "number", "number", (inClass (top 17) 0)⟩
theorem ss14 : SupS su14 := ⟨⟨_, _, _, _, _, _, _, _, _, _, _, _, rfl, rfl⟩, rfl, nscope_by (by decide +kernel), rfl, ⟨by decide, by decide⟩, fun _ _ _ _ _ _ _ us hl => match us, hl with | [_, _], _ => rfl⟩
def sus : List SupD := [su0, su1, su2, su3, su4, su5, su6, su7, su8, su9, su10, su11, su12, su13, su14]
def fns : List DefA := [defG "_law_pen" sPen, defG "_law_draw" sDraw, defG "_law_pick" sPick, defG "_law_made_early" sEarly, defG "_law_made_late" sLate, defG "_law_kinds_of" sKinds, defG "law" sLaw]
def globs : List Str := ["_law_pen", "_law_draw", "_law_pick", "_law_made_early", "_law_made_late", "_law_kinds_of", "law", "WordsError"]
def frees : List Str := ["list", "int", "len", "isinstance", "ValueError", "range"]
def exB (K : PySem.W.Frag) : Bool := globs.all (gloB K) && (frees.all (freB K) && (sus.all (fun d => d.ok PySem.Challenge.pw_allwordlengths_k00_errors_made_from_thei.main.file K) && (err0B K "NothingToUndo" && (err0B K "NothingToRedo" &&
  (((List.range 17).all fun i => (List.range 17).all fun j => decide (PySem.W.kitOne K (.ref (CfK K i)) (.ref (CfK K j)) = some (decide (i = j)))) && ((List.range 17).all fun i => decide (PySem.W.kitOne K (.ref (CfK K i)) (.ref (ga K "WordsError")) = some true) && decide (PySem.W.kitOne K (.ref (CfK K i)) (.type "ValueError") = some true)))))))
abbrev R0 : PySem.W.OpenRow := PySem.W.OpenLaw.row PySem.Challenge.rw_allwordlengths_k00_errors_made_from_thei
abbrev hk : PySem.W.Hook := hookZ 5 fns sus [] exB
def ob (s : PySem.W.SharedT) : AlZ := obsZG 5 fns sus [] exB (HandSHeadRun.getT s)
theorem ob_eq (s : PySem.W.SharedT) : ob s = hk.obs s.abs := obsZG_eq (HandSHeadRun.getT_eq s)
def loose : List Str := (["WordsError", "BadText", "BadStep", "BadNumber", "BadSize", "BadBits", "BadLetter", "TooMany", "TooLarge", "NothingToUndo", "NotMoves", "BadChoice", "BadPlace", "BadLook", "BadName", "NoName", "BadLine", "NothingToRedo", "_law_pen", "_law_draw", "_law_pick", "_law_made_early", "_law_made_late", "_law_kinds_of"] : List Str)
theorem run (w : World) : HandSHeadRun.RunEq R0 (PySem.W.view R0.prog [26]) hk ob 8000 loose w := by
  intro os
  kernel_rfl
theorem facts {w : World} {K : PySem.W.Frag} {h : Heap} {mg : Str → Option Value} {f : Addr} (X : K.In h) (G : h.Ns mainGlobals mg) (hfa : mg ("law" : Str) = some (.ref f)) (c : SaysZ fns sus [] exB w K) :
    ∃ fd : FuncData, (∀ (s : Shared) (v : Value), BindsTo s fd ⟨[v], []⟩ [("_law_script", v)]) ∧ ∀ base : Heap, K.In base → base.Ns mainGlobals mg → FnOk (PySem.Challenge.rw_allwordlengths_k00_errors_made_from_thei).prog w K mg base CX0 6 f fd ["_law_script"] (spLaw K) := by
  obtain ⟨c1, m⟩ := bo c.more
  obtain ⟨c2, m⟩ := bo m
  obtain ⟨c3, m⟩ := bo m
  obtain ⟨c4, m⟩ := bo m
  obtain ⟨c5, m⟩ := bo m
  obtain ⟨c6, c7⟩ := bo m
  have gl : ∀ x ∈ globs, mg x = some (.ref (ga K x)) := fun x hx => glo_of X G (List.all_eq_true.mp c1 x hx)
  have fr : ∀ x ∈ frees, mg x = none := fun x hx => fre_of X G (List.all_eq_true.mp c2 x hx)
  have so : ∀ d ∈ sus, d.ok PySem.Challenge.pw_allwordlengths_k00_errors_made_from_thei.main.file K = true := fun d hd => List.all_eq_true.mp c3 d hd
  have htop : ((PySem.Challenge.rw_allwordlengths_k00_errors_made_from_thei).prog.main.scope.names.lookup ("super" : Str)).isSome = false := by decide +kernel
  have kit : ∀ i j, i < 17 → j < 17 → PySem.W.kitOne K (.ref (CfK K i)) (.ref (CfK K j)) = some (decide (i = j)) := fun i j hi hj =>
    of_decide_eq_true (List.all_eq_true.mp (List.all_eq_true.mp c6 i (List.mem_range.mpr hi)) j (List.mem_range.mpr hj))
  have kw : ∀ i, i < 17 → PySem.W.kitOne K (.ref (CfK K i)) (.ref (ga K "WordsError")) = some true ∧ PySem.W.kitOne K (.ref (CfK K i)) (.type "ValueError") = some true := fun i hi => by
    obtain ⟨a, b⟩ := bo (List.all_eq_true.mp c7 i (List.mem_range.mpr hi))
    exact ⟨of_decide_eq_true a, of_decide_eq_true b⟩
  have E0 : Err (PySem.Challenge.rw_allwordlengths_k00_errors_made_from_thei).prog K mg su0.x su0.y su0.fld (ga K su0.x) := sup_err X G ss0 htop (c.sup 0) (so su0 (by simp [sus]))
  have E1 : Err (PySem.Challenge.rw_allwordlengths_k00_errors_made_from_thei).prog K mg su1.x su1.y su1.fld (ga K su1.x) := sup_err X G ss1 htop (c.sup 1) (so su1 (by simp [sus]))
  have E2 : Err (PySem.Challenge.rw_allwordlengths_k00_errors_made_from_thei).prog K mg su2.x su2.y su2.fld (ga K su2.x) := sup_err X G ss2 htop (c.sup 2) (so su2 (by simp [sus]))
  have E3 : Err (PySem.Challenge.rw_allwordlengths_k00_errors_made_from_thei).prog K mg su3.x su3.y su3.fld (ga K su3.x) := sup_err X G ss3 htop (c.sup 3) (so su3 (by simp [sus]))
  have E4 : Err (PySem.Challenge.rw_allwordlengths_k00_errors_made_from_thei).prog K mg su4.x su4.y su4.fld (ga K su4.x) := sup_err X G ss4 htop (c.sup 4) (so su4 (by simp [sus]))
  have E5 : Err (PySem.Challenge.rw_allwordlengths_k00_errors_made_from_thei).prog K mg su5.x su5.y su5.fld (ga K su5.x) := sup_err X G ss5 htop (c.sup 5) (so su5 (by simp [sus]))
  have E6 : Err (PySem.Challenge.rw_allwordlengths_k00_errors_made_from_thei).prog K mg su6.x su6.y su6.fld (ga K su6.x) := sup_err X G ss6 htop (c.sup 6) (so su6 (by simp [sus]))
  have E7 : Err (PySem.Challenge.rw_allwordlengths_k00_errors_made_from_thei).prog K mg su7.x su7.y su7.fld (ga K su7.x) := sup_err X G ss7 htop (c.sup 7) (so su7 (by simp [sus]))
  have E8 : Err (PySem.Challenge.rw_allwordlengths_k00_errors_made_from_thei).prog K mg su8.x su8.y su8.fld (ga K su8.x) := sup_err X G ss8 htop (c.sup 8) (so su8 (by simp [sus]))
  have E9 : Err (PySem.Challenge.rw_allwordlengths_k00_errors_made_from_thei).prog K mg su9.x su9.y su9.fld (ga K su9.x) := sup_err X G ss9 htop (c.sup 9) (so su9 (by simp [sus]))
  have E10 : Err (PySem.Challenge.rw_allwordlengths_k00_errors_made_from_thei).prog K mg su10.x su10.y su10.fld (ga K su10.x) := sup_err X G ss10 htop (c.sup 10) (so su10 (by simp [sus]))
  have E11 : Err (PySem.Challenge.rw_allwordlengths_k00_errors_made_from_thei).prog K mg su11.x su11.y su11.fld (ga K su11.x) := sup_err X G ss11 htop (c.sup 11) (so su11 (by simp [sus]))
  have E12 : Err (PySem.Challenge.rw_allwordlengths_k00_errors_made_from_thei).prog K mg su12.x su12.y su12.fld (ga K su12.x) := sup_err X G ss12 htop (c.sup 12) (so su12 (by simp [sus]))
  have E13 : Err (PySem.Challenge.rw_allwordlengths_k00_errors_made_from_thei).prog K mg su13.x su13.y su13.fld (ga K su13.x) := sup_err X G ss13 htop (c.sup 13) (so su13 (by simp [sus]))
  have E14 : Err (PySem.Challenge.rw_allwordlengths_k00_errors_made_from_thei).prog K mg su14.x su14.y su14.fld (ga K su14.x) := sup_err X G ss14 htop (c.sup 14) (so su14 (by simp [sus]))
  have Ex : Errs (PySem.Challenge.rw_allwordlengths_k00_errors_made_from_thei).prog K mg (CfK K) (ga K "WordsError") (ga K "_law_made_late") :=
    { e0 := E0, e1 := E1, e2 := E2, e3 := E3, e4 := E4, e5 := E5, e6 := E6, e7 := E7, e8 := E8, e9 := E9, e10 := E10, e11 := E11, e12 := E12, e13 := E13, e14 := E14, e15 := err0_of X G c4, e16 := err0_of X G c5, kit := kit, kitW := fun i hi => (kw i hi).1, kitV := fun i hi => (kw i hi).2, gW := gl _ (by simp [globs]), isi := fr _ (by simp [frees]), ve := fr _ (by simp [frees]), late := gl _ (by simp [globs]) }
  have T : TxtP mg (ga K "_law_draw") := ⟨fr _ (by simp [frees]), fr _ (by simp [frees]), fr _ (by simp [frees]), gl _ (by simp [globs])⟩
  obtain ⟨dPen, DPen⟩ := c.def_ 0 (d := defG "_law_pen" sPen) rfl
  have FPen : Fun K "_law_pen" "_law_pen" sPen (ga K "_law_pen") dPen := fun_of (kws := []) DPen
  have bPen := FPen.binds (ps := ["_law_script"]) fun _ _ _ _ _ _ us hl => match us, hl with | [_], _ => rfl
  obtain ⟨dDraw, DDraw⟩ := c.def_ 1 (d := defG "_law_draw" sDraw) rfl
  have FDraw : Fun K "_law_draw" "_law_draw" sDraw (ga K "_law_draw") dDraw := fun_of (kws := []) DDraw
  have bDraw := FDraw.binds (ps := ["_law_pen_here", "_law_many"]) fun _ _ _ _ _ _ us hl => match us, hl with | [_, _], _ => rfl
  obtain ⟨dPick, DPick⟩ := c.def_ 2 (d := defG "_law_pick" sPick) rfl
  have FPick : Fun K "_law_pick" "_law_pick" sPick (ga K "_law_pick") dPick := fun_of (kws := []) DPick
  have bPick := FPick.binds (ps := ["_law_pen_here", "_law_some"]) fun _ _ _ _ _ _ us hl => match us, hl with | [_, _], _ => rfl
  obtain ⟨dEarly, DEarly⟩ := c.def_ 3 (d := defG "_law_made_early" sEarly) rfl
  have FEarly : Fun K "_law_made_early" "_law_made_early" sEarly (ga K "_law_made_early") dEarly := fun_of (kws := []) DEarly
  have bEarly := FEarly.binds (ps := ["_law_k", "_law_worth"]) fun _ _ _ _ _ _ us hl => match us, hl with | [_, _], _ => rfl
  obtain ⟨dLate, DLate⟩ := c.def_ 4 (d := defG "_law_made_late" sLate) rfl
  have FLate : Fun K "_law_made_late" "_law_made_late" sLate (ga K "_law_made_late") dLate := fun_of (kws := []) DLate
  have bLate := FLate.binds (ps := ["_law_k", "_law_worth"]) fun _ _ _ _ _ _ us hl => match us, hl with | [_, _], _ => rfl
  obtain ⟨dKinds, DKinds⟩ := c.def_ 5 (d := defG "_law_kinds_of" sKinds) rfl
  have FKinds : Fun K "_law_kinds_of" "_law_kinds_of" sKinds (ga K "_law_kinds_of") dKinds := fun_of (kws := []) DKinds
  have bKinds := FKinds.binds (ps := ["_law_e"]) fun _ _ _ _ _ _ us hl => match us, hl with | [_], _ => rfl
  obtain ⟨dLaw, DLaw⟩ := c.def_ 6 (d := defG "law" sLaw) rfl
  have FLaw : Fun K "law" "law" sLaw (ga K "law") dLaw := fun_of (kws := []) DLaw
  have bLaw := FLaw.binds (ps := ["_law_script"]) fun _ _ _ _ _ _ us hl => match us, hl with | [_], _ => rfl
  have e := hfa.symm.trans (gl "law" (by simp [globs]))
  cases e
  exact ⟨dLaw, fun s v => by
      have hb := FunD.bindsA (ps := ["_law_script"]) DLaw fun _ _ _ _ _ _ us hl => match us, hl with | [_], _ => rfl
      exact hb s [v] rfl, fun base _ _ => ok_law FLaw T Ex FPen bPen (gl _ (by simp [globs])) FDraw bDraw FPick bPick (gl _ (by simp [globs])) FEarly bEarly (gl _ (by simp [globs])) FLate bLate FKinds bKinds (gl _ (by simp [globs])) (fr _ (by simp [frees]))⟩
end Aw


open PySem PySem.W PySem.Calls PyProof.Rows
set_option maxRecDepth 100000 in
set_option maxHeartbeats 0 in
theorem PySem.Challenge.cw_allwordlengths_k00_errors_made_from_thei_holds : PySem.Challenge.rw_allwordlengths_k00_errors_made_from_thei.Holds := by
  w_on; o_law
  refine HandSHeadRun.head_any (r := OpenLaw.row PySem.Challenge.rw_allwordlengths_k00_errors_made_from_thei) (q := view (OpenLaw.row PySem.Challenge.rw_allwordlengths_k00_errors_made_from_thei).prog [26]) (H := Aw.hk) (ob := Aw.ob) (M := 8000) (loose := Aw.loose) (d := HandSHeadRun.topDef (OpenLaw.row PySem.Challenge.rw_allwordlengths_k00_errors_made_from_thei).prog 26) (kwd := []) Aw.ob_eq
    (by kernel_rfl) (fun s => by kernel_rfl) Aw.run (by kernel_rfl) (by kernel_rfl) (by kernel_rfl) (by rfl) (by first | assumption | decide +kernel) (by decide +kernel) ⟨rfl, rfl, rfl, rfl, rfl, by decide +kernel⟩ ?hw ?hc
  case hw => w_witness2
  case hc =>
    refine L2.walk_ofE (l := PySem.Challenge.rw_allwordlengths_k00_errors_made_from_thei) (n := 63) (k := 6) (x := "_law_script") (CX := L2.CX0) rfl (by decide) (by kernel_rfl) ⟨rfl, by decide, by decide⟩ ?F (fun _ _ _ _ z => z)
    intro w mg fa h Y G hmg0
    obtain ⟨K, KX, c⟩ := Y
    have hmg : mg ("law" : PySem.Str) = some (.ref fa) := by
      have e : (HandSHeadRun.topDef (OpenLaw.row PySem.Challenge.rw_allwordlengths_k00_errors_made_from_thei).prog 26).name = ("law" : PySem.Str) := by kernel_rfl
      rw [← e]
      exact hmg0
    obtain ⟨fd, hb, hF⟩ := Aw.facts (w := w) KX G hmg c
    exact ⟨K, fd, Aw.spLaw K, KX, hb, fun H a ns hl _ hS => ⟨a, ns, rfl, hS, hl, fun _ => rfl⟩, hF⟩
#print axioms PySem.Challenge.cw_allwordlengths_k00_errors_made_from_thei_holds

