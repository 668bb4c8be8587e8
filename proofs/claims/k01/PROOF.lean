import PyProof.Rows.All
import Wide.All
import OpenK.AllK
import Wide.FinOn
import KE.KExcSuper
import KE.KExcIs
import HandS.ForMost
import HandS.ForSpec
import HandS.ExcInit
import HandS.Nested
import HandS.IsInst
import HandS.HotCalls
import HandS.ExcValue
import HandS.ExcIs
import HandS.ExcField
import HandS.Head0
import HandS.Head1
import HandS.Head2
import HandS.HeadNt
import HandS.HeadEnd
import HandS.HeadHook4
import HandS.WrittenGet
import HandS.Style
import HandS.FStr
import HandS.Conv
import HandS.OwnEq
import HandS.Defaults
import HandS.MakeKw
import PySem.Challenge.RW_allwordlengths_k01_steps_are_read
set_option Elab.async false
set_option linter.all false
set_option maxRecDepth 100000
set_option maxHeartbeats 4000000
namespace Aw
open PySem PySem.Spec PyProof.Rows L2 NdefX

def supBody (z y fld : Str) (j : Nat) (p0 p1 p2 p3 p4 p5 p6 p7 p8 p9 : Pos) : List Stmt :=
  [.Expr (.Call (.Attribute (.Call (.Name "super" p0) [] [] p1) "__init__" p2) [.Constant (.str z) j p3] [] p4) p5,
   .Assign [.Attribute (.Name "self" p6) fld p7] (.Name y p8) p9]

/-- the promise of such an __init__ -/
def spSup (C : Addr) (fld : Str) : Sp := fun vs H Q _ => ∃ (a : Addr) (v : V), vs = [.ref a, v] ∧ H a = some (exo a C none) ∧
  ∀ dx, H dx = none → dx ≠ a → Q .non (upd (upd H dx (exd dx [(fld, v)])) a (exo a C (some dx)))

/-- what the written part says of the class's __init__ -/
structure SupTxt (P : Program) (K : PySem.W.Frag) (mg : Str → Option Value) (C f cc cda : Addr) (qual y fld : Str) (args : Arguments) (body : List Stmt) (scope : Scope) (fd : FuncData) : Prop where
  T : OexC K C
  fdE : ∃ dV kV doc pm an ct, fd = PySem.W.fnX "__init__" qual args body scope [("__class__", cc)] dV kV doc pm an (.ref cda) ct
  lk : ∃ oc od osl, K.lookup f = some ⟨oc, od, .func fd, osl⟩
  cd : PySem.W.codeIn K (.ref cda) qual = true
  file : ∃ ccl cdd vs ccs fl tf, K.lookup cda = some ⟨ccl, cdd, .fields vs, ccs⟩ ∧ vs[2]? = some (.str fl tf) ∧ ((P.main.file : Str) == fl) = true
  cell : ∃ cl cld csl, K.lookup cc = some ⟨cl, cld, .cell (some (.ref C)), csl⟩
  hm : PySem.W.ks_superIn K C C "__init__" = some (some (.builtin "ValueError.__init__"))
  hB : PySem.W.subIn K (.ref C) (.type "ValueError") = some true
  hself : PySem.W.mroIn K C (.ref C) = some true
  ho : PySem.W.nsIn K cStatics "thirdparty.any" = some none
  hno : PySem.W.findIn K (.ref C) fld = some none
  hsup : mg "super" = none
  htop : (P.main.scope.names.lookup ("super" : Str)).isSome = false
  bd : ∃ z j p0 p1 p2 p3 p4 p5 p6 p7 p8 p9, body = supBody z y fld j p0 p1 p2 p3 p4 p5 p6 p7 p8 p9 ∧ (p2.endLine == p4.line) = true
  ar : (args.posonlyargs ++ args.args).head?.map (·.arg) = some "self"
  sc : NScope ["self", y, "__class__"] ["self", y] ["__class__"] scope
  scs : scope.names.lookup ("super" : Str) = some .globalImplicit
  ny : (y == ("__debug__" : Str)) = false ∧ (y == ("__classdict__" : Str)) = false

section
variable {X : Cx} {C f cc cda a : Addr} {v : V} {y fld z : Str} {j : Nat} {p0 p1 p2 p3 p4 p5 p6 p7 p8 p9 : Pos} {H : Hp} {s : Shared} {fd : FuncData} {body : List Stmt} {D : Ends} {Q : Flow → Shared → Prop}
/-- what the body's context is -/
structure SupCx (X : Cx) (C f cc cda : Addr) (y : Str) (fd : FuncData) : Prop where
  n0 : X.N[0]? = some ("self" : Str)
  n1 : X.N[1]? = some y
  ks : X.env.kindOf "super" = some .globalImplicit
  kc : X.env.kindOf "__class__" = some .free
  k0 : X.env.kindOf "self" = some .local
  k1 : X.env.kindOf y = some .local
  fn : X.env.func = some f
  co : X.env.code = .ref cda
  ce : X.env.cells = ([("__class__", cc)] : List (Str × Addr))
  lk : ∃ oc od osl, X.K.lookup f = some ⟨oc, od, .func fd, osl⟩
  ar : (fd.params.posonlyargs ++ fd.params.args).head?.map (·.arg) = some "self"
  file : ∃ ccl cdd vs ccs fl tf, X.K.lookup cda = some ⟨ccl, cdd, .fields vs, ccs⟩ ∧ vs[2]? = some (.str fl tf) ∧ ((X.prog.main.file : Str) == fl) = true
  cell : ∃ cl cld csl, X.K.lookup cc = some ⟨cl, cld, .cell (some (.ref C)), csl⟩
  hm : PySem.W.ks_superIn X.K C C "__init__" = some (some (.builtin "ValueError.__init__"))
  hB : PySem.W.subIn X.K (.ref C) (.type "ValueError") = some true
  hself : PySem.W.mroIn X.K C (.ref C) = some true
  ho : PySem.W.nsIn X.K cStatics "thirdparty.any" = some none
  hsup : X.mg "super" = none
  htop : (X.prog.main.scope.names.lookup ("super" : Str)).isSome = false
  T : OexC X.K C

theorem sup_eval {env : Env} (hp : (p2.endLine == p4.line) = true) : eval (.Call (.Attribute (.Call (.Name "super" p0) [] [] p1) "__init__" p2) [.Constant (.str z) j p3] [] p4) env = (do
      let ov ← attributeBase (.Call (.Name "super" p0) [] [] p1) "__init__" env (eval (.Call (.Name "super" p0) [] [] p1) env)
      standAt p2.atName
      let (f, first) ← holding [ov] (getMethod ov "__init__" (do return (← importBound (.Call (.Name "super" p0) [] [] p1) env).getD true))
      callWith p4 f first (backTo p4 (starEach [.Constant (.str z) j p3] env)) []) := by
  have e : ∀ few, methodCallPos few (.Call (.Name "super" p0) [] [] p1) env p2 p4 = pure p4 := fun few => by
    unfold methodCallPos
    rw [hp, Bool.or_true]
    rfl
  rw [eval]
  unfold methodCall
  simp only [e]
  rfl
theorem sup_first (hp4 : (p2.endLine == p4.line) = true) (S : SupCx X C f cc cda y fd) (I : Inv X [] [some (V.ref a), some v, some (V.ref C)] H s) (ha : H a = some (exo a C none))
    (h : ∀ s', Inv X [] [some (V.ref a), some v, some (V.ref C)] H s' → Q .next s') : 
    PySem.wpAt (model X.prog X.w) X.A (.func body X.env) (exec (.Expr (.Call (.Attribute (.Call (.Name "super" p0) [] [] p1) "__init__" p2) [.Constant (.str z) j p3] [] p4) p5) X.env) Q X.xe s := by
  obtain ⟨oc, od, osl, lk⟩ := S.lk
  obtain ⟨ccl, cdd, fvs, ccs, fl, tf, lkc, hvs, hfile⟩ := S.file
  obtain ⟨cl, cld, csl, lkcc⟩ := S.cell
  obtain ⟨ar, har, harg⟩ : ∃ ar : Arg, (fd.params.posonlyargs ++ fd.params.args).head? = some ar ∧ ar.arg = "self" := by
    have h := S.ar
    cases e : (fd.params.posonlyargs ++ fd.params.args).head? with
    | none => rw [e] at h; cases h
    | some ar => rw [e] at h; exact ⟨ar, rfl, Option.some.inj h⟩
  obtain ⟨nm, q, N, bs, bm, sn, sub, ab, col, dd, k0, k1, k2, k3, k5, hC, hbm⟩ := S.T.cls
  have hcl : PySem.W.clsIn X.K C = some { name := nm, bases := bs, mro := .ref C :: bm, ns := N, qualname := q, hasDict := true, slotNames := sn, subclasses := sub, abstract := ab, collection := col, hasDel := false } := by unfold PySem.W.clsIn; rw [hC] <;> rfl
  have KX := I.kIn
  have hCs := KX _ _ hC
  obtain ⟨t1, hoa⟩ := exo_at I.hok ha
  refine PySem.ks_wpAt_Expr_any (PySem.ks_wpAt_MethodCall (PySem.ks_wpAt_super_base S.ks S.kc (by decide) S.fn (KX _ _ lk) rfl har S.co (KX _ _ lkc) rfl hvs hfile S.htop ?_) (sup_eval hp4)) I.quiet (by rfl)
  obtain ⟨mb, hb1, hb2⟩ := I.mod.blt
  refine PySem.W.ks_loadName_global I.ok.kind S.ks (Calls.loadGlobal_builtin (by rw [I.ok.glob]; exact I.mod.glob.keeps I.bk) S.hsup (by rw [I.ok.blt]; exact hb1.keeps I.bk) ((hb2 _ (by decide)).trans (by decide +kernel : bootBuiltins "super" = some (.type "super"))) ⟨rfl, ?_⟩)
  refine wpAny_loadName_free I.ok.kind S.kc (by rw [S.ce]; rfl) ⟨_, KX _ _ lkcc, rfl⟩ ?_
  rw [harg]
  obtain ⟨m, hm, hl⟩ := I.loc
  obtain ⟨u0, ru0, lu0⟩ := hl 0 "self" (V.ref a) S.n0 rfl (.inl S.k0)
  obtain rfl : u0 = Value.ref a := ru0
  have hms : m "self" = some (.ref a) := by
    rcases lu0 with ⟨_, h⟩ | ⟨h, _⟩
    · exact h
    · rw [S.k0] at h
      rcases h with h | h <;> cases h
  refine wpAny_loadName_local I.ok.kind S.k0 hm hms ?_
  refine PySem.ks_wpAny_isType_cls hCs rfl ⟨rfl, ?_⟩
  obtain ⟨hp, g, dr, tk, os⟩ := s
  refine PySem.ks_wpAny_call_super hCs rfl hoa rfl (fun c e => by cases e) (PySem.W.looks_mroIn KX S.hself) (fun h' e k => ?_)
  have I1 := I.kept (t' := tk) k
  have hoa' := k _ _ hoa
  have KX' := I1.kIn
  have hnaC : a ≠ C := fun z => by
    have q1 := (I.bs C _ (I.ok.mod.kin _ _ hC)).2
    rw [← z, ha] at q1
    cases q1
  have J : PySem.W.InstAt h' a { cls := .ref C, dict := none, data := .fields #[.ref t1, .none, .none, .none, .bool false, .none] } C none := ⟨hoa', rfl, rfl, trivial⟩
  have hsup := S.hm
  unfold PySem.W.ks_superIn at hsup
  rw [hcl] at hsup
  refine PySem.W.kxs_getMethod PySem.W.kxs_ValueError e (PySem.W.looks_opaque KX' S.ho) (fun A Q E s k q => wpAny_bind ((PySem.W.looks_clsIn KX' hcl) A _ E s k (wpAny_pure q))) rfl KX' hsup (J.type.andThen (PySem.W.looks_subIn KX' S.hB)) hnaC (by decide) ?_
  have k2 : ∀ b o, h'.get? b = some o → (h'.push (PySem.W.kxs_mw "ValueError.__init__" a)).get? b = some o := fun b o e => Heap.get?_push_of_some _ e
  have hu : (h'.push (PySem.W.kxs_mw "ValueError.__init__" a)).get? h'.objs.size = some (PySem.W.kxs_mw "ValueError.__init__" a) := Heap.get?_push_at rfl rfl
  have I2 := I1.kept (t' := tk + 1) k2
  have I3 : Inv X [(h'.objs.size, PySem.W.kxs_mw "ValueError.__init__" a)] [some (V.ref a), some v, some (V.ref C)] H ⟨h'.push (PySem.W.kxs_mw "ValueError.__init__" a), g, dr, tk + 1, os⟩ := I2.pins_of fun p hp => by
    have ep : p = (h'.objs.size, PySem.W.kxs_mw "ValueError.__init__" a) := by simpa using hp
    subst ep
    exact ⟨hu, I1.hok.fresh (Nat.le_refl _), Nat.ne_of_gt I1.lt, I1.nofs (Nat.le_refl _), fun v => by simp [PySem.W.kxs_mw]⟩
  refine PySem.W.kxs_callWith (i := "ValueError.__init__") (x := a) rfl (PySem.Calls.evalArgs_plain (thn ((pa_cons pe_str pa_nil).run p4 [(h'.objs.size, PySem.W.kxs_mw "ValueError.__init__" a)] _ _ H (fun vs H1 => H1 = H ∧ vs = [V.str z]) I3 ⟨rfl, rfl⟩) fun us s1 hq => ?_))
  obtain ⟨vs, H1, I4, rv, rfl, rfl⟩ := hq
  have hu4 := (I4.pin (h'.objs.size, PySem.W.kxs_mw "ValueError.__init__" a) (List.mem_append_right _ List.mem_cons_self)).1
  refine ⟨hu4, ?_⟩
  have I5 : Inv X [] [some (V.ref a), some v, some (V.ref C)] H1 s1 := I4.pins_of fun p hp => by cases hp
  obtain ⟨t5, hoa5⟩ := exo_at I5.hok ha
  have hC5 := I5.kIn _ _ hC
  have hlen : us.length ≤ sizeLine := by
    rw [← Paired.length rv, sizeLine_eq]
    show 1 ≤ 16777216
    decide
  obtain ⟨hp5, g5, dr5, tk5, os5⟩ := s1
  show wpAny (model X.prog X.w) X.A (call (Value.ref h'.objs.size) us) _ _ _
  refine wpAny_call (codeAny_of_tree ?_)
  show wpAny _ X.A.in1 (callAny (.ref h'.objs.size) ⟨us, []⟩) _ _ _
  simp only [callAny]
  refine wpAny_bind (wpAny_load hu4 ?_)
  simp only [PySem.W.kxs_mw, show (Value.type "method-wrapper" == Value.type "method" || Value.type "method-wrapper" == Value.type "builtin_function_or_method" || Value.type "method-wrapper" == Value.type "method-wrapper") = true by decide, if_true]
  refine PySem.W.KFB.if_so (by decide) ?_
  refine wpAny_bind (PySem.W.check_bound_init F.excBase_ValueError.toExcCallFacts hC5 hoa5 rfl ?_)
  refine wpAny_bind (wpAny_pure (wpAny_pure ?_))
  refine ⟨plainId_quiet F.excBase_ValueError.init.plain _, codeAny_builtin F.excBase_ValueError.initEntry ?_⟩
  refine PySem.W.exc_init_tree (cls := .ref C) (t0 := t5) (dv := none) (c2 := .none) (c3 := .none) (b4 := .bool false) hoa5 hlen fun h6 k6 e6 _ => ?_
  have J6 := I5.write (t' := tk5) (x := a) (e := a) (o := exo a C none) (by rw [ha]; exact True.intro) (.inl rfl) k6 ⟨_, e6⟩ (exo_ok e6)
  have eu : upd H1 a (exo a C none) = H1 := by
    funext b
    by_cases hb : b = a
    · rw [hb, upd_same, ha]
    · rw [upd_ne hb]
  rw [eu] at J6
  exact h _ J6
end

section
variable {P : Program} {w : World} {K : PySem.W.Frag} {mg : Str → Option Value} {base : Heap} {C f cc cda : Addr} {qual y fld : Str} {args : Arguments} {body : List Stmt} {scope : Scope} {fd : FuncData}
theorem ok_sup (S : SupTxt P K mg C f cc cda qual y fld args body scope fd) : FnOk P w K mg base CX0 1 f fd ["self", y] (spSup C fld) := by
  refine ⟨fun vs H Q E h => ?_, fun A outer s H as us vs Q E hr e0 hb r hsp => ?_⟩
  · obtain ⟨a, v, rfl, _⟩ := h
    rfl
  obtain ⟨a, v, rfl, ha, q⟩ := hsp
  obtain ⟨dV, kV, doc, pm, an, ct, rfl⟩ := S.fdE
  obtain ⟨oc, od, osl, lk⟩ := S.lk
  obtain ⟨ccl, cdd, fvs, ccs, fl, tf, lkc, hvs, hfile⟩ := S.file
  obtain ⟨cl, cld, csl, lkcc⟩ := S.cell
  obtain ⟨z, j, p0, p1, p2, p3, p4, p5, p6, p7, p8, p9, rfl, hp4⟩ := S.bd
  obtain ⟨ar, har, harg⟩ : ∃ ar : Arg, (args.posonlyargs ++ args.args).head? = some ar ∧ ar.arg = "self" := by
    have h := S.ar
    cases e : (args.posonlyargs ++ args.args).head? with
    | none => rw [e] at h; cases h
    | some ar => rw [e] at h; exact ⟨ar, rfl, Option.some.inj h⟩
  have KX : K.In s.heap := e0.mod.kin.keeps fun b o e => (e0.bs b o e).1
  have lim : s.heap.NoLimit := e0.mod.nolimit.keeps fun b o e => (e0.bs b o e).1
  have hcc : H cc = none := (e0.bs cc _ (e0.mod.kin _ _ lkcc)).2
  have hC0 : H C = none := by
    obtain ⟨nm, q, N, bs, bm, sn, sub, ab, col, dd, k0, k1, k2, k3, k5, hC, hbm⟩ := S.T.cls
    exact (e0.bs C _ (e0.mod.kin _ _ hC)).2
  have r' := r
  let F : NF := ⟨"__init__", qual, args, supBody z y fld j p0 p1 p2 p3 p4 p5 p6 p7 p8 p9, scope, [("__class__", cc)], cda⟩
  have Ce : CellsAt F.cl ["__class__"] [some (V.ref C)] s.heap H := by
    have one : ∀ (x : Str) (c : Addr), ([("__class__", cc)] : List (Str × Addr)).lookup x = some c → x = "__class__" ∧ c = cc := fun x c e => by
      have h := PySem.mem_of_lookup e
      simp at h
      exact h
    refine ⟨rfl, fun x c e => ?_, fun x1 x2 c e1 e2 => ?_, fun i x e => ?_⟩
    · obtain ⟨_, rfl⟩ := one x c e
      exact ⟨hcc, _, _, KX _ _ lkcc, rfl⟩
    · rw [(one _ _ e1).1, (one _ _ e2).1]
    · cases i with
      | zero =>
        have e' : ("__class__" : Str) = x := Option.some.inj e
        subst e'
        refine ⟨cc, by simp [F, List.lookup], fun v e => ?_⟩
        have e'' : V.ref C = v := Option.some.inj (Option.some.inj e)
        subst e''
        exact ⟨.ref C, rfl, _, KX _ _ lkcc, rfl⟩
      | succ i => simp at e
  refine PySem.ks_codeAny_call_defAt (fd := PySem.W.fnX "__init__" qual args (supBody z y fld j p0 p1 p2 p3 p4 p5 p6 p7 p8 p9) scope [("__class__", cc)] dV kV doc pm an (.ref cda) ct) (body := supBody z y fld j p0 p1 p2 p3 p4 p5 p6 p7 p8 p9) (binds := (["self", y] : List Str).zip us)
    hr.depth (KX _ _ lk) rfl lim (PySem.W.codeRec_of KX S.cd) rfl hb S.sc.nocell (fun ⟨n, _⟩ hy => S.sc.par n (List.of_mem_zip hy).1) (fun h₁ hns kp => ?_) S.sc.co S.sc.gen S.sc.kind
  have I : Inv (ncx CX0 P w K mg base ["self", y, "__class__"] F f A outer s H E) [] (startF ["self", y, "__class__"] [V.ref a, v] [some (V.ref C)]) H { s with heap := h₁, toks := s.toks + ((["self", y] : List Str).zip us).length } := inv_startN S.sc hr.hd e0 rfl r Ce hns kp
  show PySem.wpAt (model P w) (A.deeper (envF F f s.heap.objs.size)) (.func F.body (envF F f s.heap.objs.size)) (execs F.body (envF F f s.heap.objs.size)) _ (ncx CX0 P w K mg base ["self", y, "__class__"] F f A outer s H E).xe _
  have SC : SupCx (ncx CX0 P w K mg base ["self", y, "__class__"] F f A outer s H E) C f cc cda y (PySem.W.fnX "__init__" qual args (supBody z y fld j p0 p1 p2 p3 p4 p5 p6 p7 p8 p9) scope [("__class__", cc)] dV kV doc pm an (.ref cda) ct) := {
    n0 := rfl, n1 := rfl, ks := S.scs, kc := S.sc.frk _ List.mem_cons_self, k0 := S.sc.par _ List.mem_cons_self, k1 := S.sc.par _ (List.mem_cons_of_mem _ List.mem_cons_self), fn := rfl, co := rfl, ce := rfl,
    lk := ⟨oc, od, osl, lk⟩, ar := S.ar, file := ⟨ccl, cdd, fvs, ccs, fl, tf, lkc, hvs, hfile⟩, cell := ⟨cl, cld, csl, lkcc⟩, hm := S.hm, hB := S.hB, hself := S.hself, ho := S.ho, hsup := S.hsup, htop := S.htop, T := S.T }
  refine PySem.ks_wpAt_execs_cons (sup_first hp4 SC I ha fun s' I' => ?_)
  refine PySem.ks_wpAt_execs_cons (wpAt_of_wpAny (wpAny_mono ((ps_ost (f := fld) (pe_var (i := 0) rfl (.inl SC.k0)) (pe_var (i := 1) rfl (.inl SC.k1) S.ny.1 S.ny.2)).run [] s' _ H { nx := fun _ H' => Q .non H', rt := fun _ _ => False } I' ?_) (fun fl s2 hs => ?_) fun _ _ z => z))
  · exact ⟨v, rfl, V.ref a, rfl, a, C, rfl, S.T, S.hno, .inl ⟨ha, fun dx hd hne => q dx hd hne⟩⟩
  · cases fl with
    | next =>
      obtain ⟨σ', H', J, hq⟩ := hs
      refine wpAt_of_wpAny (wpAny_pure ?_)
      exact ⟨V.non, H', J.os, J.bare, J.base, J.hok, rfl, hq⟩
    | ret u => obtain ⟨_, _, _, _, _, q⟩ := hs; exact False.elim q
    | brk => obtain ⟨_, _, _, q⟩ := hs; exact False.elim q
    | cont => obtain ⟨_, _, _, q⟩ := hs; exact False.elim q
end
end Aw

namespace Aw
open PySem PySem.Spec PyProof.Rows L2 NdefX
abbrev St := L2.St

/-! ### X(v) made: raised, or held as a value -/
/-- what pmk_oex asks behind the argument, answered -/
theorem mkS_ans {C : Addr} {fld : Str} {v : V} {H1 : Hp} {Q : XK} (q : ∀ d, H1 d = none → Q (.ref C) (some d) (upd H1 d (.xd [(fld, v)]))) :
    ([v] : List V).length ≤ 1000 ∧ ∀ a, H1 a = none → spSup C fld (.ref a :: ([v] ++ [])) (upd H1 a (exo a C none))
      (fun v H2 => v = .non ∧ ∃ (d : Addr) (fs : List (Str × V)), H2 a = some (exo a C (some d)) ∧ H2 d = some (exd d fs) ∧ H1 d = none ∧ Q (.ref C) (some d) (upd (del H2 a) d (.xd fs))) (fun _ _ _ => False) := by
  refine ⟨by show 1 ≤ 1000; decide, fun a hn => ⟨a, v, rfl, upd_same, fun dx hd hne => ⟨rfl, dx, [(fld, v)], upd_same, ?_, ?_, ?_⟩⟩⟩
  · rw [upd_ne hne, upd_same]
  · have := hd
    rw [upd_ne hne] at this
    exact this
  · have hd' : H1 dx = none := by
      have := hd
      rw [upd_ne hne] at this
      exact this
    have eh : upd (del (upd (upd (upd H1 a (exo a C none)) dx (exd dx [(fld, v)])) a (exo a C (some dx))) a) dx (.xd [(fld, v)]) = upd H1 dx (.xd [(fld, v)]) := by
      funext b
      by_cases hb : b = dx
      · rw [hb, upd_same, upd_same]
      · rw [upd_ne hb, upd_ne hb]
        by_cases hba : b = a
        · rw [hba, del_same, hn]
        · rw [del_ne hba, upd_ne hba, upd_ne hb, upd_ne hba]
    rw [eh]
    exact q dx hd'
section
variable {X : Cx} {C f cc cda : Addr} {qual y fld x : Str} {args : Arguments} {body : List Stmt} {scope : Scope} {fd : FuncData} {e : Expr} {es : List Expr} {ta : TA} {p pos : Pos}
/-- X(v), to be raised: the reading is tMkO C (spSup C fld) [] ta; behind the argument: mkS_ans -/
theorem pmk_sup (S : SupTxt X.prog X.K X.mg C f cc cda qual y fld args body scope fd) (iC : PySem.W.findIn X.K (.ref C) "__init__" = some (some (.ref f))) (tI : PySem.W.typeIn X.K (.ref f) = some (.type "function"))
    (hb : Binds X.K fd ["self", y] []) (hr : Room 2 X.A) (hg : Gl X x) (hm : X.mg x = some (.ref C)) (ha : PA X (e :: es) ta)
    (hdb : (x == ("__debug__" : Str)) = false := by decide) (he : starEach (e :: es) X.env = (false, eval e X.env) :: starEach es X.env := by rfl) (hpl : (backTo pos (starEach es X.env)).any (·.1) = false := by rfl) :
    PMk X (.Call (.Name x p) (e :: es) [] pos) (tMkO C (spSup C fld) [] ta) :=
  pmk_oex (ds := []) (dvs := []) (CX := CX0) S.T iC tI (ok_sup S) hr hb .nil pass0 hg hm ha hdb he hpl

/-- X(v) as a value -/
def tVaS (C : Addr) (fld : Str) (ta : TA) : TE := fun σ H Q => ta σ H fun vs H1 => ∃ v, vs = [v] ∧ ∀ a d, H1 a = none → H1 d = none → d ≠ a → Q (.ref a) (upd (upd H1 d (exd d [(fld, v)])) a (exo a C (some d)))
theorem pe_sup (S : SupTxt X.prog X.K X.mg C f cc cda qual y fld args body scope fd) (iC : PySem.W.findIn X.K (.ref C) "__init__" = some (some (.ref f))) (tI : PySem.W.typeIn X.K (.ref f) = some (.type "function"))
    (hb : Binds X.K fd ["self", y] []) (hr : Room 2 X.A) (hg : Gl X x) (hm : X.mg x = some (.ref C)) (ha : PA X (e :: es) ta)
    (hdb : (x == ("__debug__" : Str)) = false := by decide) (he : starEach (e :: es) X.env = (false, eval e X.env) :: starEach es X.env := by rfl) (hpl : (backTo pos (starEach es X.env)).any (·.1) = false := by rfl) :
    PE X (.Call (.Name x p) (e :: es) [] pos) (tVaS C fld ta) := by
  have T := S.T
  have F1 : FnOk X.prog X.w X.K X.mg X.base CX0 1 f fd ["self", y] (spSup C fld) := ok_sup S
  refine ⟨fun pins s σ H Q I h => ?_⟩
  obtain ⟨nm, q, N, bs, bm, sn, sub, ab, col, dd, k0, k1, k2, k3, k5, hC, hbm⟩ := T.cls
  refine wpAny_Call_Name_kw (ld_glob I hg hm ?_ hdb)
  refine PySem.W.callWith_K (h₀ := X.base) I.ok.mod.kin T.kC (thn (ha.run pos pins s σ H _ I h) fun us s1 ⟨vs, H1, I1, r1, v, ev, q1⟩ => ⟨I1.kIn, ?_⟩) he hpl
  subst ev
  show wpAny _ _ (call (.ref C) us) _ _ _
  obtain ⟨hp, g, dr, tk, os⟩ := s1
  have hsz : hp.objs.size ≤ hp.objs.size + 1 := Nat.le_succ _
  have hn : H1 (hp.objs.size + 1) = none := I1.hok.fresh hsz
  have kk : ∀ b o, hp.get? b = some o → ((hp.push (PySem.W.kdv_tup us)).push (PySem.HandSPX.excO C hp.objs.size)).get? b = some o := fun b o e => Heap.get?_push_of_some _ (Heap.get?_push_of_some _ e)
  have hget : ((hp.push (PySem.W.kdv_tup us)).push (PySem.HandSPX.excO C hp.objs.size)).get? (hp.objs.size + 1) = some (PySem.HandSPX.excO C hp.objs.size) := by heap_get
  have I2 : Inv X pins σ (upd H1 (hp.objs.size + 1) (exo (hp.objs.size + 1) C none)) ⟨(hp.push (PySem.W.kdv_tup us)).push (PySem.HandSPX.excO C hp.objs.size), g, dr, tk, os⟩ :=
    I1.laid (t' := tk) (a := hp.objs.size + 1) (o := exo (hp.objs.size + 1) C none) (h' := (hp.push (PySem.W.kdv_tup us)).push (PySem.HandSPX.excO C hp.objs.size)) kk hsz (exo_ok hget)
  have r2 : Vals (V.ref (hp.objs.size + 1) :: [v]) (Value.ref (hp.objs.size + 1) :: us) := .cons rfl r1
  have hus : us.length ≤ sizeLine := by
    rw [← Paired.length r1, sizeLine_eq]
    show 1 ≤ 16777216
    decide
  have hq : spSup C fld (V.ref (hp.objs.size + 1) :: [v]) (upd H1 (hp.objs.size + 1) (exo (hp.objs.size + 1) C none)) (fun w H2 => w = .non ∧ Q (.ref (hp.objs.size + 1)) H2) (fun _ _ _ => False) := by
    refine ⟨hp.objs.size + 1, v, rfl, upd_same, fun dx hd hne => ⟨rfl, ?_⟩⟩
    have hd' : H1 dx = none := by
      have := hd
      rw [upd_ne hne] at this
      exact this
    have eh : upd (upd (upd H1 (hp.objs.size + 1) (exo (hp.objs.size + 1) C none)) dx (exd dx [(fld, v)])) (hp.objs.size + 1) (exo (hp.objs.size + 1) C (some dx)) = upd (upd H1 dx (exd dx [(fld, v)])) (hp.objs.size + 1) (exo (hp.objs.size + 1) C (some dx)) := by
      funext b
      by_cases hb : b = hp.objs.size + 1
      · rw [hb, upd_same, upd_same]
      · rw [upd_ne hb, upd_ne hb]
        by_cases hbd : b = dx
        · rw [hbd, upd_same, upd_same]
        · rw [upd_ne hbd, upd_ne hbd, upd_ne hb]
    rw [eh]
    exact q1 _ dx hn hd' hne
  have hl : (Value.ref (hp.objs.size + 1) :: us ++ []).length = (["self", y] : List Str).length := by
    have e := r2.length
    rw [List.append_nil]
    rw [← e]
    rfl
  have bb := hb _ (Value.ref (hp.objs.size + 1) :: us) I2.kIn hl
  rw [List.append_nil] at bb
  refine wpAny_call (PySem.HandSPX.call_own F.excBase_ValueError (fun Y => PySem.HandSPX.refsVE_contains Y bm hbm) (I1.kIn _ _ hC) (PySem.W.looks_findIn I1.kIn iC) (fun self => PySem.W.bind_fn I1.kIn self tI) hus
    (codeAny_mono (F1.run _ X.stack _ _ ⟨Value.ref (hp.objs.size + 1) :: us, []⟩ (Value.ref (hp.objs.size + 1) :: us) _ _ (fun _ _ _ => False) (hr.make C us []) (I2.env0.make C us []) bb r2 hq) fun r s' hq' => ?_))
  cases r with
  | error er => exact pass0 pins σ _ _ er s' I2 hq'
  | ok fl =>
    cases fl with
    | ret u =>
      have ea := I2.after hq'
      obtain ⟨w', H2, I3, rv, ew, q2⟩ := ea
      subst ew
      exact ⟨rv, .ref (hp.objs.size + 1), H2, I3, rfl, q2⟩
    | next => exact False.elim hq'
    | brk => exact False.elim hq'
    | cont => exact False.elim hq'
end
end Aw

namespace Aw
open PySem PySem.Spec PyProof.Rows L2 NdefX

/-! ### what an exception class says, for isinstance and for its fields -/
structure ExcD (K : PySem.W.Frag) (C : Addr) : Prop where
  ga : PySem.W.findIn K (.ref C) "__getattribute__" = some (some (.builtin "BaseException.__getattribute__"))
  gg : PySem.W.findIn K (.ref C) "__getattr__" = some none
  exC : PySem.W.subIn K (.ref C) (.type "BaseException") = some true
  hdC : PySem.W.hasDictIn K C = true
  ha : PySem.W.findIn K (.ref C) "__class__" = some (some (.builtin "object.__class__"))
  hn : PySem.W.specialIn K (.builtin "object.__class__") "__get__" = some (some (.builtin "getset_descriptor.__get__"))
  ht : PySem.W.takesIn K (.builtin "object.__class__") = some true
  hm : PySem.W.mroIn K C (.type "object") = some true
theorem ExcD.cl {K : PySem.W.Frag} {C : Addr} (E : ExcD K C) : (PySem.W.clsIn K C).isSome = true := by
  obtain ⟨cd, hc, _⟩ := PySem.W.any_some E.hdC
  rw [hc]
  rfl
section
variable {K : PySem.W.Frag} {X : Cx} {a C d : Addr} {fs : List (Str × V)} {f : Str} {v : V} {oe : Obj} {H : Hp} {pins : List (Addr × Obj)} {σ : Aw.St} {s : Shared} {A : Around} {E : Value → Shared → Prop}
/-- isinstance(e, c) of an exception in hand, at a -/
def rIsV (K : PySem.W.Frag) : List V → Hp → VK → Prop := fun xs H Q => ∃ (a C : Addr) (d : Option Addr) (c : V) (cv : Value) (b : Bool), xs = [.ref a, c] ∧ ExcD K C ∧ H a = some (exo a C d) ∧ (∀ dd, d = some dd → ∃ fs, H dd = some (exd dd fs)) ∧ ClsV c cv ∧ PySem.W.kitOne K (.ref C) cv = some b ∧ Q (.bl b) H
theorem inst_exo (I : Inv X pins σ H s) {d : Option Addr} (ha : H a = some (exo a C d)) (hd : ∀ dd, d = some dd → ∃ fs, H dd = some (exd dd fs)) : ∃ oe od, PySem.W.InstAt s.heap a oe C od := by
  obtain ⟨t1, ho⟩ := exo_at I.hok ha
  cases d with
  | none => exact ⟨_, none, ho, rfl, rfl, trivial⟩
  | some dd =>
    obtain ⟨fs, hf⟩ := hd dd rfl
    obtain ⟨mA, hns, rel⟩ := exd_at I.hok hf
    obtain ⟨o, es, ep, ho', _⟩ := hns
    exact ⟨_, some o, ho, rfl, rfl, ho'⟩
theorem call_isV : CallR X (.builtin "isinstance") (rIsV X.K) := by
  intro pins s σ H xs us Q I r h
  obtain ⟨a, C, d, c, cv, b, rfl, D, ha, hd, hc, e, q⟩ := h
  cases r with
  | cons rx rr =>
    cases rr with
    | cons rt rr =>
      cases rr
      cases rx
      have ec := hc.eq rt
      subst ec
      obtain ⟨oe, od, J⟩ := inst_exo I ha hd
      exact PySem.W.kia_one (PySem.W.kitx_exc D.cl D.ga D.gg D.exC D.ha D.hn D.ht D.hm) I.kIn J e (fun z => nomatch z) fun tk => ⟨.bl b, H, I.kept (t' := tk) fun _ _ z => z, rfl, q⟩
/-- e.f of an exception in hand -/
def tXv (K : PySem.W.Frag) (f : Str) (te : TE) : TE := fun σ H Q => te σ H fun x H1 => ∃ (a C d : Addr) (fs : List (Str × V)) (v : V), x = .ref a ∧ ExcD K C ∧ PySem.W.findIn K (.ref C) f = some none ∧ H1 a = some (exo a C (some d)) ∧ H1 d = some (exd d fs) ∧ fs.lookup f = some v ∧ Q v H1
theorem pe_xv {e : Expr} {te : TE} {pos : Pos} {n : Str} (he : PE X e te) (hb : attributeBase e n X.env (eval e X.env) = eval e X.env := by rfl) : PE X (.Attribute e n pos) (tXv X.K n te) := by
  refine ⟨fun pins s σ H Q I h => ?_⟩
  refine attr_of hb (thn (he.run pins s σ H _ I h) fun u s1 hh => ?_)
  obtain ⟨x, H1, I1, rx, a, C, d, fs, v, ex, D, hno, ha, hd, l, q⟩ := hh
  subst ex
  obtain rfl : u = Value.ref a := rx
  obtain ⟨t1, ho⟩ := exo_at I1.hok ha
  obtain ⟨mA, hns, hr⟩ := exd_at I1.hok hd
  obtain ⟨od, hod, hl⟩ := lookIn_ns hns
  obtain ⟨u, hu, ru⟩ := RelO.some_of (v := v) (o := mA n) (by rw [← l]; exact hr n)
  have J : PySem.W.InstAt s1.heap a _ C (some od) := ⟨ho, rfl, rfl, hod⟩
  exact HandSPX.exc_get I1.kIn J D.ga D.gg D.exC (PySem.W.findObj_own D.hdC hno rfl (by rw [hl, hu])) (handed_of ru) ⟨v, H1, I1.tok _, ru, q⟩

/-! ### the same of an exception that is handled (pinned) -/
theorem inst_pin (I : Inv X pins σ H s) (hp : (a, oe) ∈ X.pn) {cls : Value} {d : Option Addr} (hz : Zc cls d oe) (hf : ∃ vs, oe.data = .fields vs) (ec : cls = .ref C) (hd : ∀ dd, d = some dd → ∃ fs, H dd = some (.xd fs)) : ∃ od, PySem.W.InstAt s.heap a oe C od := by
  obtain ⟨ha, _⟩ := I.pin (a, oe) (List.mem_append_left _ hp)
  obtain ⟨vs, hv⟩ := hf
  obtain ⟨z1, z2⟩ := hz
  have hn : PySem.W.notCls oe = true := by unfold PySem.W.notCls; rw [hv] <;> rfl
  cases d with
  | none => exact ⟨none, ha, z1.trans ec, hn, by rw [z2]; exact trivial⟩
  | some dd =>
    obtain ⟨fs, h⟩ := hd dd rfl
    have hx : ObjOk X.prog X.w H s.heap dd (.xd fs) := I.hok dd _ h
    obtain ⟨mA, ⟨o, es, ep, ho, _⟩, _⟩ := hx
    exact ⟨some o, ha, z1.trans ec, hn, by rw [z2]; exact ho⟩
def rIsP (K : PySem.W.Frag) (a : Addr) (cls : Value) (d : Option Addr) : List V → Hp → VK → Prop := fun xs H Q => ∃ (C : Addr) (c : V) (cv : Value) (b : Bool), xs = [.ref a, c] ∧ cls = .ref C ∧ ExcD K C ∧ (∀ dd, d = some dd → ∃ fs, H dd = some (.xd fs)) ∧ ClsV c cv ∧ PySem.W.kitOne K (.ref C) cv = some b ∧ Q (.bl b) H
theorem call_isP {cls : Value} {d : Option Addr} (hp : (a, oe) ∈ X.pn) (hz : Zc cls d oe) (hf : ∃ vs, oe.data = .fields vs) : CallR X (.builtin "isinstance") (rIsP X.K a cls d) := by
  intro pins s σ H xs us Q I r h
  obtain ⟨C, c, cv, b, rfl, ec, D, hd, hc, e, q⟩ := h
  cases r with
  | cons rx rr =>
    cases rr with
    | cons rt rr =>
      cases rr
      cases rx
      have eq := hc.eq rt
      subst eq
      obtain ⟨od, J⟩ := inst_pin I hp hz hf ec hd
      exact PySem.W.kia_one (PySem.W.kitx_exc D.cl D.ga D.gg D.exC D.ha D.hn D.ht D.hm) I.kIn J e (fun z => nomatch z) fun tk => ⟨.bl b, H, I.kept (t' := tk) fun _ _ z => z, rfl, q⟩
def tXp (K : PySem.W.Frag) (a : Addr) (cls : Value) (d : Option Addr) (f : Str) (te : TE) : TE := fun σ H Q => te σ H fun x H1 => x = .ref a ∧ ∃ (C dd : Addr) (fs : List (Str × V)) (v : V), cls = .ref C ∧ ExcD K C ∧ PySem.W.findIn K (.ref C) f = some none ∧ d = some dd ∧ H1 dd = some (.xd fs) ∧ fs.lookup f = some v ∧ Q v H1
theorem pe_xp {cls : Value} {d : Option Addr} {e : Expr} {te : TE} {pos : Pos} {n : Str} (hp : (a, oe) ∈ X.pn) (hz : Zc cls d oe) (hf : ∃ vs, oe.data = .fields vs) (he : PE X e te) (hb : attributeBase e n X.env (eval e X.env) = eval e X.env := by rfl) : PE X (.Attribute e n pos) (tXp X.K a cls d n te) := by
  refine ⟨fun pins s σ H Q I h => ?_⟩
  refine attr_of hb (thn (he.run pins s σ H _ I h) fun u s1 hh => ?_)
  obtain ⟨x, H1, I1, rx, ex, C, dd, fs, v, ec, D, hno, ed, ea, l, q⟩ := hh
  subst ex
  obtain rfl : u = Value.ref a := rx
  subst ec ed
  obtain ⟨ha, _⟩ := I1.pin (a, oe) (List.mem_append_left _ hp)
  obtain ⟨vs, hd⟩ := hf
  have hx : ObjOk X.prog X.w H1 s1.heap dd (.xd fs) := I1.hok dd _ ea
  obtain ⟨mA, hns, hr⟩ := hx
  obtain ⟨od, ho, hl⟩ := lookIn_ns hns
  obtain ⟨u, hu, ru⟩ := RelO.some_of (v := v) (o := mA n) (by rw [← l]; exact hr n)
  have J : PySem.W.InstAt s1.heap a oe C (some od) := ⟨ha, hz.1, by unfold PySem.W.notCls; rw [hd] <;> rfl, by rw [hz.2]; exact ho⟩
  exact HandSPX.exc_get I1.kIn J D.ga D.gg D.exC (PySem.W.findObj_own D.hdC hno rfl (by rw [hl, hu])) (handed_of ru) ⟨v, H1, I1.tok _, ru, q⟩
end
/-! ### a def that is called within an except suite, with the exception handled as argument -/
structure FnE (P : Program) (w : World) (K : PySem.W.Frag) (mg : Str → Option Value) (base : Heap) (k : Nat) (f : Addr) (fd : FuncData) (ps : List Str) (sp : Addr → Value → Option Addr → Sp) : Prop where
  len : ∀ a c d vs H Q E, sp a c d vs H Q E → vs.length = ps.length
  run : ∀ (A : Around) (outer : List Env) (s : Shared) (H : Hp) (args : Args) (us : List Value) (vs : List V) (Q : VK) (E : XK) (p : Addr × Obj) (cls : Value) (d : Option Addr), L2H.RoomH k A → L2H.PinOk outer H s p → Zc cls d p.2 → (∃ vs, p.2.data = .fields vs) → Env0 P w K mg base A outer s H → BindsTo s fd args (ps.zip us) → Vals vs us → sp p.1 cls d vs H Q E →
    codeAny (model P w) A (.call (.ref f) args) (CR CX0 outer P w H s Q E) s
theorem fn_ofE {P : Program} {w : World} {K : PySem.W.Frag} {mg : Str → Option Value} {base : Heap} {k : Nat} {f : Addr} {name qual : Str} {params : Arguments} {body : List Stmt} {scope : Scope} {dV kV doc pm cdv ct oc : Value} {an od : Option Addr}
    {osl : Array (Option Value)} {N ps : List Str} {sp : Addr → Value → Option Addr → Sp} (lk : K.lookup f = some ⟨oc, od, .func (PySem.W.fnOf name qual params body scope dV kV doc pm an cdv ct), osl⟩) (hcd : PySem.W.codeIn K cdv qual = true) (S : FnScope N ps scope)
    (len : ∀ a c d vs H Q E, sp a c d vs H Q E → vs.length = ps.length)
    (hbody : ∀ (A : Around) (outer : List Env) (s : Shared) (H : Hp) (vs : List V) (Q : VK) (E : XK) (p : Addr × Obj) (cls : Value) (d : Option Addr), Zc cls d p.2 → (∃ vs, p.2.data = .fields vs) → L2H.RoomH k (A.deeper (envOfC qual scope s.heap.objs.size f cdv)) → sp p.1 cls d vs H Q E →
      ∃ t, PSs (L2H.cxH CX0 P w K mg base N qual scope f cdv A outer s H E p) body t ∧ t { nx := fun _ H' => Q .non H', rt := Q } (L2.start N vs) H) :
    FnE P w K mg base (k + 1) f (PySem.W.fnOf name qual params body scope dV kV doc pm an cdv ct) ps sp := by
  refine ⟨len, fun A outer s H args us vs Q E p cls d hr hpin hz hf e0 hb r hsp => ?_⟩
  have hl := len _ _ _ _ _ _ _ hsp
  have KX : K.In s.heap := e0.mod.kin.keeps fun b o e => (e0.bs b o e).1
  have lim : s.heap.NoLimit := e0.mod.nolimit.keeps fun b o e => (e0.bs b o e).1
  have hkind : ∀ y ∈ ps.zip us, scope.names.lookup y.1 = some .local ∨ (scope.names.lookup y.1 = some .cell ∧ ((cellsFrom (s.heap.objs.size + 1) scope.names []).lookup y.1).isSome = true) := fun ⟨n, v⟩ hy => by
    rcases S.par n (List.of_mem_zip hy).1 with q | q
    · exact .inl q
    · exact .inr ⟨q, PySem.W.cellsFrom_some _ _ _ (.inl q)⟩
  refine codeAny_call_function hr.depth (KX _ _ lk) rfl S.co S.gen rfl (PySem.W.codeRec_of KX hcd) (hb _ _ _ _ ?_)
  refine wpAny_newFunctionEnv_cells S.kind hkind fun env he s1 x => ?_
  subst he
  refine ⟨lim.keeps x.toInCall.keep, codeAny_func ?_⟩
  obtain ⟨t, ht, hq⟩ := hbody A outer s H vs Q E p cls d hz hf (hr.deeper _) hsp
  have I : Inv (L2H.cxH CX0 P w K mg base N qual scope f cdv A outer s H E p) [] (L2.start N vs) H s1 := L2H.inv_startH S hpin e0 hl r x
  refine wpAny_mono (ht.run [] s1 (L2.start N vs) H _ I hq) (fun fl s' hs => ?_) fun e s' hs => hs
  have fin : ∀ {σ' : Aw.St} {H' : Hp} {v : V} {u : Value}, Inv (L2H.cxH CX0 P w K mg base N qual scope f cdv A outer s H E p) [] σ' H' s' → RelV v u → Q v H' → CE outer P w H s Q u s' :=
    fun {σ' H' v u} J rv q => ⟨v, H', J.os, J.bare, J.base, J.hok, rv, q⟩
  cases fl with
  | ret u =>
    obtain ⟨v, σ', H', J, rv, q⟩ := hs
    exact fin J rv q
  | next =>
    obtain ⟨σ', H', J, q⟩ := hs
    exact fin (v := V.non) (u := Value.none) J rfl q
  | brk =>
    obtain ⟨_, _, _, q⟩ := hs
    exact False.elim q
  | cont =>
    obtain ⟨_, _, _, q⟩ := hs
    exact False.elim q
section
variable {X : Cx} {k : Nat} {f : Addr} {fd : FuncData} {ps : List Str} {sp : Addr → Value → Option Addr → Sp} {x : Str} {q pos : Pos} {e : Expr} {es : List Expr} {t : TA} {a : Addr} {oe : Obj}
/-- f(.., e, ..) in the suite -/
theorem pe_callE {cls : Value} {d : Option Addr} (F : FnE X.prog X.w X.K X.mg X.base k f fd ps sp) (hr : L2H.RoomH k X.A) (hp : (a, oe) ∈ X.pn) (hz : Zc cls d oe) (hf : ∃ vs, oe.data = .fields vs) (hg : Gl X x) (hm : X.mg x = some (.ref f)) (hk : PySem.W.keepIn X.K (.ref f) = true) (hb : Binds X.K fd ps [])
    (ha : PA X (e :: es) t) (hdb : (x == ("__debug__" : Str)) = false := by decide) (he : starEach (e :: es) X.env = (false, eval e X.env) :: starEach es X.env := by rfl) (hpl : (backTo pos (starEach es X.env)).any (·.1) = false := by rfl) :
    PE X (.Call (.Name x q) (e :: es) [] pos) (fun σ H Q => t σ H fun vs H1 => sp a cls d vs H1 Q E0) := by
  refine ⟨fun pins s σ H Q I h => ?_⟩
  refine wpAny_Call_Name_kw (ld_glob I hg hm ?_ hdb)
  refine PySem.W.callWith_K (h₀ := X.base) I.ok.mod.kin hk (thn (ha.run pos pins s σ H _ I h) fun us s1 ⟨vs, H1, I1, r, q⟩ => ⟨I1.kIn, ?_⟩) he hpl
  have hl : us.length = ps.length := by rw [← r.length]; exact F.len _ _ _ _ _ _ _ q
  have b := hb s1 us I1.kIn (by rw [List.append_nil]; exact hl)
  rw [List.append_nil] at b
  have P1 := I1.pin (a, oe) (List.mem_append_left _ hp)
  have hpin : L2H.PinOk X.stack H1 s1 (a, oe) := ⟨P1.1, P1.2.1, fun hm => (List.mem_cons.mp (I1.stkSub a hm)).elim P1.2.2.1 P1.2.2.2.1, P1.2.2.2.2⟩
  refine wpAny_call (codeAny_mono (F.run X.A X.stack s1 H1 ⟨us, []⟩ us vs Q E0 (a, oe) cls d hr hpin hz hf I1.env0 b r q) fun r s' hq => ?_)
  cases r with
  | error e => exact False.elim hq
  | ok fl =>
    cases fl with
    | ret u => exact I1.after hq
    | next => exact False.elim hq
    | brk => exact False.elim hq
    | cont => exact False.elim hq
end
/-- room within the suite -/
theorem roomH_suite {X : Cx} {k : Nat} (r : Room k X.A) {a : Addr} {pn : List (Addr × Obj)} : L2H.RoomH k (X.suite a pn).A := ⟨r.dp, r.un⟩
end Aw

namespace Aw
open PySem PySem.Spec PyProof.Rows L2 NdefX
def top (i : Nat) : Stmt := PySem.Challenge.pw_allwordlengths_k01_steps_are_read.main.body.getD i (.Pass ⟨0, 0, 0, 0⟩)
end Aw

namespace Aw
open PySem PySem.Spec PyProof.Rows L2 NdefX
abbrev sPen : Stmt := (top 14)
abbrev sDraw : Stmt := (top 15)
/-! ### the pen of a law -/
def penL (c : Addr) (i l : Int) : List (Key × V) := [(.inr "cells", .ref c), (.inr "at", .int i), (.inr "left", .int l)]
theorem ne_ca : ¬ ((Sum.inr "cells" : Key) = .inr "at") := by decide +kernel
theorem ne_cl : ¬ ((Sum.inr "cells" : Key) = .inr "left") := by decide +kernel
theorem ne_al : ¬ ((Sum.inr "at" : Key) = .inr "left") := by decide +kernel
theorem pen_cells {c : Addr} {i l : Int} : valV (penL c i l) (.inr "cells") = some (.ref c) := valV_pos rfl
theorem pen_at {c : Addr} {i l : Int} : valV (penL c i l) (.inr "at") = some (.int i) := (valV_neg ne_ca).trans (valV_pos rfl)
theorem pen_left {c : Addr} {i l : Int} : valV (penL c i l) (.inr "left") = some (.int l) := (valV_neg ne_cl).trans ((valV_neg ne_al).trans (valV_pos rfl))
theorem pen_putat {c : Addr} {i l j : Int} : putK (penL c i l) (.inr "at") (.int j) = penL c j l := by
  unfold putK
  rw [if_pos (by rw [valV_any, pen_at]; rfl)]
  simp only [penL, List.map_cons, List.map_nil, if_neg ne_ca, if_neg (fun z : (Sum.inr "left" : Key) = .inr "at" => ne_al z.symm), if_pos]
theorem pen_putleft {c : Addr} {i l j : Int} : putK (penL c i l) (.inr "left") (.int j) = penL c i j := by
  unfold putK
  rw [if_pos (by rw [valV_any, pen_left]; rfl)]
  simp only [penL, List.map_cons, List.map_nil, if_neg ne_cl, if_neg ne_al, if_pos]
/-- a pen stands at p, its cells at c; it has been drawn from at most n times -/
structure Pen (H : Hp) (p c : Addr) (n : Nat) : Prop where
  ex : ∃ (cells : List Int) (i l : Int), H p = some (.dK (penL c i l)) ∧ H c = some (.lst (cells.map V.int)) ∧ cells.length ≤ 63 ∧ 0 ≤ i ∧ i ≤ n ∧ 0 ≤ l
theorem Pen.pc {H : Hp} {p c : Addr} {n : Nat} (P : Pen H p c n) : p ≠ c := by
  obtain ⟨cells, i, l, h1, h2, _⟩ := P.ex
  exact ne_of h1 h2 (fun z => by cases z)
theorem Pen.mono {H : Hp} {p c : Addr} {n m : Nat} (P : Pen H p c n) (h : n ≤ m) : Pen H p c m := by
  obtain ⟨cells, i, l, h1, h2, h3, h4, h5, h6⟩ := P.ex
  exact ⟨cells, i, l, h1, h2, h3, h4, by omega, h6⟩
theorem Pen.same {H H' : Hp} {p c : Addr} {n : Nat} (P : Pen H p c n) (s : Same H H') : Pen H' p c n := by
  obtain ⟨cells, i, l, h1, h2, h3⟩ := P.ex
  exact ⟨cells, i, l, s _ _ h1, s _ _ h2, h3⟩
theorem Pen.upd {H : Hp} {p c a : Addr} {n : Nat} {o : HO} (P : Pen H p c n) (h1 : a ≠ p) (h2 : a ≠ c) : Pen (upd H a o) p c n := by
  obtain ⟨cells, i, l, e1, e2, h3⟩ := P.ex
  exact ⟨cells, i, l, by rw [upd_ne h1.symm]; exact e1, by rw [upd_ne h2.symm]; exact e2, h3⟩
theorem Pen.some1 {H : Hp} {p c : Addr} {n : Nat} (P : Pen H p c n) : ∃ o, H p = some o := by
  obtain ⟨cells, i, l, e1, e2, h3⟩ := P.ex
  exact ⟨_, e1⟩
theorem Pen.some2 {H : Hp} {p c : Addr} {n : Nat} (P : Pen H p c n) : ∃ o, H c = some o := by
  obtain ⟨cells, i, l, e1, e2, h3⟩ := P.ex
  exact ⟨_, e2⟩
theorem Pen.new {H : Hp} {p c a : Addr} {n : Nat} {o : HO} (P : Pen H p c n) (h : H a = none) : Pen (L2.upd H a o) p c n := by
  obtain ⟨o1, e1⟩ := P.some1
  obtain ⟨o2, e2⟩ := P.some2
  exact P.upd (ne_of_none e1 h).symm (ne_of_none e2 h).symm
/-- all but p is as it was -/
def But (p : Addr) (H H' : Hp) : Prop := ∀ b o, H b = some o → b ≠ p → H' b = some o
theorem But.trans {p : Addr} {H H1 H2 : Hp} (a : But p H H1) (b : But p H1 H2) : But p H H2 := fun c o e n => b c o (a c o e n) n
theorem But.same {p : Addr} {H H1 : Hp} (a : Same H H1) : But p H H1 := fun c o e _ => a c o e
theorem But.lst {p a : Addr} {H H1 : Hp} {xs : List V} (k : But p H H1) (h : H a = some (.lst xs)) (hp : a ≠ p) : H1 a = some (.lst xs) := k a _ h hp
theorem same_upd {H : Hp} {a : Addr} {o : HO} (h : H a = none) : Same H (upd H a o) := fun b u e => by rw [upd_ne (ne_of_none e h)]; exact e
/-- _law_pen: a new pen -/
def spPen (K : PySem.W.Frag) : Sp := fun vs H Q _ => ∃ (a : Addr) (ns : List Int), vs = [.ref a] ∧ SqL K H a (ns.map V.int) ∧ ns.length ≤ 63 ∧ ∀ p c H', Same H H' → H p = none → H c = none → Pen H' p c 0 → Q (.ref p) H'
/-- _law_draw: a number below many -/
def spDraw : Sp := fun vs H Q _ => ∃ (p c : Addr) (many : Int) (n : Nat), vs = [.ref p, .int many] ∧ Pen H p c n ∧ n ≤ 1000000 ∧ 0 < many ∧ many < 1073741824 ∧
  ∀ r H', 0 ≤ r → r < many → But p H H' → Pen H' p c (n + 1) → Q (.int r) H'
/-- what the walk asks of the top's names -/
structure TxtP (mg : Str → Option Value) (fDraw : Addr) : Prop where
  list : mg "list" = none
  int : mg "int" = none
  len : mg "len" = none
  draw : mg "_law_draw" = some (.ref fDraw)
section
variable {P : Program} {w : World} {K : PySem.W.Frag} {mg : Str → Option Value} {base : Heap}
theorem scPen : FnScope ["_law_script"] ["_law_script"] (defScope sPen) := ⟨rfl, rfl, rfl, by decide +kernel, rfl, by decide +kernel, by decide +kernel⟩
theorem ok_pen {f g : Addr} {fd : FuncData} (F : Fun K "_law_pen" "_law_pen" sPen f fd) (T : TxtP mg g) : FnOk P w K mg base CX0 1 f fd ["_law_script"] (spPen K) := by
  refine F.ok scPen (fun vs H Q E h => ?_) (fun cdv A outer s H vs Q E hr h => ?_)
  · obtain ⟨p, c, rfl, _⟩ := h
    rfl
  · obtain ⟨a, ns, rfl, hS, hl, k⟩ := h
    refine ⟨_, pss_one (ps_ret (pe_disp (pps_cons pe_str (pe_callTy call_list_of (by rfl) T.list (by decide +kernel) (pa_cons (pe_slice sl_list (pv 0) po_none (po_some pe_int)) pa_nil))
      (pps_cons pe_str pe_int (pps_cons pe_str pe_int pps_nil))) (by rfl) (by rfl) (fun z => by cases z) (by decide))), ?_⟩
    intro p hp
    have hS1 : SqL K (upd H p (.dK [])) a (ns.map V.int) := (same_upd hp).seq hS
    refine ⟨_, rfl, 63, rfl, a, _, rfl, hS1, fun q hq => ?_⟩
    have e63 : cutV (ns.map V.int) none (some (63 : Int)) = ns.map V.int := by
      unfold cutV
      rw [List.length_map, HT.sIx_none ns.length 0, List.drop_zero]
      have : HT.sIx ns.length ns.length (some (63 : Int)) = ns.length := by
        show (if (63 : Int) < 0 then ((63 : Int) + (ns.length : Int)).toNat else min (63 : Int).toNat ns.length) = ns.length
        rw [if_neg (by decide)]
        exact Nat.min_eq_right (by omega)
      rw [this, Nat.sub_zero]
      exact List.take_of_length_le (by rw [List.length_map]; exact Nat.le_refl ns.length)
    rw [e63]
    refine ⟨q, _, rfl, .inl (SqL.of upd_same), fun c hc => ?_⟩
    have hpq : p ≠ q := ne_of_none upd_same hq
    have hpc : p ≠ c := ne_of_none (show upd (upd H p (.dK [])) q (.lst (ns.map V.int)) p = some (.dK []) by rw [upd_ne hpq, upd_same]) hc
    have hcp : upd H p (.dK []) c = none := by
      by_cases e : c = q
      · rw [e, upd_same] at hc; cases hc
      · rw [upd_ne e] at hc; exact hc
    have hcn : H c = none := by
      rw [upd_ne hpc.symm] at hcp
      exact hcp
    refine ⟨by rw [upd_ne hpc, upd_ne hpq, upd_same], penL c 0 0, rfl, by show 3 ≤ 15; decide, ?_⟩
    have em : mergeK [] (penL c 0 0) = penL c 0 0 := by
      unfold mergeK penL
      simp only [List.foldl_cons, List.foldl_nil]
      rw [putK_new _ (show valV ([] : List (Key × V)) _ = none from rfl), putK_new, putK_new]
      · rfl
      · exact (valV_neg ne_ca).trans rfl
      · exact (valV_neg ne_cl).trans ((valV_neg ne_al).trans rfl)
    rw [em]
    refine k p c _ (fun b o e => ?_) hp hcn ⟨⟨ns, 0, 0, upd_same, ?_, hl, by decide, by decide, by decide⟩⟩
    · have hbp : b ≠ p := ne_of_none e hp
      have hbq : b ≠ q := ne_of_none (show upd H p (.dK []) b = some o by rw [upd_ne hbp]; exact e) hq
      rw [upd_ne hbp, upd_ne (ne_of_none e hcn), upd_ne hbq, upd_ne hbp]
      exact e
    · rw [upd_ne hpc.symm, upd_same]

theorem scDraw : FnScope ["_law_pen_here", "_law_many", "_law_digit", "_law_spot", "_law_cell", "_law_mixed"] ["_law_pen_here", "_law_many"] (defScope sDraw) := ⟨rfl, rfl, rfl, by decide +kernel, rfl, by decide +kernel, by decide +kernel⟩
theorem ints_flat {H : Hp} (ns : List Int) : DpAll K H (ns.map V.int) (ns.map PyData.int) := by
  induction ns with
  | nil => exact .nil
  | cons n ns ih => exact .cons (.int n) ih
theorem ints_shaped (ns : List Int) : SeqAt.shaped (.list (ns.map PyData.int)) = true := by
  have h1 : ∀ l : List Int, PyData.canLayAll0 (l.map PyData.int) = true := fun l => by
    induction l with
    | nil => rfl
    | cons n l ih => simp [PyData.canLayAll0, PyData.canLay0, ih]
  have h2 : ∀ l : List Int, PyData.depthAll (l.map PyData.int) ≤ 1 := fun l => by
    induction l with
    | nil => simp [PyData.depthAll]
    | cons n l ih => simp [PyData.depthAll, PyData.depth]; omega
  unfold SeqAt.shaped
  refine Bool.and_eq_true_iff.mpr ⟨h1 ns, decide_eq_true ?_⟩
  have := h2 ns
  simp only [PyData.depth]
  omega
theorem gCells {H : Hp} {p c : Addr} {i l : Int} (e : H p = some (.dK (penL c i l))) : DGet H p (.str "cells") (some (.ref c)) := by
  have h := DGet.k (k := .inr "cells") e
  rw [pen_cells] at h
  exact h
theorem gAt {H : Hp} {p c : Addr} {i l : Int} (e : H p = some (.dK (penL c i l))) : DGet H p (.str "at") (some (.int i)) := by
  have h := DGet.k (k := .inr "at") e
  rw [pen_at] at h
  exact h
theorem gLeft {H : Hp} {p c : Addr} {i l : Int} (e : H p = some (.dK (penL c i l))) : DGet H p (.str "left") (some (.int l)) := by
  have h := DGet.k (k := .inr "left") e
  rw [pen_left] at h
  exact h
theorem sAt {H : Hp} {p c : Addr} {i l j : Int} (e : H p = some (.dK (penL c i l))) : DPut H p (.str "at") (.int j) (upd H p (.dK (penL c j l))) := by
  have h := DPut.k (k := .inr "at") (v := .int j) e (by show 3 < sizeLine; decide)
  rw [pen_putat] at h
  exact h
theorem sLeft {H : Hp} {p c : Addr} {i l j : Int} (e : H p = some (.dK (penL c i l))) : DPut H p (.str "left") (.int j) (upd H p (.dK (penL c i j))) := by
  have h := DPut.k (k := .inr "left") (v := .int j) e (by show 3 < sizeLine; decide)
  rw [pen_putleft] at h
  exact h
theorem lt64 {x : Int} (h0 : 0 ≤ x) (h : x < 4294967296) : -(2 ^ 64) < x ∧ x < 2 ^ 64 := ⟨by omega, by omega⟩
theorem ok_draw {f : Addr} {fd : FuncData} (F : Fun K "_law_draw" "_law_draw" sDraw f fd) (T : TxtP mg f) : FnOk P w K mg base CX0 1 f fd ["_law_pen_here", "_law_many"] spDraw := by
  refine F.ok scDraw (fun vs H Q E h => ?_) (fun cdv A outer s H vs Q E hr h => ?_)
  · obtain ⟨p, c, many, n, rfl, _⟩ := h
    rfl
  · obtain ⟨p, c, many, n, rfl, Pn, hn, hm, hm2, k⟩ := h
    have hu := hu_of hr
    have nd := scDraw.nd
    refine ⟨_, (pss_cons (ps_if (pt_cmpR op_ge (pe_dget hu (pv 0) pe_str (fun _ _ => rfl)) (pv 1) (nomark _))
        (pss_cons (ps_set (i := 2) nd rfl (Or.inl rfl) (pe_op op_mod (pe_callTy call_int1 (by rfl) T.int (by decide +kernel) (pa_cons (pe_dget hu (pv 0) pe_str (fun _ _ => rfl)) pa_nil)) (pv 1)))
        (pss_cons (ps_dput hu (pv 0) pe_str (pe_op op_fdiv (pe_dget hu (pv 0) pe_str (fun _ _ => rfl)) (pv 1)) rfl)
        (pss_one (ps_ret (pv 2))))) pss_nil)
      (pss_cons (ps_set (i := 3) nd rfl (Or.inl rfl) (pe_dget hu (pv 0) pe_str (fun _ _ => rfl)))
      (pss_cons (ps_dput hu (pv 0) pe_str (pe_op op_add (pv 3) pe_int) rfl)
      (pss_cons (ps_if (pt_cmpR (op_eqD hr.units) (pe_dget hu (pv 0) pe_str (fun _ _ => rfl)) (pe_lst pa_nil) (nomark _))
        (pss_one (ps_ret (pe_op op_mod (pe_callTy call_int1 (by rfl) T.int (by decide +kernel) (pa_cons (pe_op op_add (pe_op op_mul pe_int (pv 3)) pe_int) pa_nil)) (pv 1)))) pss_nil)
      (pss_cons (ps_set (i := 4) nd rfl (Or.inl rfl) (pe_ix ix_list (pe_dget hu (pv 0) pe_str (fun _ _ => rfl)) (pe_op op_mod (pe_callTy call_int1 (by rfl) T.int (by decide +kernel) (pa_cons (pv 3) pa_nil)) (pe_callB call_len_seq (by rfl) T.len PySem.boot_len (pa_cons (pe_dget hu (pv 0) pe_str (fun _ _ => rfl)) pa_nil))) (fun _ _ => rfl)))
      (pss_cons (ps_if (PW.pt (pw_and (pt_cmpR op_lt (pv 3) (pe_callB call_len_seq (by rfl) T.len PySem.boot_len (pa_cons (pe_dget hu (pv 0) pe_str (fun _ _ => rfl)) pa_nil)) (nomark _)) (pw_and1 (pt_cmpR op_ge (pv 4) (pe_op op_pow pe_int pe_int) (nomark _)))))
        (pss_cons (ps_dput hu (pv 0) pe_str (pe_op op_fdiv (pe_op op_sub (pv 4) (pe_op op_pow pe_int pe_int)) (pv 1)) rfl)
        (pss_one (ps_ret (pe_op op_mod (pe_callTy call_int1 (by rfl) T.int (by decide +kernel) (pa_cons (pe_op op_sub (pv 4) (pe_op op_pow pe_int pe_int)) pa_nil)) (pv 1))))) pss_nil)
      (pss_cons (ps_set (i := 5) nd rfl (Or.inl rfl) (pe_op op_add (pe_op op_add (pe_op op_mul (pe_op op_add (pe_op op_mod (pe_callTy call_int1 (by rfl) T.int (by decide +kernel) (pa_cons (pv 4) pa_nil)) pe_int) pe_int) (pe_op op_add (pe_op op_mul pe_int (pv 3)) pe_int)) (pe_op op_mul (pe_op op_mul pe_int (pv 3)) (pv 3))) pe_int))
      (pss_cons (ps_set (i := 5) nd rfl (Or.inl rfl) (pe_op op_mod (pe_callTy call_int1 (by rfl) T.int (by decide +kernel) (pa_cons (pv 5) pa_nil)) pe_int))
      (pss_cons (ps_set (i := 5) nd rfl (Or.inl rfl) (pe_op op_mod (pe_callTy call_int1 (by rfl) T.int (by decide +kernel) (pa_cons (pe_op op_mul (pv 5) (pe_op op_add (pv 5) pe_int)) pa_nil)) pe_int))
      (pss_cons (ps_set (i := 5) nd rfl (Or.inl rfl) (pe_op op_mod (pe_callTy call_int1 (by rfl) T.int (by decide +kernel) (pa_cons (pe_op op_mul (pv 5) (pv 5)) pa_nil)) pe_int))
      (pss_one (ps_ret (pe_op op_mod (pe_callTy call_int1 (by rfl) T.int (by decide +kernel) (pa_cons (pe_op op_fdiv (pv 5) pe_int) pa_nil)) (pv 1)))))))))))))), ?_⟩
    obtain ⟨cells, i, l, e1, e2, hl, hi, hi2, hl0⟩ := Pn.ex
    have pc : p ≠ c := Pn.pc
    refine ⟨_, rfl, p, .int l, rfl, gLeft e1, _, rfl, l, many, rfl, rfl, _, rfl, ?_⟩
    by_cases hlm : many ≤ l
    · rw [decide_eq_true hlm]
      refine iteT ?_
      -- the digit
      refine ⟨_, rfl, p, .int l, rfl, gLeft e1, .inl ⟨l, rfl, _, rfl, l, many, rfl, rfl, hm, ?_⟩⟩
      refine ⟨_, rfl, p, .int l, rfl, gLeft e1, _, rfl, l, many, rfl, rfl, ⟨hm, hm2⟩, _, rfl, p, _, rfl, sLeft e1, ?_⟩
      refine ⟨_, rfl, k _ _ (Int.emod_nonneg _ (by omega)) (Int.emod_lt_of_pos _ hm) (fun b o e hb => by rw [upd_ne hb]; exact e) ⟨cells, i, l / many, upd_same, by rw [upd_ne pc.symm]; exact e2, hl, hi, by omega, Int.ediv_nonneg hl0 (by omega)⟩⟩
    · rw [decide_eq_false hlm]
      refine iteF ?_
      -- the place
      refine ⟨_, rfl, p, .int i, rfl, gAt e1, ?_⟩
      refine ⟨_, rfl, i, 1, rfl, rfl, _, rfl, p, _, rfl, sAt e1, ?_⟩
      generalize eH : upd H p (.dK (penL c (i + 1) l)) = H1
      have e1' : H1 p = some (.dK (penL c (i + 1) l)) := by rw [← eH, upd_same]
      have e2' : H1 c = some (.lst (cells.map V.int)) := by rw [← eH, upd_ne pc.symm]; exact e2
      have bt : But p H H1 := fun b o e hb => by rw [← eH, upd_ne hb]; exact e
      refine ⟨_, rfl, p, .ref c, rfl, gCells e1', by show 0 ≤ sizeLine; decide, fun q hq => ?_⟩
      have bt2 : But p H (upd H1 q (.lst [])) := bt.trans (But.same (same_upd hq))
      have e1q : upd H1 q (.lst []) p = some (.dK (penL c (i + 1) l)) := by rw [upd_ne (ne_of_none e1' hq)]; exact e1'
      have e2q : upd H1 q (.lst []) c = some (.lst (cells.map V.int)) := by rw [upd_ne (ne_of_none e2' hq)]; exact e2'
      refine ⟨.list (cells.map PyData.int), .list [], .lst (SqL.of e2q) (ints_flat _), .lst (SqL.of upd_same) .nil, ints_shaped _, by decide, _, rfl, ?_⟩
      cases cells with
      | nil =>
        refine iteT ?_
        refine ⟨_, rfl, 7, i, rfl, rfl, .inl ⟨by decide, by decide⟩, 7 * i, 3, rfl, rfl, .inl ⟨_, rfl, _, rfl, _, many, rfl, rfl, hm, ?_⟩⟩
        exact k _ _ (Int.emod_nonneg _ (by omega)) (Int.emod_lt_of_pos _ hm) bt2 ⟨[], i + 1, l, e1q, e2q, hl, by omega, by omega, hl0⟩
      | cons n0 rest =>
        refine iteF ?_
        generalize hcs : n0 :: rest = cs at *
        have hpos : 0 < cs.length := by rw [← hcs]; exact Nat.succ_pos _
        have fin : ∀ r l', 0 ≤ r → r < many → 0 ≤ l' → ∀ H', But p H H' → H' p = some (.dK (penL c (i + 1) l')) → H' c = some (.lst (cs.map V.int)) → Q (.int r) H' := fun r l' h1 h2 h3 H' b a1 a2 =>
          k r H' h1 h2 b ⟨cs, i + 1, l', a1, a2, hl, by omega, by omega, h3⟩
        have hlen : (cs.map V.int).length = cs.length := List.length_map ..
        obtain ⟨j, hj⟩ : ∃ j : Nat, i % (((cs.map V.int).length : Nat) : Int) = (j : Int) := ⟨(i % (((cs.map V.int).length : Nat) : Int)).toNat, by
          have := Int.emod_nonneg i (show (((cs.map V.int).length : Nat) : Int) ≠ 0 by rw [hlen]; omega)
          omega⟩
        have hjl : j < cs.length := by
          have := Int.emod_lt_of_pos i (show (0 : Int) < (((cs.map V.int).length : Nat) : Int) by rw [hlen]; omega)
          rw [hj, hlen] at this
          omega
        obtain ⟨x, hx⟩ : ∃ x, cs[j]? = some x := ⟨cs[j], List.getElem?_eq_getElem hjl⟩
        have hat : atI (cs.map V.int) (i % (((cs.map V.int).length : Nat) : Int)) = some (.int x) := by
          rw [hj]
          exact atI_nat (by rw [List.getElem?_map, hx]; rfl)
        refine ⟨_, rfl, p, .ref c, rfl, gCells e1q, _, rfl, .inl ⟨i, rfl, _, rfl, p, .ref c, rfl, gCells e1q, c, _, rfl, .inl (SqL.of e2q), i, _, rfl, rfl, by rw [hlen]; omega, c, _, _, .int x, rfl, rfl, SqL.of e2q, hat, ?_⟩⟩
        have hle : (0 : Int) ≤ 18 ∧ (18 : Int) ≤ 1000000 ∧ (10 : Int).natAbs < 2 ^ 64 := ⟨by decide, by decide, by decide⟩
        refine ⟨_, rfl, _, rfl, p, .ref c, rfl, gCells e1q, c, _, rfl, .inl (SqL.of e2q), i, _, rfl, rfl, _, rfl, ?_⟩
        have tail : ∀ {y : Int}, 0 ≤ y → y < 2147483648 → -(2 ^ 64) < y ∧ y < 2 ^ 64 := fun h1 h2 => ⟨by omega, by omega⟩
        have mods : ∀ (y m : Int), 0 < m → m < 2147483648 → 0 ≤ y % m ∧ y % m < 2147483648 := fun y m h1 h2 => ⟨Int.emod_nonneg _ (by omega), Int.lt_trans (Int.emod_lt_of_pos _ h1) h2⟩
        by_cases a1 : i < (((cs.map V.int).length : Nat) : Int)
        rw [decide_eq_true a1]
        refine iteT ?_
        refine ⟨_, rfl, 10, 18, rfl, rfl, hle, x, _, rfl, rfl, _, rfl, ?_⟩
        by_cases a2 : (10 : Int) ^ (18 : Int).toNat ≤ x
        · rw [decide_eq_true a2]
          refine iteT ?_
          refine ⟨_, rfl, 10, 18, rfl, rfl, hle, x, _, rfl, rfl, _, rfl, _, many, rfl, rfl, ⟨hm, hm2⟩, _, rfl, p, _, rfl, sLeft e1q, ?_⟩
          refine ⟨_, rfl, 10, 18, rfl, rfl, hle, x, _, rfl, rfl, .inl ⟨_, rfl, _, rfl, _, many, rfl, rfl, hm, ?_⟩⟩
          exact fin _ _ (Int.emod_nonneg _ (by omega)) (Int.emod_lt_of_pos _ hm) (Int.ediv_nonneg (by omega) (by omega)) _ (bt2.trans fun b o e hb => by rw [upd_ne hb]; exact e) upd_same (by rw [upd_ne pc.symm]; exact e2q)
        rw [decide_eq_false a2]
        refine iteF ?_
        rotate_left
        rw [decide_eq_false a1]
        refine iteF ?_
        refine iteF ?_
        all_goals
          obtain ⟨b1, b2⟩ := mods x 2147483629 (by decide) (by decide)
          refine ⟨_, rfl, .inl ⟨x, rfl, x, 2147483629, rfl, rfl, (by show (0 : Int) < 2147483629; decide), _, 1, rfl, rfl, _, rfl, 97, i, rfl, rfl, .inl ⟨by decide, by decide⟩, _, 40693, rfl, rfl, _, _, rfl, rfl, .inl ⟨by omega, by omega⟩,
            _, rfl, 69623, i, rfl, rfl, .inl ⟨by decide, by decide⟩, _, rfl, _, i, rfl, rfl, .inl ⟨by omega, by omega⟩, _, _, rfl, rfl, _, 11, rfl, rfl, ?_⟩⟩
          obtain ⟨y1, hy1⟩ : ∃ y, (x % 2147483629 + 1) * (97 * i + 40693) + 69623 * i * i + 11 = y := ⟨_, rfl⟩
          refine ⟨_, rfl, .inl ⟨y1, by rw [← hy1], y1, 2147483647, rfl, rfl, (by show (0 : Int) < 2147483647; decide), ?_⟩⟩
          obtain ⟨c1, c2⟩ := mods y1 2147483647 (by decide) (by decide)
          obtain ⟨y2, hy2⟩ : ∃ y, y1 % 2147483647 = y := ⟨_, rfl⟩
          rw [hy2] at c1 c2
          refine ⟨_, rfl, _, rfl, y2, 16811, by rw [← hy2], rfl, y2, _, by rw [← hy2], rfl, .inl (tail c1 c2), .inl ⟨_, rfl, _, 2147483587, rfl, rfl, (by show (0 : Int) < 2147483587; decide), ?_⟩⟩
          obtain ⟨y4, hy4⟩ : ∃ y, y2 * (y2 + 16811) % 2147483587 = y := ⟨_, rfl⟩
          obtain ⟨d1, d2⟩ := mods (y2 * (y2 + 16811)) 2147483587 (by decide) (by decide)
          rw [hy4] at d1 d2
          refine ⟨_, rfl, _, rfl, y4, y4, by rw [← hy4], by rw [← hy4], .inl (tail d1 d2), .inl ⟨_, rfl, _, 2147483563, rfl, rfl, (by show (0 : Int) < 2147483563; decide), ?_⟩⟩
          refine ⟨_, rfl, _, 64, rfl, rfl, ⟨by decide, by decide⟩, .inl ⟨_, rfl, _, rfl, _, many, rfl, rfl, hm, ?_⟩⟩
          exact fin _ l (Int.emod_nonneg _ (by omega)) (Int.emod_lt_of_pos _ hm) hl0 _ bt2 e1q e2q
end
end Aw

namespace Aw
open PySem PySem.Spec PyProof.Rows L2 NdefX
abbrev sPick : Stmt := (top 16)
/-- what But keeps -/
theorem But.seq {K : PySem.W.Frag} {p c : Addr} {n : Nat} {H H' : Hp} {a : Addr} {xs : List V} (b : But p H H') (P : Pen H p c n) (h : SqL K H a xs) : SqL K H' a xs := by
  obtain ⟨cells, i, l, e1, _⟩ := P.ex
  rcases h with (h | ⟨o, h⟩) | h
  · exact .inl (.inl (b _ _ h (ne_of h e1 (fun z => by cases z))))
  · exact .inl (.inr ⟨o, b _ _ h (ne_of h e1 (fun z => by cases z))⟩)
  · exact .inr h
theorem But.tup {K : PySem.W.Frag} {p c : Addr} {n : Nat} {H H' : Hp} {a : Addr} {xs : List V} (b : But p H H') (P : Pen H p c n) (h : SqT K H a xs) : SqT K H' a xs := by
  obtain ⟨cells, i, l, e1, _⟩ := P.ex
  rcases h with (h | ⟨o, h⟩) | h
  · exact .inl (.inl (b _ _ h (ne_of h e1 (fun z => by cases z))))
  · exact .inl (.inr ⟨o, b _ _ h (ne_of h e1 (fun z => by cases z))⟩)
  · exact .inr h
/-- _law_pick of a list -/
def spPick (K : PySem.W.Frag) : Sp := fun vs H Q _ => ∃ (p c l : Addr) (xs : List V) (n : Nat), vs = [.ref p, .ref l] ∧ Pen H p c n ∧ n ≤ 1000000 ∧ SqL K H l xs ∧ 0 < xs.length ∧ xs.length ≤ 1000000 ∧
  ∀ (r : Nat) (v : V) (H' : Hp), xs[r]? = some v → But p H H' → Pen H' p c (n + 1) → Q v H'
section
variable {P : Program} {w : World} {K : PySem.W.Frag} {mg : Str → Option Value} {base : Heap}
theorem scPick : FnScope ["_law_pen_here", "_law_some"] ["_law_pen_here", "_law_some"] (defScope sPick) := ⟨rfl, rfl, rfl, by decide +kernel, rfl, by decide +kernel, by decide +kernel⟩
theorem ok_pick {f g : Addr} {fd gd : FuncData} (F : Fun K "_law_pick" "_law_pick" sPick f fd) (T : TxtP mg g) (G : Fun K "_law_draw" "_law_draw" sDraw g gd) (bG : Binds K gd ["_law_pen_here", "_law_many"] []) : FnOk P w K mg base CX0 2 f fd ["_law_pen_here", "_law_some"] (spPick K) := by
  have GD : FnOk P w K mg base CX0 1 g gd ["_law_pen_here", "_law_many"] spDraw := ok_draw G T
  refine F.ok scPick (fun vs H Q E h => ?_) (fun cdv A outer s H vs Q E hr h => ?_)
  · obtain ⟨p, c, l, xs, n, rfl, _⟩ := h
    rfl
  · obtain ⟨p, c, l, xs, n, rfl, Pn, hn, hS, h0, h1, k⟩ := h
    refine ⟨_, (pss_one (ps_ret (pe_ix ix_list (pv 1) (pe_call GD hr (by rfl) T.draw G.kp bG .nil pass0 (pa_cons (pv 0) (pa_cons (pe_callB call_len_seq (by rfl) T.len PySem.boot_len (pa_cons (pv 1) pa_nil)) pa_nil))) (fun _ _ => rfl)))), ?_⟩
    refine ⟨_, rfl, _, rfl, _, rfl, l, xs, rfl, .inl hS, p, c, xs.length, n, rfl, Pn, hn, by omega, by omega, fun r H' hr0 hr1 b Pn' => ?_⟩
    obtain ⟨j, rfl⟩ : ∃ j : Nat, r = (j : Int) := ⟨r.toNat, by omega⟩
    obtain ⟨v, hv⟩ : ∃ v, xs[j]? = some v := ⟨xs[j]'(by omega), List.getElem?_eq_getElem (by omega)⟩
    exact ⟨l, xs, _, v, rfl, rfl, b.seq Pn hS, atI_nat hv, k j v H' hv b Pn'⟩
end
end Aw

namespace Aw
open PySem PySem.Spec PyProof.Rows L2 NdefX
/-! ### what tuples hold stays -/
/-- tuples are as they were -/
def TK (H H' : Hp) : Prop := (∀ a xs, H a = some (.tup xs) → H' a = some (.tup xs)) ∧ ∀ a o xs, H a = some (.frz o (.tup xs)) → H' a = some (.frz o (.tup xs))
theorem TK.refl (H : Hp) : TK H H := ⟨fun _ _ e => e, fun _ _ _ e => e⟩
theorem TK.trans {H H1 H2 : Hp} (a : TK H H1) (b : TK H1 H2) : TK H H2 := ⟨fun c xs e => b.1 c xs (a.1 c xs e), fun c o xs e => b.2 c o xs (a.2 c o xs e)⟩
theorem TK.same {H H' : Hp} (s : Same H H') : TK H H' := ⟨fun _ _ e => s _ _ e, fun _ _ _ e => s _ _ e⟩
theorem TK.but {H H' : Hp} {p c : Addr} {n : Nat} (b : But p H H') (P : Pen H p c n) : TK H H' := by
  obtain ⟨cells, i, l, e1, _⟩ := P.ex
  exact ⟨fun a xs e => b a _ e (ne_of e e1 (fun z => by cases z)), fun a o xs e => b a _ e (ne_of e e1 (fun z => by cases z))⟩
theorem TK.lst {H : Hp} {a : Addr} {xs : List V} {o : HO} (h : H a = some (.lst xs)) : TK H (upd H a o) :=
  ⟨fun b ys e => by rw [upd_ne (ne_of e h (fun z => by cases z))]; exact e, fun b u ys e => by rw [upd_ne (ne_of e h (fun z => by cases z))]; exact e⟩
theorem TK.new {H : Hp} {a : Addr} {o : HO} (h : H a = none) : TK H (upd H a o) := TK.same (same_upd h)
theorem TK.tup {K : PySem.W.Frag} {H H' : Hp} {a : Addr} {xs : List V} (t : TK H H') (h : SqT K H a xs) : SqT K H' a xs := by
  rcases h with (h | ⟨o, h⟩) | h
  · exact .inl (.inl (t.1 _ _ h))
  · exact .inl (.inr ⟨o, t.2 _ _ _ h⟩)
  · exact .inr h
mutual
/-- a value of plain data, tuples inside -/
inductive Dq (K : PySem.W.Frag) (H : Hp) : V → PyData → Prop
  | non : Dq K H .non .none
  | bl (b : Bool) : Dq K H (.bl b) (.bool b)
  | int (i : Int) : Dq K H (.int i) (.int i)
  | str (x : Str) : Dq K H (.str x) (.str x)
  | tup {a : Addr} {xs : List V} {ds : List PyData} : SqT K H a xs → DqAll K H xs ds → Dq K H (.ref a) (.tuple ds)
inductive DqAll (K : PySem.W.Frag) (H : Hp) : List V → List PyData → Prop
  | nil : DqAll K H [] []
  | cons {v : V} {vs : List V} {d : PyData} {ds : List PyData} : Dq K H v d → DqAll K H vs ds → DqAll K H (v :: vs) (d :: ds)
end
section
variable {K : PySem.W.Frag} {H H' : Hp}
mutual
theorem Dq.keep (t : TK H H') : ∀ {v : V} {d : PyData}, Dq K H v d → Dq K H' v d
  | _, _, .non => .non
  | _, _, .bl b => .bl b
  | _, _, .int i => .int i
  | _, _, .str x => .str x
  | _, _, .tup h r => .tup (t.tup h) (DqAll.keep t r)
theorem DqAll.keep (t : TK H H') : ∀ {vs : List V} {ds : List PyData}, DqAll K H vs ds → DqAll K H' vs ds
  | _, _, .nil => .nil
  | _, _, .cons h r => .cons (Dq.keep t h) (DqAll.keep t r)
end
mutual
theorem Dq.dp : ∀ {v : V} {d : PyData}, Dq K H v d → Dp K H v d
  | _, _, .non => .non
  | _, _, .bl b => .bl b
  | _, _, .int i => .int i
  | _, _, .str x => .str x
  | _, _, .tup h r => .tup h (DqAll.dp r)
theorem DqAll.dp : ∀ {vs : List V} {ds : List PyData}, DqAll K H vs ds → DpAll K H vs ds
  | _, _, .nil => .nil
  | _, _, .cons h r => .cons (Dq.dp h) (DqAll.dp r)
end
theorem DqAll.length : ∀ {vs : List V} {ds : List PyData}, DqAll K H vs ds → vs.length = ds.length
  | _, _, .nil => rfl
  | _, _, .cons _ r => congrArg (· + 1) (DqAll.length r)
theorem DqAll.get : ∀ {vs : List V} {ds : List PyData} {i : Nat} {v : V}, DqAll K H vs ds → vs[i]? = some v → ∃ d, ds[i]? = some d ∧ Dq K H v d
  | _, _, _, _, .nil, h => by simp at h
  | _, _, 0, _, .cons h _, e => ⟨_, rfl, by cases Option.some.inj e; exact h⟩
  | _, _, i + 1, _, .cons _ r, e => DqAll.get (i := i) r (by simpa using e)
theorem DqAll.append : ∀ {vs ws : List V} {ds es : List PyData}, DqAll K H vs ds → DqAll K H ws es → DqAll K H (vs ++ ws) (ds ++ es)
  | _, _, _, _, .nil, s => s
  | _, _, _, _, .cons h r, s => .cons h (DqAll.append r s)
theorem DqAll.split {v : V} {vs : List V} {d : PyData} {ds : List PyData} : DqAll K H (v :: vs) (d :: ds) → Dq K H v d ∧ DqAll K H vs ds
  | .cons h r => ⟨h, r⟩
theorem Dq.of_tuple {v : V} {ds : List PyData} (h : Dq K H v (.tuple ds)) : ∃ a xs, v = .ref a ∧ SqT K H a xs ∧ DqAll K H xs ds := by
  cases h with
  | tup h r => exact ⟨_, _, rfl, h, r⟩
theorem Dq.of_str {v : V} {x : Str} (h : Dq K H v (.str x)) : v = .str x := by cases h; rfl
theorem Dq.of_int {v : V} {i : Int} (h : Dq K H v (.int i)) : v = .int i := by cases h; rfl
theorem Dq.of_none {v : V} (h : Dq K H v .none) : v = .non := by cases h; rfl
theorem Dq.of_bool {v : V} {b : Bool} (h : Dq K H v (.bool b)) : v = .bl b := by cases h; rfl
end
/-! ### values that are alike: the same, or tuples of alike ones -/
def Al (K : PySem.W.Frag) (H : Hp) : Nat → V → V → Prop
  | 0 => fun _ _ => False
  | n + 1 => fun x y => (x = y ∧ flatB x = true) ∨ (∃ a, x = .ref a ∧ y = .ref a) ∨ ∃ a b xs ys, x = .ref a ∧ y = .ref b ∧ SqT K H a xs ∧ SqT K H b ys ∧ Paired (Al K H n) xs ys
theorem Al.flat {K : PySem.W.Frag} {H : Hp} {n : Nat} {x : V} (h : flatB x = true) : Al K H (n + 1) x x := .inl ⟨rfl, h⟩
theorem Al.ref {K : PySem.W.Frag} {H : Hp} {n : Nat} {a : Addr} : Al K H (n + 1) (.ref a) (.ref a) := .inr (.inl ⟨a, rfl, rfl⟩)
theorem Al.self {K : PySem.W.Frag} {H : Hp} {n : Nat} : ∀ {x : V}, (∀ a, x = .ref a ∨ flatB x = true) → Al K H (n + 1) x x := fun {x} h => by
  cases x with
  | ref a => exact Al.ref
  | _ => exact Al.flat ((h 0).resolve_left (fun z => by cases z))
section
variable {X : Cx} {pins : List (Addr × Obj)} {σ : Aw.St} {H : Hp} {s : Shared}
theorem al_items {F : V → V → Prop} {A : Around} (ih : ∀ x y v u, F x y → RelV x v → RelV y u → SeqAt.EqAt A s v u true) : ∀ {xs ys : List V} {us ws : List Value}, Paired F xs ys → Vals xs us → Vals ys ws → ∀ j (h1 : j < us.length) (h2 : j < ws.length), SeqAt.EqAt A s us[j] ws[j] true
  | _, _, _, _, .nil, .nil, .nil, _, h1, _ => absurd h1 (Nat.not_lt_zero _)
  | _, _, _, _, .cons f _, .cons r1 _, .cons r2 _, 0, _, _ => ih _ _ _ _ f r1 r2
  | _, _, _, _, .cons _ p, .cons _ q1, .cons _ q2, j + 1, h1, h2 => al_items ih p q1 q2 j (Nat.lt_of_succ_lt_succ h1) (Nat.lt_of_succ_lt_succ h2)
theorem all_true (n : Nat) : ((List.range n).all fun _ => true) = true := List.all_eq_true.mpr fun _ _ => rfl
theorem al_run (I : Inv X pins σ H s) : ∀ (n : Nat) (A : Around), A.units + n < cLine → ∀ (x y : V) (v u : Value), Al X.K H n x y → RelV x v → RelV y u → SeqAt.EqAt A s v u true
  | 0, _, _, _, _, _, _, h, _, _ => (show False from h).elim
  | n + 1, A, hu, x, y, v, u, h, rx, ry => by
    rcases h with ⟨rfl, f⟩ | ⟨a, rfl, rfl⟩ | ⟨a, b, xs, ys, rfl, rfl, ha, hb, hp⟩
    · exact eqAt_same rx ry f
    · cases (show v = Value.ref a from rx)
      cases (show u = Value.ref a from ry)
      exact SeqAt.EqAt.same _
    · cases (show v = Value.ref a from rx)
      cases (show u = Value.ref b from ry)
      obtain ⟨us, r1, p1, _⟩ := I.tuple ha
      obtain ⟨ws, r2, p2, _⟩ := I.tuple hb
      have hsz : us.length = ws.length := by
        rw [← r1.length, ← r2.length]
        exact Paired.length hp
      have step := al_items (A := A.in1) (fun x y v u f => al_run I n A.in1 (by show A.units + 1 + n < cLine; omega) x y v u f) hp r1 r2
      have rc := SeqAt.RcAt.tuples (A := A) (s := s) (l := a) (b := b) (items := us.toArray) (items2 := ws.toArray) (e := fun _ => true) p1 p2 (by omega) (fun j h1 h2 => by simpa using step j (by simpa using h1) (by simpa using h2))
      by_cases e : a = b
      · subst e
        exact SeqAt.EqAt.same _
      · intro prog w E Q hq
        unfold eqBool
        refine wpAny_holding ?_
        refine wpAny_ite_split (fun hab => absurd (Value.ref.inj (eq_of_beq hab)) e) (fun _ => ?_)
        refine wpAny_bind (rc prog w E _ (wpAny_truthy_bool ?_))
        have e1 : ((List.range (min us.toArray.size ws.toArray.size)).all (fun _ => true) && us.toArray.size == ws.toArray.size) = true := by
          rw [all_true, List.size_toArray, List.size_toArray, hsz]
          simp
        rw [e1]
        exact hq
/-- x != y, two tuples that are alike -/
def rNeAl (K : PySem.W.Frag) : R2 := fun x y H Q => ∃ n a b xs ys, n ≤ 60 ∧ x = .ref a ∧ y = .ref b ∧ SqT K H a xs ∧ SqT K H b ys ∧ Paired (Al K H n) xs ys ∧ Q (.bl false) H
theorem op_neAl (hu : X.A.units + 64 < cLine) : OpR X (compareOp .NotEq) (rNeAl X.K) := by
  intro pins s σ H x y v u Q I rx ry h
  obtain ⟨n, a, b, xs, ys, hn, rfl, rfl, ha, hb, hp, q⟩ := h
  cases (show v = Value.ref a from rx)
  cases (show u = Value.ref b from ry)
  obtain ⟨us, r1, p1, _⟩ := I.tuple ha
  obtain ⟨ws, r2, p2, _⟩ := I.tuple hb
  have hsz : us.length = ws.length := by
    rw [← r1.length, ← r2.length]
    exact Paired.length hp
  have step := al_items (A := X.A.in1) (s := s) (fun x y v u f => al_run I n X.A.in1 (by show X.A.units + 1 + n < cLine; omega) x y v u f) hp r1 r2
  refine SeqAt.RcNeAt.tuples (A := X.A) (s := s) (l := a) (b := b) (items := us.toArray) (items2 := ws.toArray) (e := fun _ => true) p1 p2 (by omega) (fun j h1 h2 => by simpa using step j (by simpa using h1) (by simpa using h2)) X.prog X.w _ _ ?_
  have e1 : (!((List.range (min us.toArray.size ws.toArray.size)).all (fun _ => true) && us.toArray.size == ws.toArray.size)) = false := by
    rw [all_true, List.size_toArray, List.size_toArray, hsz]
    simp
  rw [e1]
  exact ⟨.bl false, H, I, rfl, q⟩
end
end Aw

namespace Aw
open PySem PySem.Spec PyProof.Rows L2 NdefX
/-! ### the texts of steps: the reader's mirror, the 99 rows -/
/-- kind, number, rest -/
abbrev Row : Type := Str × Option Int × Option (Int × Int)
def bareL : List Str := ["turn", "deal", "undeal", "swap", "gather", "spread", "flip first", "flip last"]
def numL : List (Str × Int) := [("-3", -3), ("-2", -2), ("-1", -1), ("1", 1), ("2", 2), ("3", 3)]
def restL : List (Str × (Int × Int)) := [("0 of 2", (0, 2)), ("1 of 2", (1, 2)), ("0 of 3", (0, 3)), ("1 of 3", (1, 3)), ("2 of 3", (2, 3)), ("0 of 4", (0, 4)), ("1 of 4", (1, 4)), ("2 of 4", (2, 4)), ("3 of 4", (3, 4))]
/-- behind the number -/
def parseB (kind : Str) (by_ : Int) (between pair : Str) : Option Row :=
  if between = "" then (if kind ∈ (["roll", "near", "sum"] : List Str) then some (kind, some by_, none) else none)
  else if kind ∈ (["near", "sum"] : List Str) then
    match restL.lookup pair with
    | none => none
    | some r => if kind = "sum" ∧ by_ % r.2 ≠ 0 then none else some (kind, some by_, some r)
  else none
def parse (x : Str) : Option Row :=
  if x ∈ bareL then some (x, none, none)
  else if (Txt.partition x " ").1 = "flip" ∧ (restL.lookup (Txt.partition x " ").2.2).isSome = true then (restL.lookup (Txt.partition x " ").2.2).map fun r => ("flip", none, some r)
  else match numL.lookup (Txt.partition (Txt.partition x " ").2.2 " at ").1 with
    | none => none
    | some b => parseB (Txt.partition x " ").1 b (Txt.partition (Txt.partition x " ").2.2 " at ").2.1 (Txt.partition (Txt.partition x " ").2.2 " at ").2.2
def kr (t k : Str) (b : Option Int) (r : Option (Int × Int)) : Str × Row := (t, (k, b, r))
def known : List (Str × Row) := [
  kr "turn" "turn" (none) (none),
  kr "deal" "deal" (none) (none),
  kr "undeal" "undeal" (none) (none),
  kr "swap" "swap" (none) (none),
  kr "gather" "gather" (none) (none),
  kr "spread" "spread" (none) (none),
  kr "flip first" "flip first" (none) (none),
  kr "flip last" "flip last" (none) (none),
  kr "roll -3" "roll" (some (-3)) (none),
  kr "near -3" "near" (some (-3)) (none),
  kr "sum -3" "sum" (some (-3)) (none),
  kr "near -3 at 0 of 2" "near" (some (-3)) (some (0, 2)),
  kr "near -3 at 1 of 2" "near" (some (-3)) (some (1, 2)),
  kr "near -3 at 0 of 3" "near" (some (-3)) (some (0, 3)),
  kr "near -3 at 1 of 3" "near" (some (-3)) (some (1, 3)),
  kr "near -3 at 2 of 3" "near" (some (-3)) (some (2, 3)),
  kr "sum -3 at 0 of 3" "sum" (some (-3)) (some (0, 3)),
  kr "sum -3 at 1 of 3" "sum" (some (-3)) (some (1, 3)),
  kr "sum -3 at 2 of 3" "sum" (some (-3)) (some (2, 3)),
  kr "near -3 at 0 of 4" "near" (some (-3)) (some (0, 4)),
  kr "near -3 at 1 of 4" "near" (some (-3)) (some (1, 4)),
  kr "near -3 at 2 of 4" "near" (some (-3)) (some (2, 4)),
  kr "near -3 at 3 of 4" "near" (some (-3)) (some (3, 4)),
  kr "roll -2" "roll" (some (-2)) (none),
  kr "near -2" "near" (some (-2)) (none),
  kr "sum -2" "sum" (some (-2)) (none),
  kr "near -2 at 0 of 2" "near" (some (-2)) (some (0, 2)),
  kr "near -2 at 1 of 2" "near" (some (-2)) (some (1, 2)),
  kr "sum -2 at 0 of 2" "sum" (some (-2)) (some (0, 2)),
  kr "sum -2 at 1 of 2" "sum" (some (-2)) (some (1, 2)),
  kr "near -2 at 0 of 3" "near" (some (-2)) (some (0, 3)),
  kr "near -2 at 1 of 3" "near" (some (-2)) (some (1, 3)),
  kr "near -2 at 2 of 3" "near" (some (-2)) (some (2, 3)),
  kr "near -2 at 0 of 4" "near" (some (-2)) (some (0, 4)),
  kr "near -2 at 1 of 4" "near" (some (-2)) (some (1, 4)),
  kr "near -2 at 2 of 4" "near" (some (-2)) (some (2, 4)),
  kr "near -2 at 3 of 4" "near" (some (-2)) (some (3, 4)),
  kr "roll -1" "roll" (some (-1)) (none),
  kr "near -1" "near" (some (-1)) (none),
  kr "sum -1" "sum" (some (-1)) (none),
  kr "near -1 at 0 of 2" "near" (some (-1)) (some (0, 2)),
  kr "near -1 at 1 of 2" "near" (some (-1)) (some (1, 2)),
  kr "near -1 at 0 of 3" "near" (some (-1)) (some (0, 3)),
  kr "near -1 at 1 of 3" "near" (some (-1)) (some (1, 3)),
  kr "near -1 at 2 of 3" "near" (some (-1)) (some (2, 3)),
  kr "near -1 at 0 of 4" "near" (some (-1)) (some (0, 4)),
  kr "near -1 at 1 of 4" "near" (some (-1)) (some (1, 4)),
  kr "near -1 at 2 of 4" "near" (some (-1)) (some (2, 4)),
  kr "near -1 at 3 of 4" "near" (some (-1)) (some (3, 4)),
  kr "roll 1" "roll" (some (1)) (none),
  kr "near 1" "near" (some (1)) (none),
  kr "sum 1" "sum" (some (1)) (none),
  kr "near 1 at 0 of 2" "near" (some (1)) (some (0, 2)),
  kr "near 1 at 1 of 2" "near" (some (1)) (some (1, 2)),
  kr "near 1 at 0 of 3" "near" (some (1)) (some (0, 3)),
  kr "near 1 at 1 of 3" "near" (some (1)) (some (1, 3)),
  kr "near 1 at 2 of 3" "near" (some (1)) (some (2, 3)),
  kr "near 1 at 0 of 4" "near" (some (1)) (some (0, 4)),
  kr "near 1 at 1 of 4" "near" (some (1)) (some (1, 4)),
  kr "near 1 at 2 of 4" "near" (some (1)) (some (2, 4)),
  kr "near 1 at 3 of 4" "near" (some (1)) (some (3, 4)),
  kr "roll 2" "roll" (some (2)) (none),
  kr "near 2" "near" (some (2)) (none),
  kr "sum 2" "sum" (some (2)) (none),
  kr "near 2 at 0 of 2" "near" (some (2)) (some (0, 2)),
  kr "near 2 at 1 of 2" "near" (some (2)) (some (1, 2)),
  kr "sum 2 at 0 of 2" "sum" (some (2)) (some (0, 2)),
  kr "sum 2 at 1 of 2" "sum" (some (2)) (some (1, 2)),
  kr "near 2 at 0 of 3" "near" (some (2)) (some (0, 3)),
  kr "near 2 at 1 of 3" "near" (some (2)) (some (1, 3)),
  kr "near 2 at 2 of 3" "near" (some (2)) (some (2, 3)),
  kr "near 2 at 0 of 4" "near" (some (2)) (some (0, 4)),
  kr "near 2 at 1 of 4" "near" (some (2)) (some (1, 4)),
  kr "near 2 at 2 of 4" "near" (some (2)) (some (2, 4)),
  kr "near 2 at 3 of 4" "near" (some (2)) (some (3, 4)),
  kr "roll 3" "roll" (some (3)) (none),
  kr "near 3" "near" (some (3)) (none),
  kr "sum 3" "sum" (some (3)) (none),
  kr "near 3 at 0 of 2" "near" (some (3)) (some (0, 2)),
  kr "near 3 at 1 of 2" "near" (some (3)) (some (1, 2)),
  kr "near 3 at 0 of 3" "near" (some (3)) (some (0, 3)),
  kr "near 3 at 1 of 3" "near" (some (3)) (some (1, 3)),
  kr "near 3 at 2 of 3" "near" (some (3)) (some (2, 3)),
  kr "sum 3 at 0 of 3" "sum" (some (3)) (some (0, 3)),
  kr "sum 3 at 1 of 3" "sum" (some (3)) (some (1, 3)),
  kr "sum 3 at 2 of 3" "sum" (some (3)) (some (2, 3)),
  kr "near 3 at 0 of 4" "near" (some (3)) (some (0, 4)),
  kr "near 3 at 1 of 4" "near" (some (3)) (some (1, 4)),
  kr "near 3 at 2 of 4" "near" (some (3)) (some (2, 4)),
  kr "near 3 at 3 of 4" "near" (some (3)) (some (3, 4)),
  kr "flip 0 of 2" "flip" (none) (some (0, 2)),
  kr "flip 1 of 2" "flip" (none) (some (1, 2)),
  kr "flip 0 of 3" "flip" (none) (some (0, 3)),
  kr "flip 1 of 3" "flip" (none) (some (1, 3)),
  kr "flip 2 of 3" "flip" (none) (some (2, 3)),
  kr "flip 0 of 4" "flip" (none) (some (0, 4)),
  kr "flip 1 of 4" "flip" (none) (some (1, 4)),
  kr "flip 2 of 4" "flip" (none) (some (2, 4)),
  kr "flip 3 of 4" "flip" (none) (some (3, 4))]
theorem known_parse : ∀ p ∈ known, parse p.1 = some p.2 := by decide +kernel
theorem known_nodup : (known.map (·.1)).Nodup := by decide +kernel
theorem known_length : known.length = 99 := by decide +kernel
theorem known_short : ∀ p ∈ known, p.1.length ≤ 40 := by decide +kernel
theorem part_cases (x y : Str) : ((Txt.partition x y).2.1 = y ∨ ((Txt.partition x y).2.1 = Str.empty ∧ (Txt.partition x y).2.2 = Str.empty)) ∧ (Txt.partition x y).1 ++ (Txt.partition x y).2.1 ++ (Txt.partition x y).2.2 = x := by
  refine ⟨?_, StrLaws.partition_sum x y⟩
  unfold Txt.partition
  cases Builtin.Str.occurrences x y 0 x.length 1 with
  | nil => exact .inr ⟨rfl, rfl⟩
  | cons i r => exact .inl rfl
theorem look_mem {α : Type} {k : Str} {v : α} {l : List (Str × α)} (h : l.lookup k = some v) : (k, v) ∈ l := PySem.mem_of_lookup h
theorem bare_known : ∀ k ∈ bareL, (k, ((k, none, none) : Row)) ∈ known := by decide +kernel
theorem flip_known : ∀ p ∈ restL, (("flip" : Str) ++ " " ++ p.1, (("flip", none, some p.2) : Row)) ∈ known := by decide +kernel
theorem one_known : ∀ k ∈ (["roll", "near", "sum"] : List Str), ∀ n ∈ numL, (k ++ " " ++ (n.1 ++ Str.empty ++ Str.empty), ((k, some n.2, none) : Row)) ∈ known := by decide +kernel
theorem near_known : ∀ n ∈ numL, ∀ p ∈ restL, (("near" : Str) ++ " " ++ (n.1 ++ " at " ++ p.1), (("near", some n.2, some p.2) : Row)) ∈ known := by decide +kernel
theorem sum_known : ∀ n ∈ numL, ∀ p ∈ restL, n.2 % p.2.2 = 0 → (("sum" : Str) ++ " " ++ (n.1 ++ " at " ++ p.1), (("sum", some n.2, some p.2) : Row)) ∈ known := by decide +kernel
theorem at_ne : ¬ ((" at " : Str) = "") := by decide +kernel
theorem empty_eq : (Str.empty : Str) = "" := by decide +kernel
theorem no_rest : restL.lookup (Str.empty : Str) = none := by decide +kernel
theorem no_num : numL.lookup (Txt.partition (Str.empty : Str) " at ").1 = none := by decide +kernel
/-- what is read is one of the 99 -/
theorem parse_known {x : Str} {r : Row} (h : parse x = some r) : (x, r) ∈ known := by
  unfold parse at h
  split at h
  · rename_i hb
    cases h
    exact bare_known x hb
  · obtain ⟨c1, e1⟩ := part_cases x " "
    generalize Txt.partition x " " = q at *
    obtain ⟨kind, sep, told⟩ := q
    dsimp only at *
    split at h
    · rename_i hf
      obtain ⟨rfl, hs⟩ := hf
      obtain ⟨p, hp⟩ := Option.isSome_iff_exists.mp hs
      rw [hp] at h
      cases h
      rcases c1 with rfl | ⟨rfl, rfl⟩
      · rw [← e1]
        exact flip_known _ (look_mem hp)
      · rw [no_rest] at hp
        cases hp
    · obtain ⟨c2, e2⟩ := part_cases told " at "
      rcases c1 with rfl | ⟨rfl, rfl⟩
      · generalize Txt.partition told " at " = q2 at *
        obtain ⟨number, between, pair⟩ := q2
        dsimp only at *
        cases hn : numL.lookup number with
        | none => rw [hn] at h; cases h
        | some b =>
          rw [hn] at h
          have hm := look_mem hn
          dsimp only at h
          unfold parseB at h
          split at h
          · rename_i hbt
            split at h
            · rename_i hk
              cases h
              rcases c2 with rfl | ⟨rfl, rfl⟩
              · exact absurd hbt at_ne
              · rw [← e1, ← e2]
                exact one_known kind hk _ hm
            · cases h
          · rename_i hbt
            split at h
            · rename_i hk
              rcases c2 with rfl | ⟨rfl, rfl⟩
              · split at h
                · cases h
                · rename_i p hp
                  split at h
                  · cases h
                  · rename_i hz
                    cases h
                    rw [← e1, ← e2]
                    simp only [List.mem_cons, List.not_mem_nil, or_false] at hk
                    rcases hk with rfl | rfl
                    · exact near_known _ hm _ (look_mem hp)
                    · refine sum_known _ hm _ (look_mem hp) ?_
                      by_cases z : b % p.2 = 0
                      · exact z
                      · exact absurd ⟨rfl, z⟩ hz
              · exact absurd empty_eq hbt
            · cases h
      · rw [no_num] at h
        cases h
theorem parse_iff {x : Str} {r : Row} : parse x = some r ↔ (x, r) ∈ known := ⟨parse_known, fun h => known_parse _ h⟩
end Aw

namespace Aw
open PySem PySem.Spec PyProof.Rows L2 NdefX
/-- an own error class, made by X(v), with one field -/
structure Err (P : Program) (K : PySem.W.Frag) (mg : Str → Option Value) (x y fld : Str) (C : Addr) : Prop where
  ex : ∃ (f cc cda : Addr) (qual : Str) (args : Arguments) (body : List Stmt) (scope : Scope) (fd : FuncData), SupTxt P K mg C f cc cda qual y fld args body scope fd ∧ PySem.W.findIn K (.ref C) "__init__" = some (some (.ref f)) ∧ PySem.W.typeIn K (.ref f) = some (.type "function") ∧ Binds K fd ["self", y] []
  g : mg x = some (.ref C)
  D : ExcD K C
  hno : PySem.W.findIn K (.ref C) fld = some none
section
variable {X : Cx} {C : Addr} {y fld x : Str} {e : Expr} {es : List Expr} {ta : TA} {p pos : Pos}
theorem pe_err (Ex : Err X.prog X.K X.mg x y fld C) (hr : Room 2 X.A) (hg : Gl X x) (ha : PA X (e :: es) ta)
    (hdb : (x == ("__debug__" : Str)) = false := by decide) (he : starEach (e :: es) X.env = (false, eval e X.env) :: starEach es X.env := by rfl) (hpl : (backTo pos (starEach es X.env)).any (·.1) = false := by rfl) :
    PE X (.Call (.Name x p) (e :: es) [] pos) (tVaS C fld ta) := by
  obtain ⟨f, cc, cda, qual, args, body, scope, fd, S, iC, tI, hb⟩ := Ex.ex
  exact pe_sup S iC tI hb hr hg Ex.g ha hdb he hpl
theorem pmk_err (Ex : Err X.prog X.K X.mg x y fld C) (hr : Room 2 X.A) (hg : Gl X x) (ha : PA X (e :: es) ta)
    (hdb : (x == ("__debug__" : Str)) = false := by decide) (he : starEach (e :: es) X.env = (false, eval e X.env) :: starEach es X.env := by rfl) (hpl : (backTo pos (starEach es X.env)).any (·.1) = false := by rfl) :
    PMk X (.Call (.Name x p) (e :: es) [] pos) (tMkO C (spSup C fld) [] ta) := by
  obtain ⟨f, cc, cda, qual, args, body, scope, fd, S, iC, tI, hb⟩ := Ex.ex
  exact pmk_sup S iC tI hb hr hg Ex.g ha hdb he hpl
end
/-- an own error class without own __init__, made by X() -/
structure Err0 (K : PySem.W.Frag) (mg : Str → Option Value) (x : Str) (C : Addr) : Prop where
  q : PySem.W.excIn K C PySem.HandSPX.veTail "ValueError.__new__" = true
  kC : PySem.W.keepIn K (.ref C) = true
  g : mg x = some (.ref C)
  D : ExcD K C
section
variable {X : Cx} {C : Addr} {x : Str} {p pos : Pos}
theorem pe_err0 (Ex : Err0 X.K X.mg x C) (hg : Gl X x) (hdb : (x == ("__debug__" : Str)) = false := by decide) : PE X (.Call (.Name x p) [] [] pos) (fun _ H Q => ∀ a, H a = none → Q (.ref a) (upd H a (exo a C none))) := by
  refine ⟨fun pins s σ H Q I h => ?_⟩
  refine wpAny_Call_Name_kw (ld_glob I hg Ex.g ?_ hdb)
  refine PySem.W.callWith_K0 I.kIn Ex.kC ?_
  show wpAny _ _ (call (.ref C) []) _ _ _
  obtain ⟨bm, N, nm, qn, bs, hdct, sn, sub, ab, col, dd, k0, k1, k2, k3, k5, mN, hC, hN, hni, T⟩ := exc_obj I.kIn Ex.q
  refine wpAny_call_exc_subT F.excBase_ValueError T hC hN hni (fun h' a hm => ?_) (by show 0 ≤ sizeLine; omega)
  have hn : H a = none := I.hok.gone hm.new
  obtain ⟨t, ht, _, _⟩ := hm.there
  exact ⟨.ref a, upd H a (exo a C none), I.laidN hm.keeps hm.new hn (exo_ok ht), rfl, h a hn⟩
end
theorem ite_int {k j : Int} {A B : Prop} (h1 : k = j → A) (h2 : k ≠ j → B) : if decide (V.int k = V.int j) = true then A else B := by
  by_cases e : k = j
  · rw [decide_eq_true (by rw [e])]
    exact iteT (h1 e)
  · rw [decide_eq_false (fun z => e (V.int.inj z))]
    exact iteF (h2 e)
theorem ite_str {x y : Str} {A B : Prop} (h1 : x = y → A) (h2 : x ≠ y → B) : if decide (V.str x = V.str y) = true then A else B := by
  by_cases e : x = y
  · rw [decide_eq_true (by rw [e])]
    exact iteT (h1 e)
  · rw [decide_eq_false (fun z => e (V.str.inj z))]
    exact iteF (h2 e)
theorem ite_dec {c : Prop} [Decidable c] {A B : Prop} (h1 : c → A) (h2 : ¬ c → B) : if decide c = true then A else B := by
  by_cases e : c
  · rw [decide_eq_true e]
    exact iteT (h1 e)
  · rw [decide_eq_false e]
    exact iteF (h2 e)
theorem ite_ndec {c : Prop} [Decidable c] {A B : Prop} (h1 : ¬ c → A) (h2 : c → B) : if (!decide c) = true then A else B := by
  by_cases e : c
  · rw [decide_eq_true e]
    exact iteF (h2 e)
  · rw [decide_eq_false e]
    exact iteT (h1 e)
end Aw

namespace Aw
open PySem PySem.Spec PyProof.Rows L2 NdefX
/-! ### an object whose __init__ may raise, made within a try -/
section
variable {X : Cx} {CX : CXT} {k : Nat} {f C : Addr} {fd : FuncData} {ps : List Str} {sp : Sp} {E : Aw.St → XK} {x : Str} {p pos : Pos} {e : Expr} {es : List Expr} {t : TA}
def tMakeS (C : Addr) (sp : Sp) (E : Aw.St → XK) (t : TA) : TE := fun σ H Q => t σ H fun vs H1 => ∀ x dx, H1 x = none → H1 dx = none → dx ≠ x →
  sp (.ref x :: vs) (upd (upd H1 dx (.own x)) x (.ins C dx [])) (fun v H2 => v = .non ∧ Q (.ref x) H2) (E σ)
theorem pe_makeS (M : Mk X.K C f) (F : FnOk X.prog X.w X.K X.mg X.base CX k f fd ps sp) (hr : Room (k + 1) X.A) (hg : Gl X x) (hm : X.mg x = some (.ref C)) (hb : Binds X.K fd ps []) (hx : ∀ σ, PassesAt CX X σ (E σ))
    (ha : PA X (e :: es) t) (hdb : (x == ("__debug__" : Str)) = false := by decide) (he : starEach (e :: es) X.env = (false, eval e X.env) :: starEach es X.env := by rfl) (hpl : (backTo pos (starEach es X.env)).any (·.1) = false := by rfl) :
    PE X (.Call (.Name x p) (e :: es) [] pos) (tMakeS C sp E t) := by
  refine ⟨fun pins s σ H Q I h => ?_⟩
  refine wpAny_Call_Name_kw (ld_glob I hg hm ?_ hdb)
  refine PySem.W.callWith_K (h₀ := X.base) I.ok.mod.kin M.kp (thn (ha.run pos pins s σ H _ I h) fun us s1 ⟨vs, H1, I1, r, q⟩ => ⟨I1.kIn, ?_⟩) he hpl
  have hq := q (s1.heap.objs.size + 1) s1.heap.objs.size (I1.hok.fresh (Nat.le_succ _)) (I1.hok.fresh (Nat.le_refl _)) (Nat.ne_of_lt (Nat.lt_succ_self _))
  have I2 := Inv.made (C := C) I1
  have r2 : Vals (V.ref (s1.heap.objs.size + 1) :: vs) (Value.ref (s1.heap.objs.size + 1) :: us) := .cons rfl r
  have hl : (Value.ref (s1.heap.objs.size + 1) :: us ++ []).length = ps.length := by
    have e := r2.length
    rw [F.len _ _ _ _ hq] at e
    rw [List.append_nil]
    exact e.symm
  have bb := hb _ (Value.ref (s1.heap.objs.size + 1) :: us) I2.kIn hl
  rw [List.append_nil] at bb
  refine wpAny_call (make_map (f := f) I1.kIn M.makes M.init (beq_iff_eq.mp M.fn) (codeAny_mono (F.run _ X.stack _ _ ⟨Value.ref (s1.heap.objs.size + 1) :: us, []⟩ (Value.ref (s1.heap.objs.size + 1) :: us) _ _ (E σ) (hr.make C us [])
    (I2.env0.make C us []) bb r2 hq) fun r s' hq' => ?_))
  cases r with
  | error e => exact hx σ pins _ _ e s' I2 hq'
  | ok fl =>
    cases fl with
    | ret u =>
      obtain ⟨v, H', I3, rv, ev, q3⟩ := I2.after hq'
      subst ev
      exact ⟨rv, ⟨V.ref (s1.heap.objs.size + 1), H', I3, rfl, q3⟩⟩
    | next => exact False.elim hq'
    | brk => exact False.elim hq'
    | cont => exact False.elim hq'
end
/-! ### a written dict with text keys -/
/-- d[x], d the dict of the top at a -/
def tKd (K : PySem.W.Frag) (d : Addr) (ta tb : TE) : TE := fun σ H Q => ta σ H fun x H1 => tb σ H1 fun y H2 => ∃ (z : Str) (u0 : Value) (v0 : V), x = .ref d ∧ y = .str z ∧ PySem.W.nsIn K d z = some (some u0) ∧ RelV v0 u0 ∧ Q v0 H2
theorem pe_kd {X : Cx} {d : Addr} {es : Array DictEntry} {n : Nat} {a b : Expr} {ta tb : TE} {pos : Pos} (D : KDict X.K X.w d es n) (ha : PE X a ta) (hb : PE X b tb) (hs : NoSl b) : PE X (.Subscript a b pos) (tKd X.K d ta tb) := by
  refine ⟨fun pins s σ H Q I h => ?_⟩
  refine subD_of PySem.F.slot_dict_getitem.lookup hs (thn (ha.run pins s σ H _ I h) fun u s1 ⟨x, H1, I1, rx, q1⟩ => thn (hb.run pins s1 σ H1 _ I1 q1) fun iv s2 ⟨y, H2, I2, ry, z, u0, v0, ex, ey, e, r, q2⟩ => ?_)
  subst ex
  obtain rfl : u = Value.ref d := rx
  exact ⟨kd_type D I2, op_item_kd D pins s2 σ H2 (.ref d) y (.ref d) iv Q I2 rfl ry ⟨z, u0, v0, rfl, ey, e, r, q2⟩⟩
/-- NUMBERS -/
structure NumK (K : PySem.W.Frag) (w : World) (mg : Str → Option Value) (d : Addr) (es : Array DictEntry) (n : Nat) : Prop where
  g : mg "NUMBERS" = some (.ref d)
  D : KDict K w d es n
  no : ∀ z, numL.lookup z = none → PySem.W.nsIn K d z = some none
  yes : ∀ z i, numL.lookup z = some i → ∃ u, PySem.W.nsIn K d z = some (some u) ∧ RelV (.int i) u
/-- RESTS -/
structure RestK (K : PySem.W.Frag) (w : World) (mg : Str → Option Value) (d : Addr) (es : Array DictEntry) (n : Nat) : Prop where
  g : mg "RESTS" = some (.ref d)
  D : KDict K w d es n
  no : ∀ z, restL.lookup z = none → PySem.W.nsIn K d z = some none
  yes : ∀ z p, restL.lookup z = some p → ∃ t, PySem.W.nsIn K d z = some (some (.ref t)) ∧ ∀ H, SqT K H t [.int p.1, .int p.2]
/-- what step_parts asks of the top -/
structure TxtS (K : PySem.W.Frag) (w : World) (mg : Str → Option Value) (dN dR tB : Addr) (eN eR : Array DictEntry) (nN nR : Nat) : Prop where
  isi : mg "isinstance" = none
  str : mg "str" = none
  gB : mg "BARE_KINDS" = some (.ref tB)
  bare : ∀ H, SqT K H tB (bareL.map V.str)
  num : NumK K w mg dN eN nN
  rest : RestK K w mg dR eR nR
/-! ### values that are handed to Step, and their types -/
/-- a value whose type is known; whether it is a text -/
inductive VOk (H : Hp) : V → Prop
  | str (x : Str) (h : x.length ≤ 1000) : VOk H (.str x)
  | non : VOk H .non
  | bl (b : Bool) : VOk H (.bl b)
  | int (i : Int) : VOk H (.int i)
  | lst {a : Addr} {xs : List V} (h : H a = some (.lst xs)) : VOk H (.ref a)
  | tup {a : Addr} {xs : List V} (h : H a = some (.tup xs)) : VOk H (.ref a)
  | dct {a : Addr} {kvs : List (Key × V)} (h : H a = some (.dK kvs)) : VOk H (.ref a)
theorem VOk.same {H H' : Hp} (s : Same H H') : ∀ {v : V}, VOk H v → VOk H' v
  | _, .str x h => .str x h
  | _, .non => .non
  | _, .bl b => .bl b
  | _, .int i => .int i
  | _, .lst h => .lst (s _ _ h)
  | _, .tup h => .tup (s _ _ h)
  | _, .dct h => .dct (s _ _ h)
def isStr : V → Bool
  | .str _ => true
  | _ => false
theorem VOk.isi {K : PySem.W.Frag} {H : Hp} {v : V} (h : VOk H v) : ∃ t, TyX K H v t ∧ PySem.W.kitOne K t (.type "str") = some (isStr v) := by
  cases h with
  | str x h => exact ⟨_, .base (.str x), kit_ty (show kitB "str" "str" = some true by decide +kernel)⟩
  | non => exact ⟨_, .base .non, kit_ty (show kitB "NoneType" "str" = some false by decide +kernel)⟩
  | bl b => exact ⟨_, .base (.bl b), kit_ty (show kitB "bool" "str" = some false by decide +kernel)⟩
  | int i => exact ⟨_, .base (.int i), kit_ty (show kitB "int" "str" = some false by decide +kernel)⟩
  | lst h => exact ⟨_, .base (.lst h), kit_ty (show kitB "list" "str" = some false by decide +kernel)⟩
  | tup h => exact ⟨_, .base (.tup h), kit_ty (show kitB "tuple" "str" = some false by decide +kernel)⟩
  | dct h => exact ⟨_, .base (.dK h), kit_ty (show kitB "dict" "str" = some false by decide +kernel)⟩
def parseV : V → Option Row
  | .str x => parse x
  | _ => none
def optD : Option Int → PyData
  | none => .none
  | some i => .int i
def restD : Option (Int × Int) → PyData
  | none => .none
  | some p => .tuple [.int p.1, .int p.2]
def rowD (r : Row) : PyData := .tuple [.str r.1, optD r.2.1, restD r.2.2]
/-- step_parts -/
def spParts (K : PySem.W.Frag) : Sp := fun vs H Q _ => ∃ v, vs = [v] ∧ VOk H v ∧ (parseV v = none → ∀ H', Same H H' → Q .non H') ∧ (∀ r, parseV v = some r → ∀ u H', Same H H' → Dq K H' u (rowD r) → Q u H')
abbrev sParts : Stmt := (top 10)
theorem in_strs {x : Str} {l : List Str} : inV (.str x) (l.map V.str) = decide (x ∈ l) := by
  induction l with
  | nil => rfl
  | cons y l ih =>
    have e : inV (.str x) ((y :: l).map V.str) = (eqV (.str y) (.str x) || inV (.str x) (l.map V.str)) := rfl
    rw [e, ih]
    have e2 : eqV (.str y) (.str x) = decide (y = x) := by
      show (y == x) = decide (y = x)
      by_cases h : y = x
      · subst h
        simp
      · simp [h]
    rw [e2]
    by_cases h : y = x
    · subst h
      simp
    · have h' : ¬ x = y := fun z => h z.symm
      simp [h, h']
theorem rest_pos : ∀ p ∈ restL, (0 : Int) < p.2.2 := by decide +kernel
theorem flat_strs (l : List Str) : (l.map V.str).all flatV = true := by
  induction l with
  | nil => rfl
  | cons y l ih => simp [List.map_cons, List.all_cons, flatV, ih]
section
variable {P : Program} {w : World} {K : PySem.W.Frag} {mg : Str → Option Value} {base : Heap} {dN dR tB : Addr} {eN eR : Array DictEntry} {nN nR : Nat}
theorem scParts : FnScope ["text", "kind", "_", "told", "number", "between", "pair", "by", "rest"] ["text"] (defScope sParts) := ⟨rfl, rfl, rfl, by decide +kernel, rfl, by decide +kernel, by decide +kernel⟩
theorem ok_parts {f : Addr} {fd : FuncData} (F : Fun K "step_parts" "step_parts" sParts f fd) (T : TxtS K w mg dN dR tB eN eR nN nR) : FnOk P w K mg base CX0 1 f fd ["text"] (spParts K) := by
  refine F.ok scParts (fun vs H Q E h => ?_) (fun cdv A outer s H vs Q E hr h => ?_)
  · obtain ⟨v, rfl, _⟩ := h
    rfl
  · obtain ⟨v, rfl, hv, kn, ks⟩ := h
    have hu := hu_of hr
    have nd := scParts.nd
    refine ⟨_, (pss_cons (ps_if (pt_not (pt_val (pe_callB call_isi (by rfl) T.isi (by decide +kernel) (pa_cons (pv 0) (pa_cons (pe_bltn (v := .ty "str") (by rfl) T.str (by decide +kernel) rfl) pa_nil)))))
        (pss_one (ps_ret pe_non)) pss_nil)
      (pss_cons (ps_if (pt_cmpR op_in_seq (pv 0) (pe_glob (v := .ref tB) (by rfl) T.gB rfl) (by rfl))
        (pss_one (ps_ret (pe_tup (pa_cons (pv 0) (pa_cons pe_non (pa_cons pe_non pa_nil)))))) pss_nil)
      (pss_cons (ps_asg (pe_partition (pv 0) pe_str) (pg_tup rfl (pgs_cons (pg_name (i := 1) nd rfl (Or.inl rfl)) (pgs_cons (pg_name (i := 2) nd rfl (Or.inl rfl)) (pgs_cons (pg_name (i := 3) nd rfl (Or.inl rfl)) pgs_nil)))))
      (pss_cons (ps_if (PW.pt (pw_and (pt_cmpR op_eq (pv 1) pe_str (nomark _)) (pw_and1 (pt_cmpR (op_in_kd T.rest.D) (pv 3) (pe_glob (v := .ref dR) (by rfl) T.rest.g rfl) (by rfl)))))
        (pss_one (ps_ret (pe_tup (pa_cons (pv 1) (pa_cons pe_non (pa_cons (pe_kd T.rest.D (pe_glob (v := .ref dR) (by rfl) T.rest.g rfl) (pv 3) (fun _ _ => rfl)) pa_nil)))))) pss_nil)
      (pss_cons (ps_asg (pe_partition (pv 3) pe_str) (pg_tup rfl (pgs_cons (pg_name (i := 4) nd rfl (Or.inl rfl)) (pgs_cons (pg_name (i := 5) nd rfl (Or.inl rfl)) (pgs_cons (pg_name (i := 6) nd rfl (Or.inl rfl)) pgs_nil)))))
      (pss_cons (ps_if (pt_cmpR (op_notIn_kd T.num.D) (pv 4) (pe_glob (v := .ref dN) (by rfl) T.num.g rfl) (by rfl))
        (pss_one (ps_ret pe_non)) pss_nil)
      (pss_cons (ps_set (i := 7) nd rfl (Or.inl rfl) (pe_kd T.num.D (pe_glob (v := .ref dN) (by rfl) T.num.g rfl) (pv 4) (fun _ _ => rfl)))
      (pss_cons (ps_if (pt_cmpR op_eq (pv 5) pe_str (nomark _))
        (pss_one (ps_ret (pe_ifExp (pt_cmpR op_in_seq (pv 1) (pe_tup (pa_cons pe_str (pa_cons pe_str (pa_cons pe_str pa_nil)))) (by rfl)) (pe_tup (pa_cons (pv 1) (pa_cons (pv 7) (pa_cons pe_non pa_nil)))) pe_non))) pss_nil)
      (pss_cons (ps_if (PW.pt (pw_or (pt_cmpR op_notIn_seq (pv 1) (pe_tup (pa_cons pe_str (pa_cons pe_str pa_nil))) (by rfl)) (pw_or1 (pt_cmpR (op_notIn_kd T.rest.D) (pv 6) (pe_glob (v := .ref dR) (by rfl) T.rest.g rfl) (by rfl)))))
        (pss_one (ps_ret pe_non)) pss_nil)
      (pss_cons (ps_set (i := 8) nd rfl (Or.inl rfl) (pe_kd T.rest.D (pe_glob (v := .ref dR) (by rfl) T.rest.g rfl) (pv 6) (fun _ _ => rfl)))
      (pss_cons (ps_if (PW.pt (pw_and (pt_cmpR op_eq (pv 1) pe_str (nomark _)) (pw_and1 (pt_cmpR op_ne (pe_op op_mod (pv 7) (pe_ix ix_tup (pv 8) pe_int (fun _ _ => rfl))) pe_int (nomark _)))))
        (pss_one (ps_ret pe_non)) pss_nil)
      (pss_one (ps_ret (pe_tup (pa_cons (pv 1) (pa_cons (pv 7) (pa_cons (pv 8) pa_nil))))))))))))))))), ?_⟩
    obtain ⟨t, ty, kt⟩ := hv.isi (K := K)
    refine ⟨_, rfl, v, .ty "str", t, .type "str", isStr v, rfl, .ty _, ty, kt, _, rfl, ?_⟩
    cases hv with
    | str x hx =>
      refine iteF ?_
      replace kn : parse x = none → ∀ H', Same H H' → Q .non H' := kn
      replace ks : ∀ r, parse x = some r → ∀ u H', Same H H' → Dq K H' u (rowD r) → Q u H' := ks
      refine ⟨_, rfl, tB, _, rfl, .inr (T.bare H), rfl, flat_strs _, _, rfl, ?_⟩
      show if inV (.str x) (bareL.map V.str) = true then _ else _
      rw [in_strs]
      by_cases hb : x ∈ bareL
      · rw [decide_eq_true hb]
        refine iteT ?_
        refine ⟨_, rfl, (by show 3 ≤ sizeLine; decide), fun t ht => ?_⟩
        exact ks (x, none, none) (if_pos hb) _ _ (same_upd ht) (.tup (SqT.of upd_same) (.cons (.str _) (.cons .non (.cons .non .nil))))
      rw [decide_eq_false hb]
      refine iteF ?_
      have hpar : parse x = _ := if_neg hb
      rw [hpar] at kn ks
      have hsz : (1000 : Nat) ≤ sizeLine := by decide
      refine ⟨_, rfl, ⟨_, rfl⟩, x, " ", rfl, rfl, (by decide +kernel), Nat.le_trans hx hsz, fun p hp => ?_⟩
      have hl1 : (Txt.partition x " ").2.2.length ≤ 1000 := by
        have e := congrArg Str.length (part_cases x " ").2
        rw [Str.length_append, Str.length_append] at e
        omega
      generalize Txt.partition x " " = q at *
      obtain ⟨kind, sep, told⟩ := q
      dsimp only at kn ks hl1
      refine ⟨p, _, rfl, SqT.of upd_same, rfl, _, _, rfl, _, _, rfl, _, _, rfl, rfl, ?_⟩
      have s1 : Same H (upd H p (.tup [.str kind, .str sep, .str told])) := same_upd hp
      generalize upd H p (.tup [.str kind, .str sep, .str told]) = H1 at *
      -- the way on behind the flips
      have goon : ∀ (D : Ends) (σ : Aw.St) (G : Prop), G → G := fun _ _ _ h => h
      have num : (¬ (kind = "flip" ∧ (restL.lookup told).isSome = true)) → _ := fun hf => by
        rw [if_neg hf] at kn ks
        exact (⟨kn, ks⟩ : _ ∧ _)
      refine ⟨_, rfl, rfl, _, rfl, ?_⟩
      refine ite_str (fun hk => ?_) (fun hk => ?_)
      · change kind = "flip" at hk
        cases hl : restL.lookup told with
        | some pr =>
          obtain ⟨t', e', sq⟩ := T.rest.yes told pr hl
          refine ⟨_, rfl, told, _, rfl, rfl, e', _, rfl, ?_⟩
          refine iteT ?_
          refine ⟨_, rfl, _, rfl, told, _, .ref t', rfl, rfl, e', rfl, (by show 3 ≤ sizeLine; decide), fun u hu' => ?_⟩
          have hf : kind = "flip" ∧ (restL.lookup told).isSome = true := ⟨hk, by rw [hl]; rfl⟩
          rw [if_pos hf] at ks
          rw [hl] at ks
          rw [hk]
          exact ks ("flip", none, some pr) rfl _ _ (s1.trans (same_upd hu')) (.tup (SqT.of upd_same) (.cons (.str _) (.cons .non (.cons (.tup (sq _) (.cons (.int _) (.cons (.int _) .nil))) .nil))))
        | none =>
          refine ⟨_, rfl, told, _, rfl, rfl, T.rest.no told hl, _, rfl, ?_⟩
          refine iteF ?_
          obtain ⟨kn, ks⟩ := num (fun z => by rw [hl] at z; exact absurd z.2 (by decide))
          refine ⟨_, rfl, ⟨_, rfl⟩, told, " at ", rfl, rfl, (by decide +kernel), Nat.le_trans hl1 hsz, fun p2 hp2 => ?_⟩
          generalize Txt.partition told " at " = q2 at *
          obtain ⟨number, between, pair⟩ := q2
          dsimp only at kn ks
          refine ⟨p2, _, rfl, SqT.of upd_same, rfl, _, _, rfl, _, _, rfl, _, _, rfl, rfl, ?_⟩
          have s2 : Same H (upd H1 p2 (.tup [.str number, .str between, .str pair])) := s1.trans (same_upd hp2)
          generalize upd H1 p2 (.tup [.str number, .str between, .str pair]) = H2 at *
          cases hn : numL.lookup number with
          | none =>
            refine ⟨_, rfl, number, _, rfl, rfl, T.num.no number hn, _, rfl, ?_⟩
            refine iteT ?_
            rw [hn] at kn
            exact kn rfl _ s2
          | some b =>
          obtain ⟨u0, eu, ru⟩ := T.num.yes number b hn
          rw [hn] at kn ks
          dsimp only at kn ks
          refine ⟨_, rfl, number, _, rfl, rfl, eu, _, rfl, ?_⟩
          refine iteF ?_
          refine ⟨_, rfl, number, u0, .int b, rfl, rfl, eu, ru, ?_⟩
          unfold parseB at kn ks
          refine ⟨_, rfl, rfl, _, rfl, ?_⟩
          refine ite_str (fun hbt => ?_) (fun hbt => ?_)
          · change between = "" at hbt
            rw [if_pos hbt] at kn ks
            refine ⟨_, rfl, (by show 3 ≤ sizeLine; decide), fun t1 ht1 => ⟨t1, _, rfl, .inr (SqT.of upd_same), rfl, (by decide +kernel), _, rfl, ?_⟩⟩
            show if inV (.str kind) ((["roll", "near", "sum"] : List Str).map V.str) = true then _ else _
            rw [in_strs]
            have s3 := s2.trans (same_upd (o := .tup [.str "roll", .str "near", .str "sum"]) ht1)
            refine ite_dec (fun hin => ?_) (fun hin => ?_)
            · rw [if_pos hin] at ks
              refine ⟨_, rfl, _, rfl, (by show 3 ≤ sizeLine; decide), fun t2 ht2 => ?_⟩
              exact ks _ rfl _ _ (s3.trans (same_upd ht2)) (.tup (SqT.of upd_same) (.cons (.str _) (.cons (.int _) (.cons .non .nil))))
            · rw [if_neg hin] at kn
              exact kn rfl _ s3
          · change ¬ between = "" at hbt
            rw [if_neg hbt] at kn ks
            refine ⟨_, rfl, (by show 2 ≤ sizeLine; decide), fun t1 ht1 => ⟨t1, _, rfl, .inr (SqT.of upd_same), rfl, (by decide +kernel), _, rfl, ?_⟩⟩
            show if (!inV (.str kind) ((["near", "sum"] : List Str).map V.str)) = true then _ else _
            rw [in_strs]
            have s3 := s2.trans (same_upd (o := .tup [.str "near", .str "sum"]) ht1)
            generalize upd H2 t1 (.tup [.str "near", .str "sum"]) = H3 at *
            refine ite_ndec (fun hin => ?_) (fun hin => ?_)
            · rw [if_neg hin] at kn
              refine iteT ?_
              exact kn rfl _ s3
            · rw [if_pos hin] at kn ks
              cases hl2 : restL.lookup pair with
              | none =>
                refine ⟨_, rfl, pair, _, rfl, rfl, T.rest.no pair hl2, _, rfl, ?_⟩
                refine iteT ?_
                rw [hl2] at kn
                exact kn rfl _ s3
              | some pr =>
                rw [hl2] at kn ks
                dsimp only at kn ks
                obtain ⟨t', e', sq⟩ := T.rest.yes pair pr hl2
                refine ⟨_, rfl, pair, _, rfl, rfl, e', _, rfl, ?_⟩
                refine iteF ?_
                refine ⟨_, rfl, pair, _, .ref t', rfl, rfl, e', rfl, ?_⟩
                have h0 : (0 : Int) < pr.2 := rest_pos _ (look_mem hl2)
                refine ⟨_, rfl, rfl, _, rfl, ?_⟩
                refine ite_str (fun hs => ?_) (fun hs => ?_)
                · change kind = "sum" at hs
                  refine ⟨_, rfl, _, rfl, t', _, 1, .int pr.2, rfl, rfl, sq _, rfl, b, pr.2, rfl, rfl, h0, rfl, _, rfl, ?_⟩
                  by_cases hz : b % pr.2 = 0
                  · rw [if_neg (fun z => z.2 hz)] at ks
                    rw [show (!decide (V.int (b % pr.2) = V.int 0)) = false by rw [hz]; simp]
                    refine iteF ?_
                    refine ⟨_, rfl, _, rfl, _, rfl, (by show 3 ≤ sizeLine; decide), fun t2 ht2 => ?_⟩
                    exact ks _ rfl _ _ (s3.trans (same_upd ht2)) (.tup (SqT.of upd_same) (.cons (.str _) (.cons (.int _) (.cons (.tup (sq _) (.cons (.int _) (.cons (.int _) .nil))) .nil))))
                  · rw [if_pos ⟨hs, hz⟩] at kn
                    rw [show (!decide (V.int (b % pr.2) = V.int 0)) = true by rw [decide_eq_false (fun z => hz (V.int.inj z))]; rfl]
                    refine iteT ?_
                    exact kn rfl _ s3
                · change kind ≠ "sum" at hs
                  rw [if_neg (fun z => hs z.1)] at ks
                  refine iteF ?_
                  refine ⟨_, rfl, _, rfl, _, rfl, (by show 3 ≤ sizeLine; decide), fun t2 ht2 => ?_⟩
                  exact ks _ rfl _ _ (s3.trans (same_upd ht2)) (.tup (SqT.of upd_same) (.cons (.str _) (.cons (.int _) (.cons (.tup (sq _) (.cons (.int _) (.cons (.int _) .nil))) .nil))))
      · change kind ≠ "flip" at hk
        refine iteF ?_
        obtain ⟨kn, ks⟩ := num (fun z => hk z.1)
        refine ⟨_, rfl, ⟨_, rfl⟩, told, " at ", rfl, rfl, (by decide +kernel), Nat.le_trans hl1 hsz, fun p2 hp2 => ?_⟩
        generalize Txt.partition told " at " = q2 at *
        obtain ⟨number, between, pair⟩ := q2
        dsimp only at kn ks
        refine ⟨p2, _, rfl, SqT.of upd_same, rfl, _, _, rfl, _, _, rfl, _, _, rfl, rfl, ?_⟩
        have s2 : Same H (upd H1 p2 (.tup [.str number, .str between, .str pair])) := s1.trans (same_upd hp2)
        generalize upd H1 p2 (.tup [.str number, .str between, .str pair]) = H2 at *
        cases hn : numL.lookup number with
        | none =>
          refine ⟨_, rfl, number, _, rfl, rfl, T.num.no number hn, _, rfl, ?_⟩
          refine iteT ?_
          rw [hn] at kn
          exact kn rfl _ s2
        | some b =>
        obtain ⟨u0, eu, ru⟩ := T.num.yes number b hn
        rw [hn] at kn ks
        dsimp only at kn ks
        refine ⟨_, rfl, number, _, rfl, rfl, eu, _, rfl, ?_⟩
        refine iteF ?_
        refine ⟨_, rfl, number, u0, .int b, rfl, rfl, eu, ru, ?_⟩
        unfold parseB at kn ks
        refine ⟨_, rfl, rfl, _, rfl, ?_⟩
        refine ite_str (fun hbt => ?_) (fun hbt => ?_)
        · change between = "" at hbt
          rw [if_pos hbt] at kn ks
          refine ⟨_, rfl, (by show 3 ≤ sizeLine; decide), fun t1 ht1 => ⟨t1, _, rfl, .inr (SqT.of upd_same), rfl, (by decide +kernel), _, rfl, ?_⟩⟩
          show if inV (.str kind) ((["roll", "near", "sum"] : List Str).map V.str) = true then _ else _
          rw [in_strs]
          have s3 := s2.trans (same_upd (o := .tup [.str "roll", .str "near", .str "sum"]) ht1)
          refine ite_dec (fun hin => ?_) (fun hin => ?_)
          · rw [if_pos hin] at ks
            refine ⟨_, rfl, _, rfl, (by show 3 ≤ sizeLine; decide), fun t2 ht2 => ?_⟩
            exact ks _ rfl _ _ (s3.trans (same_upd ht2)) (.tup (SqT.of upd_same) (.cons (.str _) (.cons (.int _) (.cons .non .nil))))
          · rw [if_neg hin] at kn
            exact kn rfl _ s3
        · change ¬ between = "" at hbt
          rw [if_neg hbt] at kn ks
          refine ⟨_, rfl, (by show 2 ≤ sizeLine; decide), fun t1 ht1 => ⟨t1, _, rfl, .inr (SqT.of upd_same), rfl, (by decide +kernel), _, rfl, ?_⟩⟩
          show if (!inV (.str kind) ((["near", "sum"] : List Str).map V.str)) = true then _ else _
          rw [in_strs]
          have s3 := s2.trans (same_upd (o := .tup [.str "near", .str "sum"]) ht1)
          generalize upd H2 t1 (.tup [.str "near", .str "sum"]) = H3 at *
          refine ite_ndec (fun hin => ?_) (fun hin => ?_)
          · rw [if_neg hin] at kn
            refine iteT ?_
            exact kn rfl _ s3
          · rw [if_pos hin] at kn ks
            cases hl2 : restL.lookup pair with
            | none =>
              refine ⟨_, rfl, pair, _, rfl, rfl, T.rest.no pair hl2, _, rfl, ?_⟩
              refine iteT ?_
              rw [hl2] at kn
              exact kn rfl _ s3
            | some pr =>
              rw [hl2] at kn ks
              dsimp only at kn ks
              obtain ⟨t', e', sq⟩ := T.rest.yes pair pr hl2
              refine ⟨_, rfl, pair, _, rfl, rfl, e', _, rfl, ?_⟩
              refine iteF ?_
              refine ⟨_, rfl, pair, _, .ref t', rfl, rfl, e', rfl, ?_⟩
              have h0 : (0 : Int) < pr.2 := rest_pos _ (look_mem hl2)
              refine ⟨_, rfl, rfl, _, rfl, ?_⟩
              refine ite_str (fun hs => ?_) (fun hs => ?_)
              · change kind = "sum" at hs
                refine ⟨_, rfl, _, rfl, t', _, 1, .int pr.2, rfl, rfl, sq _, rfl, b, pr.2, rfl, rfl, h0, rfl, _, rfl, ?_⟩
                by_cases hz : b % pr.2 = 0
                · rw [if_neg (fun z => z.2 hz)] at ks
                  rw [show (!decide (V.int (b % pr.2) = V.int 0)) = false by rw [hz]; simp]
                  refine iteF ?_
                  refine ⟨_, rfl, _, rfl, _, rfl, (by show 3 ≤ sizeLine; decide), fun t2 ht2 => ?_⟩
                  exact ks _ rfl _ _ (s3.trans (same_upd ht2)) (.tup (SqT.of upd_same) (.cons (.str _) (.cons (.int _) (.cons (.tup (sq _) (.cons (.int _) (.cons (.int _) .nil))) .nil))))
                · rw [if_pos ⟨hs, hz⟩] at kn
                  rw [show (!decide (V.int (b % pr.2) = V.int 0)) = true by rw [decide_eq_false (fun z => hz (V.int.inj z))]; rfl]
                  refine iteT ?_
                  exact kn rfl _ s3
              · change kind ≠ "sum" at hs
                rw [if_neg (fun z => hs z.1)] at ks
                refine iteF ?_
                refine ⟨_, rfl, _, rfl, _, rfl, (by show 3 ≤ sizeLine; decide), fun t2 ht2 => ?_⟩
                exact ks _ rfl _ _ (s3.trans (same_upd ht2)) (.tup (SqT.of upd_same) (.cons (.str _) (.cons (.int _) (.cons (.tup (sq _) (.cons (.int _) (.cons (.int _) .nil))) .nil))))
    | _ => exact iteT (kn rfl H (Same.refl H))
end
end Aw

namespace Aw
open PySem PySem.Spec PyProof.Rows L2 NdefX
abbrev sInit : Stmt := (inClass (top 9) 0)
abbrev sEq : Stmt := (inClass (top 9) 1)
/-- the attributes of a Step -/
def stepF (x : Str) (k : Str) (b r : V) : List (Str × V) := [("text", .str x), ("kind", .str k), ("by", b), ("rest", r)]
theorem put1 {v : V} : putF "text" v [] = ([("text", v)] : List (Str × V)) := rfl
theorem ne_tk : ¬ (("text" : Str) = "kind") := by decide +kernel
theorem ne_tb : ¬ (("text" : Str) = "by") := by decide +kernel
theorem ne_tr : ¬ (("text" : Str) = "rest") := by decide +kernel
theorem ne_kb : ¬ (("kind" : Str) = "by") := by decide +kernel
theorem ne_kr : ¬ (("kind" : Str) = "rest") := by decide +kernel
theorem ne_br : ¬ (("by" : Str) = "rest") := by decide +kernel
theorem put2 {a v : V} : putF "kind" v ([("text", a)] : List (Str × V)) = ([("text", a), ("kind", v)] : List (Str × V)) := by
  show (if ("text" : Str) = "kind" then _ else (("text" : Str), a) :: putF "kind" v []) = _
  rw [if_neg ne_tk]
  rfl
theorem put3 {a b v : V} : putF "by" v ([("text", a), ("kind", b)] : List (Str × V)) = ([("text", a), ("kind", b), ("by", v)] : List (Str × V)) := by
  show (if ("text" : Str) = "by" then _ else (("text" : Str), a) :: (if ("kind" : Str) = "by" then _ else (("kind" : Str), b) :: putF "by" v [])) = _
  rw [if_neg ne_tb, if_neg ne_kb]
  rfl
theorem put4 {a b c v : V} : putF "rest" v ([("text", a), ("kind", b), ("by", c)] : List (Str × V)) = ([("text", a), ("kind", b), ("by", c), ("rest", v)] : List (Str × V)) := by
  show (if ("text" : Str) = "rest" then _ else (("text" : Str), a) :: (if ("kind" : Str) = "rest" then _ else (("kind" : Str), b) :: (if ("by" : Str) = "rest" then _ else (("by" : Str), c) :: putF "rest" v []))) = _
  rw [if_neg ne_tr, if_neg ne_kr, if_neg ne_br]
  rfl
theorem lkk {α : Type} {k m : Str} {v : α} {l : List (Str × α)} (h : ¬ m = k) : ((k, v) :: l).lookup m = l.lookup m := by
  have e : (m == k) = false := by simpa using h
  simp [List.lookup, e]
theorem lk1 {α : Type} {k : Str} {v : α} {l : List (Str × α)} : ((k, v) :: l).lookup k = some v := by simp [List.lookup]
theorem gText {x k : Str} {b r : V} : (stepF x k b r).lookup ("text" : Str) = some (.str x) := lk1
theorem gKind {x k : Str} {b r : V} : (stepF x k b r).lookup ("kind" : Str) = some (.str k) := (lkk (fun z => ne_tk z.symm)).trans lk1
theorem gBy {x k : Str} {b r : V} : (stepF x k b r).lookup ("by" : Str) = some b := (lkk (fun z => ne_tb z.symm)).trans ((lkk (fun z => ne_kb z.symm)).trans lk1)
theorem gRest {x k : Str} {b r : V} : (stepF x k b r).lookup ("rest" : Str) = some r := (lkk (fun z => ne_tr z.symm)).trans ((lkk (fun z => ne_kr z.symm)).trans ((lkk (fun z => ne_br z.symm)).trans lk1))
theorem gNo {x k m : Str} {b r : V} (h1 : ¬ m = "text") (h2 : ¬ m = "kind") (h3 : ¬ m = "by") (h4 : ¬ m = "rest") : (stepF x k b r).lookup m = none :=
  (lkk h1).trans ((lkk h2).trans ((lkk h3).trans ((lkk h4).trans rfl)))
/-- a Step with the text x stands at a -/
structure StepAt (K : PySem.W.Frag) (C : Addr) (H : Hp) (a : Addr) (x : Str) (r : Row) : Prop where
  ex : ∃ dx b t, H a = some (.ins C dx (stepF x r.1 b t)) ∧ Dq K H b (optD r.2.1) ∧ Dq K H t (restD r.2.2)
  pr : parse x = some r
theorem StepAt.same {K : PySem.W.Frag} {C : Addr} {H H' : Hp} {a : Addr} {x : Str} {r : Row} (S : StepAt K C H a x r) (s : Same H H') : StepAt K C H' a x r := by
  obtain ⟨dx, b, t, h, h1, h2⟩ := S.ex
  exact ⟨⟨dx, b, t, s _ _ h, h1.keep (TK.same s), h2.keep (TK.same s)⟩, S.pr⟩
/-- Step.__init__ -/
def spInit (K : PySem.W.Frag) (C CB : Addr) : Sp := fun vs H Q E => ∃ (a dx : Addr) (v : V), vs = [.ref a, v] ∧ H a = some (.ins C dx []) ∧ VOk H v ∧
  (parseV v = none → ∀ d H', Same H H' → H d = none → H' d = some (.xd [("text", v)]) → E (.ref CB) (some d) H') ∧
  (∀ x r, v = .str x → parse x = some r → ∀ H', (∀ b o, H b = some o → b ≠ a → H' b = some o) → StepAt K C H' a x r → Q .non H')
/-- what the class says -/
structure TxtO (P : Program) (K : PySem.W.Frag) (mg : Str → Option Value) (C CB fP fI : Addr) : Prop where
  parts : mg "step_parts" = some (.ref fP)
  bt : Err P K mg "BadText" "text" "text" CB
  cl : Cls K C
  nT : NoAttr K C "text"
  nK : NoAttr K C "kind"
  nB : NoAttr K C "by"
  nR : NoAttr K C "rest"
  g : mg "Step" = some (.ref C)
  mkr : Mk K C fI
section
variable {P : Program} {w : World} {K : PySem.W.Frag} {mg : Str → Option Value} {base : Heap} {dN dR tB : Addr} {eN eR : Array DictEntry} {nN nR : Nat} {C CB fP fI : Addr}
theorem scInit : FnScope ["self", "text", "parts", "kind", "by", "rest"] ["self", "text"] (defScope sInit) := ⟨rfl, rfl, rfl, by decide +kernel, rfl, by decide +kernel, by decide +kernel⟩
theorem ok_init {f : Addr} {fd gd : FuncData} (F : Fun K "__init__" "Step.__init__" sInit f fd) (O : TxtO P K mg C CB fP fI) (T : TxtS K w mg dN dR tB eN eR nN nR) (G : Fun K "step_parts" "step_parts" sParts fP gd) (bG : Binds K gd ["text"] []) : FnOk P w K mg base (L2.CX P w) 3 f fd ["self", "text"] (spInit K C CB) := by
  have GP : FnOk P w K mg base CX0 1 fP gd ["text"] (spParts K) := ok_parts G T
  refine F.okX scInit (fun vs H Q E h => ?_) (fun cdv A outer s H vs Q E hr h => ?_)
  · obtain ⟨a, dx, v, rfl, _⟩ := h
    rfl
  · obtain ⟨a, dx, v, rfl, ha, hv, kE, kQ⟩ := h
    have nd := scInit.nd
    refine ⟨_, (pss_cons (ps_set (i := 2) nd rfl (Or.inl rfl) (pe_call GP (hr.mono (by decide)) (by rfl) O.parts G.kp bG .nil pass0 (pa_cons (pv 1) pa_nil)))
      (pss_cons (ps_if (pt_cmpR op_isN (pv 2) pe_non (nomark _))
        (pss_one (ps_raise rfl (takes_of rfl rfl rfl rfl) (pmk_err O.bt hr (by rfl) (pa_cons (pv 1) pa_nil)))) pss_nil)
      (pss_cons (ps_asg (pv 2) (pg_tup rfl (pgs_cons (pg_name (i := 3) nd rfl (Or.inl rfl)) (pgs_cons (pg_name (i := 4) nd rfl (Or.inl rfl)) (pgs_cons (pg_name (i := 5) nd rfl (Or.inl rfl)) pgs_nil)))))
      (pss_cons (ps_fld (pv 0) (pv 1) rfl)
      (pss_cons (ps_fld (pv 0) (pv 3) rfl)
      (pss_cons (ps_fld (pv 0) (pv 4) rfl)
      (pss_one (ps_fld (pv 0) (pv 5) rfl)))))))), ?_⟩
    refine ⟨_, rfl, v, rfl, hv, fun hn H1 s1 => ?_, fun r hp u H1 s1 du => ?_⟩
    · refine ⟨_, rfl, rfl, _, rfl, ?_⟩
      refine iteT ?_
      refine ⟨v, rfl, mkS_ans fun d hd => ?_⟩
      exact kE hn d _ (s1.trans (same_upd hd)) (s1.free hd) upd_same
    · obtain ⟨t, xs, rfl, st, dxs⟩ := du.of_tuple
      refine ⟨_, rfl, rfl, _, rfl, ?_⟩
      refine iteF ?_
      obtain ⟨k, b, rr⟩ := r
      cases dxs with
      | cons d1 dxs => cases dxs with
        | cons d2 dxs => cases dxs with
          | cons d3 dxs =>
            cases dxs
            obtain rfl := d1.of_str
            rename_i v2 v3
            obtain ⟨x, rfl⟩ : ∃ x, v = .str x := by
              cases v with
              | str x => exact ⟨x, rfl⟩
              | _ => cases hp
            have ha1 : H1 a = some (.ins C dx []) := s1 _ _ ha
            refine ⟨_, rfl, t, _, rfl, st, rfl, _, _, rfl, _, _, rfl, _, _, rfl, rfl, ?_⟩
            refine ⟨_, rfl, _, rfl, a, C, dx, [], rfl, ha1, O.cl, O.nT, (by show 0 < 1000; decide), ?_⟩
            refine ⟨_, rfl, _, rfl, a, C, dx, _, rfl, upd_same, O.cl, O.nK, (by show 1 < 1000; decide), ?_⟩
            refine ⟨_, rfl, _, rfl, a, C, dx, _, rfl, upd_same, O.cl, O.nB, (by rw [put1, put2]; show 2 < 1000; decide), ?_⟩
            refine ⟨_, rfl, _, rfl, a, C, dx, _, rfl, upd_same, O.cl, O.nR, (by rw [put1, put2, put3]; show 3 < 1000; decide), ?_⟩
            rw [upd_upd, upd_upd, upd_upd, put1, put2, put3, put4]
            have tk : TK H1 (upd H1 a (.ins C dx (stepF x k v2 v3))) := ⟨fun c ys e => by rw [upd_ne (ne_of e ha1 (fun z => by cases z))]; exact e, fun c o ys e => by rw [upd_ne (ne_of e ha1 (fun z => by cases z))]; exact e⟩
            exact kQ x (k, b, rr) rfl hp _ (fun c o e hc => by rw [upd_ne hc]; exact s1 _ _ e) ⟨⟨dx, v2, v3, upd_same, d2.keep tk, d3.keep tk⟩, hp⟩
end
end Aw

namespace Aw
open PySem PySem.Spec PyProof.Rows L2 NdefX
/-! ### a == b, a != b where a's class has its own __eq__ (and no __ne__) -/
theorem neSlot : Slot "object" "__ne__" "object.__ne__" := .of (owner := "object") (n := "__ne__") (by rw [typeLookup_type, builtinLookup_eq_fast]; kernel_rfl) (by decide +kernel) (by decide +kernel) (by decide +kernel)
    (by first | exact .inl (by decide +kernel) | exact .inr (by decide +kernel)) (by rw [isSubtype_type]; kernel_rfl)
section
variable {prog : Program} {w : World} {A : Around} {E : Value → Shared → Prop} {s : Shared} {K : PySem.W.Frag} {x C : Addr} {ox : Obj} {od : Option Obj} {name : Str} {b tb : Value} {id : String}
theorem ifBound_b {M : Model} {args : List Value} {Q : Option Value → Shared → Prop} (X : K.In s.heap) (I : PySem.W.InstAt s.heap x ox C od) (hs : PySem.W.findIn K (.ref C) name = some (some (.builtin id))) (hb : bindSpecial (.builtin id) (.ref x) = pure (.builtin id, [.ref x]))
    (h : wpAny M A (call (.builtin id) (.ref x :: args)) (fun v => Q (some v)) E s) : wpAny M A (callSpecialIfBound? (.ref x) name args) Q E s := by
  simp only [callSpecialIfBound?, bindSpecialIfBound?]
  refine wpAny_holding (wpAny_bind (wpAny_bind (wpAny_bind (I.type.here ((PySem.W.looks_findIn X hs).here ?_)))))
  refine wpAny_bind (wpAny_askSetting (wpAny_ite ?_))
  have fin : wpAny M A (call (.builtin id) ([.ref x] ++ args) >>= fun v => pure (some v)) Q E s := wpAny_bind (wpAny_mono h (fun v s' h' => wpAny_pure h') fun _ _ h' => h')
  split
  · exact wpAny_bind (wpAny_of_eq hb (wpAny_pure (by exact fin)))
  · exact wpAny_tryCatch (wpAny_bind (wpAny_of_eq hb (wpAny_pure (by exact fin))))
theorem cmp_b {op : CmpOp} {Q : Value → Shared → Prop} (hu : A.units < cLine) (X : K.In s.heap) (I : PySem.W.InstAt s.heap x ox C od) (hb : PySem.W.Looks (model prog w) s.heap (typeOf b) tb) (hn : PySem.W.notFirst K C tb = true)
    (hs : PySem.W.findIn K (.ref C) (cmpInfo op).2.1 = some (some (.builtin id))) (hbd : bindSpecial (.builtin id) (.ref x) = pure (.builtin id, [.ref x]))
    (h : wpAny (model prog w) A (call (.builtin id) [.ref x, b]) (PySem.W.CmpBack Q) E s) : wpAny (model prog w) A (richCompare op (.ref x) b) Q E s := by
  have one : wpAny (model prog w) A (tryCompare (.ref x) (cmpInfo op).2.1 b) (fun r s' => ∃ v, r = some v ∧ Q v s') E s := by
    unfold tryCompare
    refine wpAny_bind (ifBound_b X I hs hbd (wpAny_mono h (fun v s' hv => ?_) fun _ _ e => e))
    cases v <;> first | exact hv.elim | exact wpAny_pure ⟨_, rfl, hv⟩
  unfold richCompare
  simp only [oneThing_ref]
  refine wpAny_holding (wpAny_bind (wpAny_cRoomFor hu ?_))
  refine wpAny_bind (I.type.here (wpAny_bind (hb.here ?_)))
  split
  · rename_i q
    have e : PySem.W.subIn K tb (.ref C) = some false := by
      rcases Bool.or_eq_true_iff.mp hn with e | e
      · rw [beq_iff_eq.mp e] at q; simp at q
      · exact beq_iff_eq.mp e
    refine wpAny_bind ((PySem.W.looks_subIn X e).here ?_)
    simp only [Bool.false_eq_true, if_false]
    refine wpAny_bind (wpAny_mono one (fun r s' z => ?_) fun _ _ e => e)
    obtain ⟨v, rfl, hq⟩ := z
    exact wpAny_pure hq
  · refine wpAny_bind (wpAny_pure ?_)
    simp only [Bool.false_eq_true, if_false]
    refine wpAny_bind (wpAny_mono one (fun r s' z => ?_) fun _ _ e => e)
    obtain ⟨v, rfl, hq⟩ := z
    exact wpAny_pure hq
/-- object.__ne__ over the own __eq__ at f -/
theorem ne_own {f : Addr} {Q : Value → Shared → Prop} (hu : A.units + 1 < cLine) (X : K.In s.heap) (I : PySem.W.InstAt s.heap x ox C od) (ho : PySem.W.mroIn K C (.type "object") = some true)
    (hs : PySem.W.findIn K (.ref C) "__eq__" = some (some (.ref f))) (hf : PySem.W.isFn K (.ref f) = true)
    (h : wpAny (model prog w) A.in1 (call (.ref f) [.ref x, b]) (fun v s' => ∃ r, v = .bool r ∧ Q (.bool (!r)) s') E s) : wpAny (model prog w) A (call (.builtin "object.__ne__") [.ref x, b]) Q E s := by
  have sub : PySem.W.Looks (model prog w) s.heap (isInstance (.ref x) (.type "object")) true := I.type.andThen (PySem.W.looks_mroIn X ho)
  obtain ⟨hp, g, d, t, os⟩ := s
  refine wpAny_call (codeAny_call_builtin neSlot.plain F.cmpEntry_ne ?_)
  refine @PySem.W.check_slot (model prog w) _ _ ⟨hp, g, d, t, os⟩ "object.__ne__" "object" "__ne__" (.ref x) [b] [] _ F.cmpKind_ne F.cmpSplit_ne sub (F.cmpArgs_ne _ _) ?_
  unfold Builtin.«object.__ne__»
  refine wpAny_bind (wpAny_of_eq (a := ((Value.ref x : Value), [b])) (by first | rfl | (simp only [Builtin.slotArgs]; rfl)) ?_)
  refine wpAny_bind (wpAny_cRoomFor hu ?_)
  refine wpAny_bind (PySem.W.ifBound_K X I hs hf (wpAny_mono h (fun v s' hv => ?_) fun _ _ e => e))
  obtain ⟨r, rfl, q⟩ := hv
  refine wpAny_bind (wpAny_truthy_bool ?_)
  exact wpAny_pure q
end
end Aw
namespace Aw
open PySem PySem.Spec PyProof.Rows L2 NdefX
/-- what the class says of ==, != -/
structure EqTxt (K : PySem.W.Frag) (C f : Addr) : Prop where
  eq : PySem.W.findIn K (.ref C) "__eq__" = some (some (.ref f))
  fn : PySem.W.isFn K (.ref f) = true
  ne : PySem.W.findIn K (.ref C) "__ne__" = some (some (.builtin "object.__ne__"))
  ob : PySem.W.mroIn K C (.type "object") = some true
section
variable {X : Cx} {C f : Addr} {fd : FuncData} {ps : List Str} {sp : Sp} {k : Nat}
/-- the type of the other side, told -/
def OthV (K : PySem.W.Frag) (C : Addr) (y : V) (H : Hp) : Prop := (∃ b dx fs, y = .ref b ∧ H b = some (.ins C dx fs)) ∨ (∃ t, y = .str t) ∨ y = .non
theorem oth_type {pins : List (Addr × Obj)} {σ : Aw.St} {H : Hp} {s : Shared} {y : V} {u : Value} (I : Inv X pins σ H s) (r : RelV y u) (o : OthV X.K C y H) (hS : PySem.W.notFirst X.K C (.type "str") = true) (hN : PySem.W.notFirst X.K C (.type "NoneType") = true) :
    ∃ tb, PySem.W.Looks (model X.prog X.w) s.heap (typeOf u) tb ∧ PySem.W.notFirst X.K C tb = true := by
  rcases o with ⟨b, dx, fs, rfl, hb⟩ | ⟨t, rfl⟩ | rfl
  · cases (show u = Value.ref b from r)
    obtain ⟨mB, J', _⟩ := ins_get I.hok hb
    obtain ⟨od', J', _⟩ := J'.look
    exact ⟨_, J'.type, by simp [PySem.W.notFirst]⟩
  · obtain ⟨tk, rfl⟩ := (show ∃ tk, u = Value.str t tk from r)
    exact ⟨.type "str", .of_pure rfl, hS⟩
  · cases (show u = Value.none from r)
    exact ⟨.type "NoneType", .of_pure rfl, hN⟩
def rOwn (K : PySem.W.Frag) (C : Addr) (sp : Sp) (neg : Bool) : R2 := fun x y H Q => ∃ a dx fs, x = .ref a ∧ H a = some (.ins C dx fs) ∧ OthV K C y H ∧ sp [x, y] H (fun v H' => ∃ r, v = .bl r ∧ Q (.bl (if neg then !r else r)) H') E0
theorem op_eqOwn (T : EqTxt X.K C f) (hS : PySem.W.notFirst X.K C (.type "str") = true) (hN : PySem.W.notFirst X.K C (.type "NoneType") = true) (F : FnOk X.prog X.w X.K X.mg X.base CX0 k f fd ps sp) (hr : Room k X.A) (hb : Binds X.K fd ps []) : OpR X (compareOp .Eq) (rOwn X.K C sp false) := by
  intro pins s σ H x y v u Q I rx ry h
  obtain ⟨a, dx, fs, rfl, ha, oy, hsp⟩ := h
  cases rx
  obtain ⟨mA, J, _⟩ := ins_get I.hok ha
  obtain ⟨od, J, _⟩ := J.look
  obtain ⟨m, hF⟩ := I.fr
  obtain ⟨tb, lt, nf⟩ := oth_type I ry oy hS hN
  show wpAny (model X.prog X.w) X.A (richCompare .Eq (.ref a) u) _ _ s
  refine PySem.W.cmp_K (op := .Eq) hr.units0 hF I.ok.mod.kin J lt nf T.eq T.fn ?_
  refine wpAny_mono (run_fn (us := [.ref a, u]) (vs := [.ref a, y]) (ds := []) (dvs := []) F hr hb .nil pass0 I (.cons rfl (.cons ry .nil)) hsp) (fun r s' hq => ?_) fun _ _ z => z
  obtain ⟨z, H', I', rz, b, ez, q⟩ := hq
  subst ez
  cases (show r = Value.bool b from rz)
  exact ⟨.bl b, H', I', rfl, q⟩
theorem op_neOwn (T : EqTxt X.K C f) (hS : PySem.W.notFirst X.K C (.type "str") = true) (hN : PySem.W.notFirst X.K C (.type "NoneType") = true) (F : FnOk X.prog X.w X.K X.mg X.base CX0 k f fd ps sp) (hr : Room (k + 1) X.A) (hb : Binds X.K fd ps []) : OpR X (compareOp .NotEq) (rOwn X.K C sp true) := by
  intro pins s σ H x y v u Q I rx ry h
  obtain ⟨a, dx, fs, rfl, ha, oy, hsp⟩ := h
  cases rx
  obtain ⟨mA, J, _⟩ := ins_get I.hok ha
  obtain ⟨od, J, _⟩ := J.look
  obtain ⟨tb, lt, nf⟩ := oth_type I ry oy hS hN
  show wpAny (model X.prog X.w) X.A (richCompare .NotEq (.ref a) u) _ _ s
  have hu := hr.units
  refine cmp_b (op := .NotEq) hr.units0 I.kIn J lt nf T.ne (neSlot.bind _) (ne_own (by omega) I.kIn J T.ob T.eq T.fn ?_)
  have hl : [Value.ref a, u].length = ps.length := by
    have e := F.len _ _ _ _ hsp
    rw [← e]
    rfl
  have bb := hb s [.ref a, u] I.kIn (by rw [List.append_nil]; exact hl)
  rw [List.append_nil] at bb
  have r2 : Vals [V.ref a, y] [Value.ref a, u] := .cons rfl (.cons ry .nil)
  refine wpAny_call (codeAny_mono (F.run X.A.in1 X.stack s H ⟨[.ref a, u], []⟩ [.ref a, u] [.ref a, y] _ E0 (Room.in1 hr) I.env0.in1 bb r2 hsp) fun r s' hq => ?_)
  cases r with
  | error e => exact False.elim hq
  | ok fl =>
    cases fl with
    | ret w =>
      obtain ⟨z, H', I', rz, b, ez, q⟩ := I.after hq
      subst ez
      cases (show w = Value.bool b from rz)
      exact ⟨b, rfl, .bl (!b), H', I', rfl, q⟩
    | next => exact False.elim hq
    | brk => exact False.elim hq
    | cont => exact False.elim hq
end
end Aw

namespace Aw
open PySem PySem.Spec PyProof.Rows L2 NdefX
abbrev sText : Stmt := (top 17)
/-- what str tells of a number -/
def strI (i : Int) : Str := toString i
def textK (k : Str) (b : Option Int) : Str := match b with
  | none => k
  | some i => k ++ " " ++ strI i
/-- the text of a row -/
def textOf (r : Row) : Str := match r.2.2 with
  | none => textK r.1 r.2.1
  | some p => (if r.1 = "flip" then textK r.1 r.2.1 else textK r.1 r.2.1 ++ " at") ++ " " ++ strI p.1 ++ " of " ++ strI p.2
def smI (r : Row) : Bool := (match r.2.1 with | none => true | some i => decide (i.natAbs.log2 < 1920)) && (match r.2.2 with | none => true | some p => decide (p.1.natAbs.log2 < 1920) && decide (p.2.natAbs.log2 < 1920)) && decide ((textOf r).length ≤ 1000)
theorem known_text : ∀ p ∈ known, textOf p.2 = p.1 := by decide +kernel
theorem known_smI : ∀ p ∈ known, smI p.2 = true := by decide +kernel
def spText (K : PySem.W.Frag) : Sp := fun vs H Q _ => ∃ (u : V) (r : Row), vs = [u] ∧ Dq K H u (rowD r) ∧ smI r = true ∧ Q (.str (textOf r)) H
section
variable {P : Program} {w : World} {K : PySem.W.Frag} {mg : Str → Option Value} {base : Heap}
theorem scText : FnScope ["_law_step", "_law_kind", "_law_by", "_law_rest", "_law_text_here"] ["_law_step"] (defScope sText) := ⟨rfl, rfl, rfl, by decide +kernel, rfl, by decide +kernel, by decide +kernel⟩
theorem len_sum {x y z : Str} {n : Nat} (h : (x ++ y).length ≤ n) : x.length + y.length ≤ n := by rw [← Str.length_append]; exact h
theorem len_left {x y : Str} {n : Nat} (h : (x ++ y).length ≤ n) : x.length ≤ n := by rw [Str.length_append] at h; omega
theorem kz : (1000 : Nat) ≤ sizeLine := by decide
theorem ite_nstr {x y : Str} {A B : Prop} (h1 : x ≠ y → A) (h2 : x = y → B) : if (!decide (V.str x = V.str y)) = true then A else B := by
  by_cases e : x = y
  · rw [decide_eq_true (by rw [e])]
    exact iteF (h2 e)
  · rw [decide_eq_false (fun z => e (V.str.inj z))]
    exact iteT (h1 e)
theorem len_add {x y : Str} (h : (x ++ y).length ≤ 1000) : x.length + y.length ≤ sizeLine := by rw [Str.length_append] at h; exact Nat.le_trans h kz
theorem ok_text {f : Addr} {fd : FuncData} (F : Fun K "_law_text" "_law_text" sText f fd) (hs : mg "str" = none) : FnOk P w K mg base CX0 1 f fd ["_law_step"] (spText K) := by
  refine F.ok scText (fun vs H Q E h => ?_) (fun cdv A outer s H vs Q E hr h => ?_)
  · obtain ⟨u, r, rfl, _⟩ := h
    rfl
  · obtain ⟨u, r, rfl, hd, hsm, hQ⟩ := h
    have nd := scText.nd
    refine ⟨_, (pss_cons (ps_asg (pv 0) (pg_tup rfl (pgs_cons (pg_name (i := 1) nd rfl (Or.inl rfl)) (pgs_cons (pg_name (i := 2) nd rfl (Or.inl rfl)) (pgs_cons (pg_name (i := 3) nd rfl (Or.inl rfl)) pgs_nil)))))
      (pss_cons (ps_set (i := 4) nd rfl (Or.inl rfl) (pv 1))
      (pss_cons (ps_if (pt_cmpR op_notN (pv 2) pe_non (nomark _))
        (pss_one (ps_set (i := 4) nd rfl (Or.inl rfl) (pe_op op_add_str (pe_op op_add_str (pv 4) pe_str) (pe_callTy call_str_int (by rfl) hs (by decide +kernel) (pa_cons (pv 2) pa_nil))))) pss_nil)
      (pss_cons (ps_if (pt_cmpR op_isN (pv 3) pe_non (nomark _))
        (pss_one (ps_ret (pv 4))) pss_nil)
      (pss_cons (ps_if (pt_cmpR op_ne (pv 1) pe_str (nomark _))
        (pss_one (ps_set (i := 4) nd rfl (Or.inl rfl) (pe_op op_add_str (pv 4) pe_str))) pss_nil)
      (pss_one (ps_ret (pe_op op_add_str (pe_op op_add_str (pe_op op_add_str (pe_op op_add_str (pv 4) pe_str) (pe_callTy call_str_int (by rfl) hs (by decide +kernel) (pa_cons (pe_ix ix_tup (pv 3) pe_int (fun _ _ => rfl)) pa_nil))) pe_str) (pe_callTy call_str_int (by rfl) hs (by decide +kernel) (pa_cons (pe_ix ix_tup (pv 3) pe_int (fun _ _ => rfl)) pa_nil)))))))))), ?_⟩
    obtain ⟨k, b, rr⟩ := r
    obtain ⟨t, xs, rfl, st, dxs⟩ := hd.of_tuple
    cases dxs with
    | cons d1 dxs => cases dxs with
      | cons d2 dxs => cases dxs with
        | cons d3 dxs =>
          cases dxs
          obtain rfl := d1.of_str
          rename_i v2 v3
          unfold smI at hsm
          simp only [Bool.and_eq_true, decide_eq_true_eq] at hsm
          obtain ⟨⟨h1, h2⟩, h3⟩ := hsm
          refine ⟨_, rfl, t, _, rfl, st, rfl, _, _, rfl, _, _, rfl, _, _, rfl, rfl, ?_⟩
          refine ⟨_, rfl, ?_⟩
          have lenK : (textK k b).length ≤ 1000 := by
            cases rr with
            | none => exact h3
            | some p =>
              change ((((if k = "flip" then textK k b else textK k b ++ " at") ++ " " ++ strI p.1) ++ " of ") ++ strI p.2).length ≤ 1000 at h3
              have h := len_left (len_left (len_left (len_left h3)))
              by_cases e : k = "flip"
              · rw [if_pos e] at h; exact h
              · rw [if_neg e] at h; exact len_left h
          cases b with
          | none =>
            obtain rfl := d2.of_none
            refine ⟨_, rfl, rfl, _, rfl, ?_⟩
            refine iteF ?_
            cases rr with
            | none =>
              obtain rfl := d3.of_none
              refine ⟨_, rfl, rfl, _, rfl, ?_⟩
              refine iteT ?_
              exact ⟨_, rfl, hQ⟩
            | some p =>
              obtain ⟨t3, x3, rfl, st3, dx3⟩ := d3.of_tuple
              refine ⟨_, rfl, rfl, _, rfl, ?_⟩
              refine iteF ?_
              cases dx3 with
              | cons e1 dx3 => cases dx3 with
                | cons e2 dx3 =>
                  cases dx3
                  obtain rfl := e1.of_int
                  obtain rfl := e2.of_int
                  simp only [Bool.and_eq_true, decide_eq_true_eq] at h2
                  refine ⟨_, rfl, rfl, _, rfl, ?_⟩
                  change Q (.str (((((if k = "flip" then textK k _ else textK k _ ++ " at") ++ " ") ++ strI p.1) ++ " of ") ++ strI p.2)) H at hQ
                  change (((((if k = "flip" then textK k _ else textK k _ ++ " at") ++ " ") ++ strI p.1) ++ " of ") ++ strI p.2).length ≤ 1000 at h3
                  refine ite_nstr (fun e => ?_) (fun e => ?_)
                  · rw [if_neg e] at hQ h3
                    refine ⟨_, rfl, _, _, rfl, rfl, len_add (len_left (len_left (len_left (len_left h3)))), ?_⟩
                    refine ⟨_, rfl, _, _, rfl, rfl, len_add (len_left (len_left (len_left h3))), _, rfl, ?_⟩
                    exact ⟨t3, _, 0, _, rfl, rfl, st3, rfl, p.1, rfl, h2.1, _, _, rfl, rfl, len_add (len_left (len_left h3)), _, _, rfl, rfl, len_add (len_left h3), _, rfl, t3, _, 1, _, rfl, rfl, st3, rfl, p.2, rfl, h2.2, _, _, rfl, rfl, len_add h3, hQ⟩
                  · rw [if_pos e] at hQ h3
                    exact ⟨_, rfl, _, _, rfl, rfl, len_add (len_left (len_left (len_left h3))), _, rfl, t3, _, 0, _, rfl, rfl, st3, rfl, p.1, rfl, h2.1, _, _, rfl, rfl, len_add (len_left (len_left h3)), _, _, rfl, rfl, len_add (len_left h3), _, rfl, t3, _, 1, _, rfl, rfl, st3, rfl, p.2, rfl, h2.2, _, _, rfl, rfl, len_add h3, hQ⟩
          | some i =>
            obtain rfl := d2.of_int
            refine ⟨_, rfl, rfl, _, rfl, ?_⟩
            refine iteT ?_
            change ((k ++ " ") ++ strI i).length ≤ 1000 at lenK
            refine ⟨_, rfl, k, " ", rfl, rfl, len_add (len_left lenK), _, rfl, i, rfl, of_decide_eq_true h1, k ++ " ", strI i, rfl, rfl, len_add lenK, ?_⟩
            cases rr with
            | none =>
              obtain rfl := d3.of_none
              refine ⟨_, rfl, rfl, _, rfl, ?_⟩
              refine iteT ?_
              exact ⟨_, rfl, hQ⟩
            | some p =>
              obtain ⟨t3, x3, rfl, st3, dx3⟩ := d3.of_tuple
              refine ⟨_, rfl, rfl, _, rfl, ?_⟩
              refine iteF ?_
              cases dx3 with
              | cons e1 dx3 => cases dx3 with
                | cons e2 dx3 =>
                  cases dx3
                  obtain rfl := e1.of_int
                  obtain rfl := e2.of_int
                  simp only [Bool.and_eq_true, decide_eq_true_eq] at h2
                  refine ⟨_, rfl, rfl, _, rfl, ?_⟩
                  change Q (.str (((((if k = "flip" then textK k _ else textK k _ ++ " at") ++ " ") ++ strI p.1) ++ " of ") ++ strI p.2)) H at hQ
                  change (((((if k = "flip" then textK k _ else textK k _ ++ " at") ++ " ") ++ strI p.1) ++ " of ") ++ strI p.2).length ≤ 1000 at h3
                  refine ite_nstr (fun e => ?_) (fun e => ?_)
                  · rw [if_neg e] at hQ h3
                    refine ⟨_, rfl, _, _, rfl, rfl, len_add (len_left (len_left (len_left (len_left h3)))), ?_⟩
                    refine ⟨_, rfl, _, _, rfl, rfl, len_add (len_left (len_left (len_left h3))), _, rfl, ?_⟩
                    exact ⟨t3, _, 0, _, rfl, rfl, st3, rfl, p.1, rfl, h2.1, _, _, rfl, rfl, len_add (len_left (len_left h3)), _, _, rfl, rfl, len_add (len_left h3), _, rfl, t3, _, 1, _, rfl, rfl, st3, rfl, p.2, rfl, h2.2, _, _, rfl, rfl, len_add h3, hQ⟩
                  · rw [if_pos e] at hQ h3
                    exact ⟨_, rfl, _, _, rfl, rfl, len_add (len_left (len_left (len_left h3))), _, rfl, t3, _, 0, _, rfl, rfl, st3, rfl, p.1, rfl, h2.1, _, _, rfl, rfl, len_add (len_left (len_left h3)), _, _, rfl, rfl, len_add (len_left h3), _, rfl, t3, _, 1, _, rfl, rfl, st3, rfl, p.2, rfl, h2.2, _, _, rfl, rfl, len_add h3, hQ⟩
end
end Aw

namespace Aw
open PySem PySem.Spec PyProof.Rows L2 NdefX
abbrev sAll : Stmt := (top 18)
/-! ### the rows in the order in which the law makes them -/
def byL : List Int := [-3, -2, -1, 1, 2, 3]
def wholeL : List Int := [2, 3, 4]
def ofV (k : Str) (b : Option Int) (w : Int) (n : Nat) : List Row := (List.range n).map fun (j : Nat) => (k, b, some ((0 : Int) + (j : Int), w))
def row1 (k : Str) : Row := (k, none, none)
def rows0 : List Row := (["turn", "deal", "undeal", "swap", "gather", "spread"] : List Str).map row1
def rows1 : List Row := rows0 ++ [row1 "flip first", row1 "flip last"]
def inA (b : Int) (l : List Row) (w : Int) : List Row := l ++ ofV "near" (some b) w w.toNat
def inB (b : Int) (l : List Row) (w : Int) : List Row := l ++ (if b % w = 0 then ofV "sum" (some b) w w.toNat else [])
def three (b : Int) : List Row := [("roll", some b, none), ("near", some b, none), ("sum", some b, none)]
def byG (i : Nat) : Int := byL.getD i 0
def whG (j : Nat) : Int := wholeL.getD j 2
def rowsI (b : Int) (l : List Row) (j : Nat) : List Row := (wholeL.take j).foldl (fun l w => inB b (inA b l w) w) l
def rowsB : Nat → List Row
  | 0 => rows1
  | i + 1 => rowsI (byG i) (rowsB i ++ three (byG i)) 3
def rowsF : Nat → List Row
  | 0 => rowsB 6
  | i + 1 => rowsF i ++ ofV "flip" none (whG i) (whG i).toNat
theorem rows_known : rowsF 3 = known.map (·.2) := by decide +kernel
theorem rowsB_len : ∀ i < 7, (rowsB i).length ≤ 200 := by decide +kernel
theorem rowsF_len : ∀ i < 4, (rowsF i).length ≤ 200 := by decide +kernel
theorem rowsI_len : ∀ i < 6, ∀ j < 4, (rowsI (byG i) (rowsB i ++ three (byG i)) j).length ≤ 200 := by decide +kernel
theorem rowsI_at {b : Int} {l : List Row} : ∀ j < 3, rowsI b l (j + 1) = inB b (inA b (rowsI b l j) (whG j)) (whG j)
  | 0, _ => rfl
  | 1, _ => rfl
  | 2, _ => rfl
theorem wh_ok : ∀ j < 3, 0 < whG j ∧ whG j < 5 := by decide +kernel
theorem byAt {i : Nat} {x : V} (h : ([.int (-3), .int (-2), .int (-1), .int 1, .int 2, .int 3] : List V)[i]? = some x) : i < 6 ∧ x = .int (byG i) := by
  match i, h with
  | 0, h => cases h; exact ⟨by decide, rfl⟩
  | 1, h => cases h; exact ⟨by decide, rfl⟩
  | 2, h => cases h; exact ⟨by decide, rfl⟩
  | 3, h => cases h; exact ⟨by decide, rfl⟩
  | 4, h => cases h; exact ⟨by decide, rfl⟩
  | 5, h => cases h; exact ⟨by decide, rfl⟩
  | n + 6, h => simp at h
theorem whAt {i : Nat} {x : V} (h : ([.int 2, .int 3, .int 4] : List V)[i]? = some x) : i < 3 ∧ x = .int (whG i) := by
  match i, h with
  | 0, h => cases h; exact ⟨by decide, rfl⟩
  | 1, h => cases h; exact ⟨by decide, rfl⟩
  | 2, h => cases h; exact ⟨by decide, rfl⟩
  | n + 3, h => simp at h
/-- a list of rows stands at L -/
structure RowsAt (K : PySem.W.Frag) (H : Hp) (L : Addr) (ds : List PyData) : Prop where
  ex : ∃ vs, H L = some (.lst vs) ∧ DqAll K H vs ds
def rowsD (l : List Row) : List PyData := l.map rowD
theorem rowsD_app {a b : List Row} : rowsD (a ++ b) = rowsD a ++ rowsD b := List.map_append
theorem rowsD_len {a : List Row} : (rowsD a).length = a.length := List.length_map ..
def knownD : List PyData := known.map fun p => .tuple [.str p.1, rowD p.2]
def spAll (K : PySem.W.Frag) : Sp := fun vs H Q _ => vs = [] ∧ ∀ L H', Same H H' → RowsAt K H' L knownD → Q (.ref L) H'
section
variable {P : Program} {w : World} {K : PySem.W.Frag} {mg : Str → Option Value} {base : Heap}
theorem same_fresh {H H2 : Hp} {D : Addr} {o : HO} (hD : H D = none) (s2 : Same H H2) : Same H (upd H2 D o) := fun b u e => by rw [upd_ne (ne_of_none e hD)]; exact s2 _ _ e
theorem app_any {H H2 H4 : Hp} {D : Addr} {vs : List V} {v : V} {ds : List PyData} {d : PyData} (hD : H D = none) (s2 : Same H H2) (e2 : H2 D = some (.lst vs)) (d2 : DqAll K H2 vs ds) (s4 : Same H2 H4) (hv : Dq K H4 v d) :
    H4 D = some (.lst vs) ∧ Same H (upd H4 D (.lst (vs ++ [v]))) ∧ ∃ vs', upd H4 D (.lst (vs ++ [v])) D = some (.lst vs') ∧ DqAll K (upd H4 D (.lst (vs ++ [v]))) vs' (ds ++ [d]) := by
  have e4 := s4 _ _ e2
  have tk : TK H4 (upd H4 D (.lst (vs ++ [v]))) := TK.lst e4
  exact ⟨e4, same_fresh hD (s2.trans s4), _, upd_same, ((d2.keep (TK.same s4)).keep tk).append (.cons (hv.keep tk) .nil)⟩
theorem row_dq {H : Hp} {t1 t2 : Addr} {k : Str} {b : Option Int} {p q : Int} {bv : V} (hb : ∀ H', Dq K H' bv (optD b)) (h2 : upd H t1 (.tup [.int p, .int q]) t2 = none) :
    Dq K (upd (upd H t1 (.tup [.int p, .int q])) t2 (.tup [.str k, bv, .ref t1])) (.ref t2) (rowD (k, b, some (p, q))) :=
  .tup (SqT.of upd_same) (.cons (.str _) (.cons (hb _) (.cons (.tup (SqT.of (by rw [upd_ne (ne_of_none upd_same h2), upd_same])) (.cons (.int _) (.cons (.int _) .nil))) .nil)))
theorem kindAt {m : Nat} {x : V} (h : ([.str "turn", .str "deal", .str "undeal", .str "swap", .str "gather", .str "spread"] : List V)[m]? = some x) : ∃ n, x = .str n ∧ rows0.take (m + 1) = rows0.take m ++ [row1 n] := by
  match m, h with
  | 0, h => cases h; exact ⟨_, rfl, rfl⟩
  | 1, h => cases h; exact ⟨_, rfl, rfl⟩
  | 2, h => cases h; exact ⟨_, rfl, rfl⟩
  | 3, h => cases h; exact ⟨_, rfl, rfl⟩
  | 4, h => cases h; exact ⟨_, rfl, rfl⟩
  | 5, h => cases h; exact ⟨_, rfl, rfl⟩
  | n + 6, h => simp at h
theorem ofV_succ {k : Str} {b : Option Int} {w : Int} {n : Nat} : ofV k b w (n + 1) = ofV k b w n ++ [(k, b, some ((0 : Int) + (n : Int), w))] := by
  unfold ofV
  rw [List.range_succ, List.map_append]
  rfl
theorem small200 {n : Nat} (h : n ≤ 1000) : n ≤ sizeLine := Nat.le_trans h kz
theorem small200' {n : Nat} (h : n < 1000) : n < sizeLine := Nat.lt_of_lt_of_le h kz
theorem cat_rows {H : Hp} {L D : Addr} {a b : List Row} {Q : VK} (hL : RowsAt K H L (rowsD a)) (hD : RowsAt K H D (rowsD b)) (hn : a.length + b.length ≤ 1000) (k : ∀ p H', Same H H' → RowsAt K H' p (rowsD (a ++ b)) → Q (.ref p) H') : rCat (.ref L) (.ref D) H Q := by
  obtain ⟨vs, e1, d1⟩ := hL.ex
  obtain ⟨ws, e2, d2⟩ := hD.ex
  have l1 := d1.length
  have l2 := d2.length
  rw [rowsD_len] at l1 l2
  refine ⟨L, D, vs, ws, rfl, rfl, e1, e2, small200 (by omega), fun p hp => k p _ (same_upd hp) ⟨_, upd_same, ?_⟩⟩
  rw [rowsD_app]
  exact (d1.append d2).keep (TK.new hp)
theorem RowsAt.same {H H' : Hp} {L : Addr} {ds : List PyData} (h : RowsAt K H L ds) (s : Same H H') : RowsAt K H' L ds := by
  obtain ⟨vs, e, d⟩ := h.ex
  exact ⟨vs, s _ _ e, d.keep (TK.same s)⟩
theorem lc_of {te : TE} {tt : TT} {σ : Aw.St} {vs : List Nat} {H : Hp} {Q : VK} {k : Str} {b : Option Int} {w : Int} {n : Nat} {c : Bool} (hn : n ≤ 100) (hw : ∀ v, wipe ((wipe σ vs).set 4 v) vs = wipe σ vs)
    (htt : ∀ (m : Nat) H2 (Q : Bool → Hp → Prop), Q c H2 → tt ((wipe σ vs).set 4 (some (.int ((0 : Int) + (m : Int))))) H2 Q)
    (hte : ∀ (m : Nat) H2 Q, (∀ v H4, Same H2 H4 → Dq K H4 v (rowD (k, b, some ((0 : Int) + (m : Int), w))) → Q v H4) → te ((wipe σ vs).set 4 (some (.int ((0 : Int) + (m : Int))))) H2 Q)
    (hd : ∀ D H2, Same H H2 → RowsAt K H2 D (rowsD (if c = true then ofV k b w n else [])) → Q (.ref D) H2) : tLc (fun _ H R => R (Itr 0 n) H) (gName 4) tt te vs σ H Q := by
  intro D hD
  refine lc_range (lo := 0) (n := n) (fun m H2 => Same H H2 ∧ ∃ ws, H2 D = some (.lst ws) ∧ DqAll K H2 ws (rowsD (if c = true then ofV k b w m else []))) ⟨same_upd hD, [], upd_same, ?_⟩ ?_ ?_
  · cases c <;> exact .nil
  · rintro m H2 hm ⟨s2, ws, e2, d2⟩
    refine ⟨hw _, htt m H2 _ ?_⟩
    cases c with
    | false => exact ⟨s2, ws, e2, d2⟩
    | true =>
      refine hte m H2 _ fun v H4 s4 hv => ?_
      obtain ⟨z1, z2, z3⟩ := app_any hD s2 e2 d2 s4 hv
      have lv := d2.length
      have lo : (ofV k b w m).length = m := by unfold ofV; rw [List.length_map, List.length_range]
      rw [rowsD_len, if_pos rfl, lo] at lv
      refine ⟨ws, z1, small200' (by omega), z2, ?_⟩
      rw [if_pos rfl, ofV_succ, rowsD_app]
      exact z3
  · rintro H2 ⟨s2, ws, e2, d2⟩
    exact hd D H2 s2 ⟨ws, e2, d2⟩
theorem lc_cat {te : TE} {tt : TT} {σ : Aw.St} {vs : List Nat} {H : Hp} {L : Addr} {R : VK} {k : Str} {b : Option Int} {w : Int} {n : Nat} {c : Bool} {a : List Row} (rL : RowsAt K H L (rowsD a)) (hn : n ≤ 100) (ha : a.length ≤ 800)
    (hd : ∀ D H2, Same H H2 → RowsAt K H2 D (rowsD (a ++ (if c = true then ofV k b w n else []))) → R (.ref D) H2)
    (hw : ∀ v, wipe ((wipe σ vs).set 4 v) vs = wipe σ vs)
    (htt : ∀ (m : Nat) H2 (Q : Bool → Hp → Prop), Q c H2 → tt ((wipe σ vs).set 4 (some (.int ((0 : Int) + (m : Int))))) H2 Q)
    (hte : ∀ (m : Nat) H2 Q, (∀ v H4, Same H2 H4 → Dq K H4 v (rowD (k, b, some ((0 : Int) + (m : Int), w))) → Q v H4) → te ((wipe σ vs).set 4 (some (.int ((0 : Int) + (m : Int))))) H2 Q) :
    tLc (fun _ H R => R (Itr 0 n) H) (gName 4) tt te vs σ H (fun y H2 => rCat (.ref L) y H2 R) := by
  refine lc_of (c := c) hn hw htt hte fun D H2 s2 rD => ?_
  refine cat_rows (rL.same s2) rD ?_ fun p H3 s3 r3 => hd p H3 (s2.trans s3) r3
  have : (if c = true then ofV k b w n else []).length ≤ 100 := by
    split
    · unfold ofV; rw [List.length_map, List.length_range]; exact hn
    · exact Nat.zero_le _
  omega
theorem scAll : FnScope ["_law_rows", "_law_by", "_law_whole", "_law_kind", "_law_part", "_law_row"] [] (defScope sAll) := ⟨rfl, rfl, rfl, by decide +kernel, rfl, by decide +kernel, by decide +kernel⟩
theorem ok_all {f fT : Addr} {fd gd : FuncData} (F : Fun K "_law_all" "_law_all" sAll f fd) (gR : mg "range" = none) (gI : mg "int" = none) (hs : mg "str" = none) (gT : mg "_law_text" = some (.ref fT)) (G : Fun K "_law_text" "_law_text" sText fT gd) (bG : Binds K gd ["_law_step"] []) : FnOk P w K mg base CX0 2 f fd [] (spAll K) := by
  have GT : FnOk P w K mg base CX0 1 fT gd ["_law_step"] (spText K) := ok_text G hs
  refine F.ok scAll (fun vs H Q E h => ?_) (fun cdv A outer s H vs Q E hr h => ?_)
  · obtain ⟨rfl, _⟩ := h
    rfl
  · obtain ⟨rfl, k⟩ := h
    have nd := scAll.nd
    refine ⟨_, (pss_cons (ps_setLc (i := 0) (own := [("_law_kind", 3)]) (g := (gName 3)) (tt := tYes) rfl nd rfl rfl (sw_true rfl rfl (by rfl) (by decide +kernel)) (pi_tup (pe_tup (pa_cons pe_str (pa_cons pe_str (pa_cons pe_str (pa_cons pe_str (pa_cons pe_str (pa_cons pe_str pa_nil)))))))) (blkOk_by (own := [("_law_kind", 3)]) (N := ["_law_rows", "_law_by", "_law_whole", "_law_kind", "_law_part", "_law_row"]) (sc := defScope sAll) (by decide +kernel)) (fun _ _ _ _ _ => (pg_name (i := 3) nd rfl (Or.inl rfl))) (fun _ _ _ _ _ => pts_nil) (fun _ _ _ _ _ => (pe_tup (pa_cons (pv 3) (pa_cons pe_non (pa_cons pe_non pa_nil))))))
      (pss_cons (ps_set (i := 0) nd rfl (Or.inl rfl) (pe_op op_cat (pv 0) (pe_lst (pa_cons (pe_tup (pa_cons pe_str (pa_cons pe_non (pa_cons pe_non pa_nil)))) (pa_cons (pe_tup (pa_cons pe_str (pa_cons pe_non (pa_cons pe_non pa_nil)))) pa_nil)))))
      (pss_cons (ps_for PassesOwn.never rfl (pi_tup (pe_tup (pa_cons (pe_un un_neg pe_int) (pa_cons (pe_un un_neg pe_int) (pa_cons (pe_un un_neg pe_int) (pa_cons pe_int (pa_cons pe_int (pa_cons pe_int pa_nil)))))))) (pg_name (i := 1) nd rfl (Or.inr rfl))
        (pss_cons (ps_set (i := 0) nd rfl (Or.inl rfl) (pe_op op_cat (pv 0) (pe_lst (pa_cons (pe_tup (pa_cons pe_str (pa_cons (pv 1) (pa_cons pe_non pa_nil)))) (pa_cons (pe_tup (pa_cons pe_str (pa_cons (pv 1) (pa_cons pe_non pa_nil)))) (pa_cons (pe_tup (pa_cons pe_str (pa_cons (pv 1) (pa_cons pe_non pa_nil)))) pa_nil))))))
        (pss_one (ps_for PassesOwn.never rfl (pi_tup (pe_tup (pa_cons pe_int (pa_cons pe_int (pa_cons pe_int pa_nil))))) (pg_name (i := 2) nd rfl (Or.inr rfl))
          (pss_cons (ps_set (i := 0) nd rfl (Or.inl rfl) (pe_op op_cat (pv 0) (pe_lc (own := [("_law_part", 4)]) (g := (gName 4)) (tt := tYes) rfl nd (pi_range1 rfl gR (pa_cons (pv 2) pa_nil)) (blkOk_by (own := [("_law_part", 4)]) (N := ["_law_rows", "_law_by", "_law_whole", "_law_kind", "_law_part", "_law_row"]) (sc := defScope sAll) (by decide +kernel)) (fun _ _ _ _ _ => (pg_name (i := 4) nd rfl (Or.inl rfl))) (fun _ _ _ _ _ => pts_nil) (fun _ _ _ _ _ => (pe_tup (pa_cons pe_str (pa_cons (pv 1) (pa_cons (pe_tup (pa_cons (pv 4) (pa_cons (pv 2) pa_nil))) pa_nil))))))))
          (pss_one (ps_set (i := 0) nd rfl (Or.inl rfl) (pe_op op_cat (pv 0) (pe_lc (own := [("_law_part", 4)]) (g := (gName 4)) rfl nd (pi_range1 rfl gR (pa_cons (pv 2) pa_nil)) (blkOk_by (own := [("_law_part", 4)]) (N := ["_law_rows", "_law_by", "_law_whole", "_law_kind", "_law_part", "_law_row"]) (sc := defScope sAll) (by decide +kernel)) (fun _ _ _ _ _ => (pg_name (i := 4) nd rfl (Or.inl rfl))) (fun _ _ _ _ _ => pts_one (pt_cmpR op_eq (pe_op op_mod (pe_callTy call_int1 (by rfl) gI (by decide +kernel) (pa_cons (pv 1) pa_nil)) (pv 2)) pe_int (nomark _))) (fun _ _ _ _ _ => (pe_tup (pa_cons pe_str (pa_cons (pv 1) (pa_cons (pe_tup (pa_cons (pv 4) (pa_cons (pv 2) pa_nil))) pa_nil))))))))))))))
      (pss_cons (ps_for PassesOwn.never rfl (pi_tup (pe_tup (pa_cons pe_int (pa_cons pe_int (pa_cons pe_int pa_nil))))) (pg_name (i := 2) nd rfl (Or.inr rfl))
        (pss_one (ps_set (i := 0) nd rfl (Or.inl rfl) (pe_op op_cat (pv 0) (pe_lc (own := [("_law_part", 4)]) (g := (gName 4)) (tt := tYes) rfl nd (pi_range1 rfl gR (pa_cons (pv 2) pa_nil)) (blkOk_by (own := [("_law_part", 4)]) (N := ["_law_rows", "_law_by", "_law_whole", "_law_kind", "_law_part", "_law_row"]) (sc := defScope sAll) (by decide +kernel)) (fun _ _ _ _ _ => (pg_name (i := 4) nd rfl (Or.inl rfl))) (fun _ _ _ _ _ => pts_nil) (fun _ _ _ _ _ => (pe_tup (pa_cons pe_str (pa_cons pe_non (pa_cons (pe_tup (pa_cons (pv 4) (pa_cons (pv 2) pa_nil))) pa_nil))))))))))
      (pss_one (ps_ret (pe_lc (own := [("_law_row", 5)]) (g := (gName 5)) (tt := tYes) rfl nd (pi_list (pv 0)) (blkOk_by (own := [("_law_row", 5)]) (N := ["_law_rows", "_law_by", "_law_whole", "_law_kind", "_law_part", "_law_row"]) (sc := defScope sAll) (by decide +kernel)) (fun _ _ _ _ _ => (pg_name (i := 5) nd rfl (Or.inl rfl))) (fun _ _ _ _ _ => pts_nil) (fun _ _ _ _ _ => (pe_tup (pa_cons (pe_call GT hr (by rfl) gT G.kp bG .nil pass0 (pa_cons (pv 5) pa_nil)) (pa_cons (pv 5) pa_nil))))))))))), ?_⟩
    -- the six
    refine ⟨by show 6 ≤ sizeLine; decide, fun t0 ht0 => ⟨t0, rfl, ⟨_, SqT.of upd_same⟩, fun D hD => ?_⟩⟩
    have sA := same_upd (o := .tup [.str "turn", .str "deal", .str "undeal", .str "swap", .str "gather", .str "spread"]) ht0
    obtain ⟨H1, hH1⟩ : ∃ H1, upd H t0 (.tup [.str "turn", .str "deal", .str "undeal", .str "swap", .str "gather", .str "spread"]) = H1 := ⟨_, rfl⟩
    have et0 : H1 t0 = some (.tup [.str "turn", .str "deal", .str "undeal", .str "swap", .str "gather", .str "spread"]) := by rw [← hH1, upd_same]
    rw [hH1] at sA hD ⊢
    refine lc_tup (a := t0) (xs := [.str "turn", .str "deal", .str "undeal", .str "swap", .str "gather", .str "spread"]) (fun m H2 => Same H1 H2 ∧ ∃ vs', H2 D = some (.lst vs') ∧ DqAll K H2 vs' (rowsD (rows0.take m))) ⟨same_upd hD, [], upd_same, .nil⟩ (fun i H2 hi p => SqT.of (p.1 _ _ et0)) ?_ ?_
    · rintro m x H2 hx ⟨s2, vs', e2, d2⟩
      obtain ⟨n, rfl, e⟩ := kindAt hx
      have hm : m < 6 := by
        have := (List.getElem?_eq_some_iff.mp hx).1
        exact this
      refine ⟨rfl, _, rfl, by show 3 ≤ sizeLine; decide, fun t ht => ?_⟩
      obtain ⟨z1, z2, z3⟩ := app_any (v := .ref t) (d := rowD (row1 n)) hD s2 e2 d2 (same_upd ht) (.tup (SqT.of upd_same) (.cons (.str _) (.cons .non (.cons .non .nil))))
      have lv := d2.length
      rw [rowsD_len, List.length_take] at lv
      refine ⟨vs', z1, small200' (by omega), z2, ?_⟩
      rw [e, rowsD_app]
      exact z3
    · rintro H2 ⟨s2, vs0, e2, d2⟩
      have d2 : DqAll K H2 vs0 (rowsD rows0) := d2
      have lv0 : vs0.length = 6 := d2.length
      -- the two
      refine ⟨_, rfl, by show 3 ≤ sizeLine; decide, fun t1 ht1 => ⟨by show 3 ≤ sizeLine; decide, fun t2 ht2 => ⟨by show 2 ≤ sizeLine; decide, fun l hl => ?_⟩⟩⟩
      have s3 : Same H2 (upd (upd (upd H2 t1 (.tup [.str "flip first", .non, .non])) t2 (.tup [.str "flip last", .non, .non])) l (.lst [.ref t1, .ref t2])) := ((same_upd ht1).trans (same_upd ht2)).trans (same_upd hl)
      have r3 : RowsAt K (upd (upd (upd H2 t1 (.tup [.str "flip first", .non, .non])) t2 (.tup [.str "flip last", .non, .non])) l (.lst [.ref t1, .ref t2])) l (rowsD [row1 "flip first", row1 "flip last"]) := by
        have q1 := ne_of_none (show upd H2 t1 (.tup [.str "flip first", .non, .non]) t1 = some _ from upd_same) ht2
        refine ⟨_, upd_same, .cons (.tup (SqT.of (same_upd hl _ _ (same_upd ht2 _ _ upd_same))) (.cons (.str _) (.cons .non (.cons .non .nil)))) (.cons (.tup (SqT.of (same_upd hl _ _ upd_same)) (.cons (.str _) (.cons .non (.cons .non .nil)))) .nil)⟩
      refine cat_rows (RowsAt.same ⟨vs0, e2, d2⟩ s3) r3 (by decide) fun L H3 s4 rL => ?_
      have sH : Same H H3 := ((sA.trans s2).trans s3).trans s4
      -- the loop over the numbers
      refine ⟨3, rfl, 2, rfl, 1, rfl, by show 6 ≤ sizeLine; decide, fun t ht => ⟨t, rfl, ⟨_, SqT.of upd_same⟩, ?_⟩⟩
      obtain ⟨H4, hH4⟩ : ∃ H4, upd H3 t (.tup [.int (-3), .int (-2), .int (-1), .int 1, .int 2, .int 3]) = H4 := ⟨_, rfl⟩
      have et : H4 t = some (.tup [.int (-3), .int (-2), .int (-1), .int 1, .int 2, .int 3]) := by rw [← hH4, upd_same]
      have s34 : Same H3 H4 := by rw [← hH4]; exact same_upd ht
      change ∃ W : Nat → Nat → Aw.St → Hp → Prop, (∃ m, W 0 m _ (upd H3 t (.tup [.int (-3), .int (-2), .int (-1), .int 1, .int 2, .int 3]))) ∧ _
      rw [hH4]
      refine for_tup (a := t) (xs := [.int (-3), .int (-2), .int (-1), .int 1, .int 2, .int 3]) (fun i σ H5 => ∃ (L : Addr) (v1 v2 : Option V), σ = [some (.ref L), v1, v2, none, none, none] ∧ RowsAt K H5 L (rowsD (rowsB i)) ∧ Same H4 H5) ⟨L, none, none, rfl, rL.same s34, fun _ _ e => e⟩ (fun i σ H5 hi p => by
        obtain ⟨_, _, _, _, _, s5⟩ := p
        exact SqT.of (s5 _ _ et)) ?_ ?_
      · rintro i x σ H5 hx ⟨L, v1, v2, rfl, rL, s5⟩
        obtain ⟨hi, rfl⟩ := byAt hx
        have lB := rowsB_len i (by omega)
        obtain ⟨b, hb⟩ : ∃ b, byG i = b := ⟨_, rfl⟩
        have lI := rowsI_len i hi
        rw [hb] at lI ⊢
        refine ⟨_, rfl, _, rfl, by show 3 ≤ sizeLine; decide, fun t1 ht1 => ⟨_, rfl, by show 3 ≤ sizeLine; decide, fun t2 ht2 => ⟨_, rfl, by show 3 ≤ sizeLine; decide, fun t3 ht3 => ⟨by show 3 ≤ sizeLine; decide, fun l hl => ?_⟩⟩⟩⟩
        have s6 := (((same_upd (o := .tup [.str "roll", .int b, .non]) ht1).trans (same_upd (o := .tup [.str "near", .int b, .non]) ht2)).trans (same_upd (o := .tup [.str "sum", .int b, .non]) ht3)).trans (same_upd (o := .lst [.ref t1, .ref t2, .ref t3]) hl)
        have r6 : RowsAt K _ l (rowsD (three b)) := ⟨_, upd_same, .cons (.tup (SqT.of (same_upd hl _ _ (same_upd ht3 _ _ (same_upd ht2 _ _ upd_same)))) (.cons (.str _) (.cons (.int _) (.cons .non .nil))))
          (.cons (.tup (SqT.of (same_upd hl _ _ (same_upd ht3 _ _ upd_same))) (.cons (.str _) (.cons (.int _) (.cons .non .nil)))) (.cons (.tup (SqT.of (same_upd hl _ _ upd_same)) (.cons (.str _) (.cons (.int _) (.cons .non .nil)))) .nil))⟩
        refine cat_rows (rL.same s6) r6 (by show (rowsB i).length + 3 ≤ 1000; omega) fun L2 H6 s7 rL2 => ?_
        have s56 : Same H5 H6 := s6.trans s7
        -- the loop over the wholes
        refine ⟨by show 3 ≤ sizeLine; decide, fun t4 ht4 => ⟨t4, rfl, ⟨_, SqT.of upd_same⟩, ?_⟩⟩
        obtain ⟨H7, hH7⟩ : ∃ H7, upd H6 t4 (.tup [.int 2, .int 3, .int 4]) = H7 := ⟨_, rfl⟩
        have et4 : H7 t4 = some (.tup [.int 2, .int 3, .int 4]) := by rw [← hH7, upd_same]
        have s67 : Same H6 H7 := by rw [← hH7]; exact same_upd ht4
        change ∃ W : Nat → Nat → Aw.St → Hp → Prop, (∃ m, W 0 m _ (upd H6 t4 (.tup [.int 2, .int 3, .int 4]))) ∧ _
        rw [hH7]
        refine for_tup (a := t4) (xs := [.int 2, .int 3, .int 4]) (fun j σ H8 => ∃ (L : Addr) (v2 : Option V), σ = [some (.ref L), some (.int b), v2, none, none, none] ∧ RowsAt K H8 L (rowsD (rowsI b (rowsB i ++ three b) j)) ∧ Same H7 H8) ⟨L2, v2, rfl, rL2.same s67, fun _ _ e => e⟩ (fun j σ H8 hj p => by
          obtain ⟨_, _, _, _, s8⟩ := p
          exact SqT.of (s8 _ _ et4)) ?_ ?_
        · rintro j x σ H8 hx2 ⟨L3, v3, rfl, rL3, s8⟩
          obtain ⟨hj, rfl⟩ := whAt hx2
          have lJ := lI j (by omega)
          have lJ1 := lI (j + 1) (by omega)
          have eJ := rowsI_at (b := b) (l := rowsB i ++ three b) j hj
          obtain ⟨w0, w1⟩ := wh_ok j hj
          rw [eJ] at lJ1
          obtain ⟨wj, hwj⟩ : ∃ wj, whG j = wj := ⟨_, rfl⟩
          rw [hwj] at w0 w1 lJ1 eJ ⊢
          refine ⟨_, rfl, _, rfl, wj, rfl, by omega, by omega, ?_⟩
          have lA : (inA b (rowsI b (rowsB i ++ three b) j) wj).length ≤ 200 := by
            unfold inB at lJ1
            rw [List.length_append] at lJ1
            omega
          refine lc_cat (k := "near") (b := some b) (w := wj) (n := wj.toNat) (c := true) rL3 (by omega) (by omega) (fun L4 H10 s10 rL4 => ?_) ?_ ?_ (fun m H9 Q9 h9 => ?_)
          rotate_left
          · exact fun _ => rfl
          · exact fun _ _ _ h => h
          · exact ⟨_, rfl, _, rfl, _, rfl, by show 2 ≤ sizeLine; decide, fun u1 hu1 => ⟨by show 3 ≤ sizeLine; decide, fun u2 hu2 => h9 _ _ ((same_upd hu1).trans (same_upd hu2)) (row_dq (fun _ => .int _) hu2)⟩⟩
          rw [if_pos rfl] at rL4
          refine ⟨_, rfl, _, rfl, wj, rfl, by omega, by omega, ?_⟩
          refine lc_cat (k := "sum") (b := some b) (w := wj) (n := wj.toNat) (c := decide (b % wj = 0)) rL4 (by omega) (by change (inA b (rowsI b (rowsB i ++ three b) j) wj).length ≤ 800; omega) (fun L5 H12 s12 rL5 => ?_) ?_ (fun m H9 Q9 h9 => ?_) (fun m H9 Q9 h9 => ?_)
          rotate_left
          · exact fun _ => rfl
          · refine ⟨_, rfl, .inl ⟨b, rfl, _, rfl, b, wj, rfl, rfl, w0, rfl, _, rfl, ?_⟩⟩
            rw [show decide (V.int (b % wj) = V.int 0) = decide (b % wj = 0) by simp]
            exact h9
          · exact ⟨_, rfl, _, rfl, _, rfl, by show 2 ≤ sizeLine; decide, fun u1 hu1 => ⟨by show 3 ≤ sizeLine; decide, fun u2 hu2 => h9 _ _ ((same_upd hu1).trans (same_upd hu2)) (row_dq (fun _ => .int _) hu2)⟩⟩
          refine ⟨L5, _, rfl, ?_, (s8.trans s10).trans s12⟩
          rw [eJ]
          simp only [decide_eq_true_eq] at rL5
          exact rL5
        · rintro σ H8 ⟨L3, v3, rfl, rL3, s8⟩
          refine ⟨L3, _, _, rfl, ?_, ((s5.trans s56).trans s67).trans s8⟩
          show RowsAt K H8 L3 (rowsD (rowsI (byG i) (rowsB i ++ three (byG i)) 3))
          rw [hb]
          exact rL3
      · rintro σ H5 ⟨L, v1, v2, rfl, rL, s5⟩
        have rL : RowsAt K H5 L (rowsD (rowsB 6)) := rL
        have sH5 : Same H H5 := (sH.trans s34).trans s5
        -- the flips
        refine ⟨by show 3 ≤ sizeLine; decide, fun t4 ht4 => ⟨t4, rfl, ⟨_, SqT.of upd_same⟩, ?_⟩⟩
        obtain ⟨H7, hH7⟩ : ∃ H7, upd H5 t4 (.tup [.int 2, .int 3, .int 4]) = H7 := ⟨_, rfl⟩
        have et4 : H7 t4 = some (.tup [.int 2, .int 3, .int 4]) := by rw [← hH7, upd_same]
        have s67 : Same H5 H7 := by rw [← hH7]; exact same_upd ht4
        change ∃ W : Nat → Nat → Aw.St → Hp → Prop, (∃ m, W 0 m _ (upd H5 t4 (.tup [.int 2, .int 3, .int 4]))) ∧ _
        rw [hH7]
        refine for_tup (a := t4) (xs := [.int 2, .int 3, .int 4]) (fun j σ H8 => ∃ (L : Addr) (v2 : Option V), σ = [some (.ref L), v1, v2, none, none, none] ∧ RowsAt K H8 L (rowsD (rowsF j)) ∧ Same H7 H8) ⟨L, v2, rfl, rL.same s67, fun _ _ e => e⟩ (fun j σ H8 hj p => by
          obtain ⟨_, _, _, _, s8⟩ := p
          exact SqT.of (s8 _ _ et4)) ?_ ?_
        · rintro j x σ H8 hx2 ⟨L3, v3, rfl, rL3, s8⟩
          obtain ⟨hj, rfl⟩ := whAt hx2
          have lJ1 := rowsF_len (j + 1) (by omega)
          obtain ⟨w0, w1⟩ := wh_ok j hj
          have eJ : rowsF (j + 1) = rowsF j ++ ofV "flip" none (whG j) (whG j).toNat := rfl
          rw [eJ, List.length_append] at lJ1
          obtain ⟨wj, hwj⟩ : ∃ wj, whG j = wj := ⟨_, rfl⟩
          rw [hwj] at w0 w1 lJ1 eJ ⊢
          refine ⟨_, rfl, _, rfl, wj, rfl, by omega, by omega, ?_⟩
          refine lc_cat (k := "flip") (b := none) (w := wj) (n := wj.toNat) (c := true) rL3 (by omega) (by omega) (fun L4 H10 s10 rL4 => ?_) ?_ ?_ (fun m H9 Q9 h9 => ?_)
          rotate_left
          · exact fun _ => rfl
          · exact fun _ _ _ h => h
          · exact ⟨_, rfl, _, rfl, by show 2 ≤ sizeLine; decide, fun u1 hu1 => ⟨by show 3 ≤ sizeLine; decide, fun u2 hu2 => h9 _ _ ((same_upd hu1).trans (same_upd hu2)) (row_dq (fun _ => .non) hu2)⟩⟩
          rw [if_pos rfl] at rL4
          refine ⟨L4, _, rfl, ?_, s8.trans s10⟩
          rw [eJ]
          exact rL4
        · rintro σ H8 ⟨L3, v3, rfl, rL3, s8⟩
          have rL3 : RowsAt K H8 L3 (rowsD (rowsF 3)) := rL3
          obtain ⟨vs, eL, dL⟩ := rL3.ex
          refine ⟨_, rfl, L3, rfl, ⟨vs, SqL.of eL⟩, fun D4 hD4 => ?_⟩
          have lvs := dL.length
          refine lc_list (a := L3) (xs := vs) (fun m H9 => Same H8 H9 ∧ ∃ ws, H9 D4 = some (.lst ws) ∧ DqAll K H9 ws (knownD.take m)) ⟨same_upd hD4, [], upd_same, .nil⟩ (fun m H9 hm p => SqL.of (p.1 _ _ eL)) ?_ ?_
          · rintro m x H9 hx ⟨s9, ws, e9, d9⟩
            obtain ⟨d, ed, hd⟩ := (dL.keep (TK.same s9)).get hx
            rw [rowsD, rows_known, List.map_map, List.getElem?_map] at ed
            cases ek : known[m]? with
            | none => rw [ek] at ed; cases ed
            | some p =>
              rw [ek] at ed
              cases ed
              have mk : p ∈ known := List.mem_of_getElem? ek
              refine ⟨rfl, _, rfl, x, p.2, rfl, hd, known_smI p mk, _, rfl, by show 2 ≤ sizeLine; decide, fun u hu => ?_⟩
              rw [known_text p mk]
              obtain ⟨z1, z2, z3⟩ := app_any (v := .ref u) (d := .tuple [.str p.1, rowD p.2]) hD4 s9 e9 d9 (same_upd hu) (.tup (SqT.of upd_same) (.cons (.str _) (.cons (hd.keep (TK.new hu)) .nil)))
              have lw := d9.length
              have ml : m < vs.length := (List.getElem?_eq_some_iff.mp hx).1
              rw [lvs, rowsD_len] at ml
              have := rowsF_len 3 (by decide)
              rw [List.length_take] at lw
              refine ⟨ws, z1, small200' (by omega), z2, ?_⟩
              have et : knownD.take (m + 1) = knownD.take m ++ [.tuple [.str p.1, rowD p.2]] := by
                rw [List.take_succ, knownD, List.getElem?_map, ek]
                rfl
              rw [et]
              exact z3
          · rintro H9 ⟨s9, ws, e9, d9⟩
            refine k D4 H9 ((sH5.trans s67).trans (s8.trans s9)) ⟨ws, e9, ?_⟩
            have : knownD.take vs.length = knownD := List.take_of_length_le (by rw [lvs, rowsD_len, rows_known, knownD, List.length_map, List.length_map]; exact Nat.le_refl _)
            rw [this] at d9
            exact d9
end
end Aw

namespace Aw
open PySem PySem.Spec PyProof.Rows L2 NdefX
/-- a Step stands at b, or a text, or None: what isinstance tells of it -/
structure TxtE (K : PySem.W.Frag) (C : Addr) : Prop where
  ha : PySem.W.findIn K (.ref C) "__class__" = some (some (.builtin "object.__class__"))
  hn : PySem.W.specialIn K (.builtin "object.__class__") "__get__" = some (some (.builtin "getset_descriptor.__get__"))
  ht : PySem.W.takesIn K (.builtin "object.__class__") = some true
  hm : PySem.W.mroIn K C (.type "object") = some true
  me : PySem.W.kitOne K (.ref C) (.ref C) = some true
  nS : PySem.W.kitOne K (.type "str") (.ref C) = some false
  nN : PySem.W.kitOne K (.type "NoneType") (.ref C) = some false
def spEq (K : PySem.W.Frag) (C : Addr) : Sp := fun vs H Q _ => ∃ (a : Addr) (y : V) (x : Str) (r : Row), vs = [.ref a, y] ∧ StepAt K C H a x r ∧
  ((∃ (b : Addr) (x' : Str) (r' : Row), y = .ref b ∧ StepAt K C H b x' r' ∧ Q (.bl (decide (x = x'))) H) ∨ (((∃ t, y = .str t) ∨ y = .non) ∧ Q (.bl false) H))
section
variable {P : Program} {w : World} {K : PySem.W.Frag} {mg : Str → Option Value} {base : Heap} {C CB fP fI : Addr}
theorem scEq : FnScope ["self", "other"] ["self", "other"] (defScope sEq) := ⟨rfl, rfl, rfl, by decide +kernel, rfl, by decide +kernel, by decide +kernel⟩
theorem dec_strs {x y : Str} : decide (V.str x = V.str y) = decide (x = y) := by
  by_cases e : x = y
  · rw [decide_eq_true e, decide_eq_true (by rw [e])]
  · rw [decide_eq_false e, decide_eq_false (fun z => e (V.str.inj z))]
theorem ok_eq {f : Addr} {fd : FuncData} (F : Fun K "__eq__" "Step.__eq__" sEq f fd) (O : TxtO P K mg C CB fP fI) (Te : TxtE K C) (isi : mg "isinstance" = none) : FnOk P w K mg base CX0 1 f fd ["self", "other"] (spEq K C) := by
  have T : True := trivial
  refine F.ok scEq (fun vs H Q E h => ?_) (fun cdv A outer s H vs Q E hr h => ?_)
  · obtain ⟨a, y, x, r, rfl, _⟩ := h
    rfl
  · obtain ⟨a, y, x, r, rfl, sa, h⟩ := h
    have nd := scEq.nd
    refine ⟨_, (pss_one (ps_ret (pe_and (pe_callB call_isi (by rfl) isi (by decide +kernel) (pa_cons (pv 1) (pa_cons (pe_glob (v := .ref C) (by rfl) O.g rfl) pa_nil))) (pe_one (pe_cmpR op_eq (pe_fld (pv 0) rfl) (pe_fld (pv 1) rfl) (nomark _)))))), ?_⟩
    obtain ⟨dx, bv, tv, ea, _, _⟩ := sa.ex
    rcases h with ⟨b, x', r', rfl, sb, hq⟩ | ⟨hy, hq⟩
    · obtain ⟨dx', bv', tv', eb, _, _⟩ := sb.ex
      refine ⟨_, rfl, .ref b, .ref C, .ref C, .ref C, true, rfl, .own _, .base (.ins eb O.cl Te.ha Te.hn Te.ht Te.hm), Te.me, _, rfl, ?_⟩
      refine iteT ?_
      refine ⟨_, rfl, a, C, dx, _, _, rfl, ea, O.cl, O.nT, gText, _, rfl, b, C, dx', _, _, rfl, eb, O.cl, O.nT, gText, rfl, ?_⟩
      rw [dec_strs]
      exact hq
    · rcases hy with ⟨t, rfl⟩ | rfl
      · refine ⟨_, rfl, .str t, .ref C, .type "str", .ref C, false, rfl, .own _, .base (.str t), Te.nS, _, rfl, ?_⟩
        exact iteF hq
      · refine ⟨_, rfl, .non, .ref C, .type "NoneType", .ref C, false, rfl, .own _, .base .non, Te.nN, _, rfl, ?_⟩
        exact iteF hq
end
end Aw

namespace Aw
open PySem PySem.Spec PyProof.Rows L2 NdefX
abbrev sTextOf : Stmt := (top 19)
abbrev sTold : Stmt := (top 20)
/-- _law_text_of, called with a BadText in hand -/
def spTextOf (K : PySem.W.Frag) (CB : Addr) : Addr → Value → Option Addr → Sp := fun a cls d vs H Q _ => ∃ (dd : Addr) (v : V), vs = [.ref a] ∧ cls = .ref CB ∧ d = some dd ∧ H dd = some (.xd [("text", v)]) ∧ Q v H
section
variable {P : Program} {w : World} {K : PySem.W.Frag} {mg : Str → Option Value} {base : Heap} {C CB CW fP fI : Addr}
theorem scTextOf : FnScope ["_law_e"] ["_law_e"] (defScope sTextOf) := ⟨rfl, rfl, rfl, by decide +kernel, rfl, by decide +kernel, by decide +kernel⟩
theorem ok_textOf {f : Addr} {fd : FuncData} (F : Fun K "_law_text_of" "_law_text_of" sTextOf f fd) (Er : Err P K mg "BadText" "text" "text" CB) (isi : mg "isinstance" = none) (kBB : PySem.W.kitOne K (.ref CB) (.ref CB) = some true) :
    FnE P w K mg base 1 f fd ["_law_e"] (spTextOf K CB) := by
  obtain ⟨oc, od, kV, doc, pm, an, cdv, ct, osl, rfl, lk, hcd⟩ := F.ex
  refine fn_ofE lk hcd scTextOf (fun a c d vs H Q E h => ?_) fun A outer s H vs Q E p cls d hz hf hr hsp => ?_
  · obtain ⟨dd, v, rfl, _⟩ := h
    rfl
  · obtain ⟨dd, v, rfl, rfl, rfl, hd, hQ⟩ := hsp
    have nd := scTextOf.nd
    refine ⟨_, (pss_cons (ps_if (pt_val (pe_callB (call_isP (List.mem_singleton_self p) hz hf) (by rfl) isi (by decide +kernel) (pa_cons (pv 0) (pa_cons (pe_glob (v := .ref CB) (by rfl) Er.g rfl) pa_nil))))
        (pss_one (ps_ret (pe_xp (List.mem_singleton_self p) hz hf (pv 0)))) pss_nil)
      (pss_one (ps_ret pe_non))), ?_⟩
    refine ⟨_, rfl, CB, .ref CB, .ref CB, true, rfl, rfl, Er.D, (fun dd e => ⟨_, by cases e; exact hd⟩), .own _, kBB, _, rfl, ?_⟩
    refine iteT ?_
    exact ⟨_, rfl, rfl, CB, dd, _, v, rfl, Er.D, Er.hno, rfl, hd, rfl, hQ⟩
def tb_told (K : PySem.W.Frag) (C CB : Addr) (W : WX) : TS := tSeq (tAsg (tMakeS C (spInit K C CB) (WE W) (tCons (tVar 0) tNil)) (gName 2))
  (tSeq (tAsg (tAndV (tCB (rIsi K) (tCons (tFld K (tVar 2) "text") (tCons (tC (.ty "str")) tNil))) (tCB (rIsi K) (tCons (tFld K (tVar 2) "kind") (tCons (tC (.ty "str")) tNil)))) (gName 3))
    (tAsg (tTup (tCons (tC (.str "step")) (tCons (tFld K (tVar 2) "text") (tCons (tFld K (tVar 2) "kind") (tCons (tFld K (tVar 2) "by") (tCons (tFld K (tVar 2) "rest") (tCons (tVar 3) tNil))))))) (gName 1)))
def ts_told (K : PySem.W.Frag) (CB : Addr) (a : Addr) (cls : Value) (d : Option Addr) : TS :=
  tAsg (tTup (tCons (tC (.str "refused")) (tCons (fun σ H Q => (tCons (tVar 4) tNil) σ H fun vs H1 => spTextOf K CB a cls d vs H1 Q E0) (tCons (tCB (rIsP K a cls d) (tCons (tVar 4) (tCons (tC (.ref CB)) tNil)))
    (tCons (tCB (rIsP K a cls d) (tCons (tVar 4) (tCons (tC (.ty "ValueError")) tNil))) tNil))))) (gName 1)
/-- the answer: what stands in the tuple -/
def spTold (K : PySem.W.Frag) : Sp := fun vs H Q _ => ∃ v, vs = [v] ∧ VOk H v ∧ (parseV v = none → ∀ t H', Same H H' → H' t = some (.tup [.str "refused", v, .bl true, .bl true]) → Q (.ref t) H') ∧
  (∀ r, parseV v = some r → ∀ t b rr H', Same H H' → H' t = some (.tup [.str "step", v, .str r.1, b, rr, .bl true]) → Dq K H' b (optD r.2.1) → Dq K H' rr (restD r.2.2) → Q (.ref t) H')
theorem scTold : FnScope ["_law_text_here", "_law_found", "_law_step", "_law_right", "_law_e"] ["_law_text_here"] (defScope sTold) := ⟨rfl, rfl, rfl, by decide +kernel, rfl, by decide +kernel, by decide +kernel⟩
theorem ok_told {f fI fT : Addr} {fd gd td : FuncData} (F : Fun K "_law_told" "_law_told" sTold f fd) (O : TxtO P K mg C CB fP fI) (gW : mg "WordsError" = some (.ref CW)) (gV : mg "ValueError" = none) (isi : mg "isinstance" = none) (hs : mg "str" = none)
    (GI : FnOk P w K mg base (L2.CX P w) 3 fI gd ["self", "text"] (spInit K C CB)) (bI : Binds K gd ["self", "text"] []) (GT : FnE P w K mg base 1 fT td ["_law_e"] (spTextOf K CB)) (gT : mg "_law_text_of" = some (.ref fT)) (kT : PySem.W.keepIn K (.ref fT) = true) (bT : Binds K td ["_law_e"] [])
    (kBB : PySem.W.kitOne K (.ref CB) (.ref CB) = some true) (kBV : PySem.W.kitOne K (.ref CB) (.type "ValueError") = some true) (xBW : PySem.W.exmOne K (.ref CB) (.ref CW) = some true) : FnOk P w K mg base CX0 5 f fd ["_law_text_here"] (spTold K) := by
  refine F.ok scTold (fun vs H Q E h => ?_) (fun cdv A outer s H vs Q E hr h => ?_)
  · obtain ⟨v, rfl, _⟩ := h
    rfl
  · obtain ⟨v, rfl, hv, kn, ks⟩ := h
    have nd := scTold.nd
    refine ⟨_, (pss_cons (ps_set (i := 1) nd rfl (Or.inl rfl) (pe_tup (pa_cons pe_str (pa_cons pe_non pa_nil))))
      (pss_cons (ps_try_as (i := 4) (tb := fun W => tb_told K C CB W) (ts := fun a cls d => ts_told K CB a cls d) (Wout := fun _ _ _ _ => False) rfl rfl nd rfl rfl ⟨rfl, by decide, Or.inl gW⟩ takes0
        (fun W pn xe tk _ => (pss_cons (ps_set (i := 2) nd rfl (Or.inl rfl) (pe_makeS O.mkr GI hr rfl O.g bI (fun σ => passAt tk σ) (pa_cons (pv 0) pa_nil)))
        (pss_cons (ps_set (i := 3) nd rfl (Or.inl rfl) (pe_and (pe_callB call_isi rfl isi (by decide +kernel) (pa_cons (pe_fld (pv 2) rfl) (pa_cons (pe_bltn (v := .ty "str") rfl hs (by decide +kernel) rfl) pa_nil))) (pe_one (pe_callB call_isi rfl isi (by decide +kernel) (pa_cons (pe_fld (pv 2) rfl) (pa_cons (pe_bltn (v := .ty "str") rfl hs (by decide +kernel) rfl) pa_nil))))))
        (pss_one (ps_set (i := 1) nd rfl (Or.inl rfl) (pe_tup (pa_cons pe_str (pa_cons (pe_fld (pv 2) rfl) (pa_cons (pe_fld (pv 2) rfl) (pa_cons (pe_fld (pv 2) rfl) (pa_cons (pe_fld (pv 2) rfl) (pa_cons (pv 3) pa_nil))))))))))))
        (fun a oe cls d pn hz hf => (pss_one (ps_set (i := 1) nd rfl (Or.inl rfl) (pe_tup (pa_cons pe_str (pa_cons (pe_callE GT (roomH_suite (hr.mono (by decide))) (List.mem_cons_self ..) hz hf rfl gT kT bT (pa_cons (pv 4) pa_nil)) (pa_cons (pe_callB (call_isP (List.mem_cons_self ..) hz hf) rfl isi (by decide +kernel) (pa_cons (pv 4) (pa_cons (pe_glob (v := .ref CB) rfl O.bt.g rfl) pa_nil))) (pa_cons (pe_callB (call_isP (List.mem_cons_self ..) hz hf) rfl isi (by decide +kernel) (pa_cons (pv 4) (pa_cons (pe_bltn (v := .ty "ValueError") rfl gV (by decide +kernel) rfl) pa_nil))) pa_nil)))))))))
      (pss_one (ps_ret (pv 1))))), ?_⟩
    refine ⟨by show 2 ≤ sizeLine; decide, fun t0 ht0 => ?_⟩
    have s0 := same_upd (o := .tup [.str "none", .non]) ht0
    obtain ⟨H1, hH1⟩ : ∃ H1, upd H t0 (.tup [.str "none", .non]) = H1 := ⟨_, rfl⟩
    change tb_told K C CB _ _ _ (upd H t0 (.tup [.str "none", .non]))
    rw [hH1] at s0 ⊢
    have hv1 := hv.same s0
    refine ⟨_, rfl, fun x dx hx hdx ne => ?_⟩
    have sx1 := same_upd (o := .own x) hdx
    have hx' : upd H1 dx (.own x) x = none := by rw [upd_ne (Ne.symm ne)]; exact hx
    have sx2 := sx1.trans (same_upd (o := .ins C dx []) hx')
    refine ⟨x, dx, v, rfl, upd_same, hv1.same sx2, fun hn d H2 s2 hd0 hd => ?_, fun y r hy hp H2 s2 sa => ?_⟩
    · -- refused
      refine ⟨true, xBW, fun _ a ha => ?_, fun z => Bool.noConfusion z⟩
      refine ⟨_, rfl, d, v, rfl, rfl, rfl, hd, _, rfl, CB, .ref CB, .ref CB, true, rfl, rfl, O.bt.D, ?_, .own _, kBB, _, rfl, CB, .ty "ValueError", .type "ValueError", true, rfl, rfl, O.bt.D, ?_, .ty _, kBV, ?_⟩
      · exact fun dd e => ⟨_, by cases e; exact hd⟩
      · exact fun dd e => ⟨_, by cases e; exact hd⟩
      refine ⟨by show 4 ≤ sizeLine; decide, fun t ht => ?_⟩
      refine ⟨_, rfl, kn hn t _ (((s0.trans sx2).trans s2).trans (same_upd ht)) upd_same⟩
    · obtain ⟨ex, b, rr, ea, db, dr⟩ := sa.ex
      refine ⟨rfl, ?_⟩
      subst hy
      refine ⟨_, rfl, x, C, ex, _, .str y, rfl, ea, O.cl, O.nT, gText, .str y, .ty "str", .type "str", .type "str", true, rfl, .ty _, .base (.str y), kit_ty (show kitB "str" "str" = some true by decide +kernel), _, rfl, ?_⟩
      refine iteT ?_
      refine ⟨_, rfl, x, C, ex, _, .str r.1, rfl, ea, O.cl, O.nK, gKind, .str r.1, .ty "str", .type "str", .type "str", true, rfl, .ty _, .base (.str r.1), kit_ty (show kitB "str" "str" = some true by decide +kernel), ?_⟩
      refine ⟨_, rfl, x, C, ex, _, _, rfl, ea, O.cl, O.nT, gText, _, rfl, x, C, ex, _, _, rfl, ea, O.cl, O.nK, gKind, _, rfl, x, C, ex, _, _, rfl, ea, O.cl, O.nB, gBy, _, rfl, x, C, ex, _, _, rfl, ea, O.cl, O.nR, gRest, _, rfl, by show 6 ≤ sizeLine; decide, fun t ht => ?_⟩
      have sH : Same H1 H2 := fun c o e => s2 c o (sx2 c o e) (fun z => by rw [z, hx] at e; cases e)
      refine ⟨_, rfl, ks r hp t b rr _ ((s0.trans sH).trans (same_upd ht)) upd_same (db.keep (TK.new ht)) (dr.keep (TK.new ht))⟩
end
end Aw

namespace Aw
open PySem PySem.Spec PyProof.Rows L2 NdefX
abbrev sDue : Stmt := (top 21)
/-- the rows whose text is v -/
def sameT (v : V) (p : Str × Row) : Bool := match v with
  | .str x => decide (p.1 = x)
  | _ => false
theorem filter_none {x : Str} : ∀ {l : List (Str × Row)}, (∀ r, (x, r) ∉ l) → l.filter (sameT (.str x)) = []
  | [], _ => rfl
  | p :: l, h => by
    have e : sameT (.str x) p = false := decide_eq_false fun z => h p.2 (by rw [← z]; exact List.mem_cons_self ..)
    rw [List.filter_cons_of_neg (by rw [e]; exact Bool.false_ne_true)]
    exact filter_none fun r m => h r (List.mem_cons_of_mem _ m)
theorem filter_one {x : Str} {r : Row} : ∀ {l : List (Str × Row)}, (l.map (·.1)).Nodup → (x, r) ∈ l → l.filter (sameT (.str x)) = [(x, r)]
  | p :: l, hn, hm => by
    rw [List.map_cons, List.nodup_cons] at hn
    rcases List.mem_cons.mp hm with e | hm'
    · subst e
      rw [List.filter_cons_of_pos (by exact decide_eq_true rfl), filter_none]
      intro r' m
      exact hn.1 (List.mem_map.mpr ⟨_, m, rfl⟩)
    · have e : sameT (.str x) p = false := decide_eq_false fun z => hn.1 (List.mem_map.mpr ⟨_, hm', z.symm⟩)
      rw [List.filter_cons_of_neg (by rw [e]; exact Bool.false_ne_true)]
      exact filter_one hn.2 hm'
theorem found_none {v : V} (h : parseV v = none) : known.filter (sameT v) = [] := by
  cases v with
  | str x =>
    refine filter_none fun r m => ?_
    have h : parse x = none := h
    rw [parse_iff.mpr m] at h
    cases h
  | _ => exact List.filter_eq_nil_iff.mpr fun _ _ z => by cases z
theorem found_one {v : V} {r : Row} (h : parseV v = some r) : ∃ x, v = .str x ∧ known.filter (sameT v) = [(x, r)] := by
  cases v with
  | str x => exact ⟨x, rfl, filter_one known_nodup (parse_iff.mp h)⟩
  | _ => cases h
theorem rows_shaped : ∀ p ∈ known, SeqAt.shaped (.list [rowD p.2]) = true := by decide +kernel
def spDue (K : PySem.W.Frag) : Sp := fun vs H Q _ => ∃ (v : V) (l : Addr), vs = [v, .ref l] ∧ VOk H v ∧ RowsAt K H l knownD ∧ (parseV v = none → ∀ t H', Same H H' → H' t = some (.tup [.str "refused", v, .bl true, .bl true]) → Q (.ref t) H') ∧
  (∀ r, parseV v = some r → ∀ t b rr H', Same H H' → H' t = some (.tup [.str "step", v, .str r.1, b, rr, .bl true]) → Dq K H' b (optD r.2.1) → Dq K H' rr (restD r.2.2) → Q (.ref t) H')
section
variable {P : Program} {w : World} {K : PySem.W.Frag} {mg : Str → Option Value} {base : Heap}
theorem scDue : FnScope ["_law_text_here", "_law_known", "_law_rows", "_law_kind", "_law_by", "_law_rest", "_law_one", "_law_row"] ["_law_text_here", "_law_known"] (defScope sDue) := ⟨rfl, rfl, rfl, by decide +kernel, rfl, by decide +kernel, by decide +kernel⟩
theorem ok_due {f : Addr} {fd : FuncData} (F : Fun K "_law_due" "_law_due" sDue f fd) (isi : mg "isinstance" = none) (hs : mg "str" = none) : FnOk P w K mg base CX0 1 f fd ["_law_text_here", "_law_known"] (spDue K) := by
  refine F.ok scDue (fun vs H Q E h => ?_) (fun cdv A outer s H vs Q E hr h => ?_)
  · obtain ⟨v, l, rfl, _⟩ := h
    rfl
  · obtain ⟨v, l, rfl, hv, hl, kn, ks⟩ := h
    have nd := scDue.nd
    refine ⟨_, (pss_cons (ps_setLc (i := 2) (own := [("_law_one", 6), ("_law_row", 7)]) (g := (gTup _ 2 (gCons (gName 6) (gCons (gName 7) gNil)))) rfl nd rfl rfl (sw_true rfl rfl (by rfl) (by decide +kernel)) (pi_list (pv 1)) (blkOk_by (own := [("_law_one", 6), ("_law_row", 7)]) (N := ["_law_text_here", "_law_known", "_law_rows", "_law_kind", "_law_by", "_law_rest", "_law_one", "_law_row"]) (sc := defScope sDue) (by decide +kernel)) (fun _ _ _ _ _ => (pg_tup rfl (pgs_cons (pg_name (i := 6) nd rfl (Or.inl rfl)) (pgs_cons (pg_name (i := 7) nd rfl (Or.inl rfl)) pgs_nil)))) (fun _ _ _ _ _ => pts_one (PW.pt (pw_and (pt_val (pe_callB (show CallR _ (.builtin "isinstance") (rIsi K) from call_isi) (by rfl) isi (by decide +kernel) (pa_cons (pv 0) (pa_cons (pe_bltn (v := .ty "str") (by rfl) hs (by decide +kernel) rfl) pa_nil)))) (pw_and1 (pt_cmpR op_eq (pv 6) (pv 0) (nomark _)))))) (fun _ _ _ _ _ => (pv 7)))
      (pss_cons (ps_if (pt_cmpR (op_eqD hr.units) (pv 2) (pe_lst pa_nil) (nomark _))
        (pss_one (ps_ret (pe_tup (pa_cons pe_str (pa_cons (pv 0) (pa_cons pe_bl (pa_cons pe_bl pa_nil))))))) pss_nil)
      (pss_cons (ps_asg (pe_ix ix_list (pv 2) pe_int (fun _ _ => rfl)) (pg_tup rfl (pgs_cons (pg_name (i := 3) nd rfl (Or.inl rfl)) (pgs_cons (pg_name (i := 4) nd rfl (Or.inl rfl)) (pgs_cons (pg_name (i := 5) nd rfl (Or.inl rfl)) pgs_nil)))))
      (pss_one (ps_ret (pe_tup (pa_cons pe_str (pa_cons (pv 0) (pa_cons (pv 3) (pa_cons (pv 4) (pa_cons (pv 5) (pa_cons pe_bl pa_nil)))))))))))), ?_⟩
    obtain ⟨ws, el, dl⟩ := hl.ex
    refine ⟨_, rfl, l, rfl, ⟨ws, SqL.of el⟩, fun D hD => ?_⟩
    refine lc_list (a := l) (xs := ws) (fun m H2 => Same H H2 ∧ ∃ vs', H2 D = some (.lst vs') ∧ DqAll K H2 vs' (((known.take m).filter (sameT v)).map fun p => rowD p.2)) ⟨same_upd hD, [], upd_same, .nil⟩ (fun m H2 hm p => SqL.of (p.1 _ _ el)) ?_ ?_
    · rintro m x H2 hx ⟨s2, vs', e2, d2⟩
      obtain ⟨d, ed, hd⟩ := (dl.keep (TK.same s2)).get hx
      rw [knownD, List.getElem?_map] at ed
      cases ek : known[m]? with
      | none => rw [ek] at ed; cases ed
      | some p =>
        rw [ek] at ed
        cases ed
        have et : known.take (m + 1) = known.take m ++ [p] := by
          rw [List.take_succ, ek]
          rfl
        obtain ⟨a, xs, rfl, sq, dxs⟩ := hd.of_tuple
        cases dxs with
        | cons d1 dxs => cases dxs with
          | cons d3 dxs =>
            cases dxs
            obtain rfl := d1.of_str
            rename_i rv
            refine ⟨a, _, rfl, sq, rfl, _, _, rfl, _, _, rfl, rfl, rfl, ?_⟩
            obtain ⟨t, ty, kt⟩ := (hv.same s2).isi (K := K)
            refine ⟨_, rfl, v, .ty "str", t, .type "str", isStr v, rfl, .ty _, ty, kt, _, rfl, ?_⟩
            have ef : (known.take (m + 1)).filter (sameT v) = (known.take m).filter (sameT v) ++ (if sameT v p = true then [p] else []) := by
              rw [et, List.filter_append]
              congr 1
              by_cases e : sameT v p = true
              · rw [List.filter_cons_of_pos e, if_pos e]
                rfl
              · rw [List.filter_cons_of_neg e, if_neg e]
                rfl
            have no : sameT v p = false → Same H H2 ∧ ∃ vs', H2 D = some (.lst vs') ∧ DqAll K H2 vs' (((known.take (m + 1)).filter (sameT v)).map fun p => rowD p.2) := fun e => by
              refine ⟨s2, vs', e2, ?_⟩
              rw [ef, e, if_neg Bool.false_ne_true, List.append_nil]
              exact d2
            cases v with
            | str x =>
              refine ⟨_, rfl, _, rfl, rfl, _, rfl, ?_⟩
              refine ite_str (fun h => ?_) (fun h => ?_)
              · change p.1 = x at h
                obtain ⟨z1, z2, z3⟩ := app_any (v := rv) (d := rowD p.2) hD s2 e2 d2 (fun _ _ e => e) d3
                refine ⟨_, rfl, vs', z1, ?_, z2, ?_⟩
                · have lv := d2.length
                  rw [List.length_map] at lv
                  have l1 := List.length_filter_le (sameT (.str x)) (known.take m)
                  rw [List.length_take, known_length] at l1
                  exact small200' (by omega)
                · rw [ef, if_pos (show sameT (.str x) p = true from decide_eq_true h), List.map_append]
                  exact z3
              · exact no (decide_eq_false h)
            | _ => exact no rfl
    · rintro H2 ⟨s2, vs', e2, d2⟩
      have lw := dl.length
      have ek : known.take ws.length = known := List.take_of_length_le (by rw [lw, knownD, List.length_map]; exact Nat.le_refl _)
      rw [ek] at d2
      have e0 : ∀ {x : V} {b rr : V}, True := trivial
      cases hp : parseV v with
      | none =>
        rw [found_none hp] at d2
        cases d2
        refine ⟨_, rfl, by show 0 ≤ sizeLine; decide, fun q hq => ?_⟩
        have eq2 : upd H2 q (.lst []) D = some (.lst []) := by rw [upd_ne (ne_of_none e2 hq)]; exact e2
        refine ⟨.list [], .list [], .lst (SqL.of eq2) .nil, .lst (SqL.of upd_same) .nil, by decide, by decide, _, rfl, ?_⟩
        refine iteT ?_
        refine ⟨_, rfl, by show 4 ≤ sizeLine; decide, fun t ht => ?_⟩
        exact kn hp t _ ((s2.trans (same_upd hq)).trans (same_upd ht)) upd_same
      | some r =>
        obtain ⟨x, rfl, ex⟩ := found_one hp
        rw [ex] at d2
        cases d2 with
        | cons d1 d2 =>
          cases d2
          rename_i rv
          refine ⟨_, rfl, by show 0 ≤ sizeLine; decide, fun q hq => ?_⟩
          have s3 := s2.trans (same_upd (o := .lst []) hq)
          have eq2 : upd H2 q (.lst []) D = some (.lst [rv]) := by rw [upd_ne (ne_of_none e2 hq)]; exact e2
          have d1' := d1.keep (TK.new (o := .lst []) hq)
          have hm : (x, r) ∈ known := parse_iff.mp hp
          refine ⟨.list [rowD r], .list [], .lst (SqL.of eq2) (.cons d1'.dp .nil), .lst (SqL.of upd_same) .nil, rows_shaped _ hm, by decide, _, rfl, ?_⟩
          refine iteF ?_
          obtain ⟨a, xs, rfl, sq, dxs⟩ := d1'.of_tuple
          cases dxs with
          | cons f1 dxs => cases dxs with
            | cons f2 dxs => cases dxs with
              | cons f3 dxs =>
                cases dxs
                obtain rfl := f1.of_str
                refine ⟨_, rfl, D, _, 0, _, rfl, rfl, SqL.of eq2, rfl, a, _, rfl, sq, rfl, _, _, rfl, _, _, rfl, _, _, rfl, rfl, ?_⟩
                refine ⟨_, rfl, _, rfl, _, rfl, _, rfl, by show 6 ≤ sizeLine; decide, fun t ht => ?_⟩
                exact ks r hp t _ _ _ (s3.trans (same_upd ht)) upd_same (f2.keep (TK.new ht)) (f3.keep (TK.new ht))
end
end Aw

namespace Aw
open PySem PySem.Spec PyProof.Rows L2 NdefX
abbrev sWhole : Stmt := (top 22)
theorem sqT_ty {K : PySem.W.Frag} {H : Hp} {a : Addr} {xs : List V} (h : SqT K H a xs) : TyX K H (.ref a) (.type "tuple") := by
  rcases h with (h | ⟨o, h⟩) | ⟨o, its, n, e, c, _⟩
  · exact .base (.tup h)
  · exact .fTuple h
  · exact .kTuple e c
def spWhole (K : PySem.W.Frag) : Sp := fun vs H Q _ => ∃ (t : Addr), vs = [.ref t] ∧ ((∃ v, H t = some (.tup [.str "refused", v, .bl true, .bl true])) ∨
    ∃ x k b rr r, H t = some (.tup [.str "step", x, k, b, rr, .bl true]) ∧ Dq K H b (optD (r : Row).2.1) ∧ Dq K H rr (restD r.2.2)) ∧ ∀ H', Same H H' → Q (.bl true) H'
theorem kII {K : PySem.W.Frag} : PySem.W.kitOne K (.type "int") (.type "int") = some true := kit_ty (show kitB "int" "int" = some true by decide +kernel)
theorem kIB {K : PySem.W.Frag} : PySem.W.kitOne K (.type "int") (.type "bool") = some false := kit_ty (show kitB "int" "bool" = some false by decide +kernel)
theorem kTT {K : PySem.W.Frag} : PySem.W.kitOne K (.type "tuple") (.type "tuple") = some true := kit_ty (show kitB "tuple" "tuple" = some true by decide +kernel)
section
variable {P : Program} {w : World} {K : PySem.W.Frag} {mg : Str → Option Value} {base : Heap}
theorem scWhole : FnScope ["_law_told_here", "_law_by", "_law_rest", "_law_whole", "_law_one"] ["_law_told_here"] (defScope sWhole) := ⟨rfl, rfl, rfl, by decide +kernel, rfl, by decide +kernel, by decide +kernel⟩
theorem ok_whole {f : Addr} {fd : FuncData} (F : Fun K "_law_whole_parts" "_law_whole_parts" sWhole f fd) (isi : mg "isinstance" = none) (gI : mg "int" = none) (gB : mg "bool" = none) (gT : mg "tuple" = none) : FnOk P w K mg base CX0 1 f fd ["_law_told_here"] (spWhole K) := by
  refine F.ok scWhole (fun vs H Q E h => ?_) (fun cdv A outer s H vs Q E hr h => ?_)
  · obtain ⟨t, rfl, _⟩ := h
    rfl
  · obtain ⟨t, rfl, h, k⟩ := h
    have nd := scWhole.nd
    refine ⟨_, (pss_cons (ps_if (pt_cmpR op_ne (pe_ix ix_tup (pv 0) pe_int (fun _ _ => rfl)) pe_str (nomark _))
        (pss_one (ps_ret pe_bl)) pss_nil)
      (pss_cons (ps_par (i := 1) (j := 2) rfl nd rfl rfl (by decide) rfl rfl (pa_cons (pe_ix ix_tup (pv 0) pe_int (fun _ _ => rfl)) (pa_cons (pe_ix ix_tup (pv 0) pe_int (fun _ _ => rfl)) pa_nil)) (by rfl))
      (pss_cons (ps_if (PW.pt (pw_and (pt_cmpR op_notN (pv 1) pe_non (nomark _)) (pw_and1 (PW.pt (pw_or (pt_not (pt_val (pe_callB (show CallR _ (.builtin "isinstance") (rIsi K) from call_isi) (by rfl) isi (by decide +kernel) (pa_cons (pv 1) (pa_cons (pe_bltn (v := .ty "int") (by rfl) gI (by decide +kernel) rfl) pa_nil))))) (pw_or1 (pt_val (pe_callB (show CallR _ (.builtin "isinstance") (rIsi K) from call_isi) (by rfl) isi (by decide +kernel) (pa_cons (pv 1) (pa_cons (pe_bltn (v := .ty "bool") (by rfl) gB (by decide +kernel) rfl) pa_nil))))))))))
        (pss_one (ps_ret pe_bl)) pss_nil)
      (pss_cons (ps_if (pt_cmpR op_isN (pv 2) pe_non (nomark _))
        (pss_one (ps_ret pe_bl)) pss_nil)
      (pss_cons (ps_setLc (i := 3) (own := [("_law_one", 4)]) (g := (gName 4)) rfl nd rfl rfl (sw_true rfl rfl (by rfl) (by decide +kernel)) (pi_tup (pv 2)) (blkOk_by (own := [("_law_one", 4)]) (N := ["_law_told_here", "_law_by", "_law_rest", "_law_whole", "_law_one"]) (sc := defScope sWhole) (by decide +kernel)) (fun _ _ _ _ _ => (pg_name (i := 4) nd rfl (Or.inl rfl))) (fun _ _ _ _ _ => pts_one (PW.pt (pw_and (pt_val (pe_callB (show CallR _ (.builtin "isinstance") (rIsi K) from call_isi) (by rfl) isi (by decide +kernel) (pa_cons (pv 4) (pa_cons (pe_bltn (v := .ty "int") (by rfl) gI (by decide +kernel) rfl) pa_nil)))) (pw_and1 (pt_not (pt_val (pe_callB (show CallR _ (.builtin "isinstance") (rIsi K) from call_isi) (by rfl) isi (by decide +kernel) (pa_cons (pv 4) (pa_cons (pe_bltn (v := .ty "bool") (by rfl) gB (by decide +kernel) rfl) pa_nil))))))))) (fun _ _ _ _ _ => pe_int))
      (pss_one (ps_ret (pe_and (pe_callB (show CallR _ (.builtin "isinstance") (rIsi K) from call_isi) (by rfl) isi (by decide +kernel) (pa_cons (pv 2) (pa_cons (pe_bltn (v := .ty "tuple") (by rfl) gT (by decide +kernel) rfl) pa_nil))) (pe_one (pe_cmpR (op_eqD hr.units) (pv 3) (pe_lst (pa_cons pe_int (pa_cons pe_int pa_nil))) (nomark _))))))))))), ?_⟩
    rcases h with ⟨v, e⟩ | ⟨x, kk, b, rr, r, e, db, dr⟩
    · refine ⟨_, rfl, t, _, 0, _, rfl, rfl, SqT.of e, rfl, rfl, _, rfl, ?_⟩
      refine iteT ?_
      exact k H (fun _ _ e => e)
    · refine ⟨_, rfl, t, _, 0, _, rfl, rfl, SqT.of e, rfl, rfl, _, rfl, ?_⟩
      refine iteF ?_
      refine ⟨_, rfl, t, _, 3, _, rfl, rfl, SqT.of e, rfl, _, rfl, t, _, 4, _, rfl, rfl, SqT.of e, rfl, _, _, rfl, ?_⟩
      obtain ⟨k0, bo, ro⟩ := r
      have tail : ∀ (rv : V), Dq K H rv (restD ro) → ∀ G : Prop, G → G := fun _ _ _ h => h
      cases bo with
      | none =>
        obtain rfl := db.of_none
        refine ⟨_, rfl, rfl, _, rfl, ?_⟩
        refine iteF (iteF ?_)
        cases ro with
        | none =>
          obtain rfl := dr.of_none
          refine ⟨_, rfl, rfl, _, rfl, ?_⟩
          refine iteT ?_
          exact k H (fun _ _ e => e)
        | some p =>
          obtain ⟨a, xs, rfl, sq, dxs⟩ := dr.of_tuple
          refine ⟨_, rfl, rfl, _, rfl, ?_⟩
          refine iteF ?_
          cases dxs with
          | cons f1 dxs => cases dxs with
            | cons f2 dxs =>
              cases dxs
              obtain rfl := f1.of_int
              obtain rfl := f2.of_int
              refine ⟨_, rfl, a, rfl, ⟨_, sq⟩, fun D hD => ?_⟩
              refine lc_tup (a := a) (xs := [.int p.1, .int p.2]) (fun m H2 => Same H H2 ∧ H2 D = some (.lst (List.replicate m (.int 1)))) ⟨same_upd hD, upd_same⟩ (fun m H2 hm q => TK.tup (TK.same q.1) sq) ?_ ?_
              · rintro m x H2 hx ⟨s2, e2⟩
                have hm : m < 2 := (List.getElem?_eq_some_iff.mp hx).1
                obtain ⟨i, rfl⟩ : ∃ i, x = .int i := by
                  match m, hx with
                  | 0, hx => cases hx; exact ⟨_, rfl⟩
                  | 1, hx => cases hx; exact ⟨_, rfl⟩
                  | n + 2, hx => simp at hx
                refine ⟨rfl, ?_⟩
                refine ⟨_, rfl, .int i, .ty "int", .type "int", .type "int", true, rfl, .ty _, .base (.int i), kII, _, rfl, ?_⟩
                refine iteT ?_
                refine ⟨_, rfl, .int i, .ty "bool", .type "int", .type "bool", false, rfl, .ty _, .base (.int i), kIB, _, rfl, ?_⟩
                refine iteT ?_
                refine ⟨_, e2, small200' (by rw [List.length_replicate]; omega), same_fresh hD s2, ?_⟩
                rw [upd_same]
                match m, hm with
                | 0, _ => rfl
                | 1, _ => rfl
              · rintro H2 ⟨s2, e2⟩
                have sq2 := TK.tup (TK.same s2) sq
                refine ⟨_, rfl, .ref a, .ty "tuple", .type "tuple", .type "tuple", true, rfl, .ty _, sqT_ty sq2, kTT, _, rfl, ?_⟩
                refine iteT ?_
                refine ⟨_, rfl, by show 2 ≤ sizeLine; decide, fun q hq => ?_⟩
                have eq2 : upd H2 q (.lst [.int 1, .int 1]) D = some (.lst [.int 1, .int 1]) := by rw [upd_ne (ne_of_none e2 hq)]; exact e2
                refine ⟨.list [.int 1, .int 1], .list [.int 1, .int 1], .lst (SqL.of eq2) (.cons (.int 1) (.cons (.int 1) .nil)), .lst (SqL.of upd_same) (.cons (.int 1) (.cons (.int 1) .nil)), by decide, by decide, ?_⟩
                exact k _ (s2.trans (same_upd hq))
      | some i =>
        obtain rfl := db.of_int
        refine ⟨_, rfl, rfl, _, rfl, ?_⟩
        refine iteT ?_
        refine ⟨_, rfl, .int i, .ty "int", .type "int", .type "int", true, rfl, .ty _, .base (.int i), kII, _, rfl, ?_⟩
        refine iteF ?_
        refine ⟨_, rfl, .int i, .ty "bool", .type "int", .type "bool", false, rfl, .ty _, .base (.int i), kIB, _, rfl, ?_⟩
        refine iteF ?_
        cases ro with
        | none =>
          obtain rfl := dr.of_none
          refine ⟨_, rfl, rfl, _, rfl, ?_⟩
          refine iteT ?_
          exact k H (fun _ _ e => e)
        | some p =>
          obtain ⟨a, xs, rfl, sq, dxs⟩ := dr.of_tuple
          refine ⟨_, rfl, rfl, _, rfl, ?_⟩
          refine iteF ?_
          cases dxs with
          | cons f1 dxs => cases dxs with
            | cons f2 dxs =>
              cases dxs
              obtain rfl := f1.of_int
              obtain rfl := f2.of_int
              refine ⟨_, rfl, a, rfl, ⟨_, sq⟩, fun D hD => ?_⟩
              refine lc_tup (a := a) (xs := [.int p.1, .int p.2]) (fun m H2 => Same H H2 ∧ H2 D = some (.lst (List.replicate m (.int 1)))) ⟨same_upd hD, upd_same⟩ (fun m H2 hm q => TK.tup (TK.same q.1) sq) ?_ ?_
              · rintro m x H2 hx ⟨s2, e2⟩
                have hm : m < 2 := (List.getElem?_eq_some_iff.mp hx).1
                obtain ⟨i, rfl⟩ : ∃ i, x = .int i := by
                  match m, hx with
                  | 0, hx => cases hx; exact ⟨_, rfl⟩
                  | 1, hx => cases hx; exact ⟨_, rfl⟩
                  | n + 2, hx => simp at hx
                refine ⟨rfl, ?_⟩
                refine ⟨_, rfl, .int i, .ty "int", .type "int", .type "int", true, rfl, .ty _, .base (.int i), kII, _, rfl, ?_⟩
                refine iteT ?_
                refine ⟨_, rfl, .int i, .ty "bool", .type "int", .type "bool", false, rfl, .ty _, .base (.int i), kIB, _, rfl, ?_⟩
                refine iteT ?_
                refine ⟨_, e2, small200' (by rw [List.length_replicate]; omega), same_fresh hD s2, ?_⟩
                rw [upd_same]
                match m, hm with
                | 0, _ => rfl
                | 1, _ => rfl
              · rintro H2 ⟨s2, e2⟩
                have sq2 := TK.tup (TK.same s2) sq
                refine ⟨_, rfl, .ref a, .ty "tuple", .type "tuple", .type "tuple", true, rfl, .ty _, sqT_ty sq2, kTT, _, rfl, ?_⟩
                refine iteT ?_
                refine ⟨_, rfl, by show 2 ≤ sizeLine; decide, fun q hq => ?_⟩
                have eq2 : upd H2 q (.lst [.int 1, .int 1]) D = some (.lst [.int 1, .int 1]) := by rw [upd_ne (ne_of_none e2 hq)]; exact e2
                refine ⟨.list [.int 1, .int 1], .list [.int 1, .int 1], .lst (SqL.of eq2) (.cons (.int 1) (.cons (.int 1) .nil)), .lst (SqL.of upd_same) (.cons (.int 1) (.cons (.int 1) .nil)), by decide, by decide, ?_⟩
                exact k _ (s2.trans (same_upd hq))
end
end Aw

namespace Aw
open PySem PySem.Spec PyProof.Rows L2 NdefX
abbrev sBent : Stmt := (top 23)
abbrev sNearly : Stmt := (top 24)
theorem cutS_len (z : Str) (lo hi : Option Int) : (cutS z lo hi).length ≤ z.length := by
  show ((z.cps.toList.drop (HT.sIx z.length 0 lo)).take (HT.sIx z.length z.length hi - HT.sIx z.length 0 lo)).toArray.size ≤ z.cps.size
  rw [List.size_toArray, List.length_take, List.length_drop]
  have : z.cps.toList.length = z.cps.size := rfl
  omega
/-- _law_pick of a text -/
def spPickS : Sp := fun vs H Q _ => ∃ (p c : Addr) (z : Str) (n : Nat), vs = [.ref p, .str z] ∧ Pen H p c n ∧ n ≤ 1000000 ∧ 0 < z.length ∧ z.length ≤ 1000 ∧ ∀ (y : Str) (H' : Hp), y.length = 1 → But p H H' → Pen H' p c (n + 1) → Q (.str y) H'
def spBent : Sp := fun vs H Q _ => ∃ (p c : Addr) (z : Str) (n : Nat), vs = [.ref p, .str z] ∧ Pen H p c n ∧ n ≤ 900000 ∧ z.length ≤ 100 ∧ ∀ (y : Str) (H' : Hp), y.length ≤ 300 → But p H H' → Pen H' p c (n + 3) → Q (.str y) H'
def spNearly : Sp := fun vs H Q _ => ∃ (p c : Addr) (n : Nat), vs = [.ref p] ∧ Pen H p c n ∧ n ≤ 900000 ∧ ∀ (y : Str) (H' : Hp), y.length ≤ 300 → But p H H' → Pen H' p c (n + 6) → Q (.str y) H'
def smI1 (n : Nat) : Bool := decide ((strI ((n : Int) - 50)).length ≤ 5) && decide (((n : Int) - 50).natAbs.log2 < 1920)
theorem smI1_all : ∀ n < 100, smI1 n = true := by decide +kernel
theorem strI_small {i : Int} (h1 : -50 ≤ i) (h2 : i < 50) : (strI i).length ≤ 5 ∧ i.natAbs.log2 < 1920 := by
  obtain ⟨n, hn⟩ : ∃ n : Nat, i + 50 = (n : Int) := ⟨(i + 50).toNat, by omega⟩
  have e := smI1_all n (by omega)
  have ei : i = (n : Int) - 50 := by omega
  unfold smI1 at e
  rw [Bool.and_eq_true, decide_eq_true_eq, decide_eq_true_eq] at e
  rw [ei]
  exact e
theorem strAt {l : List Str} {r : Nat} {v : V} (h : (l.map V.str)[r]? = some v) : ∃ z, z ∈ l ∧ v = .str z := by
  rw [List.getElem?_map] at h
  cases e : l[r]? with
  | none => rw [e] at h; cases h
  | some z => rw [e] at h; cases h; exact ⟨z, List.mem_of_getElem? e, rfl⟩
section
variable {P : Program} {w : World} {K : PySem.W.Frag} {mg : Str → Option Value} {base : Heap}
theorem ok_pickS {f g : Addr} {fd gd : FuncData} (F : Fun K "_law_pick" "_law_pick" sPick f fd) (T : TxtP mg g) (G : Fun K "_law_draw" "_law_draw" sDraw g gd) (bG : Binds K gd ["_law_pen_here", "_law_many"] []) : FnOk P w K mg base CX0 2 f fd ["_law_pen_here", "_law_some"] spPickS := by
  have GD : FnOk P w K mg base CX0 1 g gd ["_law_pen_here", "_law_many"] spDraw := ok_draw G T
  refine F.ok scPick (fun vs H Q E h => ?_) (fun cdv A outer s H vs Q E hr h => ?_)
  · obtain ⟨p, c, z, n, rfl, _⟩ := h
    rfl
  · obtain ⟨p, c, z, n, rfl, Pn, hn, h0, h1, k⟩ := h
    refine ⟨_, (pss_one (ps_ret (pe_item_str (pv 1) (pe_call GD hr (by rfl) T.draw G.kp bG .nil pass0 (pa_cons (pv 0) (pa_cons (pe_callB call_len_str (by rfl) T.len PySem.boot_len (pa_cons (pv 1) pa_nil)) pa_nil))) (fun _ _ => rfl)))), ?_⟩
    refine ⟨_, rfl, _, rfl, _, rfl, z, rfl, small200 h1, p, c, z.length, n, rfl, Pn, hn, by omega, by omega, fun r H' hr0 hr1 b Pn' => ?_⟩
    obtain ⟨j, rfl⟩ : ∃ j : Nat, r = (j : Int) := ⟨r.toNat, by omega⟩
    have hj : j < z.cps.size := by have : z.length = z.cps.size := rfl; omega
    obtain ⟨cp, hc⟩ : ∃ cp, z.cps[j]? = some cp := ⟨z.cps[j], Array.getElem?_eq_getElem hj⟩
    exact ⟨z, (j : Int), cp, rfl, rfl, by omega, by omega, by omega, hc, k _ H' rfl b Pn'⟩
theorem scBent : FnScope ["_law_pen_here", "_law_text_here", "_law_signs", "_law_way", "_law_spot", "_law_sign"] ["_law_pen_here", "_law_text_here"] (defScope sBent) := ⟨rfl, rfl, rfl, by decide +kernel, rfl, by decide +kernel, by decide +kernel⟩
theorem ok_bent {f g fP : Addr} {fd gd pd : FuncData} (F : Fun K "_law_bent" "_law_bent" sBent f fd) (T : TxtP mg g) (G : Fun K "_law_draw" "_law_draw" sDraw g gd) (bG : Binds K gd ["_law_pen_here", "_law_many"] []) (FP : Fun K "_law_pick" "_law_pick" sPick fP pd) (bP : Binds K pd ["_law_pen_here", "_law_some"] []) (gP : mg "_law_pick" = some (.ref fP)) :
    FnOk P w K mg base CX0 3 f fd ["_law_pen_here", "_law_text_here"] spBent := by
  have GD : FnOk P w K mg base CX0 1 g gd ["_law_pen_here", "_law_many"] spDraw := ok_draw G T
  have GP : FnOk P w K mg base CX0 2 fP pd ["_law_pen_here", "_law_some"] spPickS := ok_pickS FP T G bG
  refine F.ok scBent (fun vs H Q E h => ?_) (fun cdv A outer s H vs Q E hr h => ?_)
  · obtain ⟨p, c, z, n, rfl, _⟩ := h
    rfl
  · obtain ⟨p, c, z, n, rfl, Pn, hn, hz, k⟩ := h
    have nd := scBent.nd
    refine ⟨_, (pss_cons (ps_set (i := 2) nd rfl (Or.inl rfl) pe_str)
      (pss_cons (ps_par3 (i := 3) (j := 4) (l := 5) rfl nd rfl rfl rfl (by decide) (by decide) (by decide) rfl rfl rfl (pa_cons (pe_call GD (hr.mono (by decide)) (by rfl) T.draw G.kp bG .nil pass0 (pa_cons (pv 0) (pa_cons pe_int pa_nil))) (pa_cons (pe_call GD (hr.mono (by decide)) (by rfl) T.draw G.kp bG .nil pass0 (pa_cons (pv 0) (pa_cons (pe_op op_add (pe_callB call_len_str (by rfl) T.len PySem.boot_len (pa_cons (pv 1) pa_nil)) pe_int) pa_nil))) (pa_cons (pe_call GP hr (by rfl) gP FP.kp bP .nil pass0 (pa_cons (pv 0) (pa_cons (pv 2) pa_nil))) pa_nil))) (by rfl))
      (pss_cons (ps_if (pt_cmpR op_eq (pv 3) pe_int (nomark _))
        (pss_one (ps_ret (pe_op op_add_str (pe_slice sl_str (pv 1) po_none (po_some (pv 4))) (pe_slice sl_str (pv 1) (po_some (pe_op op_add (pv 4) pe_int)) po_none)))) pss_nil)
      (pss_one (ps_ret (pe_op op_add_str (pe_op op_add_str (pe_slice sl_str (pv 1) po_none (po_some (pv 4))) (pv 5)) (pe_slice sl_str (pv 1) (po_some (pe_op op_sub (pe_op op_add (pv 4) (pv 3)) pe_int)) po_none))))))), ?_⟩
    refine ⟨_, rfl, p, c, 3, n, rfl, Pn, by omega, by decide, by decide, fun way H1 w0 w1 b1 P1 => ?_⟩
    refine ⟨_, rfl, _, rfl, z, rfl, small200 (by omega), z.length, 1, rfl, rfl, p, c, (z.length : Int) + 1, n + 1, rfl, P1, by omega, by omega, by omega, fun spot H2 p0 p1 b2 P2 => ?_⟩
    refine ⟨_, rfl, _, rfl, p, c, _, n + 2, rfl, P2, by omega, by decide +kernel, by decide +kernel, fun sign H3 hs b3 P3 => ?_⟩
    refine ⟨_, _, _, rfl, ?_⟩
    have bH := (b1.trans b2).trans b3
    have l1 := fun lo hi => cutS_len z lo hi
    refine ⟨_, rfl, rfl, _, rfl, ?_⟩
    refine ite_int (fun e => ?_) (fun e => ?_)
    · have h1 := l1 none (some spot)
      have h2 := l1 (some (spot + 1)) none
      refine ⟨_, rfl, _, rfl, spot, rfl, z, rfl, small200 (by omega), _, rfl, _, rfl, spot, 1, rfl, rfl, _, rfl, z, rfl, small200 (by omega), _, _, rfl, rfl, small200 (by omega), ?_⟩
      exact k _ _ (by rw [Str.length_append]; omega) bH P3
    · have h1 := l1 none (some spot)
      have h2 := l1 (some (spot + way - 1)) none
      refine ⟨_, rfl, _, rfl, spot, rfl, z, rfl, small200 (by omega), _, rfl, _, _, rfl, rfl, small200 (by omega), ?_⟩
      refine ⟨_, rfl, _, rfl, _, rfl, spot, way, rfl, rfl, _, 1, rfl, rfl, _, rfl, z, rfl, small200 (by omega), _, _, rfl, rfl, small200 (by rw [Str.length_append]; omega), ?_⟩
      exact k _ _ (by rw [Str.length_append, Str.length_append]; omega) bH P3
def kindsL : List Str := ["turn", "roll", "deal", "swap", "near", "sum", "spread", "flip", "flip first", "Roll", "", "then", "flips"]
def numbersL : List Str := ["", " 0", " 1", " -1", " 2", " -2", " 3", " -3", " 4", " -4", " +1", " 01", " -0", " --2", "  1", " 1.0"]
def endsL : List Str := ["", "", "", " ", " 2", " at 0 of 2"]
theorem kinds_len : ∀ z ∈ kindsL, z.length ≤ 20 := by decide +kernel
theorem numbers_len : ∀ z ∈ numbersL, z.length ≤ 20 := by decide +kernel
theorem ends_len : ∀ z ∈ endsL, z.length ≤ 20 := by decide +kernel
theorem scNearly : FnScope ["_law_pen_here", "_law_kinds", "_law_numbers", "_law_text_here", "_law_way", "_law_at", "_law_of"] ["_law_pen_here"] (defScope sNearly) := ⟨rfl, rfl, rfl, by decide +kernel, rfl, by decide +kernel, by decide +kernel⟩
theorem ok_nearly {f g fP : Addr} {fd gd pd : FuncData} (F : Fun K "_law_nearly" "_law_nearly" sNearly f fd) (T : TxtP mg g) (hs : mg "str" = none) (G : Fun K "_law_draw" "_law_draw" sDraw g gd) (bG : Binds K gd ["_law_pen_here", "_law_many"] []) (FP : Fun K "_law_pick" "_law_pick" sPick fP pd) (bP : Binds K pd ["_law_pen_here", "_law_some"] []) (gP : mg "_law_pick" = some (.ref fP)) :
    FnOk P w K mg base CX0 3 f fd ["_law_pen_here"] spNearly := by
  have GD : FnOk P w K mg base CX0 1 g gd ["_law_pen_here", "_law_many"] spDraw := ok_draw G T
  have GP : FnOk P w K mg base CX0 2 fP pd ["_law_pen_here", "_law_some"] (spPick K) := ok_pick FP T G bG
  refine F.ok scNearly (fun vs H Q E h => ?_) (fun cdv A outer s H vs Q E hr h => ?_)
  · obtain ⟨p, c, n, rfl, _⟩ := h
    rfl
  · obtain ⟨p, c, n, rfl, Pn, hn, k⟩ := h
    have nd := scNearly.nd
    refine ⟨_, (pss_cons (ps_set (i := 1) nd rfl (Or.inl rfl) (pe_lst (pa_cons pe_str (pa_cons pe_str (pa_cons pe_str (pa_cons pe_str (pa_cons pe_str (pa_cons pe_str (pa_cons pe_str (pa_cons pe_str (pa_cons pe_str (pa_cons pe_str (pa_cons pe_str (pa_cons pe_str (pa_cons pe_str pa_nil)))))))))))))))
      (pss_cons (ps_set (i := 2) nd rfl (Or.inl rfl) (pe_lst (pa_cons pe_str (pa_cons pe_str (pa_cons pe_str (pa_cons pe_str (pa_cons pe_str (pa_cons pe_str (pa_cons pe_str (pa_cons pe_str (pa_cons pe_str (pa_cons pe_str (pa_cons pe_str (pa_cons pe_str (pa_cons pe_str (pa_cons pe_str (pa_cons pe_str (pa_cons pe_str pa_nil))))))))))))))))))
      (pss_cons (ps_set (i := 3) nd rfl (Or.inl rfl) (pe_op op_add_str (pe_call GP hr (by rfl) gP FP.kp bP .nil pass0 (pa_cons (pv 0) (pa_cons (pv 1) pa_nil))) (pe_call GP hr (by rfl) gP FP.kp bP .nil pass0 (pa_cons (pv 0) (pa_cons (pv 2) pa_nil)))))
      (pss_cons (ps_par3 (i := 4) (j := 5) (l := 6) rfl nd rfl rfl rfl (by decide) (by decide) (by decide) rfl rfl rfl (pa_cons (pe_call GD (hr.mono (by decide)) (by rfl) T.draw G.kp bG .nil pass0 (pa_cons (pv 0) (pa_cons pe_int pa_nil))) (pa_cons (pe_callTy call_str_int (by rfl) hs (by decide +kernel) (pa_cons (pe_op op_sub (pe_call GD (hr.mono (by decide)) (by rfl) T.draw G.kp bG .nil pass0 (pa_cons (pv 0) (pa_cons pe_int pa_nil))) pe_int) pa_nil)) (pa_cons (pe_callTy call_str_int (by rfl) hs (by decide +kernel) (pa_cons (pe_op op_sub (pe_call GD (hr.mono (by decide)) (by rfl) T.draw G.kp bG .nil pass0 (pa_cons (pv 0) (pa_cons pe_int pa_nil))) pe_int) pa_nil)) pa_nil))) (by rfl))
      (pss_cons (ps_if (pt_cmpR op_eq (pv 4) pe_int (nomark _))
        (pss_one (ps_ret (pv 3))) pss_nil)
      (pss_cons (ps_if (pt_cmpR op_eq (pv 4) pe_int (nomark _))
        (pss_one (ps_ret (pe_op op_add_str (pe_op op_add_str (pe_op op_add_str pe_str (pv 5)) pe_str) (pv 6)))) pss_nil)
      (pss_one (ps_ret (pe_op op_add_str (pe_op op_add_str (pe_op op_add_str (pe_op op_add_str (pe_op op_add_str (pv 3) pe_str) (pv 5)) pe_str) (pv 6)) (pe_call GP hr (by rfl) gP FP.kp bP .nil pass0 (pa_cons (pv 0) (pa_cons (pe_lst (pa_cons pe_str (pa_cons pe_str (pa_cons pe_str (pa_cons pe_str (pa_cons pe_str (pa_cons pe_str pa_nil))))))) pa_nil)))))))))))), ?_⟩
    refine ⟨by show 13 ≤ sizeLine; decide, fun l1 hl1 => ⟨by show 16 ≤ sizeLine; decide, fun l2 hl2 => ?_⟩⟩
    have s0 := (same_upd (o := .lst (kindsL.map V.str)) hl1).trans (same_upd (o := .lst (numbersL.map V.str)) hl2)
    have e1 : upd (upd H l1 (.lst (kindsL.map V.str))) l2 (.lst (numbersL.map V.str)) l1 = some (.lst (kindsL.map V.str)) := same_upd hl2 _ _ upd_same
    have e2 : upd (upd H l1 (.lst (kindsL.map V.str))) l2 (.lst (numbersL.map V.str)) l2 = some (.lst (numbersL.map V.str)) := upd_same
    have P0 := Pn.same s0
    refine ⟨_, rfl, _, rfl, p, c, l1, kindsL.map V.str, n, rfl, P0, by omega, SqL.of e1, by decide, by decide, fun r1 v1 H1 hv1 b1 P1 => ?_⟩
    obtain ⟨z1, m1, rfl⟩ := strAt hv1
    have q1 := kinds_len z1 m1
    refine ⟨_, rfl, _, rfl, p, c, l2, numbersL.map V.str, n + 1, rfl, P1, by omega, b1.seq P0 (SqL.of e2), by decide, by decide, fun r2 v2 H2 hv2 b2 P2 => ?_⟩
    obtain ⟨z2, m2, rfl⟩ := strAt hv2
    have q2 := numbers_len z2 m2
    refine ⟨_, _, rfl, rfl, small200 (by omega), ?_⟩
    have q12 : (z1 ++ z2).length ≤ 40 := by rw [Str.length_append]; omega
    refine ⟨_, rfl, p, c, 4, n + 2, rfl, P2, by omega, by decide, by decide, fun way H3 w0 w1 b3 P3 => ?_⟩
    refine ⟨_, rfl, p, c, 7, n + 3, rfl, P3, by omega, by decide, by decide, fun r4 H4 a0 a1 b4 P4 => ?_⟩
    have q4 := strI_small (i := r4 - 1) (by omega) (by omega)
    refine ⟨r4, 1, rfl, rfl, r4 - 1, rfl, q4.2, ?_⟩
    refine ⟨_, rfl, p, c, 8, n + 4, rfl, P4, by omega, by decide, by decide, fun r5 H5 c0 c1 b5 P5 => ?_⟩
    have q5 := strI_small (i := r5 - 1) (by omega) (by omega)
    refine ⟨r5, 1, rfl, rfl, r5 - 1, rfl, q5.2, _, _, _, rfl, ?_⟩
    have bH := ((((((But.same s0 : But p H _).trans b1).trans b2).trans b3).trans b4).trans b5)
    refine ⟨_, rfl, rfl, _, rfl, ?_⟩
    refine ite_int (fun e => ?_) (fun e => ?_)
    · exact ⟨_, rfl, k _ _ (by omega) bH (P5.mono (by omega))⟩
    refine ⟨_, rfl, rfl, _, rfl, ?_⟩
    refine ite_int (fun e => ?_) (fun e => ?_)
    · have x1 : (("flip " : Str) ++ strI (r4 - 1)).length ≤ 20 := by rw [Str.length_append]; have : ("flip " : Str).length = 5 := rfl; omega
      have x2 : (("flip " : Str) ++ strI (r4 - 1) ++ " of ").length ≤ 30 := by rw [Str.length_append]; have : (" of " : Str).length = 4 := rfl; omega
      have x3 : (("flip " : Str) ++ strI (r4 - 1) ++ " of " ++ strI (r5 - 1)).length ≤ 40 := by rw [Str.length_append]; omega
      exact ⟨_, rfl, _, _, rfl, rfl, len_add (by omega : (("flip " : Str) ++ strI (r4 - 1)).length ≤ 1000), _, _, rfl, rfl, len_add (by omega : (("flip " : Str) ++ strI (r4 - 1) ++ " of ").length ≤ 1000), _, rfl, _, _, rfl, rfl, len_add (by omega : (("flip " : Str) ++ strI (r4 - 1) ++ " of " ++ strI (r5 - 1)).length ≤ 1000), k _ _ (by omega : (("flip " : Str) ++ strI (r4 - 1) ++ " of " ++ strI (r5 - 1)).length ≤ 300) bH (P5.mono (by omega))⟩
    · have x1 : (z1 ++ z2 ++ " at ").length ≤ 50 := by rw [Str.length_append]; have : (" at " : Str).length = 4 := rfl; omega
      have x2 : (z1 ++ z2 ++ " at " ++ strI (r4 - 1)).length ≤ 60 := by rw [Str.length_append]; omega
      have x3 : (z1 ++ z2 ++ " at " ++ strI (r4 - 1) ++ " of ").length ≤ 70 := by rw [Str.length_append]; have : (" of " : Str).length = 4 := rfl; omega
      have x4 : (z1 ++ z2 ++ " at " ++ strI (r4 - 1) ++ " of " ++ strI (r5 - 1)).length ≤ 80 := by rw [Str.length_append]; omega
      refine ⟨_, rfl, _, _, rfl, rfl, len_add (by omega : (z1 ++ z2 ++ " at ").length ≤ 1000), _, rfl, _, _, rfl, rfl, len_add (by omega : (z1 ++ z2 ++ " at " ++ strI (r4 - 1)).length ≤ 1000), _, _, rfl, rfl, len_add (by omega : (z1 ++ z2 ++ " at " ++ strI (r4 - 1) ++ " of ").length ≤ 1000), _, rfl, _, _, rfl, rfl, len_add (by omega : (z1 ++ z2 ++ " at " ++ strI (r4 - 1) ++ " of " ++ strI (r5 - 1)).length ≤ 1000), _, rfl, by show 6 ≤ sizeLine; decide, fun l3 hl3 => ?_⟩
      refine ⟨p, c, l3, endsL.map V.str, n + 5, rfl, P5.new hl3, by omega, SqL.of upd_same, by decide, by decide, fun r6 v6 H6 hv6 b6 P6 => ?_⟩
      obtain ⟨z6, m6, rfl⟩ := strAt hv6
      have q6 := ends_len z6 m6
      have x5 : (z1 ++ z2 ++ " at " ++ strI (r4 - 1) ++ " of " ++ strI (r5 - 1) ++ z6).length ≤ 100 := by rw [Str.length_append]; omega
      exact ⟨_, _, rfl, rfl, len_add (by omega : (z1 ++ z2 ++ " at " ++ strI (r4 - 1) ++ " of " ++ strI (r5 - 1) ++ z6).length ≤ 1000), k _ _ (by omega : (z1 ++ z2 ++ " at " ++ strI (r4 - 1) ++ " of " ++ strI (r5 - 1) ++ z6).length ≤ 300) ((bH.trans (But.same (same_upd hl3))).trans b6) P6⟩
end
end Aw

namespace Aw
open PySem PySem.Spec PyProof.Rows L2 NdefX
abbrev sValue : Stmt := (top 25)
theorem RowsAt.but {K : PySem.W.Frag} {H H' : Hp} {p c l : Addr} {n : Nat} {ds : List PyData} (h : RowsAt K H l ds) (b : But p H H') (P : Pen H p c n) : RowsAt K H' l ds := by
  obtain ⟨vs, e, d⟩ := h.ex
  obtain ⟨cells, i', l', e1, _⟩ := P.ex
  exact ⟨vs, b l _ e (ne_of e e1 (fun z => by cases z)), d.keep (TK.but b P)⟩
def spValue (K : PySem.W.Frag) : Sp := fun vs H Q _ => ∃ (p c l : Addr) (n : Nat), vs = [.ref p, .ref l] ∧ Pen H p c n ∧ n ≤ 800000 ∧ RowsAt K H l knownD ∧ ∀ (v : V) (H' : Hp), VOk H' v → But p H H' → Pen H' p c (n + 10) → Q v H'
/-- a known text, drawn -/
theorem knownAt {K : PySem.W.Frag} {H : Hp} {vs : List V} {r : Nat} {v : V} (d : DqAll K H vs knownD) (h : vs[r]? = some v) : ∃ p a rv, known[r]? = some p ∧ v = .ref a ∧ SqT K H a [.str p.1, rv] ∧ Dq K H rv (rowD p.2) := by
  obtain ⟨e, ed, hd⟩ := d.get h
  rw [knownD, List.getElem?_map] at ed
  cases ek : known[r]? with
  | none => rw [ek] at ed; cases ed
  | some p =>
    rw [ek] at ed
    cases ed
    obtain ⟨a, xs, rfl, sq, dxs⟩ := hd.of_tuple
    cases dxs with
    | cons d1 dxs => cases dxs with
      | cons d2 dxs =>
        cases dxs
        obtain rfl := d1.of_str
        exact ⟨p, a, _, rfl, rfl, sq, d2⟩
theorem knownD_len : knownD.length = 99 := by rw [knownD, List.length_map]; exact known_length
section
variable {P : Program} {w : World} {K : PySem.W.Frag} {mg : Str → Option Value} {base : Heap}
theorem scValue : FnScope ["_law_pen_here", "_law_known", "_law_way", "_law_text_here"] ["_law_pen_here", "_law_known"] (defScope sValue) := ⟨rfl, rfl, rfl, by decide +kernel, rfl, by decide +kernel, by decide +kernel⟩
theorem ok_value {f g fP fB fN : Addr} {fd gd pd bd nd' : FuncData} (F : Fun K "_law_value" "_law_value" sValue f fd) (T : TxtP mg g) (hs : mg "str" = none) (G : Fun K "_law_draw" "_law_draw" sDraw g gd) (bG : Binds K gd ["_law_pen_here", "_law_many"] []) (FP : Fun K "_law_pick" "_law_pick" sPick fP pd) (bP : Binds K pd ["_law_pen_here", "_law_some"] []) (gP : mg "_law_pick" = some (.ref fP))
    (FB : Fun K "_law_bent" "_law_bent" sBent fB bd) (bB : Binds K bd ["_law_pen_here", "_law_text_here"] []) (gB : mg "_law_bent" = some (.ref fB)) (FN : Fun K "_law_nearly" "_law_nearly" sNearly fN nd') (bN : Binds K nd' ["_law_pen_here"] []) (gN : mg "_law_nearly" = some (.ref fN)) :
    FnOk P w K mg base CX0 4 f fd ["_law_pen_here", "_law_known"] (spValue K) := by
  have GD : FnOk P w K mg base CX0 1 g gd ["_law_pen_here", "_law_many"] spDraw := ok_draw G T
  have GP : FnOk P w K mg base CX0 2 fP pd ["_law_pen_here", "_law_some"] (spPick K) := ok_pick FP T G bG
  have GB : FnOk P w K mg base CX0 3 fB bd ["_law_pen_here", "_law_text_here"] spBent := ok_bent FB T G bG FP bP gP
  have GN : FnOk P w K mg base CX0 3 fN nd' ["_law_pen_here"] spNearly := ok_nearly FN T hs G bG FP bP gP
  refine F.ok scValue (fun vs H Q E h => ?_) (fun cdv A outer s H vs Q E hr h => ?_)
  · obtain ⟨p, c, l, n, rfl, _⟩ := h
    rfl
  · obtain ⟨p, c, l, n, rfl, Pn, hn, hl, k⟩ := h
    have nd := scValue.nd
    refine ⟨_, (pss_cons (ps_par (i := 2) (j := 3) rfl nd rfl rfl (by decide) rfl rfl (pa_cons (pe_call GD (hr.mono (by decide)) (by rfl) T.draw G.kp bG .nil pass0 (pa_cons (pv 0) (pa_cons pe_int pa_nil))) (pa_cons (pe_ix ix_tup (pe_call GP (hr.mono (by decide)) (by rfl) gP FP.kp bP .nil pass0 (pa_cons (pv 0) (pa_cons (pv 1) pa_nil))) pe_int (fun _ _ => rfl)) pa_nil)) (by rfl))
      (pss_cons (ps_if (pt_cmpR op_lt (pv 2) pe_int (nomark _))
        (pss_one (ps_ret (pv 3))) pss_nil)
      (pss_cons (ps_if (pt_cmpR op_eq (pv 2) pe_int (nomark _))
        (pss_one (ps_ret (pe_call GB hr (by rfl) gB FB.kp bB .nil pass0 (pa_cons (pv 0) (pa_cons (pv 3) pa_nil))))) pss_nil)
      (pss_cons (ps_if (pt_cmpR op_eq (pv 2) pe_int (nomark _))
        (pss_one (ps_ret (pe_call GP (hr.mono (by decide)) (by rfl) gP FP.kp bP .nil pass0 (pa_cons (pv 0) (pa_cons (pe_lst (pa_cons pe_non (pa_cons pe_bl (pa_cons pe_int (pa_cons pe_int (pa_cons (pe_lst pa_nil) (pa_cons (pe_lst (pa_cons (pv 3) pa_nil)) (pa_cons (pe_tup (pa_cons (pv 3) pa_nil)) (pa_cons (pe_disp (pps_cons (pv 3) (pv 3) pps_nil) (by rfl) (by rfl) (fun z => by cases z) (by decide)) (pa_cons pe_str pa_nil)))))))))) pa_nil))))) pss_nil)
      (pss_cons (ps_if (pt_cmpR op_eq (pv 2) pe_int (nomark _))
        (pss_cons (ps_set (i := 3) nd rfl (Or.inl rfl) (pe_op op_add_str (pe_op op_add_str (pe_call GP (hr.mono (by decide)) (by rfl) gP FP.kp bP .nil pass0 (pa_cons (pv 0) (pa_cons (pe_lst (pa_cons pe_str (pa_cons pe_str pa_nil))) pa_nil))) pe_str) (pe_callTy call_str_int (by rfl) hs (by decide +kernel) (pa_cons (pe_op op_sub (pe_call GD (hr.mono (by decide)) (by rfl) T.draw G.kp bG .nil pass0 (pa_cons (pv 0) (pa_cons pe_int pa_nil))) pe_int) pa_nil))))
        (pss_one (ps_ret (pe_op op_add_str (pe_op op_add_str (pe_op op_add_str (pv 3) pe_str) (pe_callTy call_str_int (by rfl) hs (by decide +kernel) (pa_cons (pe_call GD (hr.mono (by decide)) (by rfl) T.draw G.kp bG .nil pass0 (pa_cons (pv 0) (pa_cons pe_int pa_nil))) pa_nil))) pe_str)))) pss_nil)
      (pss_one (ps_ret (pe_call GN hr (by rfl) gN FN.kp bN .nil pass0 (pa_cons (pv 0) pa_nil))))))))), ?_⟩
    refine ⟨_, rfl, p, c, 6, n, rfl, Pn, by omega, by decide, by decide, fun way H1 w0 w1 b1 P1 => ?_⟩
    have hl1 := hl.but b1 Pn
    obtain ⟨ws, el, dl⟩ := hl1.ex
    have lw := dl.length
    rw [knownD_len] at lw
    refine ⟨_, rfl, _, rfl, p, c, l, ws, n + 1, rfl, P1, by omega, SqL.of el, by omega, by omega, fun r v H2 hv b2 P2 => ?_⟩
    obtain ⟨q, a, rv, iq, rfl, sq, dr⟩ := knownAt (dl.keep (TK.but b2 P1)) hv
    have hq := List.mem_of_getElem? iq
    have hql := known_short q hq
    refine ⟨a, _, 0, _, rfl, rfl, sq, rfl, _, _, rfl, ?_⟩
    have bH := b1.trans b2
    refine ⟨_, rfl, way, 2, rfl, rfl, _, rfl, ?_⟩
    refine ite_dec (fun _ => ?_) (fun _ => ?_)
    · exact ⟨_, rfl, k _ _ (.str _ (by omega)) bH (P2.mono (by omega))⟩
    refine ⟨_, rfl, rfl, _, rfl, ?_⟩
    refine ite_int (fun _ => ?_) (fun _ => ?_)
    · refine ⟨_, rfl, _, rfl, p, c, q.1, n + 2, rfl, P2, by omega, by omega, fun y H3 hy b3 P3 => ?_⟩
      exact k _ _ (.str _ (by omega)) (bH.trans b3) (P3.mono (by omega))
    refine ⟨_, rfl, rfl, _, rfl, ?_⟩
    refine ite_int (fun _ => ?_) (fun _ => ?_)
    · refine ⟨_, rfl, by show 0 ≤ sizeLine; decide, fun l1 h1 => ⟨_, rfl, by show 1 ≤ sizeLine; decide, fun l2 h2 => ⟨_, rfl, by show 1 ≤ sizeLine; decide, fun l3 h3 => ?_⟩⟩⟩
      intro l4 h4
      have s3 := ((same_upd (o := .lst []) h1).trans (same_upd (o := .lst [.str q.1]) h2)).trans (same_upd (o := .tup [.str q.1]) h3)
      have P3 := P2.same s3
      obtain ⟨o4, ep4⟩ := P3.some1
      have n4 : l4 ≠ p := (ne_of_none ep4 h4).symm
      have s4 := same_fresh (o := .dK (mergeK [] [((.inr q.1 : Key), V.str q.1)])) h4 (same_upd (o := .dK []) h4)
      have x1 := s4 _ _ (same_upd h3 _ _ (same_upd h2 _ _ (upd_same (H := H2) (a := l1) (o := .lst []))))
      have x2 := s4 _ _ (same_upd h3 _ _ (upd_same (a := l2) (o := .lst [.str q.1])))
      have x3 := s4 _ _ (upd_same (a := l3) (o := .tup [.str q.1]))
      have P4 := P3.same s4
      refine ⟨_, rfl, _, rfl, upd_same, [((.inr q.1 : Key), V.str q.1)], rfl, (by show 1 ≤ 15; decide), by show 9 ≤ sizeLine; decide, fun l9 h9 => ?_⟩
      have s9 := same_upd (o := .lst [.non, .bl true, .int 0, .int 7, .ref l1, .ref l2, .ref l3, .ref l4, .str ""]) h9
      have P9 := P4.same s9
      have y1 := s9 _ _ x1
      have y2 := s9 _ _ x2
      have y3 := s9 _ _ x3
      have y4 := s9 _ _ (upd_same (a := l4) (o := .dK (mergeK [] [((.inr q.1 : Key), V.str q.1)])))
      obtain ⟨cells, i', l', ep, _⟩ := P9.ex
      refine ⟨p, c, l9, [.non, .bl true, .int 0, .int 7, .ref l1, .ref l2, .ref l3, .ref l4, .str ""], n + 2, rfl, P9, by omega, SqL.of upd_same, by show 0 < 9; decide, by show 9 ≤ 1000000; decide, fun r v H6 hv b6 P6 => ?_⟩
      refine k v H6 ?_ (bH.trans ((But.same ((s3.trans s4).trans s9)).trans b6)) (P6.mono (by omega))
      match r, hv with
      | 0, hv => cases hv; exact .non
      | 1, hv => cases hv; exact .bl _
      | 2, hv => cases hv; exact .int _
      | 3, hv => cases hv; exact .int _
      | 4, hv => cases hv; exact .lst (b6 _ _ y1 (ne_of y1 ep (fun z => by cases z)))
      | 5, hv => cases hv; exact .lst (b6 _ _ y2 (ne_of y2 ep (fun z => by cases z)))
      | 6, hv => cases hv; exact .tup (b6 _ _ y3 (ne_of y3 ep (fun z => by cases z)))
      | 7, hv => cases hv; exact .dct (b6 _ _ y4 n4)
      | 8, hv => cases hv; exact .str _ (by decide)
      | m + 9, hv => simp at hv
    refine ⟨_, rfl, rfl, _, rfl, ?_⟩
    refine ite_int (fun _ => ?_) (fun _ => ?_)
    · refine ⟨_, rfl, by show 2 ≤ sizeLine; decide, fun l9 h9 => ⟨p, c, l9, (["near", "sum"] : List Str).map V.str, n + 2, rfl, P2.new h9, by omega, SqL.of upd_same, by decide, by decide, fun r v H3 hv b3 P3 => ?_⟩⟩
      obtain ⟨z1, m1, rfl⟩ := strAt hv
      have q1 : z1.length ≤ 4 := (by decide +kernel : ∀ z ∈ (["near", "sum"] : List Str), z.length ≤ 4) z1 m1
      have x1 : (z1 ++ " ").length ≤ 5 := by rw [Str.length_append]; have : (" " : Str).length = 1 := rfl; omega
      refine ⟨_, _, rfl, rfl, len_add (by omega : (z1 ++ " ").length ≤ 1000), ?_⟩
      refine ⟨_, rfl, p, c, 9, n + 3, rfl, P3, by omega, by decide, by decide, fun r4 H4 a0 a1 b4 P4 => ?_⟩
      have q4 := strI_small (i := r4 - 4) (by omega) (by omega)
      have x2 : (z1 ++ " " ++ strI (r4 - 4)).length ≤ 20 := by rw [Str.length_append]; omega
      refine ⟨r4, 4, rfl, rfl, r4 - 4, rfl, q4.2, _, _, rfl, rfl, len_add (by omega : (z1 ++ " " ++ strI (r4 - 4)).length ≤ 1000), ?_⟩
      have x3 : (z1 ++ " " ++ strI (r4 - 4) ++ " at ").length ≤ 30 := by rw [Str.length_append]; have : (" at " : Str).length = 4 := rfl; omega
      refine ⟨_, rfl, _, _, rfl, rfl, len_add (by omega : (z1 ++ " " ++ strI (r4 - 4) ++ " at ").length ≤ 1000), ?_⟩
      refine ⟨_, rfl, p, c, 5, n + 4, rfl, P4, by omega, by decide, by decide, fun r5 H5 c0 c1 b5 P5 => ?_⟩
      have q5 := strI_small (i := r5) (by omega) (by omega)
      have x4 : (z1 ++ " " ++ strI (r4 - 4) ++ " at " ++ strI r5).length ≤ 40 := by rw [Str.length_append]; omega
      have x5 : (z1 ++ " " ++ strI (r4 - 4) ++ " at " ++ strI r5 ++ " of 3").length ≤ 50 := by rw [Str.length_append]; have : (" of 3" : Str).length = 5 := rfl; omega
      refine ⟨r5, rfl, q5.2, _, _, rfl, rfl, len_add (by omega : (z1 ++ " " ++ strI (r4 - 4) ++ " at " ++ strI r5).length ≤ 1000), _, _, rfl, rfl, len_add (by omega : (z1 ++ " " ++ strI (r4 - 4) ++ " at " ++ strI r5 ++ " of 3").length ≤ 1000), ?_⟩
      exact k _ _ (.str _ (by omega : (z1 ++ " " ++ strI (r4 - 4) ++ " at " ++ strI r5 ++ " of 3").length ≤ 1000)) (bH.trans ((((But.same (same_upd h9)).trans b3).trans b4).trans b5)) (P5.mono (by omega))
    · refine ⟨_, rfl, p, c, n + 2, rfl, P2, by omega, fun y H3 hy b3 P3 => ?_⟩
      exact k _ _ (.str _ (by omega)) (bH.trans b3) (P3.mono (by omega))
end
end Aw

namespace Aw
open PySem PySem.Spec PyProof.Rows L2 NdefX
abbrev sLaw : Stmt := (top 26)
def spLaw (K : PySem.W.Frag) : Sp := fun vs H Q _ => ∃ (a : Addr) (ns : List Int), vs = [.ref a] ∧ SqL K H a (ns.map V.int) ∧ ns.length ≤ 63 ∧ ∀ H', Q (.bl true) H'
theorem passE {X : Cx} (σ : Aw.St) : PassesAt (L2.CX X.prog X.w) X σ ((fun _ => E0 : Aw.St → XK) σ) := fun _ _ _ _ _ _ c => by
  obtain ⟨_, _, _, _, _, _, _, _, _, _, _, _, h⟩ := c
  exact h.elim
theorem al_v {K : PySem.W.Frag} {H : Hp} {n : Nat} {v : V} (h : VOk H v) : Al K H (n + 1) v v := by
  cases h with
  | str x h => exact Al.flat rfl
  | non => exact Al.flat rfl
  | bl b => exact Al.flat rfl
  | int i => exact Al.flat rfl
  | lst h => exact Al.ref
  | tup h => exact Al.ref
  | dct h => exact Al.ref
theorem al_opt {K : PySem.W.Frag} {H : Hp} {n : Nat} {o : Option Int} {b b' : V} (h : Dq K H b (optD o)) (h' : Dq K H b' (optD o)) : Al K H (n + 1) b b' := by
  cases o with
  | none => obtain rfl := h.of_none; obtain rfl := h'.of_none; exact Al.flat rfl
  | some i => obtain rfl := h.of_int; obtain rfl := h'.of_int; exact Al.flat rfl
theorem al_rest {K : PySem.W.Frag} {H : Hp} {n : Nat} {o : Option (Int × Int)} {b b' : V} (h : Dq K H b (restD o)) (h' : Dq K H b' (restD o)) : Al K H (n + 2) b b' := by
  cases o with
  | none => obtain rfl := h.of_none; obtain rfl := h'.of_none; exact Al.flat rfl
  | some p =>
    obtain ⟨a, xs, rfl, sq, d⟩ := h.of_tuple
    obtain ⟨a', xs', rfl, sq', d'⟩ := h'.of_tuple
    cases d with
    | cons d1 d => cases d with
      | cons d2 d =>
        cases d
        cases d' with
        | cons d1' d' => cases d' with
          | cons d2' d' =>
            cases d'
            obtain rfl := d1.of_int; obtain rfl := d2.of_int; obtain rfl := d1'.of_int; obtain rfl := d2'.of_int
            exact .inr (.inr ⟨a, a', _, _, rfl, rfl, sq, sq', .cons (Al.flat rfl) (.cons (Al.flat rfl) .nil)⟩)
section
variable {P : Program} {w : World} {K : PySem.W.Frag} {mg : Str → Option Value} {base : Heap} {C CB fP fI fE fDraw : Addr}
theorem make_known {H : Hp} {t : Str × Row} (ht : t ∈ known) {G : Addr → Hp → Prop} (k : ∀ a H', Same H H' → StepAt K C H' a t.1 t.2 → G a H') : ∀ x dx, H x = none → H dx = none → dx ≠ x →
    spInit K C CB [.ref x, .str t.1] (upd (upd H dx (.own x)) x (.ins C dx [])) (fun v H2 => v = .non ∧ G x H2) E0 := by
  intro x dx hx hdx ne
  have hx' : upd H dx (.own x) x = none := by rw [upd_ne (Ne.symm ne)]; exact hx
  have s2 := (same_upd (o := .own x) hdx).trans (same_upd (o := .ins C dx []) hx')
  have hp : parse t.1 = some t.2 := parse_iff.mpr ht
  have hl := known_short t ht
  refine ⟨x, dx, .str t.1, rfl, upd_same, .str _ (by omega), fun hn => ?_, fun y r hy hr H2 sb sa => ?_⟩
  · rw [show parseV (.str t.1) = parse t.1 from rfl, hp] at hn
    cases hn
  · cases hy
    rw [hp] at hr
    cases hr
    exact ⟨rfl, k x H2 (fun c o e => sb c o (s2 c o e) (fun z => by rw [z, hx] at e; cases e)) sa⟩
theorem own_eq {H : Hp} {a b : Addr} {x y : Str} {r r' : Row} (A : StepAt K C H a x r) (B : StepAt K C H b y r') {Q : VK} (q : Q (.bl (decide (x = y))) H) : rOwn K C (spEq K C) false (.ref a) (.ref b) H Q := by
  obtain ⟨dx, bv, tv, e, _⟩ := A.ex
  obtain ⟨dx', bv', tv', e', _⟩ := B.ex
  exact ⟨a, dx, _, rfl, e, .inl ⟨b, _, _, rfl, e'⟩, a, .ref b, x, r, rfl, A, .inl ⟨b, y, r', rfl, B, _, rfl, q⟩⟩
theorem own_ne {H : Hp} {a b : Addr} {x y : Str} {r r' : Row} (A : StepAt K C H a x r) (B : StepAt K C H b y r') {Q : VK} (q : Q (.bl (!decide (x = y))) H) : rOwn K C (spEq K C) true (.ref a) (.ref b) H Q := by
  obtain ⟨dx, bv, tv, e, _⟩ := A.ex
  obtain ⟨dx', bv', tv', e', _⟩ := B.ex
  exact ⟨a, dx, _, rfl, e, .inl ⟨b, _, _, rfl, e'⟩, a, .ref b, x, r, rfl, A, .inl ⟨b, y, r', rfl, B, _, rfl, q⟩⟩
theorem own_str {H : Hp} {a : Addr} {x t : Str} {r : Row} (A : StepAt K C H a x r) {Q : VK} (q : Q (.bl false) H) : rOwn K C (spEq K C) false (.ref a) (.str t) H Q := by
  obtain ⟨dx, bv, tv, e, _⟩ := A.ex
  exact ⟨a, dx, _, rfl, e, .inr (.inl ⟨t, rfl⟩), a, .str t, x, r, rfl, A, .inr ⟨.inl ⟨t, rfl⟩, _, rfl, q⟩⟩
theorem own_non {H : Hp} {a : Addr} {x : Str} {r : Row} (A : StepAt K C H a x r) {Q : VK} (q : Q (.bl true) H) : rOwn K C (spEq K C) true (.ref a) .non H Q := by
  obtain ⟨dx, bv, tv, e, _⟩ := A.ex
  exact ⟨a, dx, _, rfl, e, .inr (.inr rfl), a, .non, x, r, rfl, A, .inr ⟨.inr rfl, _, rfl, q⟩⟩
theorem canLay_shaped {d : PyData} (h : SeqAt.shaped d = true) : PyData.eqv d d = true := SeqAt.eqv_refl d (SeqAt.canLay_of_shaped h)
theorem shB : ∀ a b : Bool, SeqAt.shaped (.list [.bool a, .bool b]) = true := by decide +kernel
theorem scLaw : FnScope ["_law_script", "_law_pen_here", "_law_known", "_law_k", "_law_value_here", "_law_told_here", "_law_one", "_law_other", "_law_text_here", "_law_row"] ["_law_script"] (defScope sLaw) := ⟨rfl, rfl, rfl, by decide +kernel, rfl, by decide +kernel, by decide +kernel⟩
theorem ok_law {f fPen fPick fAll fValue fTold fDue fWhole : Addr} {fd dPen dDraw dPick dAll dValue dTold dDue dWhole dI dE : FuncData} (F : Fun K "law" "law" sLaw f fd) (T : TxtP mg fDraw) (gR : mg "range" = none)
    (FPen : Fun K "_law_pen" "_law_pen" sPen fPen dPen) (bPen : Binds K dPen ["_law_script"] []) (gPen : mg "_law_pen" = some (.ref fPen))
    (FDraw : Fun K "_law_draw" "_law_draw" sDraw fDraw dDraw) (bDraw : Binds K dDraw ["_law_pen_here", "_law_many"] [])
    (FPick : Fun K "_law_pick" "_law_pick" sPick fPick dPick) (bPick : Binds K dPick ["_law_pen_here", "_law_some"] []) (gPick : mg "_law_pick" = some (.ref fPick))
    (FAll : Fun K "_law_all" "_law_all" sAll fAll dAll) (bAll : Binds K dAll [] []) (gAll : mg "_law_all" = some (.ref fAll)) (GAll : FnOk P w K mg base CX0 2 fAll dAll [] (spAll K))
    (FValue : Fun K "_law_value" "_law_value" sValue fValue dValue) (bValue : Binds K dValue ["_law_pen_here", "_law_known"] []) (gValue : mg "_law_value" = some (.ref fValue)) (GValue : FnOk P w K mg base CX0 4 fValue dValue ["_law_pen_here", "_law_known"] (spValue K))
    (FTold : Fun K "_law_told" "_law_told" sTold fTold dTold) (bTold : Binds K dTold ["_law_text_here"] []) (gTold : mg "_law_told" = some (.ref fTold)) (GTold : FnOk P w K mg base CX0 5 fTold dTold ["_law_text_here"] (spTold K))
    (FDue : Fun K "_law_due" "_law_due" sDue fDue dDue) (bDue : Binds K dDue ["_law_text_here", "_law_known"] []) (gDue : mg "_law_due" = some (.ref fDue)) (GDue : FnOk P w K mg base CX0 1 fDue dDue ["_law_text_here", "_law_known"] (spDue K))
    (FWhole : Fun K "_law_whole_parts" "_law_whole_parts" sWhole fWhole dWhole) (bWhole : Binds K dWhole ["_law_told_here"] []) (gWhole : mg "_law_whole_parts" = some (.ref fWhole)) (GWhole : FnOk P w K mg base CX0 1 fWhole dWhole ["_law_told_here"] (spWhole K))
    (O : TxtO P K mg C CB fP fI) (GI : FnOk P w K mg base (L2.CX P w) 3 fI dI ["self", "text"] (spInit K C CB)) (bI : Binds K dI ["self", "text"] [])
    (TE : EqTxt K C fE) (GE : FnOk P w K mg base CX0 1 fE dE ["self", "other"] (spEq K C)) (bE : Binds K dE ["self", "other"] []) (nS : PySem.W.notFirst K C (.type "str") = true) (nN : PySem.W.notFirst K C (.type "NoneType") = true) :
    FnOk P w K mg base CX0 6 f fd ["_law_script"] (spLaw K) := by
  have GPen : FnOk P w K mg base CX0 1 fPen dPen ["_law_script"] (spPen K) := ok_pen FPen T
  have GDraw : FnOk P w K mg base CX0 1 fDraw dDraw ["_law_pen_here", "_law_many"] spDraw := ok_draw FDraw T
  have GPick : FnOk P w K mg base CX0 2 fPick dPick ["_law_pen_here", "_law_some"] (spPick K) := ok_pick FPick T FDraw bDraw
  refine F.ok scLaw (fun vs H Q E h => ?_) (fun cdv A outer s H vs Q E hr h => ?_)
  · obtain ⟨a, ns, rfl, _⟩ := h
    rfl
  · obtain ⟨a, ns, rfl, hS, hlen, k⟩ := h
    have nd := scLaw.nd
    refine ⟨_, (pss_cons (ps_par (i := 1) (j := 2) rfl nd rfl rfl (by decide) rfl rfl (pa_cons (pe_call GPen (hr.mono (by decide)) (by rfl) gPen FPen.kp bPen .nil pass0 (pa_cons (pv 0) pa_nil)) (pa_cons (pe_call0 GAll (hr.mono (by decide)) (by rfl) gAll FAll.kp bAll .nil pass0) pa_nil)) (by rfl))
      (pss_cons (ps_for PassesOwn.never rfl (pi_range1 rfl gR (pa_cons pe_int pa_nil)) (pg_name (i := 3) nd rfl (Or.inl rfl))
        (pss_cons (ps_set (i := 4) nd rfl (Or.inl rfl) (pe_call GValue (hr.mono (by decide)) (by rfl) gValue FValue.kp bValue .nil pass0 (pa_cons (pv 1) (pa_cons (pv 2) pa_nil))))
        (pss_cons (ps_set (i := 5) nd rfl (Or.inl rfl) (pe_call GTold hr (by rfl) gTold FTold.kp bTold .nil pass0 (pa_cons (pv 4) pa_nil)))
        (pss_one (ps_if (PW.pt (pw_or (pt_cmpR (op_neAl hr.units) (pv 5) (pe_call GDue (hr.mono (by decide)) (by rfl) gDue FDue.kp bDue .nil pass0 (pa_cons (pv 4) (pa_cons (pv 2) pa_nil))) (nomark _)) (pw_or1 (pt_not (pt_val (pe_call GWhole (hr.mono (by decide)) (by rfl) gWhole FWhole.kp bWhole .nil pass0 (pa_cons (pv 5) pa_nil)))))))
          (pss_one (ps_ret pe_bl)) pss_nil)))))
      (pss_cons (ps_asg (pe_tup (pa_cons (pe_ix ix_tup (pe_call GPick (hr.mono (by decide)) (by rfl) gPick FPick.kp bPick .nil pass0 (pa_cons (pv 1) (pa_cons (pv 2) pa_nil))) pe_int (fun _ _ => rfl)) (pa_cons (pe_ix ix_tup (pe_call GPick (hr.mono (by decide)) (by rfl) gPick FPick.kp bPick .nil pass0 (pa_cons (pv 1) (pa_cons (pv 2) pa_nil))) pe_int (fun _ _ => rfl)) pa_nil))) (pg_tup rfl (pgs_cons (pg_name (i := 6) nd rfl (Or.inr rfl)) (pgs_cons (pg_name (i := 7) nd rfl (Or.inl rfl)) pgs_nil))))
      (pss_cons (ps_if (pt_cmpR op_eq (pe_call GDraw (hr.mono (by decide)) (by rfl) T.draw FDraw.kp bDraw .nil pass0 (pa_cons (pv 1) (pa_cons pe_int pa_nil))) pe_int (nomark _))
        (pss_one (ps_set (i := 7) nd rfl (Or.inl rfl) (pe_call GPick (hr.mono (by decide)) (by rfl) gPick FPick.kp bPick .nil pass0 (pa_cons (pv 1) (pa_cons (pe_lc (own := [("_law_text_here", 8), ("_law_row", 9)]) (g := (gTup _ 2 (gCons (gName 8) (gCons (gName 9) gNil)))) rfl nd (pi_list (pv 2)) (blkOk_by (own := [("_law_text_here", 8), ("_law_row", 9)]) (N := ["_law_script", "_law_pen_here", "_law_known", "_law_k", "_law_value_here", "_law_told_here", "_law_one", "_law_other", "_law_text_here", "_law_row"]) (sc := defScope sLaw) (by decide +kernel)) (fun _ _ _ _ _ => (pg_tup rfl (pgs_cons (pg_name (i := 8) nd rfl (Or.inl rfl)) (pgs_cons (pg_name (i := 9) nd rfl (Or.inl rfl)) pgs_nil)))) (fun _ _ _ _ _ => pts_one (pt_cmpR op_eq (pe_slice sl_str (pv 8) po_none (po_some pe_int)) (pe_slice sl_str (pv 6) po_none (po_some pe_int)) (nomark _))) (fun _ _ _ _ _ => (pv 8))) pa_nil))))) pss_nil)
      (pss_cons (ps_if (pt_cmpR (op_neD hr.units) (pe_lst (pa_cons (pe_cmpR (op_eqOwn TE nS nN GE (hr.mono (by decide)) bE) (pe_makeS O.mkr GI (hr.mono (by decide)) (by rfl) O.g bI (fun σ => passE σ) (pa_cons (pv 6) pa_nil)) (pe_makeS O.mkr GI (hr.mono (by decide)) (by rfl) O.g bI (fun σ => passE σ) (pa_cons (pv 7) pa_nil)) (nomark _)) (pa_cons (pe_cmpR (op_neOwn TE nS nN GE (hr.mono (by decide)) bE) (pe_makeS O.mkr GI (hr.mono (by decide)) (by rfl) O.g bI (fun σ => passE σ) (pa_cons (pv 6) pa_nil)) (pe_makeS O.mkr GI (hr.mono (by decide)) (by rfl) O.g bI (fun σ => passE σ) (pa_cons (pv 7) pa_nil)) (nomark _)) pa_nil))) (pe_lst (pa_cons (pe_cmpR op_eq (pv 6) (pv 7) (nomark _)) (pa_cons (pe_cmpR op_ne (pv 6) (pv 7) (nomark _)) pa_nil))) (nomark _))
        (pss_one (ps_ret pe_bl)) pss_nil)
      (pss_one (ps_ret (pe_and (pe_cmpR op_isBl (pe_cmpR (op_eqOwn TE nS nN GE (hr.mono (by decide)) bE) (pe_makeS O.mkr GI (hr.mono (by decide)) (by rfl) O.g bI (fun σ => passE σ) (pa_cons (pv 6) pa_nil)) (pe_makeS O.mkr GI (hr.mono (by decide)) (by rfl) O.g bI (fun σ => passE σ) (pa_cons (pv 6) pa_nil)) (nomark _)) pe_bl (nomark _)) (pe_and (pe_cmpR op_isBl (pe_cmpR (op_eqOwn TE nS nN GE (hr.mono (by decide)) bE) (pe_makeS O.mkr GI (hr.mono (by decide)) (by rfl) O.g bI (fun σ => passE σ) (pa_cons (pv 6) pa_nil)) (pv 6) (nomark _)) pe_bl (nomark _)) (pe_one (pe_cmpR op_isBl (pe_cmpR (op_neOwn TE nS nN GE (hr.mono (by decide)) bE) (pe_makeS O.mkr GI (hr.mono (by decide)) (by rfl) O.g bI (fun σ => passE σ) (pa_cons (pv 6) pa_nil)) pe_non (nomark _)) pe_bl (nomark _)))))))))))), ?_⟩
    refine ⟨_, rfl, a, ns, rfl, hS, hlen, fun p c H0 s0 hp hc Pn0 => ?_⟩
    refine ⟨rfl, fun L H1 s1 rL1 => ⟨_, _, rfl, ?_⟩⟩
    refine ⟨6, rfl, by decide, by decide, for_range (n := 6) (fun i σ H2 => ∃ (v3 v4 v5 : Option V), σ = [some (.ref a), some (.ref p), some (.ref L), v3, v4, v5, none, none, none, none] ∧ Pen H2 p c (10 * i) ∧ RowsAt K H2 L knownD) ⟨none, none, none, rfl, Pn0.same s1, rL1⟩ ?_ ?_⟩
    · rintro i σ H2 hi ⟨v3, v4, v5, rfl, Pn, rL⟩
      have hi6 : i < 6 := hi
      refine ⟨_, rfl, _, rfl, p, c, L, 10 * i, rfl, Pn, by omega, rL, fun v H3 hv b3 P3 => ?_⟩
      have rL3 := rL.but b3 Pn
      refine ⟨_, rfl, v, rfl, hv, fun hn t H4 s4 e4 => ?_, fun r hp t b rr H4 s4 e4 db dr => ?_⟩
      · refine ⟨_, rfl, _, rfl, _, rfl, v, L, rfl, hv.same s4, rL3.same s4, fun _ t' H5 s5 e5 => ?_, fun r z => by rw [hn] at z; cases z⟩
        refine ⟨3, t, t', _, _, by decide, rfl, rfl, SqT.of (s5 _ _ e4), SqT.of e5, .cons (Al.flat rfl) (.cons (al_v ((hv.same s4).same s5)) (.cons (Al.flat rfl) (.cons (Al.flat rfl) .nil))), _, rfl, ?_⟩
        refine iteF ?_
        refine ⟨_, rfl, t, rfl, .inl ⟨v, s5 _ _ e4⟩, fun H6 s6 => ?_⟩
        refine ⟨_, rfl, ?_⟩
        refine iteF ?_
        exact ⟨_, _, _, rfl, (((P3.same s4).same s5).same s6).mono (by omega), ((rL3.same s4).same s5).same s6⟩
      · refine ⟨_, rfl, _, rfl, _, rfl, v, L, rfl, hv.same s4, rL3.same s4, fun z => (by rw [hp] at z; cases z), fun r' hp' t' b' rr' H5 s5 e5 db' dr' => ?_⟩
        rw [hp] at hp'
        cases hp'
        have db5 := db.keep (TK.same s5)
        have dr5 := dr.keep (TK.same s5)
        refine ⟨4, t, t', _, _, by decide, rfl, rfl, SqT.of (s5 _ _ e4), SqT.of e5, .cons (Al.flat rfl) (.cons (al_v ((hv.same s4).same s5)) (.cons (Al.flat rfl) (.cons (al_opt db5 db') (.cons (al_rest dr5 dr') (.cons (Al.flat rfl) .nil))))), _, rfl, ?_⟩
        refine iteF ?_
        refine ⟨_, rfl, t, rfl, .inr ⟨_, _, b, rr, r, s5 _ _ e4, db5, dr5⟩, fun H6 s6 => ?_⟩
        refine ⟨_, rfl, ?_⟩
        refine iteF ?_
        exact ⟨_, _, _, rfl, (((P3.same s4).same s5).same s6).mono (by omega), ((rL3.same s4).same s5).same s6⟩
    · rintro σ H2 ⟨v3, v4, v5, rfl, Pn, rL⟩
      have Pn : Pen H2 p c 60 := Pn
      obtain ⟨ws, el, dl⟩ := rL.ex
      have lw := dl.length
      rw [knownD_len] at lw
      refine ⟨_, rfl, _, rfl, p, c, L, ws, 60, rfl, Pn, by omega, SqL.of el, by omega, by omega, fun r1 v1 H3 hv1 b3 P3 => ?_⟩
      obtain ⟨q1, x1, rv1, i1, rfl, sq1, dr1⟩ := knownAt (dl.keep (TK.but b3 Pn)) hv1
      have rL3 := rL.but b3 Pn
      obtain ⟨ws3, el3, dl3⟩ := rL3.ex
      have lw3 := dl3.length
      rw [knownD_len] at lw3
      refine ⟨x1, _, 0, _, rfl, rfl, sq1, rfl, ?_⟩
      refine ⟨_, rfl, _, rfl, p, c, L, ws3, 61, rfl, P3, by omega, SqL.of el3, by omega, by omega, fun r2 v2 H4 hv2 b4 P4 => ?_⟩
      obtain ⟨q2, x2, rv2, i2, rfl, sq2, dr2⟩ := knownAt (dl3.keep (TK.but b4 P3)) hv2
      have m2 := List.mem_of_getElem? i2
      refine ⟨x2, _, 0, _, rfl, rfl, sq2, rfl, by show 2 ≤ sizeLine; decide, fun t ht => ⟨t, _, rfl, SqT.of upd_same, rfl, _, _, rfl, _, _, rfl, rfl, ?_⟩⟩
      have P4' := P4.new (o := .tup [.str q1.1, .str q2.1]) ht
      have rL4 := (rL3.but b4 P3).same (same_upd (o := .tup [.str q1.1, .str q2.1]) ht)
      refine ⟨_, rfl, p, c, 2, 62, rfl, P4', by omega, by decide, by decide, fun way H5 w0 w1 b5 P5 => ?_⟩
      have rL5 := rL4.but b5 P4'
      refine ⟨rfl, _, rfl, ?_⟩
      refine ite_int (fun _ => ?_) (fun _ => ?_)
      · obtain ⟨ws5, el5, dl5⟩ := rL5.ex
        have lw5 := dl5.length
        rw [knownD_len] at lw5
        refine ⟨_, rfl, _, rfl, L, rfl, ⟨ws5, SqL.of el5⟩, fun D hD => ?_⟩
        refine lc_list (a := L) (xs := ws5) (fun m H6 => Same H5 H6 ∧ ∃ zs : List Str, H6 D = some (.lst (zs.map V.str)) ∧ (∀ z ∈ zs, ∃ q ∈ known, z = q.1) ∧ zs.length ≤ m ∧ (r1 < m → zs ≠ [])) ⟨same_upd hD, [], upd_same, fun z hz => absurd hz List.not_mem_nil, Nat.le_refl _, fun hz => absurd hz (Nat.not_lt_zero _)⟩ (fun m H6 hm z => SqL.of (z.1 _ _ el5)) ?_ ?_
        · rintro m x H6 hx ⟨s6, zs, e6, a6, l6, n6⟩
          obtain ⟨q5, x5, rv5, i5, rfl, sq5, dr5⟩ := knownAt (dl5.keep (TK.same s6)) hx
          have m5 := List.mem_of_getElem? i5
          have k5 := known_short q5 m5
          have k1 := known_short q1 (List.mem_of_getElem? i1)
          refine ⟨x5, _, rfl, sq5, rfl, _, _, rfl, _, _, rfl, rfl, rfl, ?_⟩
          refine ⟨_, rfl, 4, rfl, q5.1, rfl, small200 (by omega), _, rfl, 4, rfl, q1.1, rfl, small200 (by omega), rfl, _, rfl, ?_⟩
          have hm : m < ws5.length := (List.getElem?_eq_some_iff.mp hx).1
          refine ite_str (fun hc => ?_) (fun hc => ?_)
          · refine ⟨_, rfl, _, e6, small200' (by rw [List.length_map]; omega), same_fresh hD s6, zs ++ [q5.1], ?_, fun z hz => ?_, ?_, fun _ z => ?_⟩
            · rw [upd_same, List.map_append]
              rfl
            · rcases List.mem_append.mp hz with h | h
              · exact a6 z h
              · exact ⟨q5, m5, List.mem_singleton.mp h⟩
            · rw [List.length_append]
              show zs.length + 1 ≤ m + 1
              omega
            · have := congrArg List.length z
              rw [List.length_append] at this
              simp at this
          · refine ⟨s6, zs, e6, a6, by omega, fun hr => ?_⟩
            rcases Nat.lt_or_ge r1 m with h | h
            · exact n6 h
            · have er : r1 = m := by omega
              rw [er, i5] at i1
              cases i1
              exact absurd rfl hc
        rintro H6 ⟨s6, zs, e6, a6, l6, n6⟩
        have hr1 : r1 < ws5.length := by
          have := (List.getElem?_eq_some_iff.mp i1).1
          rw [known_length] at this
          omega
        have hz : 0 < zs.length := List.length_pos_iff.mpr (n6 hr1)
        refine ⟨p, c, D, zs.map V.str, 63, rfl, P5.same s6, by omega, SqL.of e6, by rw [List.length_map]; exact hz, by rw [List.length_map]; omega, fun r6 v6 H7 hv6 b7 P7 => ?_⟩
        obtain ⟨z6, mz6, rfl⟩ := strAt hv6
        obtain ⟨q6, m6, rfl⟩ := a6 z6 mz6
        replace m2 := m6
        have m1 := List.mem_of_getElem? i1
        refine ⟨_, rfl, make_known m1 fun a1 G1 t1 A1 => ?_⟩
        refine ⟨_, rfl, make_known m2 fun a2 G2 t2 A2 => ?_⟩
        refine own_eq (A1.same t2) A2 ?_
        refine ⟨_, rfl, make_known m1 fun a3 G3 t3 A3 => ?_⟩
        refine ⟨_, rfl, make_known m2 fun a4 G4 t4 A4 => ?_⟩
        refine own_ne (A3.same t4) A4 ?_
        refine ⟨by show 2 ≤ sizeLine; decide, fun l1 hl1 => ⟨_, rfl, _, rfl, rfl, _, rfl, _, rfl, rfl, by show 2 ≤ sizeLine; decide, fun l2 hl2 => ?_⟩⟩
        refine ⟨_, _, .lst (SqL.of (same_upd hl2 _ _ upd_same)) (.cons (.bl _) (.cons (.bl _) .nil)), .lst (SqL.of upd_same) (.cons (.bl _) (.cons (.bl _) .nil)), shB _ _, shB _ _, _, rfl, ?_⟩
        rw [dec_strs, canLay_shaped (shB _ _)]
        refine iteF ?_
        refine ⟨_, rfl, make_known m1 fun a5 G5 t5 A5 => ?_⟩
        refine ⟨_, rfl, make_known m1 fun a6 G6 t6 A6 => ?_⟩
        refine own_eq (A5.same t6) A6 ?_
        rw [decide_eq_true rfl]
        refine ⟨true, true, rfl, rfl, _, rfl, ?_⟩
        refine iteT ?_
        refine ⟨_, rfl, make_known m1 fun a7 G7 t7 A7 => ⟨_, rfl, own_str A7 ?_⟩⟩
        refine ⟨false, false, rfl, rfl, _, rfl, ?_⟩
        refine iteT ?_
        refine ⟨_, rfl, make_known m1 fun a8 G8 t8 A8 => ?_⟩
        dsimp only [tC]
        refine own_non A8 ?_
        exact ⟨true, true, rfl, rfl, k _⟩
      · have m1 := List.mem_of_getElem? i1
        refine ⟨_, rfl, make_known m1 fun a1 G1 t1 A1 => ?_⟩
        refine ⟨_, rfl, make_known m2 fun a2 G2 t2 A2 => ?_⟩
        refine own_eq (A1.same t2) A2 ?_
        refine ⟨_, rfl, make_known m1 fun a3 G3 t3 A3 => ?_⟩
        refine ⟨_, rfl, make_known m2 fun a4 G4 t4 A4 => ?_⟩
        refine own_ne (A3.same t4) A4 ?_
        refine ⟨by show 2 ≤ sizeLine; decide, fun l1 hl1 => ⟨_, rfl, _, rfl, rfl, _, rfl, _, rfl, rfl, by show 2 ≤ sizeLine; decide, fun l2 hl2 => ?_⟩⟩
        refine ⟨_, _, .lst (SqL.of (same_upd hl2 _ _ upd_same)) (.cons (.bl _) (.cons (.bl _) .nil)), .lst (SqL.of upd_same) (.cons (.bl _) (.cons (.bl _) .nil)), shB _ _, shB _ _, _, rfl, ?_⟩
        rw [dec_strs, canLay_shaped (shB _ _)]
        refine iteF ?_
        refine ⟨_, rfl, make_known m1 fun a5 G5 t5 A5 => ?_⟩
        refine ⟨_, rfl, make_known m1 fun a6 G6 t6 A6 => ?_⟩
        refine own_eq (A5.same t6) A6 ?_
        rw [decide_eq_true rfl]
        refine ⟨true, true, rfl, rfl, _, rfl, ?_⟩
        refine iteT ?_
        refine ⟨_, rfl, make_known m1 fun a7 G7 t7 A7 => ⟨_, rfl, own_str A7 ?_⟩⟩
        refine ⟨false, false, rfl, rfl, _, rfl, ?_⟩
        refine iteT ?_
        refine ⟨_, rfl, make_known m1 fun a8 G8 t8 A8 => ?_⟩
        dsimp only [tC]
        refine own_non A8 ?_
        exact ⟨true, true, rfl, rfl, k _⟩
end
end Aw

namespace Aw
open PySem PySem.Spec PyProof.Rows L2 NdefX He5
open He (eqO eqO_ok ga ma frG frG_in)
/-! ### facts of the written part, as Bools -/
theorem bo {a b : Bool} (h : (a && b) = true) : a = true ∧ b = true := Bool.and_eq_true_iff.mp h
def excDB (K : PySem.W.Frag) (C : Addr) : Bool := eqO (PySem.W.findIn K (.ref C) "__getattribute__") (some (some (.builtin "BaseException.__getattribute__"))) && (eqO (PySem.W.findIn K (.ref C) "__getattr__") (some none) && (decide (PySem.W.subIn K (.ref C) (.type "BaseException") = some true) &&
  (PySem.W.hasDictIn K C && (eqO (PySem.W.findIn K (.ref C) "__class__") (some (some (.builtin "object.__class__"))) && (eqO (PySem.W.specialIn K (.builtin "object.__class__") "__get__") (some (some (.builtin "getset_descriptor.__get__"))) && (decide (PySem.W.takesIn K (.builtin "object.__class__") = some true) && decide (PySem.W.mroIn K C (.type "object") = some true)))))))
theorem excDB_ok {K : PySem.W.Frag} {C : Addr} (h : excDB K C = true) : ExcD K C := by
  obtain ⟨h1, h⟩ := bo h
  obtain ⟨h2, h⟩ := bo h
  obtain ⟨h3, h⟩ := bo h
  obtain ⟨h4, h⟩ := bo h
  obtain ⟨h5, h⟩ := bo h
  obtain ⟨h6, h⟩ := bo h
  obtain ⟨h7, h8⟩ := bo h
  exact ⟨eqO_ok h1, eqO_ok h2, of_decide_eq_true h3, h4, eqO_ok h5, eqO_ok h6, of_decide_eq_true h7, of_decide_eq_true h8⟩
def rawC (K : PySem.W.Frag) (C : Addr) : Bool := match K.lookup C with
  | some ⟨.type T, _, .cls cd, sl⟩ => (match cd.mro, sl.toList with
    | .ref C' :: bm, [_, _, _, _, some (.builtin n), _] => decide (T = "type") && (decide (C' = C) && (PySem.HandSPX.refsVE bm && (cd.hasDict && (!cd.hasDel && decide (n = "ValueError.__new__")))))
    | _, _ => false)
  | _ => false
theorem rawC_ok {K : PySem.W.Frag} {C : Addr} (h : rawC K C = true) : ∃ nm q N bs bm sn sub ab col dd k0 k1 k2 k3 k5, K.lookup C = some (excClassObj nm q C N bs bm true sn sub ab col dd k0 k1 k2 k3 k5 "ValueError.__new__") ∧ PySem.HandSPX.refsVE bm = true := by
  unfold rawC at h
  split at h
  · rename_i T dd cd sl ho
    split at h
    · rename_i C' bm k0 k1 k2 k3 n k5 hm hs
      obtain ⟨h1, h⟩ := bo h
      obtain ⟨h2, h⟩ := bo h
      obtain ⟨h3, h⟩ := bo h
      obtain ⟨h4, h⟩ := bo h
      obtain ⟨h5, h6⟩ := bo h
      have e1 := of_decide_eq_true h1
      have e2 := of_decide_eq_true h2
      have e6 := of_decide_eq_true h6
      subst e1 e2 e6
      obtain ⟨nm, bs, mro, ns, qn, hd, sn, sub, ab, col, del⟩ := cd
      dsimp only at hm h4 h5
      subst hm h4
      have hdel : del = false := by simpa using h5
      subst hdel
      obtain ⟨l⟩ := sl
      simp only at hs
      subst hs
      exact ⟨nm, qn, ns, bs, bm, sn, sub, ab, col, dd, k0, k1, k2, k3, k5, ho, h3⟩
    · cases h
  · cases h
def oexB (K : PySem.W.Frag) (C : Addr) : Bool := rawC K C && (eqO (PySem.W.findIn K (.ref C) "__setattr__") (some (some (.builtin "object.__setattr__"))) && (decide (PySem.W.subIn K (.ref C) (.type "BaseException") = some true) && (decide (PySem.W.typeIn K (.ref C) = some (.type "type")) && PySem.W.keepIn K (.ref C))))
theorem oexB_ok {K : PySem.W.Frag} {C : Addr} (h : oexB K C = true) : OexC K C := by
  obtain ⟨h1, h⟩ := bo h
  obtain ⟨h2, h⟩ := bo h
  obtain ⟨h3, h⟩ := bo h
  obtain ⟨h4, h5⟩ := bo h
  exact ⟨rawC_ok h1, eqO_ok h2, of_decide_eq_true h3, of_decide_eq_true h4, h5⟩
/-- the own __init__ of the class x, as it stands -/
def supAt (K : PySem.W.Frag) (x : Str) : Addr := ma K (ga K x) "__init__"
abbrev SupW : Type := Option (Str × Str × Arguments × FuncBody × Scope × Addr × List Str × Addr)
def supW (K : PySem.W.Frag) (x : Str) : SupW := match K.lookup (supAt K x) with
  | some ⟨_, _, .func fd, _⟩ => some (fd.name, fd.qualname, fd.params, fd.body, fd.scope, fd.globals, fd.closure.map (·.1), fd.builtins)
  | _ => none
structure SupD where
  x : Str
  qual : Str
  y : Str
  fld : Str
  st : Stmt
def SupD.val (d : SupD) : SupW := some ("__init__", d.qual, defArgs d.st, .stmts (defBody d.st), defScope d.st, mainGlobals, ["__class__"], builtinsNs)
def SupD.ok (file : Str) (K : PySem.W.Frag) (d : SupD) : Bool := oexB K (ga K d.x) && (excDB K (ga K d.x) && (eqO (PySem.W.nsIn K mainGlobals d.x) (some (some (.ref (ga K d.x)))) && (eqO (PySem.W.findIn K (.ref (ga K d.x)) "__init__") (some (some (.ref (supAt K d.x)))) && (decide (PySem.W.typeIn K (.ref (supAt K d.x)) = some (.type "function")) &&
  (eqO (PySem.W.ks_superIn K (ga K d.x) (ga K d.x) "__init__") (some (some (.builtin "ValueError.__init__"))) && (decide (PySem.W.subIn K (.ref (ga K d.x)) (.type "ValueError") = some true) && (decide (PySem.W.mroIn K (ga K d.x) (.ref (ga K d.x)) = some true) && (eqO (PySem.W.nsIn K cStatics "thirdparty.any") (some none) && (eqO (PySem.W.findIn K (.ref (ga K d.x)) d.fld) (some none) &&
  (eqO (PySem.W.nsIn K mainGlobals "super") (some none) && (match K.lookup (supAt K d.x) with
    | some ⟨_, _, .func fd, _⟩ => (match fd.closure, fd.code, fd.defaults with
      | [(_, cc)], .ref cda, .none => PySem.W.codeIn K (.ref cda) d.qual && ((match K.lookup cda with
          | some ⟨_, _, .fields vs, _⟩ => (match (vs[2]? : Option Value) with
            | some (Value.str fl _) => (file == fl)
            | _ => false)
          | _ => false) && (match K.lookup cc with
          | some ⟨_, _, .cell (some (.ref D)), _⟩ => decide (D = ga K d.x)
          | _ => false))
      | _, _, _ => false)
    | _ => false)))))))))))
/-- what the text itself says of such an __init__ -/
structure SupS (d : SupD) : Prop where
  bd : ∃ z j p0 p1 p2 p3 p4 p5 p6 p7 p8 p9, defBody d.st = supBody z d.y d.fld j p0 p1 p2 p3 p4 p5 p6 p7 p8 p9 ∧ (p2.endLine == p4.line) = true
  ar : ((defArgs d.st).posonlyargs ++ (defArgs d.st).args).head?.map (·.arg) = some "self"
  sc : NScope ["self", d.y, "__class__"] ["self", d.y] ["__class__"] (defScope d.st)
  scs : (defScope d.st).names.lookup ("super" : Str) = some .globalImplicit
  ny : (d.y == ("__debug__" : Str)) = false ∧ (d.y == ("__classdict__" : Str)) = false
  bind : ∀ (kV doc pm : Value) (an : Option Addr) (cdv ct : Value) (cc : Addr) (us : List Value), us.length = 2 → bindArgs (PySem.W.fnX "__init__" d.qual (defArgs d.st) (defBody d.st) (defScope d.st) [("__class__", cc)] .none kV doc pm an cdv ct) ⟨us, []⟩ = pure ((["self", d.y] : List Str).zip us)
theorem sup_err {P : Program} {K : PySem.W.Frag} {h : Heap} {mg : Str → Option Value} {d : SupD} (X : K.In h) (G : h.Ns mainGlobals mg) (S : SupS d) (htop : (P.main.scope.names.lookup ("super" : Str)).isSome = false) (e : supW K d.x = d.val) (c : d.ok P.main.file K = true) : Err P K mg d.x d.y d.fld (ga K d.x) := by
  obtain ⟨c1, c⟩ := bo c
  obtain ⟨c2, c⟩ := bo c
  obtain ⟨c3, c⟩ := bo c
  obtain ⟨c4, c⟩ := bo c
  obtain ⟨c5, c⟩ := bo c
  obtain ⟨c6, c⟩ := bo c
  obtain ⟨c7, c⟩ := bo c
  obtain ⟨c8, c⟩ := bo c
  obtain ⟨c9, c⟩ := bo c
  obtain ⟨c10, c⟩ := bo c
  obtain ⟨c11, c⟩ := bo c
  refine ⟨?_, PySem.W.mg_of X G (eqO_ok c3), excDB_ok c2, eqO_ok c10⟩
  unfold supW at e
  split at c
  · rename_i oc od fd osl lk
    rw [lk] at e
    split at c
    · rename_i n0 cc cda hcl hco hdf
      obtain ⟨d1, c⟩ := bo c
      obtain ⟨d2, d3⟩ := bo c
      obtain ⟨n1, n2, n3, n4, n5, n6, n7, n8, n9, n10, n11, n12, n13, n14, n15⟩ := fd
      dsimp only at hcl hco hdf
      have e2 : (some (n1, n2, n3, n4, n5, n6, n7.map (·.1), n15) : SupW) = (some (("__init__" : Str), d.qual, defArgs d.st, FuncBody.stmts (defBody d.st), defScope d.st, mainGlobals, (["__class__"] : List Str), builtinsNs) : SupW) := e
      simp only [Option.some.injEq, Prod.mk.injEq] at e2
      obtain ⟨h1, h2, h3, h4, h5, h6, h7, h8⟩ := e2
      subst h1 h2 h3 h4 h5 h6 h8 hcl hco hdf
      have hn0 : n0 = "__class__" := by simpa using h7
      subst hn0
      refine ⟨supAt K d.x, cc, cda, _, _, _, _, _, { T := oexB_ok c1, fdE := ⟨_, _, _, _, _, _, rfl⟩, lk := ⟨_, _, _, lk⟩, cd := d1, file := ?_, cell := ?_, hm := eqO_ok c6, hB := of_decide_eq_true c7, hself := of_decide_eq_true c8, ho := eqO_ok c9, hno := eqO_ok c10, hsup := PySem.W.mg_none_of X G (eqO_ok c11), htop := htop, bd := S.bd, ar := S.ar, sc := S.sc, scs := S.scs, ny := S.ny }, eqO_ok c4, of_decide_eq_true c5, ?_⟩
      · split at d2
        · rename_i ccl cdd vs ccs lkc
          split at d2
          · rename_i fl tf hv
            exact ⟨ccl, cdd, vs, ccs, fl, tf, lkc, hv, d2⟩
          · cases d2
        · cases d2
      · split at d3
        · rename_i cl cld D csl lkcc
          have eD := of_decide_eq_true d3
          subst eD
          exact ⟨cl, cld, csl, lkcc⟩
        · cases d3
      · exact .all fun us hl => S.bind _ _ _ _ _ _ _ us hl
    · cases c
  · cases c
def err0B (K : PySem.W.Frag) (x : Str) : Bool := PySem.W.excIn K (ga K x) PySem.HandSPX.veTail "ValueError.__new__" && (PySem.W.keepIn K (.ref (ga K x)) && (eqO (PySem.W.nsIn K mainGlobals x) (some (some (.ref (ga K x)))) && excDB K (ga K x)))
theorem err0_of {K : PySem.W.Frag} {h : Heap} {mg : Str → Option Value} {x : Str} (X : K.In h) (G : h.Ns mainGlobals mg) (c : err0B K x = true) : Err0 K mg x (ga K x) := by
  obtain ⟨c1, c⟩ := bo c
  obtain ⟨c2, c⟩ := bo c
  obtain ⟨c3, c4⟩ := bo c
  exact ⟨c1, c2, PySem.W.mg_of X G (eqO_ok c3), excDB_ok c4⟩
def gloB (K : PySem.W.Frag) (x : Str) : Bool := eqO (PySem.W.nsIn K mainGlobals x) (some (some (.ref (ga K x))))
def freB (K : PySem.W.Frag) (x : Str) : Bool := eqO (PySem.W.nsIn K mainGlobals x) (some none)
theorem glo_of {K : PySem.W.Frag} {h : Heap} {mg : Str → Option Value} {x : Str} (X : K.In h) (G : h.Ns mainGlobals mg) (c : gloB K x = true) : mg x = some (.ref (ga K x)) := PySem.W.mg_of X G (eqO_ok c)
theorem fre_of {K : PySem.W.Frag} {h : Heap} {mg : Str → Option Value} {x : Str} (X : K.In h) (G : h.Ns mainGlobals mg) (c : freB K x = true) : mg x = none := PySem.W.mg_none_of X G (eqO_ok c)
/-! ### the Hook: the defs, the __init__s, the tables, a Bool -/
abbrev AlZ : Type := He.AlD × (List SupW × (List (Option (List (Option (Str × Int)))) × Bool))
def obsZ (fn : List DefA) (su : List SupD) (ts : List He.Tab) (ex : PySem.W.Frag → Bool) (K : PySem.W.Frag) : AlZ := (obsA [] fn K, su.map (fun d => supW K d.x), ts.map (fun t => He.dicW K (t.1 K)), ex K)
def valZ (fn : List DefA) (su : List SupD) (ts : List He.Tab) (w : World) : AlZ := (valA fn, su.map SupD.val, ts.map (fun t => some (He.keysIn w.params t.2)), true)
def SaysZ (fn : List DefA) (su : List SupD) (ts : List He.Tab) (ex : PySem.W.Frag → Bool) (w : World) (K : PySem.W.Frag) : Prop := obsZ fn su ts ex K = valZ fn su ts w
def obsZG (n : Nat) (fn : List DefA) (su : List SupD) (ts : List He.Tab) (ex : PySem.W.Frag → Bool) (g : Addr → Option Obj) : AlZ := obsZ fn su ts ex (frG g (asA g n))
def hookZ (n : Nat) (fn : List DefA) (su : List SupD) (ts : List He.Tab) (ex : PySem.W.Frag → Bool) : PySem.W.Hook where
  α := AlZ
  obs := fun s => obsZG n fn su ts ex s.heap.get?
  val := fun w => valZ fn su ts w
  says := fun w h => ∃ K : PySem.W.Frag, K.In h ∧ SaysZ fn su ts ex w K
  of := fun _ _ e => ⟨_, frG_in, e⟩
  keeps := fun _ _ _ ⟨K, hK, c⟩ k => ⟨K, PySem.W.Frag.In.keeps hK k, c⟩
theorem obsZG_eq {n : Nat} {fn : List DefA} {su : List SupD} {ts : List He.Tab} {ex : PySem.W.Frag → Bool} {g : Addr → Option Obj} {s : Shared} (h : ∀ a, g a = s.heap.get? a) : obsZG n fn su ts ex g = (hookZ n fn su ts ex).obs s := by
  have e : g = s.heap.get? := funext h
  rw [e] <;> rfl
section
variable {fn : List DefA} {su : List SupD} {ts : List He.Tab} {ex : PySem.W.Frag → Bool} {w : World} {K : PySem.W.Frag}
theorem SaysZ.more (c : SaysZ fn su ts ex w K) : ex K = true := congrArg (fun z : AlZ => z.2.2.2) c
theorem SaysZ.def_ (c : SaysZ fn su ts ex w K) (i : Nat) {d : DefA} (h : fn[i]? = some d := by rfl) : ∃ fd, L2.FunD K d.name d.qual d.params d.body d.scope (d.dvs K) (d.kws K) (d.at_ K) fd :=
  SaysA.def_ (fa := []) (fn := fn) (show obsA [] fn K = valA fn from congrArg (fun z : AlZ => z.1) c) i h
theorem SaysZ.sup (c : SaysZ fn su ts ex w K) (i : Nat) {d : SupD} (h : su[i]? = some d := by rfl) : supW K d.x = d.val := by
  have e : su.map (fun d => supW K d.x) = su.map SupD.val := congrArg (fun z : AlZ => z.2.1) c
  have e2 : (su.map fun d => supW K d.x)[i]? = (su.map SupD.val)[i]? := by rw [e]
  rw [List.getElem?_map, List.getElem?_map, h] at e2
  exact Option.some.inj e2
theorem SaysZ.tab (c : SaysZ fn su ts ex w K) (i : Nat) {t : He.Tab} (h : ts[i]? = some t := by rfl) : ∃ es n, KDict K w (t.1 K) es n := by
  have e : ts.map (fun t => He.dicW K (t.1 K)) = ts.map fun t => some (He.keysIn w.params t.2) := congrArg (fun z : AlZ => z.2.2.1) c
  have e2 : (ts.map fun t => He.dicW K (t.1 K))[i]? = (ts.map fun t => some (He.keysIn w.params t.2))[i]? := by rw [e]
  rw [List.getElem?_map, List.getElem?_map, h] at e2
  exact He.dicW_ok (Option.some.inj e2)
end
/-- a def of the top without defaults -/
def defG (x : Str) (st : Stmt) : DefA := ⟨fun K => ga K x, x, x, defArgs st, defBody st, defScope st, [], []⟩
/-- a method -/
def defM (x m q : Str) (st : Stmt) : DefA := ⟨fun K => ma K (ga K x) m, m, q, defArgs st, defBody st, defScope st, [], []⟩
end Aw

namespace Aw
open PySem PySem.Spec PyProof.Rows L2 NdefX He5
open He (eqO eqO_ok ga ma Fa cls_ok noat_ok meth_ok mkr_ok exm_ok tupB tupB_ok valsB valsB_ok Dv relAll relAll_ok)
/-! ### the dicts of the top -/
def keysB (K : PySem.W.Frag) (d : Addr) (L : List Str) : Bool := match K.lookup d with
  | some ⟨_, _, .dict es _, _⟩ => es.toList.all fun e => match e.key with
    | .str x _ => decide (x ∈ L)
    | _ => false
  | _ => false
theorem keysB_ok {K : PySem.W.Frag} {d : Addr} {L : List Str} (h : keysB K d L = true) {z : Str} (hz : z ∉ L) : PySem.W.nsIn K d z = some none := by
  unfold keysB at h
  split at h
  · rename_i oc od es n osl lk
    have hk : ∀ e ∈ es.toList, ∃ x t, e.key = .str x t ∧ x ∈ L := fun e he => by
      have h2 := List.all_eq_true.mp h e he
      split at h2
      · rename_i x t ek
        exact ⟨x, t, ek, of_decide_eq_true h2⟩
      · cases h2
    unfold PySem.W.nsIn
    rw [lk]
    have f0 : es.toList.find? (fun e => e.key.isStr z) = none := by
      rw [List.find?_eq_none]
      intro e he q
      obtain ⟨x, t, ek, hx⟩ := hk e he
      rw [ek] at q
      have e2 : x = z := by simpa [Value.isStr] using q
      exact hz (e2 ▸ hx)
    have f1 : es.toList.any (fun e => e.refKey) = false := by
      rw [List.any_eq_false]
      intro e he q
      obtain ⟨x, t, ek, hx⟩ := hk e he
      unfold DictEntry.refKey at q
      rw [ek] at q
      cases q
    simp only [f0, f1]
    rfl
  · cases h
theorem lookup_mem1 {α : Type} {z : Str} {v : α} : ∀ {l : List (Str × α)}, l.lookup z = some v → (z, v) ∈ l
  | (k, u) :: l, h => by
    by_cases e : z = k
    · subst e
      rw [List.lookup_cons_self] at h
      cases h
      exact List.mem_cons_self ..
    · have e2 : (z == k) = false := by simpa using e
      rw [List.lookup_cons, e2] at h
      exact List.mem_cons_of_mem _ (lookup_mem1 h)
theorem lookup_none1 {α : Type} {z : Str} : ∀ {l : List (Str × α)}, l.lookup z = none → z ∉ l.map (·.1)
  | [], _ => List.not_mem_nil
  | (k, u) :: l, h => by
    by_cases e : z = k
    · subst e
      rw [List.lookup_cons_self] at h
      cases h
    · have e2 : (z == k) = false := by simpa using e
      rw [List.lookup_cons, e2] at h
      intro m
      rcases List.mem_cons.mp m with q | q
      · exact e q
      · exact lookup_none1 h q
def restB (K : PySem.W.Frag) (d : Addr) : Bool := restL.all fun q => match PySem.W.nsIn K d q.1 with
  | some (some (.ref t)) => (match K.lookup t with
    | some ⟨.type c, _, .seq its _, _⟩ => decide (c = "tuple") && (decide (its.size ≤ sizeLine) && relAll [.int q.2.1, .int q.2.2] its.toList)
    | _ => false)
  | _ => false
theorem restB_ok {K : PySem.W.Frag} {d : Addr} (h : restB K d = true) {q : Str × (Int × Int)} (hq : q ∈ restL) : ∃ t, PySem.W.nsIn K d q.1 = some (some (.ref t)) ∧ ∀ H, SqT K H t [.int q.2.1, .int q.2.2] := by
  have h2 := List.all_eq_true.mp h q hq
  split at h2
  · rename_i t e
    split at h2
    · rename_i c dd its n sl lk
      obtain ⟨h1, h2⟩ := bo h2
      obtain ⟨h3, h4⟩ := bo h2
      exact ⟨t, e, fun H => .inr ⟨_, its, n, lk, congrArg Value.type (of_decide_eq_true h1), rfl, of_decide_eq_true h3, relAll_ok h4⟩⟩
    · cases h2
  · cases h2
def eqB (K : PySem.W.Frag) (C : Addr) : Bool := eqO (PySem.W.findIn K (.ref C) "__ne__") (some (some (.builtin "object.__ne__"))) && (decide (PySem.W.mroIn K C (.type "object") = some true) && (eqO (PySem.W.findIn K (.ref C) "__class__") (some (some (.builtin "object.__class__"))) && (eqO (PySem.W.specialIn K (.builtin "object.__class__") "__get__") (some (some (.builtin "getset_descriptor.__get__"))) &&
  (decide (PySem.W.takesIn K (.builtin "object.__class__") = some true) && (decide (PySem.W.kitOne K (.ref C) (.ref C) = some true) && (decide (PySem.W.kitOne K (.type "str") (.ref C) = some false) && (decide (PySem.W.kitOne K (.type "NoneType") (.ref C) = some false) && (PySem.W.notFirst K C (.type "str") && PySem.W.notFirst K C (.type "NoneType")))))))))
theorem eqB_ok {K : PySem.W.Frag} (h : eqB K (ga K "Step") = true) (m : (Fa.meth "Step" "__eq__").ok K = true) : EqTxt K (ga K "Step") (ma K (ga K "Step") "__eq__") ∧ TxtE K (ga K "Step") ∧ PySem.W.notFirst K (ga K "Step") (.type "str") = true ∧ PySem.W.notFirst K (ga K "Step") (.type "NoneType") = true := by
  obtain ⟨h1, h⟩ := bo h
  obtain ⟨h2, h⟩ := bo h
  obtain ⟨h3, h⟩ := bo h
  obtain ⟨h4, h⟩ := bo h
  obtain ⟨h5, h⟩ := bo h
  obtain ⟨h6, h⟩ := bo h
  obtain ⟨h7, h⟩ := bo h
  obtain ⟨h8, h⟩ := bo h
  obtain ⟨h9, h10⟩ := bo h
  obtain ⟨m1, m⟩ := bo (show (eqO (PySem.W.findIn K (.ref (ga K "Step")) "__eq__") (some (some (.ref (ma K (ga K "Step") "__eq__")))) && (PySem.W.isFn K (.ref (ma K (ga K "Step") "__eq__")) && PySem.W.keepIn K (.ref (ma K (ga K "Step") "__eq__")))) = true from m)
  obtain ⟨m2, m3⟩ := bo m
  exact ⟨⟨eqO_ok m1, m2, eqO_ok h1, of_decide_eq_true h2⟩, ⟨eqO_ok h3, eqO_ok h4, of_decide_eq_true h5, of_decide_eq_true h2, of_decide_eq_true h6, of_decide_eq_true h7, of_decide_eq_true h8⟩, h9, h10⟩
def su0 : SupD := ⟨"BadText", "BadText.__init__", "text", "text", (inClass (top 3) 0)⟩
theorem ss0 : SupS su0 := ⟨⟨_, _, _, _, _, _, _, _, _, _, _, _, rfl, rfl⟩, rfl, nscope_by (by decide +kernel), rfl, ⟨by decide, by decide⟩, fun _ _ _ _ _ _ _ us hl => match us, hl with | [_, _], _ => rfl⟩
def sus : List SupD := [su0]
def fns : List DefA := [defG "_law_pen" sPen, defG "_law_draw" sDraw, defG "_law_pick" sPick, defG "_law_text" sText, defG "_law_all" sAll, defG "_law_text_of" sTextOf, defG "_law_told" sTold, defG "_law_due" sDue, defG "_law_whole_parts" sWhole, defG "_law_bent" sBent, defG "_law_nearly" sNearly, defG "_law_value" sValue, defG "law" sLaw, defG "step_parts" sParts, defM "Step" "__init__" "Step.__init__" sInit, defM "Step" "__eq__" "Step.__eq__" sEq]
def globs : List Str := ["_law_pen", "_law_draw", "_law_pick", "_law_text", "_law_all", "_law_text_of", "_law_told", "_law_due", "_law_whole_parts", "_law_bent", "_law_nearly", "_law_value", "law", "step_parts", "WordsError", "BadText", "Step", "NUMBERS", "RESTS", "BARE_KINDS"]
def frees : List Str := ["list", "int", "len", "isinstance", "ValueError", "range", "str", "bool", "tuple"]
def tabs : List He.Tab := [(fun K => ga K "NUMBERS", numL.map (·.1)), (fun K => ga K "RESTS", restL.map (·.1))]
def fas : List Fa := [.cls "Step", .noat "Step" "text", .noat "Step" "kind", .noat "Step" "by", .noat "Step" "rest", .mkr "Step", .meth "Step" "__eq__", .exm "BadText" "WordsError" true]
def numD : List (Str × Dv) := numL.map fun p => (p.1, .int p.2)
def exB (K : PySem.W.Frag) : Bool := globs.all (gloB K) && (frees.all (freB K) && (sus.all (fun d => d.ok PySem.Challenge.pw_allwordlengths_k01_steps_are_read.main.file K) && (fas.all (Fa.ok K) && (tupB K "BARE_KINDS" (bareL.map Dv.str) && (valsB K (ga K "NUMBERS") numD && (keysB K (ga K "NUMBERS") (numL.map (·.1)) &&
  (restB K (ga K "RESTS") && (keysB K (ga K "RESTS") (restL.map (·.1)) && (eqB K (ga K "Step") && (decide (PySem.W.kitOne K (.ref (ga K "BadText")) (.ref (ga K "BadText")) = some true) && decide (PySem.W.kitOne K (.ref (ga K "BadText")) (.type "ValueError") = some true)))))))))))
abbrev R0 : PySem.W.OpenRow := PySem.W.OpenLaw.row PySem.Challenge.rw_allwordlengths_k01_steps_are_read
abbrev hk : PySem.W.Hook := hookZ 5 fns sus tabs exB
def ob (s : PySem.W.SharedT) : AlZ := obsZG 5 fns sus tabs exB (HandSHeadRun.getT s)
theorem ob_eq (s : PySem.W.SharedT) : ob s = hk.obs s.abs := obsZG_eq (HandSHeadRun.getT_eq s)
def loose : List Str := (["_wall", "WordsError", "BadText", "BARE_KINDS", "NUMBERS", "RESTS", "OTHER_KINDS", "Step", "step_parts", "step_text", "is_own_inverse", "_law_pen", "_law_draw", "_law_pick", "_law_text", "_law_all", "_law_text_of", "_law_told", "_law_due", "_law_whole_parts", "_law_bent", "_law_nearly", "_law_value"] : List Str)
theorem run (w : World) : HandSHeadRun.RunEq R0 (PySem.W.view R0.prog [26]) hk ob 8000 loose w :=
  PySem.W.byRow2 "special-get-raises" (P := fun w => HandSHeadRun.RunEq R0 (PySem.W.view R0.prog [26]) hk ob 8000 loose w) (fun w os => by kernel_rfl) (fun w os => by kernel_rfl) w
theorem facts {w : World} {K : PySem.W.Frag} {h : Heap} {mg : Str → Option Value} {f : Addr} (X : K.In h) (G : h.Ns mainGlobals mg) (hfa : mg ("law" : Str) = some (.ref f)) (c : SaysZ fns sus tabs exB w K) :
    ∃ fd : FuncData, (∀ (s : Shared) (v : Value), BindsTo s fd ⟨[v], []⟩ [("_law_script", v)]) ∧ ∀ base : Heap, K.In base → base.Ns mainGlobals mg → FnOk (PySem.Challenge.rw_allwordlengths_k01_steps_are_read).prog w K mg base CX0 6 f fd ["_law_script"] (spLaw K) := by
  obtain ⟨c1, m⟩ := bo c.more
  obtain ⟨c2, m⟩ := bo m
  obtain ⟨c3, m⟩ := bo m
  obtain ⟨c4, m⟩ := bo m
  obtain ⟨c5, m⟩ := bo m
  obtain ⟨c6, m⟩ := bo m
  obtain ⟨c7, m⟩ := bo m
  obtain ⟨c8, m⟩ := bo m
  obtain ⟨c9, m⟩ := bo m
  obtain ⟨c10, m⟩ := bo m
  obtain ⟨c11, c12⟩ := bo m
  have gl : ∀ x ∈ globs, mg x = some (.ref (ga K x)) := fun x hx => glo_of X G (List.all_eq_true.mp c1 x hx)
  have fr : ∀ x ∈ frees, mg x = none := fun x hx => fre_of X G (List.all_eq_true.mp c2 x hx)
  have so : ∀ d ∈ sus, d.ok PySem.Challenge.pw_allwordlengths_k01_steps_are_read.main.file K = true := fun d hd => List.all_eq_true.mp c3 d hd
  have fa : ∀ x ∈ fas, x.ok K = true := fun x hx => List.all_eq_true.mp c4 x hx
  have htop : ((PySem.Challenge.rw_allwordlengths_k01_steps_are_read).prog.main.scope.names.lookup ("super" : Str)).isSome = false := by decide +kernel
  have E0 : Err (PySem.Challenge.rw_allwordlengths_k01_steps_are_read).prog K mg "BadText" "text" "text" (ga K "BadText") := sup_err X G ss0 htop (c.sup 0) (so su0 (by simp [sus]))
  have T : TxtP mg (ga K "_law_draw") := ⟨fr _ (by simp [frees]), fr _ (by simp [frees]), fr _ (by simp [frees]), gl _ (by simp [globs])⟩
  obtain ⟨TE, Te, nS, nN⟩ := eqB_ok c10 (fa _ (by simp [fas]))
  have O : TxtO (PySem.Challenge.rw_allwordlengths_k01_steps_are_read).prog K mg (ga K "Step") (ga K "BadText") (ga K "step_parts") (ma K (ga K "Step") "__init__") :=
    { parts := gl _ (by simp [globs]), bt := E0, cl := cls_ok (fa (.cls "Step") (by simp [fas])), nT := noat_ok (fa (.noat "Step" "text") (by simp [fas])), nK := noat_ok (fa (.noat "Step" "kind") (by simp [fas])), nB := noat_ok (fa (.noat "Step" "by") (by simp [fas])), nR := noat_ok (fa (.noat "Step" "rest") (by simp [fas])), g := gl _ (by simp [globs]), mkr := mkr_ok (fa (.mkr "Step") (by simp [fas])) }
  obtain ⟨eN, nn, kN⟩ := c.tab 0 (t := (fun K => ga K "NUMBERS", numL.map (·.1))) rfl
  obtain ⟨eR, nr, kR⟩ := c.tab 1 (t := (fun K => ga K "RESTS", restL.map (·.1))) rfl
  have TS : TxtS K w mg (ga K "NUMBERS") (ga K "RESTS") (ga K "BARE_KINDS") eN eR nn nr :=
    { isi := fr _ (by simp [frees]), str := fr _ (by simp [frees]), gB := gl _ (by simp [globs]), bare := fun H => tupB_ok c5 H,
      num := { g := gl _ (by simp [globs]), D := kN, no := fun z hz => keysB_ok c7 (lookup_none1 hz), yes := fun z i hz => valsB_ok (q := (z, .int i)) c6 (List.mem_map.mpr ⟨_, lookup_mem1 hz, rfl⟩) },
      rest := { g := gl _ (by simp [globs]), D := kR, no := fun z hz => keysB_ok c9 (lookup_none1 hz), yes := fun z p hz => restB_ok c8 (lookup_mem1 hz) } }
  have kBB := of_decide_eq_true c11
  have kBV := of_decide_eq_true c12
  have xBW := exm_ok (fa (.exm "BadText" "WordsError" true) (by simp [fas]))
  obtain ⟨dPen, DPen⟩ := c.def_ 0 (d := defG "_law_pen" sPen) rfl
  have FPen : Fun K "_law_pen" "_law_pen" sPen (ga K "_law_pen") dPen := fun_of (kws := []) DPen
  have bPen := FPen.binds (ps := ["_law_script"]) fun _ _ _ _ _ _ us hl => match us, hl with | [_], _ => rfl
  obtain ⟨dDraw, DDraw⟩ := c.def_ 1 (d := defG "_law_draw" sDraw) rfl
  have FDraw : Fun K "_law_draw" "_law_draw" sDraw (ga K "_law_draw") dDraw := fun_of (kws := []) DDraw
  have bDraw := FDraw.binds (ps := ["_law_pen_here", "_law_many"]) fun _ _ _ _ _ _ us hl => match us, hl with | [_, _], _ => rfl
  obtain ⟨dPick, DPick⟩ := c.def_ 2 (d := defG "_law_pick" sPick) rfl
  have FPick : Fun K "_law_pick" "_law_pick" sPick (ga K "_law_pick") dPick := fun_of (kws := []) DPick
  have bPick := FPick.binds (ps := ["_law_pen_here", "_law_some"]) fun _ _ _ _ _ _ us hl => match us, hl with | [_, _], _ => rfl
  obtain ⟨dText, DText⟩ := c.def_ 3 (d := defG "_law_text" sText) rfl
  have FText : Fun K "_law_text" "_law_text" sText (ga K "_law_text") dText := fun_of (kws := []) DText
  have bText := FText.binds (ps := ["_law_step"]) fun _ _ _ _ _ _ us hl => match us, hl with | [_], _ => rfl
  obtain ⟨dAll, DAll⟩ := c.def_ 4 (d := defG "_law_all" sAll) rfl
  have FAll : Fun K "_law_all" "_law_all" sAll (ga K "_law_all") dAll := fun_of (kws := []) DAll
  have bAll := FAll.binds (ps := []) fun _ _ _ _ _ _ us hl => match us, hl with | [], _ => rfl
  obtain ⟨dTextOf, DTextOf⟩ := c.def_ 5 (d := defG "_law_text_of" sTextOf) rfl
  have FTextOf : Fun K "_law_text_of" "_law_text_of" sTextOf (ga K "_law_text_of") dTextOf := fun_of (kws := []) DTextOf
  have bTextOf := FTextOf.binds (ps := ["_law_e"]) fun _ _ _ _ _ _ us hl => match us, hl with | [_], _ => rfl
  obtain ⟨dTold, DTold⟩ := c.def_ 6 (d := defG "_law_told" sTold) rfl
  have FTold : Fun K "_law_told" "_law_told" sTold (ga K "_law_told") dTold := fun_of (kws := []) DTold
  have bTold := FTold.binds (ps := ["_law_text_here"]) fun _ _ _ _ _ _ us hl => match us, hl with | [_], _ => rfl
  obtain ⟨dDue, DDue⟩ := c.def_ 7 (d := defG "_law_due" sDue) rfl
  have FDue : Fun K "_law_due" "_law_due" sDue (ga K "_law_due") dDue := fun_of (kws := []) DDue
  have bDue := FDue.binds (ps := ["_law_text_here", "_law_known"]) fun _ _ _ _ _ _ us hl => match us, hl with | [_, _], _ => rfl
  obtain ⟨dWhole, DWhole⟩ := c.def_ 8 (d := defG "_law_whole_parts" sWhole) rfl
  have FWhole : Fun K "_law_whole_parts" "_law_whole_parts" sWhole (ga K "_law_whole_parts") dWhole := fun_of (kws := []) DWhole
  have bWhole := FWhole.binds (ps := ["_law_told_here"]) fun _ _ _ _ _ _ us hl => match us, hl with | [_], _ => rfl
  obtain ⟨dBent, DBent⟩ := c.def_ 9 (d := defG "_law_bent" sBent) rfl
  have FBent : Fun K "_law_bent" "_law_bent" sBent (ga K "_law_bent") dBent := fun_of (kws := []) DBent
  have bBent := FBent.binds (ps := ["_law_pen_here", "_law_text_here"]) fun _ _ _ _ _ _ us hl => match us, hl with | [_, _], _ => rfl
  obtain ⟨dNearly, DNearly⟩ := c.def_ 10 (d := defG "_law_nearly" sNearly) rfl
  have FNearly : Fun K "_law_nearly" "_law_nearly" sNearly (ga K "_law_nearly") dNearly := fun_of (kws := []) DNearly
  have bNearly := FNearly.binds (ps := ["_law_pen_here"]) fun _ _ _ _ _ _ us hl => match us, hl with | [_], _ => rfl
  obtain ⟨dValue, DValue⟩ := c.def_ 11 (d := defG "_law_value" sValue) rfl
  have FValue : Fun K "_law_value" "_law_value" sValue (ga K "_law_value") dValue := fun_of (kws := []) DValue
  have bValue := FValue.binds (ps := ["_law_pen_here", "_law_known"]) fun _ _ _ _ _ _ us hl => match us, hl with | [_, _], _ => rfl
  obtain ⟨dLaw, DLaw⟩ := c.def_ 12 (d := defG "law" sLaw) rfl
  have FLaw : Fun K "law" "law" sLaw (ga K "law") dLaw := fun_of (kws := []) DLaw
  have bLaw := FLaw.binds (ps := ["_law_script"]) fun _ _ _ _ _ _ us hl => match us, hl with | [_], _ => rfl
  obtain ⟨dParts, DParts⟩ := c.def_ 13 (d := defG "step_parts" sParts) rfl
  have FParts : Fun K "step_parts" "step_parts" sParts (ga K "step_parts") dParts := fun_of (kws := []) DParts
  have bParts := FParts.binds (ps := ["text"]) fun _ _ _ _ _ _ us hl => match us, hl with | [_], _ => rfl
  obtain ⟨dInit, DInit⟩ := c.def_ 14 (d := defM "Step" "__init__" "Step.__init__" sInit) rfl
  have FInit : Fun K "__init__" "Step.__init__" sInit (ma K (ga K "Step") "__init__") dInit := fun_of (kws := []) DInit
  have bInit := FInit.binds (ps := ["self", "text"]) fun _ _ _ _ _ _ us hl => match us, hl with | [_, _], _ => rfl
  obtain ⟨dEq, DEq⟩ := c.def_ 15 (d := defM "Step" "__eq__" "Step.__eq__" sEq) rfl
  have FEq : Fun K "__eq__" "Step.__eq__" sEq (ma K (ga K "Step") "__eq__") dEq := fun_of (kws := []) DEq
  have bEq := FEq.binds (ps := ["self", "other"]) fun _ _ _ _ _ _ us hl => match us, hl with | [_, _], _ => rfl
  have e := hfa.symm.trans (gl "law" (by simp [globs]))
  cases e
  refine ⟨dLaw, fun s v => by
      have hb := FunD.bindsA (ps := ["_law_script"]) DLaw fun _ _ _ _ _ _ us hl => match us, hl with | [_], _ => rfl
      exact hb s [v] rfl, fun base _ _ => ?_⟩
  have GI := ok_init (w := w) (base := base) FInit O TS FParts bParts
  have GT := ok_textOf (P := (PySem.Challenge.rw_allwordlengths_k01_steps_are_read).prog) (w := w) (base := base) FTextOf E0 (fr _ (by simp [frees])) kBB
  have GAll := ok_all (P := (PySem.Challenge.rw_allwordlengths_k01_steps_are_read).prog) (w := w) (base := base) FAll (fr _ (by simp [frees])) (fr _ (by simp [frees])) (fr _ (by simp [frees])) (gl _ (by simp [globs])) FText bText
  have GValue := ok_value (P := (PySem.Challenge.rw_allwordlengths_k01_steps_are_read).prog) (w := w) (base := base) FValue T (fr _ (by simp [frees])) FDraw bDraw FPick bPick (gl _ (by simp [globs])) FBent bBent (gl _ (by simp [globs])) FNearly bNearly (gl _ (by simp [globs]))
  have GTold := ok_told (CW := ga K "WordsError") FTold O (gl _ (by simp [globs])) (fr _ (by simp [frees])) (fr _ (by simp [frees])) (fr _ (by simp [frees])) GI bInit GT (gl _ (by simp [globs])) FTextOf.kp bTextOf kBB kBV xBW
  have GDue := ok_due (P := (PySem.Challenge.rw_allwordlengths_k01_steps_are_read).prog) (w := w) (base := base) FDue (fr _ (by simp [frees])) (fr _ (by simp [frees]))
  have GWhole := ok_whole (P := (PySem.Challenge.rw_allwordlengths_k01_steps_are_read).prog) (w := w) (base := base) FWhole (fr _ (by simp [frees])) (fr _ (by simp [frees])) (fr _ (by simp [frees])) (fr _ (by simp [frees]))
  have GE := ok_eq (w := w) (base := base) FEq O Te (fr _ (by simp [frees]))
  exact ok_law FLaw T (fr _ (by simp [frees])) FPen bPen (gl _ (by simp [globs])) FDraw bDraw FPick bPick (gl _ (by simp [globs])) FAll bAll (gl _ (by simp [globs])) GAll FValue bValue (gl _ (by simp [globs])) GValue FTold bTold (gl _ (by simp [globs])) GTold FDue bDue (gl _ (by simp [globs])) GDue FWhole bWhole (gl _ (by simp [globs])) GWhole O GI bInit TE GE bEq nS nN
end Aw


open PySem PySem.W PySem.Calls PyProof.Rows
set_option maxRecDepth 100000 in
set_option maxHeartbeats 0 in
theorem PySem.Challenge.cw_allwordlengths_k01_steps_are_read_holds : PySem.Challenge.rw_allwordlengths_k01_steps_are_read.Holds := by
  w_on; o_law
  refine HandSHeadRun.head_any (r := OpenLaw.row PySem.Challenge.rw_allwordlengths_k01_steps_are_read) (q := view (OpenLaw.row PySem.Challenge.rw_allwordlengths_k01_steps_are_read).prog [26]) (H := Aw.hk) (ob := Aw.ob) (M := 8000) (loose := Aw.loose) (d := HandSHeadRun.topDef (OpenLaw.row PySem.Challenge.rw_allwordlengths_k01_steps_are_read).prog 26) (kwd := []) Aw.ob_eq
    (by kernel_rfl) (fun s => by kernel_rfl) Aw.run (by kernel_rfl) (by kernel_rfl) (by kernel_rfl) (by rfl) (by first | assumption | decide +kernel) (by decide +kernel) ⟨rfl, rfl, rfl, rfl, rfl, by decide +kernel⟩ ?hw ?hc
  case hw => w_witness2
  case hc =>
    refine L2.walk_ofE (l := PySem.Challenge.rw_allwordlengths_k01_steps_are_read) (n := 63) (k := 6) (x := "_law_script") (CX := L2.CX0) rfl (by decide) (by kernel_rfl) ⟨rfl, by decide, by decide⟩ ?F (fun _ _ _ _ z => z)
    intro w mg fa h Y G hmg0
    obtain ⟨K, KX, c⟩ := Y
    have hmg : mg ("law" : PySem.Str) = some (.ref fa) := by
      have e : (HandSHeadRun.topDef (OpenLaw.row PySem.Challenge.rw_allwordlengths_k01_steps_are_read).prog 26).name = ("law" : PySem.Str) := by kernel_rfl
      rw [← e]
      exact hmg0
    obtain ⟨fd, hb, hF⟩ := Aw.facts (w := w) KX G hmg c
    exact ⟨K, fd, Aw.spLaw K, KX, hb, fun H a ns hl _ hS => ⟨a, ns, rfl, hS, hl, fun _ => rfl⟩, hF⟩
#print axioms PySem.Challenge.cw_allwordlengths_k01_steps_are_read_holds

