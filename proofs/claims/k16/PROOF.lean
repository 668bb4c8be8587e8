import PyProof.Rows.All
import Wide.All
import OpenK.AllK
import Wide.FinOn
import KE.KExcSuper
import KE.KExcIs
import HandS.ForMost
import HandS.ForSpec
import HandS.ExcInit
import HandS.Nested
import HandS.IsInst
import HandS.HotCalls
import HandS.ExcValue
import HandS.ExcIs
import HandS.ExcField
import HandS.Head0
import HandS.Head1
import HandS.Head2
import HandS.HeadNt
import HandS.HeadEnd
import HandS.HeadHook4
import HandS.WrittenGet
import HandS.Style
import HandS.FStr
import HandS.Conv
import HandS.OwnEq
import HandS.Defaults
import HandS.MakeKw
import KE.GoesMore
import HandS.ClsMeth
import HandS.IterVal
import HandS.CallSlots
import HandS.Star
import HandS.More
import HandS.WideBits
import HandS.TupAny
import HandS.Codes
import HandS.StrMore
import KE.KxField
import HandS.Wide
import HandS.Remove
import HandS.Flow
import HandS.Rev
import HandS.MakeKw
import HandS.Defaults
import HandS.Lambda
import HandS.EndTab
import HandS.HeadWalk
import PySem.Challenge.RW_allwordlengths_k16_marks_that_are_refuse
set_option Elab.async false
set_option linter.all false
set_option maxRecDepth 100000
set_option maxHeartbeats 4000000
namespace Aw
open PySem PySem.Spec PyProof.Rows L2 NdefX

def supBody (z y fld : Str) (j : Nat) (p0 p1 p2 p3 p4 p5 p6 p7 p8 p9 : Pos) : List Stmt :=
  [.Expr (.Call (.Attribute (.Call (.Name "super" p0) [] [] p1) "__init__" p2) [.Constant (.str z) j p3] [] p4) p5,
   .Assign [.Attribute (.Name "self" p6) fld p7] (.Name y p8) p9]

/-- the promise of such an __init__ -/
def spSup (C : Addr) (fld : Str) : Sp := fun vs H Q _ => ∃ (a : Addr) (v : V), vs = [.ref a, v] ∧ H a = some (exo a C none) ∧
  ∀ dx, H dx = none → dx ≠ a → Q .non (upd (upd H dx (exd dx [(fld, v)])) a (exo a C (some dx)))

/-- what the written part says of the class's __init__ -/
structure SupTxt (P : Program) (K : PySem.W.Frag) (mg : Str → Option Value) (C f cc cda : Addr) (qual y fld : Str) (args : Arguments) (body : List Stmt) (scope : Scope) (fd : FuncData) : Prop where
  T : OexC K C
  fdE : ∃ dV kV doc pm an ct, fd = PySem.W.fnX "__init__" qual args body scope [("__class__", cc)] dV kV doc pm an (.ref cda) ct
  lk : ∃ oc od osl, K.lookup f = some ⟨oc, od, .func fd, osl⟩
  cd : PySem.W.codeIn K (.ref cda) qual = true
  file : ∃ ccl cdd vs ccs fl tf, K.lookup cda = some ⟨ccl, cdd, .fields vs, ccs⟩ ∧ vs[2]? = some (.str fl tf) ∧ ((P.main.file : Str) == fl) = true
  cell : ∃ cl cld csl, K.lookup cc = some ⟨cl, cld, .cell (some (.ref C)), csl⟩
  hm : PySem.W.ks_superIn K C C "__init__" = some (some (.builtin "ValueError.__init__"))
  hB : PySem.W.subIn K (.ref C) (.type "ValueError") = some true
  hself : PySem.W.mroIn K C (.ref C) = some true
  ho : PySem.W.nsIn K cStatics "thirdparty.any" = some none
  hno : PySem.W.findIn K (.ref C) fld = some none
  hsup : mg "super" = none
  htop : (P.main.scope.names.lookup ("super" : Str)).isSome = false
  bd : ∃ z j p0 p1 p2 p3 p4 p5 p6 p7 p8 p9, body = supBody z y fld j p0 p1 p2 p3 p4 p5 p6 p7 p8 p9 ∧ (p2.endLine == p4.line) = true
  ar : (args.posonlyargs ++ args.args).head?.map (·.arg) = some "self"
  sc : NScope ["self", y, "__class__"] ["self", y] ["__class__"] scope
  scs : scope.names.lookup ("super" : Str) = some .globalImplicit
  ny : (y == ("__debug__" : Str)) = false ∧ (y == ("__classdict__" : Str)) = false

section
variable {X : Cx} {C f cc cda a : Addr} {v : V} {y fld z : Str} {j : Nat} {p0 p1 p2 p3 p4 p5 p6 p7 p8 p9 : Pos} {H : Hp} {s : Shared} {fd : FuncData} {body : List Stmt} {D : Ends} {Q : Flow → Shared → Prop}
/-- what the body's context is -/
structure SupCx (X : Cx) (C f cc cda : Addr) (y : Str) (fd : FuncData) : Prop where
  n0 : X.N[0]? = some ("self" : Str)
  n1 : X.N[1]? = some y
  ks : X.env.kindOf "super" = some .globalImplicit
  kc : X.env.kindOf "__class__" = some .free
  k0 : X.env.kindOf "self" = some .local
  k1 : X.env.kindOf y = some .local
  fn : X.env.func = some f
  co : X.env.code = .ref cda
  ce : X.env.cells = ([("__class__", cc)] : List (Str × Addr))
  lk : ∃ oc od osl, X.K.lookup f = some ⟨oc, od, .func fd, osl⟩
  ar : (fd.params.posonlyargs ++ fd.params.args).head?.map (·.arg) = some "self"
  file : ∃ ccl cdd vs ccs fl tf, X.K.lookup cda = some ⟨ccl, cdd, .fields vs, ccs⟩ ∧ vs[2]? = some (.str fl tf) ∧ ((X.prog.main.file : Str) == fl) = true
  cell : ∃ cl cld csl, X.K.lookup cc = some ⟨cl, cld, .cell (some (.ref C)), csl⟩
  hm : PySem.W.ks_superIn X.K C C "__init__" = some (some (.builtin "ValueError.__init__"))
  hB : PySem.W.subIn X.K (.ref C) (.type "ValueError") = some true
  hself : PySem.W.mroIn X.K C (.ref C) = some true
  ho : PySem.W.nsIn X.K cStatics "thirdparty.any" = some none
  hsup : X.mg "super" = none
  htop : (X.prog.main.scope.names.lookup ("super" : Str)).isSome = false
  T : OexC X.K C

theorem sup_eval {env : Env} (hp : (p2.endLine == p4.line) = true) : eval (.Call (.Attribute (.Call (.Name "super" p0) [] [] p1) "__init__" p2) [.Constant (.str z) j p3] [] p4) env = (do
      let ov ← attributeBase (.Call (.Name "super" p0) [] [] p1) "__init__" env (eval (.Call (.Name "super" p0) [] [] p1) env)
      standAt p2.atName
      let (f, first) ← holding [ov] (getMethod ov "__init__" (do return (← importBound (.Call (.Name "super" p0) [] [] p1) env).getD true))
      callWith p4 f first (backTo p4 (starEach [.Constant (.str z) j p3] env)) []) := by
  have e : ∀ few, methodCallPos few (.Call (.Name "super" p0) [] [] p1) env p2 p4 = pure p4 := fun few => by
    unfold methodCallPos
    rw [hp, Bool.or_true]
    rfl
  rw [eval]
  unfold methodCall
  simp only [e]
  rfl
theorem sup_first (hp4 : (p2.endLine == p4.line) = true) (S : SupCx X C f cc cda y fd) (I : Inv X [] [some (V.ref a), some v, some (V.ref C)] H s) (ha : H a = some (exo a C none))
    (h : ∀ s', Inv X [] [some (V.ref a), some v, some (V.ref C)] H s' → Q .next s') : 
    PySem.wpAt (model X.prog X.w) X.A (.func body X.env) (exec (.Expr (.Call (.Attribute (.Call (.Name "super" p0) [] [] p1) "__init__" p2) [.Constant (.str z) j p3] [] p4) p5) X.env) Q X.xe s := by
  obtain ⟨oc, od, osl, lk⟩ := S.lk
  obtain ⟨ccl, cdd, fvs, ccs, fl, tf, lkc, hvs, hfile⟩ := S.file
  obtain ⟨cl, cld, csl, lkcc⟩ := S.cell
  obtain ⟨ar, har, harg⟩ : ∃ ar : Arg, (fd.params.posonlyargs ++ fd.params.args).head? = some ar ∧ ar.arg = "self" := by
    have h := S.ar
    cases e : (fd.params.posonlyargs ++ fd.params.args).head? with
    | none => rw [e] at h; cases h
    | some ar => rw [e] at h; exact ⟨ar, rfl, Option.some.inj h⟩
  obtain ⟨nm, q, N, bs, bm, sn, sub, ab, col, dd, k0, k1, k2, k3, k5, hC, hbm⟩ := S.T.cls
  have hcl : PySem.W.clsIn X.K C = some { name := nm, bases := bs, mro := .ref C :: bm, ns := N, qualname := q, hasDict := true, slotNames := sn, subclasses := sub, abstract := ab, collection := col, hasDel := false } := by unfold PySem.W.clsIn; rw [hC] <;> rfl
  have KX := I.kIn
  have hCs := KX _ _ hC
  obtain ⟨t1, hoa⟩ := exo_at I.hok ha
  refine PySem.ks_wpAt_Expr_any (PySem.ks_wpAt_MethodCall (PySem.ks_wpAt_super_base S.ks S.kc (by decide) S.fn (KX _ _ lk) rfl har S.co (KX _ _ lkc) rfl hvs hfile S.htop ?_) (sup_eval hp4)) I.quiet (by rfl)
  obtain ⟨mb, hb1, hb2⟩ := I.mod.blt
  refine PySem.W.ks_loadName_global I.ok.kind S.ks (Calls.loadGlobal_builtin (by rw [I.ok.glob]; exact I.mod.glob.keeps I.bk) S.hsup (by rw [I.ok.blt]; exact hb1.keeps I.bk) ((hb2 _ (by decide)).trans (by decide +kernel : bootBuiltins "super" = some (.type "super"))) ⟨rfl, ?_⟩)
  refine wpAny_loadName_free I.ok.kind S.kc (by rw [S.ce]; rfl) ⟨_, KX _ _ lkcc, rfl⟩ ?_
  rw [harg]
  obtain ⟨m, hm, hl⟩ := I.loc
  obtain ⟨u0, ru0, lu0⟩ := hl 0 "self" (V.ref a) S.n0 rfl (.inl S.k0)
  obtain rfl : u0 = Value.ref a := ru0
  have hms : m "self" = some (.ref a) := by
    rcases lu0 with ⟨_, h⟩ | ⟨h, _⟩
    · exact h
    · rw [S.k0] at h
      rcases h with h | h <;> cases h
  refine wpAny_loadName_local I.ok.kind S.k0 hm hms ?_
  refine PySem.ks_wpAny_isType_cls hCs rfl ⟨rfl, ?_⟩
  obtain ⟨hp, g, dr, tk, os⟩ := s
  refine PySem.ks_wpAny_call_super hCs rfl hoa rfl (fun c e => by cases e) (PySem.W.looks_mroIn KX S.hself) (fun h' e k => ?_)
  have I1 := I.kept (t' := tk) k
  have hoa' := k _ _ hoa
  have KX' := I1.kIn
  have hnaC : a ≠ C := fun z => by
    have q1 := (I.bs C _ (I.ok.mod.kin _ _ hC)).2
    rw [← z, ha] at q1
    cases q1
  have J : PySem.W.InstAt h' a { cls := .ref C, dict := none, data := .fields #[.ref t1, .none, .none, .none, .bool false, .none] } C none := ⟨hoa', rfl, rfl, trivial⟩
  have hsup := S.hm
  unfold PySem.W.ks_superIn at hsup
  rw [hcl] at hsup
  refine PySem.W.kxs_getMethod PySem.W.kxs_ValueError e (PySem.W.looks_opaque KX' S.ho) (fun A Q E s k q => wpAny_bind ((PySem.W.looks_clsIn KX' hcl) A _ E s k (wpAny_pure q))) rfl KX' hsup (J.type.andThen (PySem.W.looks_subIn KX' S.hB)) hnaC (by decide) ?_
  have k2 : ∀ b o, h'.get? b = some o → (h'.push (PySem.W.kxs_mw "ValueError.__init__" a)).get? b = some o := fun b o e => Heap.get?_push_of_some _ e
  have hu : (h'.push (PySem.W.kxs_mw "ValueError.__init__" a)).get? h'.objs.size = some (PySem.W.kxs_mw "ValueError.__init__" a) := Heap.get?_push_at rfl rfl
  have I2 := I1.kept (t' := tk + 1) k2
  have I3 : Inv X [(h'.objs.size, PySem.W.kxs_mw "ValueError.__init__" a)] [some (V.ref a), some v, some (V.ref C)] H ⟨h'.push (PySem.W.kxs_mw "ValueError.__init__" a), g, dr, tk + 1, os⟩ := I2.pins_of fun p hp => by
    have ep : p = (h'.objs.size, PySem.W.kxs_mw "ValueError.__init__" a) := by simpa using hp
    subst ep
    exact ⟨hu, I1.hok.fresh (Nat.le_refl _), Nat.ne_of_gt I1.lt, I1.nofs (Nat.le_refl _), fun v => by simp [PySem.W.kxs_mw]⟩
  refine PySem.W.kxs_callWith (i := "ValueError.__init__") (x := a) rfl (PySem.Calls.evalArgs_plain (thn ((pa_cons pe_str pa_nil).run p4 [(h'.objs.size, PySem.W.kxs_mw "ValueError.__init__" a)] _ _ H (fun vs H1 => H1 = H ∧ vs = [V.str z]) I3 ⟨rfl, rfl⟩) fun us s1 hq => ?_))
  obtain ⟨vs, H1, I4, rv, rfl, rfl⟩ := hq
  have hu4 := (I4.pin (h'.objs.size, PySem.W.kxs_mw "ValueError.__init__" a) (List.mem_append_right _ List.mem_cons_self)).1
  refine ⟨hu4, ?_⟩
  have I5 : Inv X [] [some (V.ref a), some v, some (V.ref C)] H1 s1 := I4.pins_of fun p hp => by cases hp
  obtain ⟨t5, hoa5⟩ := exo_at I5.hok ha
  have hC5 := I5.kIn _ _ hC
  have hlen : us.length ≤ sizeLine := by
    rw [← Paired.length rv, sizeLine_eq]
    show 1 ≤ 16777216
    decide
  obtain ⟨hp5, g5, dr5, tk5, os5⟩ := s1
  show wpAny (model X.prog X.w) X.A (call (Value.ref h'.objs.size) us) _ _ _
  refine wpAny_call (codeAny_of_tree ?_)
  show wpAny _ X.A.in1 (callAny (.ref h'.objs.size) ⟨us, []⟩) _ _ _
  simp only [callAny]
  refine wpAny_bind (wpAny_load hu4 ?_)
  simp only [PySem.W.kxs_mw, show (Value.type "method-wrapper" == Value.type "method" || Value.type "method-wrapper" == Value.type "builtin_function_or_method" || Value.type "method-wrapper" == Value.type "method-wrapper") = true by decide, if_true]
  refine PySem.W.KFB.if_so (by decide) ?_
  refine wpAny_bind (PySem.W.check_bound_init F.excBase_ValueError.toExcCallFacts hC5 hoa5 rfl ?_)
  refine wpAny_bind (wpAny_pure (wpAny_pure ?_))
  refine ⟨plainId_quiet F.excBase_ValueError.init.plain _, codeAny_builtin F.excBase_ValueError.initEntry ?_⟩
  refine PySem.W.exc_init_tree (cls := .ref C) (t0 := t5) (dv := none) (c2 := .none) (c3 := .none) (b4 := .bool false) hoa5 hlen fun h6 k6 e6 _ => ?_
  have J6 := I5.write (t' := tk5) (x := a) (e := a) (o := exo a C none) (by rw [ha]; exact True.intro) (.inl rfl) k6 ⟨_, e6⟩ (exo_ok e6)
  have eu : upd H1 a (exo a C none) = H1 := by
    funext b
    by_cases hb : b = a
    · rw [hb, upd_same, ha]
    · rw [upd_ne hb]
  rw [eu] at J6
  exact h _ J6
end

section
variable {P : Program} {w : World} {K : PySem.W.Frag} {mg : Str → Option Value} {base : Heap} {C f cc cda : Addr} {qual y fld : Str} {args : Arguments} {body : List Stmt} {scope : Scope} {fd : FuncData}
theorem ok_sup (S : SupTxt P K mg C f cc cda qual y fld args body scope fd) : FnOk P w K mg base CX0 1 f fd ["self", y] (spSup C fld) := by
  refine ⟨fun vs H Q E h => ?_, fun A outer s H as us vs Q E hr e0 hb r hsp => ?_⟩
  · obtain ⟨a, v, rfl, _⟩ := h
    rfl
  obtain ⟨a, v, rfl, ha, q⟩ := hsp
  obtain ⟨dV, kV, doc, pm, an, ct, rfl⟩ := S.fdE
  obtain ⟨oc, od, osl, lk⟩ := S.lk
  obtain ⟨ccl, cdd, fvs, ccs, fl, tf, lkc, hvs, hfile⟩ := S.file
  obtain ⟨cl, cld, csl, lkcc⟩ := S.cell
  obtain ⟨z, j, p0, p1, p2, p3, p4, p5, p6, p7, p8, p9, rfl, hp4⟩ := S.bd
  obtain ⟨ar, har, harg⟩ : ∃ ar : Arg, (args.posonlyargs ++ args.args).head? = some ar ∧ ar.arg = "self" := by
    have h := S.ar
    cases e : (args.posonlyargs ++ args.args).head? with
    | none => rw [e] at h; cases h
    | some ar => rw [e] at h; exact ⟨ar, rfl, Option.some.inj h⟩
  have KX : K.In s.heap := e0.mod.kin.keeps fun b o e => (e0.bs b o e).1
  have lim : s.heap.NoLimit := e0.mod.nolimit.keeps fun b o e => (e0.bs b o e).1
  have hcc : H cc = none := (e0.bs cc _ (e0.mod.kin _ _ lkcc)).2
  have hC0 : H C = none := by
    obtain ⟨nm, q, N, bs, bm, sn, sub, ab, col, dd, k0, k1, k2, k3, k5, hC, hbm⟩ := S.T.cls
    exact (e0.bs C _ (e0.mod.kin _ _ hC)).2
  have r' := r
  let F : NF := ⟨"__init__", qual, args, supBody z y fld j p0 p1 p2 p3 p4 p5 p6 p7 p8 p9, scope, [("__class__", cc)], cda⟩
  have Ce : CellsAt F.cl ["__class__"] [some (V.ref C)] s.heap H := by
    have one : ∀ (x : Str) (c : Addr), ([("__class__", cc)] : List (Str × Addr)).lookup x = some c → x = "__class__" ∧ c = cc := fun x c e => by
      have h := PySem.mem_of_lookup e
      simp at h
      exact h
    refine ⟨rfl, fun x c e => ?_, fun x1 x2 c e1 e2 => ?_, fun i x e => ?_⟩
    · obtain ⟨_, rfl⟩ := one x c e
      exact ⟨hcc, _, _, KX _ _ lkcc, rfl⟩
    · rw [(one _ _ e1).1, (one _ _ e2).1]
    · cases i with
      | zero =>
        have e' : ("__class__" : Str) = x := Option.some.inj e
        subst e'
        refine ⟨cc, by simp [F, List.lookup], fun v e => ?_⟩
        have e'' : V.ref C = v := Option.some.inj (Option.some.inj e)
        subst e''
        exact ⟨.ref C, rfl, _, KX _ _ lkcc, rfl⟩
      | succ i => simp at e
  refine PySem.ks_codeAny_call_defAt (fd := PySem.W.fnX "__init__" qual args (supBody z y fld j p0 p1 p2 p3 p4 p5 p6 p7 p8 p9) scope [("__class__", cc)] dV kV doc pm an (.ref cda) ct) (body := supBody z y fld j p0 p1 p2 p3 p4 p5 p6 p7 p8 p9) (binds := (["self", y] : List Str).zip us)
    hr.depth (KX _ _ lk) rfl lim (PySem.W.codeRec_of KX S.cd) rfl hb S.sc.nocell (fun ⟨n, _⟩ hy => S.sc.par n (List.of_mem_zip hy).1) (fun h₁ hns kp => ?_) S.sc.co S.sc.gen S.sc.kind
  have I : Inv (ncx CX0 P w K mg base ["self", y, "__class__"] F f A outer s H E) [] (startF ["self", y, "__class__"] [V.ref a, v] [some (V.ref C)]) H { s with heap := h₁, toks := s.toks + ((["self", y] : List Str).zip us).length } := inv_startN S.sc hr.hd e0 rfl r Ce hns kp
  show PySem.wpAt (model P w) (A.deeper (envF F f s.heap.objs.size)) (.func F.body (envF F f s.heap.objs.size)) (execs F.body (envF F f s.heap.objs.size)) _ (ncx CX0 P w K mg base ["self", y, "__class__"] F f A outer s H E).xe _
  have SC : SupCx (ncx CX0 P w K mg base ["self", y, "__class__"] F f A outer s H E) C f cc cda y (PySem.W.fnX "__init__" qual args (supBody z y fld j p0 p1 p2 p3 p4 p5 p6 p7 p8 p9) scope [("__class__", cc)] dV kV doc pm an (.ref cda) ct) := {
    n0 := rfl, n1 := rfl, ks := S.scs, kc := S.sc.frk _ List.mem_cons_self, k0 := S.sc.par _ List.mem_cons_self, k1 := S.sc.par _ (List.mem_cons_of_mem _ List.mem_cons_self), fn := rfl, co := rfl, ce := rfl,
    lk := ⟨oc, od, osl, lk⟩, ar := S.ar, file := ⟨ccl, cdd, fvs, ccs, fl, tf, lkc, hvs, hfile⟩, cell := ⟨cl, cld, csl, lkcc⟩, hm := S.hm, hB := S.hB, hself := S.hself, ho := S.ho, hsup := S.hsup, htop := S.htop, T := S.T }
  refine PySem.ks_wpAt_execs_cons (sup_first hp4 SC I ha fun s' I' => ?_)
  refine PySem.ks_wpAt_execs_cons (wpAt_of_wpAny (wpAny_mono ((ps_ost (f := fld) (pe_var (i := 0) rfl (.inl SC.k0)) (pe_var (i := 1) rfl (.inl SC.k1) S.ny.1 S.ny.2)).run [] s' _ H { nx := fun _ H' => Q .non H', rt := fun _ _ => False } I' ?_) (fun fl s2 hs => ?_) fun _ _ z => z))
  · exact ⟨v, rfl, V.ref a, rfl, a, C, rfl, S.T, S.hno, .inl ⟨ha, fun dx hd hne => q dx hd hne⟩⟩
  · cases fl with
    | next =>
      obtain ⟨σ', H', J, hq⟩ := hs
      refine wpAt_of_wpAny (wpAny_pure ?_)
      exact ⟨V.non, H', J.os, J.bare, J.base, J.hok, rfl, hq⟩
    | ret u => obtain ⟨_, _, _, _, _, q⟩ := hs; exact False.elim q
    | brk => obtain ⟨_, _, _, q⟩ := hs; exact False.elim q
    | cont => obtain ⟨_, _, _, q⟩ := hs; exact False.elim q
end
end Aw

namespace Aw
open PySem PySem.Spec PyProof.Rows L2 NdefX
abbrev St := L2.St

/-! ### X(v) made: raised, or held as a value -/
/-- what pmk_oex asks behind the argument, answered -/
theorem mkS_ans {C : Addr} {fld : Str} {v : V} {H1 : Hp} {Q : XK} (q : ∀ d, H1 d = none → Q (.ref C) (some d) (upd H1 d (.xd [(fld, v)]))) :
    ([v] : List V).length ≤ 1000 ∧ ∀ a, H1 a = none → spSup C fld (.ref a :: ([v] ++ [])) (upd H1 a (exo a C none))
      (fun v H2 => v = .non ∧ ∃ (d : Addr) (fs : List (Str × V)), H2 a = some (exo a C (some d)) ∧ H2 d = some (exd d fs) ∧ H1 d = none ∧ Q (.ref C) (some d) (upd (del H2 a) d (.xd fs))) (fun _ _ _ => False) := by
  refine ⟨by show 1 ≤ 1000; decide, fun a hn => ⟨a, v, rfl, upd_same, fun dx hd hne => ⟨rfl, dx, [(fld, v)], upd_same, ?_, ?_, ?_⟩⟩⟩
  · rw [upd_ne hne, upd_same]
  · have := hd
    rw [upd_ne hne] at this
    exact this
  · have hd' : H1 dx = none := by
      have := hd
      rw [upd_ne hne] at this
      exact this
    have eh : upd (del (upd (upd (upd H1 a (exo a C none)) dx (exd dx [(fld, v)])) a (exo a C (some dx))) a) dx (.xd [(fld, v)]) = upd H1 dx (.xd [(fld, v)]) := by
      funext b
      by_cases hb : b = dx
      · rw [hb, upd_same, upd_same]
      · rw [upd_ne hb, upd_ne hb]
        by_cases hba : b = a
        · rw [hba, del_same, hn]
        · rw [del_ne hba, upd_ne hba, upd_ne hb, upd_ne hba]
    rw [eh]
    exact q dx hd'
section
variable {X : Cx} {C f cc cda : Addr} {qual y fld x : Str} {args : Arguments} {body : List Stmt} {scope : Scope} {fd : FuncData} {e : Expr} {es : List Expr} {ta : TA} {p pos : Pos}
/-- X(v), to be raised: the reading is tMkO C (spSup C fld) [] ta; behind the argument: mkS_ans -/
theorem pmk_sup (S : SupTxt X.prog X.K X.mg C f cc cda qual y fld args body scope fd) (iC : PySem.W.findIn X.K (.ref C) "__init__" = some (some (.ref f))) (tI : PySem.W.typeIn X.K (.ref f) = some (.type "function"))
    (hb : Binds X.K fd ["self", y] []) (hr : Room 2 X.A) (hg : Gl X x) (hm : X.mg x = some (.ref C)) (ha : PA X (e :: es) ta)
    (hdb : (x == ("__debug__" : Str)) = false := by decide) (he : starEach (e :: es) X.env = (false, eval e X.env) :: starEach es X.env := by rfl) (hpl : (backTo pos (starEach es X.env)).any (·.1) = false := by rfl) :
    PMk X (.Call (.Name x p) (e :: es) [] pos) (tMkO C (spSup C fld) [] ta) :=
  pmk_oex (ds := []) (dvs := []) (CX := CX0) S.T iC tI (ok_sup S) hr hb .nil pass0 hg hm ha hdb he hpl

/-- X(v) as a value -/
def tVaS (C : Addr) (fld : Str) (ta : TA) : TE := fun σ H Q => ta σ H fun vs H1 => ∃ v, vs = [v] ∧ ∀ a d, H1 a = none → H1 d = none → d ≠ a → Q (.ref a) (upd (upd H1 d (exd d [(fld, v)])) a (exo a C (some d)))
theorem pe_sup (S : SupTxt X.prog X.K X.mg C f cc cda qual y fld args body scope fd) (iC : PySem.W.findIn X.K (.ref C) "__init__" = some (some (.ref f))) (tI : PySem.W.typeIn X.K (.ref f) = some (.type "function"))
    (hb : Binds X.K fd ["self", y] []) (hr : Room 2 X.A) (hg : Gl X x) (hm : X.mg x = some (.ref C)) (ha : PA X (e :: es) ta)
    (hdb : (x == ("__debug__" : Str)) = false := by decide) (he : starEach (e :: es) X.env = (false, eval e X.env) :: starEach es X.env := by rfl) (hpl : (backTo pos (starEach es X.env)).any (·.1) = false := by rfl) :
    PE X (.Call (.Name x p) (e :: es) [] pos) (tVaS C fld ta) := by
  have T := S.T
  have F1 : FnOk X.prog X.w X.K X.mg X.base CX0 1 f fd ["self", y] (spSup C fld) := ok_sup S
  refine ⟨fun pins s σ H Q I h => ?_⟩
  obtain ⟨nm, q, N, bs, bm, sn, sub, ab, col, dd, k0, k1, k2, k3, k5, hC, hbm⟩ := T.cls
  refine wpAny_Call_Name_kw (ld_glob I hg hm ?_ hdb)
  refine PySem.W.callWith_K (h₀ := X.base) I.ok.mod.kin T.kC (thn (ha.run pos pins s σ H _ I h) fun us s1 ⟨vs, H1, I1, r1, v, ev, q1⟩ => ⟨I1.kIn, ?_⟩) he hpl
  subst ev
  show wpAny _ _ (call (.ref C) us) _ _ _
  obtain ⟨hp, g, dr, tk, os⟩ := s1
  have hsz : hp.objs.size ≤ hp.objs.size + 1 := Nat.le_succ _
  have hn : H1 (hp.objs.size + 1) = none := I1.hok.fresh hsz
  have kk : ∀ b o, hp.get? b = some o → ((hp.push (PySem.W.kdv_tup us)).push (PySem.HandSPX.excO C hp.objs.size)).get? b = some o := fun b o e => Heap.get?_push_of_some _ (Heap.get?_push_of_some _ e)
  have hget : ((hp.push (PySem.W.kdv_tup us)).push (PySem.HandSPX.excO C hp.objs.size)).get? (hp.objs.size + 1) = some (PySem.HandSPX.excO C hp.objs.size) := by heap_get
  have I2 : Inv X pins σ (upd H1 (hp.objs.size + 1) (exo (hp.objs.size + 1) C none)) ⟨(hp.push (PySem.W.kdv_tup us)).push (PySem.HandSPX.excO C hp.objs.size), g, dr, tk, os⟩ :=
    I1.laid (t' := tk) (a := hp.objs.size + 1) (o := exo (hp.objs.size + 1) C none) (h' := (hp.push (PySem.W.kdv_tup us)).push (PySem.HandSPX.excO C hp.objs.size)) kk hsz (exo_ok hget)
  have r2 : Vals (V.ref (hp.objs.size + 1) :: [v]) (Value.ref (hp.objs.size + 1) :: us) := .cons rfl r1
  have hus : us.length ≤ sizeLine := by
    rw [← Paired.length r1, sizeLine_eq]
    show 1 ≤ 16777216
    decide
  have hq : spSup C fld (V.ref (hp.objs.size + 1) :: [v]) (upd H1 (hp.objs.size + 1) (exo (hp.objs.size + 1) C none)) (fun w H2 => w = .non ∧ Q (.ref (hp.objs.size + 1)) H2) (fun _ _ _ => False) := by
    refine ⟨hp.objs.size + 1, v, rfl, upd_same, fun dx hd hne => ⟨rfl, ?_⟩⟩
    have hd' : H1 dx = none := by
      have := hd
      rw [upd_ne hne] at this
      exact this
    have eh : upd (upd (upd H1 (hp.objs.size + 1) (exo (hp.objs.size + 1) C none)) dx (exd dx [(fld, v)])) (hp.objs.size + 1) (exo (hp.objs.size + 1) C (some dx)) = upd (upd H1 dx (exd dx [(fld, v)])) (hp.objs.size + 1) (exo (hp.objs.size + 1) C (some dx)) := by
      funext b
      by_cases hb : b = hp.objs.size + 1
      · rw [hb, upd_same, upd_same]
      · rw [upd_ne hb, upd_ne hb]
        by_cases hbd : b = dx
        · rw [hbd, upd_same, upd_same]
        · rw [upd_ne hbd, upd_ne hbd, upd_ne hb]
    rw [eh]
    exact q1 _ dx hn hd' hne
  have hl : (Value.ref (hp.objs.size + 1) :: us ++ []).length = (["self", y] : List Str).length := by
    have e := r2.length
    rw [List.append_nil]
    rw [← e]
    rfl
  have bb := hb _ (Value.ref (hp.objs.size + 1) :: us) I2.kIn hl
  rw [List.append_nil] at bb
  refine wpAny_call (PySem.HandSPX.call_own F.excBase_ValueError (fun Y => PySem.HandSPX.refsVE_contains Y bm hbm) (I1.kIn _ _ hC) (PySem.W.looks_findIn I1.kIn iC) (fun self => PySem.W.bind_fn I1.kIn self tI) hus
    (codeAny_mono (F1.run _ X.stack _ _ ⟨Value.ref (hp.objs.size + 1) :: us, []⟩ (Value.ref (hp.objs.size + 1) :: us) _ _ (fun _ _ _ => False) (hr.make C us []) (I2.env0.make C us []) bb r2 hq) fun r s' hq' => ?_))
  cases r with
  | error er => exact pass0 pins σ _ _ er s' I2 hq'
  | ok fl =>
    cases fl with
    | ret u =>
      have ea := I2.after hq'
      obtain ⟨w', H2, I3, rv, ew, q2⟩ := ea
      subst ew
      exact ⟨rv, .ref (hp.objs.size + 1), H2, I3, rfl, q2⟩
    | next => exact False.elim hq'
    | brk => exact False.elim hq'
    | cont => exact False.elim hq'
end
end Aw

namespace Aw
open PySem PySem.Spec PyProof.Rows L2 NdefX

/-! ### what an exception class says, for isinstance and for its fields -/
structure ExcD (K : PySem.W.Frag) (C : Addr) : Prop where
  ga : PySem.W.findIn K (.ref C) "__getattribute__" = some (some (.builtin "BaseException.__getattribute__"))
  gg : PySem.W.findIn K (.ref C) "__getattr__" = some none
  exC : PySem.W.subIn K (.ref C) (.type "BaseException") = some true
  hdC : PySem.W.hasDictIn K C = true
  ha : PySem.W.findIn K (.ref C) "__class__" = some (some (.builtin "object.__class__"))
  hn : PySem.W.specialIn K (.builtin "object.__class__") "__get__" = some (some (.builtin "getset_descriptor.__get__"))
  ht : PySem.W.takesIn K (.builtin "object.__class__") = some true
  hm : PySem.W.mroIn K C (.type "object") = some true
theorem ExcD.cl {K : PySem.W.Frag} {C : Addr} (E : ExcD K C) : (PySem.W.clsIn K C).isSome = true := by
  obtain ⟨cd, hc, _⟩ := PySem.W.any_some E.hdC
  rw [hc]
  rfl
section
variable {K : PySem.W.Frag} {X : Cx} {a C d : Addr} {fs : List (Str × V)} {f : Str} {v : V} {oe : Obj} {H : Hp} {pins : List (Addr × Obj)} {σ : Aw.St} {s : Shared} {A : Around} {E : Value → Shared → Prop}
/-- isinstance(e, c) of an exception in hand, at a -/
def rIsV (K : PySem.W.Frag) : List V → Hp → VK → Prop := fun xs H Q => ∃ (a C : Addr) (d : Option Addr) (c : V) (cv : Value) (b : Bool), xs = [.ref a, c] ∧ ExcD K C ∧ H a = some (exo a C d) ∧ (∀ dd, d = some dd → ∃ fs, H dd = some (exd dd fs)) ∧ ClsV c cv ∧ PySem.W.kitOne K (.ref C) cv = some b ∧ Q (.bl b) H
theorem inst_exo (I : Inv X pins σ H s) {d : Option Addr} (ha : H a = some (exo a C d)) (hd : ∀ dd, d = some dd → ∃ fs, H dd = some (exd dd fs)) : ∃ oe od, PySem.W.InstAt s.heap a oe C od := by
  obtain ⟨t1, ho⟩ := exo_at I.hok ha
  cases d with
  | none => exact ⟨_, none, ho, rfl, rfl, trivial⟩
  | some dd =>
    obtain ⟨fs, hf⟩ := hd dd rfl
    obtain ⟨mA, hns, rel⟩ := exd_at I.hok hf
    obtain ⟨o, es, ep, ho', _⟩ := hns
    exact ⟨_, some o, ho, rfl, rfl, ho'⟩
theorem call_isV : CallR X (.builtin "isinstance") (rIsV X.K) := by
  intro pins s σ H xs us Q I r h
  obtain ⟨a, C, d, c, cv, b, rfl, D, ha, hd, hc, e, q⟩ := h
  cases r with
  | cons rx rr =>
    cases rr with
    | cons rt rr =>
      cases rr
      cases rx
      have ec := hc.eq rt
      subst ec
      obtain ⟨oe, od, J⟩ := inst_exo I ha hd
      exact PySem.W.kia_one (PySem.W.kitx_exc D.cl D.ga D.gg D.exC D.ha D.hn D.ht D.hm) I.kIn J e (fun z => nomatch z) fun tk => ⟨.bl b, H, I.kept (t' := tk) fun _ _ z => z, rfl, q⟩
/-- e.f of an exception in hand -/
def tXv (K : PySem.W.Frag) (f : Str) (te : TE) : TE := fun σ H Q => te σ H fun x H1 => ∃ (a C d : Addr) (fs : List (Str × V)) (v : V), x = .ref a ∧ ExcD K C ∧ PySem.W.findIn K (.ref C) f = some none ∧ H1 a = some (exo a C (some d)) ∧ H1 d = some (exd d fs) ∧ fs.lookup f = some v ∧ Q v H1
theorem pe_xv {e : Expr} {te : TE} {pos : Pos} {n : Str} (he : PE X e te) (hb : attributeBase e n X.env (eval e X.env) = eval e X.env := by rfl) : PE X (.Attribute e n pos) (tXv X.K n te) := by
  refine ⟨fun pins s σ H Q I h => ?_⟩
  refine attr_of hb (thn (he.run pins s σ H _ I h) fun u s1 hh => ?_)
  obtain ⟨x, H1, I1, rx, a, C, d, fs, v, ex, D, hno, ha, hd, l, q⟩ := hh
  subst ex
  obtain rfl : u = Value.ref a := rx
  obtain ⟨t1, ho⟩ := exo_at I1.hok ha
  obtain ⟨mA, hns, hr⟩ := exd_at I1.hok hd
  obtain ⟨od, hod, hl⟩ := lookIn_ns hns
  obtain ⟨u, hu, ru⟩ := RelO.some_of (v := v) (o := mA n) (by rw [← l]; exact hr n)
  have J : PySem.W.InstAt s1.heap a _ C (some od) := ⟨ho, rfl, rfl, hod⟩
  exact HandSPX.exc_get I1.kIn J D.ga D.gg D.exC (PySem.W.findObj_own D.hdC hno rfl (by rw [hl, hu])) (handed_of ru) ⟨v, H1, I1.tok _, ru, q⟩

/-! ### the same of an exception that is handled (pinned) -/
theorem inst_pin (I : Inv X pins σ H s) (hp : (a, oe) ∈ X.pn) {cls : Value} {d : Option Addr} (hz : Zc cls d oe) (hf : ∃ vs, oe.data = .fields vs) (ec : cls = .ref C) (hd : ∀ dd, d = some dd → ∃ fs, H dd = some (.xd fs)) : ∃ od, PySem.W.InstAt s.heap a oe C od := by
  obtain ⟨ha, _⟩ := I.pin (a, oe) (List.mem_append_left _ hp)
  obtain ⟨vs, hv⟩ := hf
  obtain ⟨z1, z2⟩ := hz
  have hn : PySem.W.notCls oe = true := by unfold PySem.W.notCls; rw [hv] <;> rfl
  cases d with
  | none => exact ⟨none, ha, z1.trans ec, hn, by rw [z2]; exact trivial⟩
  | some dd =>
    obtain ⟨fs, h⟩ := hd dd rfl
    have hx : ObjOk X.prog X.w H s.heap dd (.xd fs) := I.hok dd _ h
    obtain ⟨mA, ⟨o, es, ep, ho, _⟩, _⟩ := hx
    exact ⟨some o, ha, z1.trans ec, hn, by rw [z2]; exact ho⟩
def rIsP (K : PySem.W.Frag) (a : Addr) (cls : Value) (d : Option Addr) : List V → Hp → VK → Prop := fun xs H Q => ∃ (C : Addr) (c : V) (cv : Value) (b : Bool), xs = [.ref a, c] ∧ cls = .ref C ∧ ExcD K C ∧ (∀ dd, d = some dd → ∃ fs, H dd = some (.xd fs)) ∧ ClsV c cv ∧ PySem.W.kitOne K (.ref C) cv = some b ∧ Q (.bl b) H
theorem call_isP {cls : Value} {d : Option Addr} (hp : (a, oe) ∈ X.pn) (hz : Zc cls d oe) (hf : ∃ vs, oe.data = .fields vs) : CallR X (.builtin "isinstance") (rIsP X.K a cls d) := by
  intro pins s σ H xs us Q I r h
  obtain ⟨C, c, cv, b, rfl, ec, D, hd, hc, e, q⟩ := h
  cases r with
  | cons rx rr =>
    cases rr with
    | cons rt rr =>
      cases rr
      cases rx
      have eq := hc.eq rt
      subst eq
      obtain ⟨od, J⟩ := inst_pin I hp hz hf ec hd
      exact PySem.W.kia_one (PySem.W.kitx_exc D.cl D.ga D.gg D.exC D.ha D.hn D.ht D.hm) I.kIn J e (fun z => nomatch z) fun tk => ⟨.bl b, H, I.kept (t' := tk) fun _ _ z => z, rfl, q⟩
def tXp (K : PySem.W.Frag) (a : Addr) (cls : Value) (d : Option Addr) (f : Str) (te : TE) : TE := fun σ H Q => te σ H fun x H1 => x = .ref a ∧ ∃ (C dd : Addr) (fs : List (Str × V)) (v : V), cls = .ref C ∧ ExcD K C ∧ PySem.W.findIn K (.ref C) f = some none ∧ d = some dd ∧ H1 dd = some (.xd fs) ∧ fs.lookup f = some v ∧ Q v H1
theorem pe_xp {cls : Value} {d : Option Addr} {e : Expr} {te : TE} {pos : Pos} {n : Str} (hp : (a, oe) ∈ X.pn) (hz : Zc cls d oe) (hf : ∃ vs, oe.data = .fields vs) (he : PE X e te) (hb : attributeBase e n X.env (eval e X.env) = eval e X.env := by rfl) : PE X (.Attribute e n pos) (tXp X.K a cls d n te) := by
  refine ⟨fun pins s σ H Q I h => ?_⟩
  refine attr_of hb (thn (he.run pins s σ H _ I h) fun u s1 hh => ?_)
  obtain ⟨x, H1, I1, rx, ex, C, dd, fs, v, ec, D, hno, ed, ea, l, q⟩ := hh
  subst ex
  obtain rfl : u = Value.ref a := rx
  subst ec ed
  obtain ⟨ha, _⟩ := I1.pin (a, oe) (List.mem_append_left _ hp)
  obtain ⟨vs, hd⟩ := hf
  have hx : ObjOk X.prog X.w H1 s1.heap dd (.xd fs) := I1.hok dd _ ea
  obtain ⟨mA, hns, hr⟩ := hx
  obtain ⟨od, ho, hl⟩ := lookIn_ns hns
  obtain ⟨u, hu, ru⟩ := RelO.some_of (v := v) (o := mA n) (by rw [← l]; exact hr n)
  have J : PySem.W.InstAt s1.heap a oe C (some od) := ⟨ha, hz.1, by unfold PySem.W.notCls; rw [hd] <;> rfl, by rw [hz.2]; exact ho⟩
  exact HandSPX.exc_get I1.kIn J D.ga D.gg D.exC (PySem.W.findObj_own D.hdC hno rfl (by rw [hl, hu])) (handed_of ru) ⟨v, H1, I1.tok _, ru, q⟩
end
/-! ### a def that is called within an except suite, with the exception handled as argument -/
structure FnE (P : Program) (w : World) (K : PySem.W.Frag) (mg : Str → Option Value) (base : Heap) (k : Nat) (f : Addr) (fd : FuncData) (ps : List Str) (sp : Addr → Value → Option Addr → Sp) : Prop where
  len : ∀ a c d vs H Q E, sp a c d vs H Q E → vs.length = ps.length
  run : ∀ (A : Around) (outer : List Env) (s : Shared) (H : Hp) (args : Args) (us : List Value) (vs : List V) (Q : VK) (E : XK) (p : Addr × Obj) (cls : Value) (d : Option Addr), L2H.RoomH k A → L2H.PinOk outer H s p → Zc cls d p.2 → (∃ vs, p.2.data = .fields vs) → Env0 P w K mg base A outer s H → BindsTo s fd args (ps.zip us) → Vals vs us → sp p.1 cls d vs H Q E →
    codeAny (model P w) A (.call (.ref f) args) (CR CX0 outer P w H s Q E) s
theorem fn_ofE {P : Program} {w : World} {K : PySem.W.Frag} {mg : Str → Option Value} {base : Heap} {k : Nat} {f : Addr} {name qual : Str} {params : Arguments} {body : List Stmt} {scope : Scope} {dV kV doc pm cdv ct oc : Value} {an od : Option Addr}
    {osl : Array (Option Value)} {N ps : List Str} {sp : Addr → Value → Option Addr → Sp} (lk : K.lookup f = some ⟨oc, od, .func (PySem.W.fnOf name qual params body scope dV kV doc pm an cdv ct), osl⟩) (hcd : PySem.W.codeIn K cdv qual = true) (S : FnScope N ps scope)
    (len : ∀ a c d vs H Q E, sp a c d vs H Q E → vs.length = ps.length)
    (hbody : ∀ (A : Around) (outer : List Env) (s : Shared) (H : Hp) (vs : List V) (Q : VK) (E : XK) (p : Addr × Obj) (cls : Value) (d : Option Addr), Zc cls d p.2 → (∃ vs, p.2.data = .fields vs) → L2H.RoomH k (A.deeper (envOfC qual scope s.heap.objs.size f cdv)) → sp p.1 cls d vs H Q E →
      ∃ t, PSs (L2H.cxH CX0 P w K mg base N qual scope f cdv A outer s H E p) body t ∧ t { nx := fun _ H' => Q .non H', rt := Q } (L2.start N vs) H) :
    FnE P w K mg base (k + 1) f (PySem.W.fnOf name qual params body scope dV kV doc pm an cdv ct) ps sp := by
  refine ⟨len, fun A outer s H args us vs Q E p cls d hr hpin hz hf e0 hb r hsp => ?_⟩
  have hl := len _ _ _ _ _ _ _ hsp
  have KX : K.In s.heap := e0.mod.kin.keeps fun b o e => (e0.bs b o e).1
  have lim : s.heap.NoLimit := e0.mod.nolimit.keeps fun b o e => (e0.bs b o e).1
  have hkind : ∀ y ∈ ps.zip us, scope.names.lookup y.1 = some .local ∨ (scope.names.lookup y.1 = some .cell ∧ ((cellsFrom (s.heap.objs.size + 1) scope.names []).lookup y.1).isSome = true) := fun ⟨n, v⟩ hy => by
    rcases S.par n (List.of_mem_zip hy).1 with q | q
    · exact .inl q
    · exact .inr ⟨q, PySem.W.cellsFrom_some _ _ _ (.inl q)⟩
  refine codeAny_call_function hr.depth (KX _ _ lk) rfl S.co S.gen rfl (PySem.W.codeRec_of KX hcd) (hb _ _ _ _ ?_)
  refine wpAny_newFunctionEnv_cells S.kind hkind fun env he s1 x => ?_
  subst he
  refine ⟨lim.keeps x.toInCall.keep, codeAny_func ?_⟩
  obtain ⟨t, ht, hq⟩ := hbody A outer s H vs Q E p cls d hz hf (hr.deeper _) hsp
  have I : Inv (L2H.cxH CX0 P w K mg base N qual scope f cdv A outer s H E p) [] (L2.start N vs) H s1 := L2H.inv_startH S hpin e0 hl r x
  refine wpAny_mono (ht.run [] s1 (L2.start N vs) H _ I hq) (fun fl s' hs => ?_) fun e s' hs => hs
  have fin : ∀ {σ' : Aw.St} {H' : Hp} {v : V} {u : Value}, Inv (L2H.cxH CX0 P w K mg base N qual scope f cdv A outer s H E p) [] σ' H' s' → RelV v u → Q v H' → CE outer P w H s Q u s' :=
    fun {σ' H' v u} J rv q => ⟨v, H', J.os, J.bare, J.base, J.hok, rv, q⟩
  cases fl with
  | ret u =>
    obtain ⟨v, σ', H', J, rv, q⟩ := hs
    exact fin J rv q
  | next =>
    obtain ⟨σ', H', J, q⟩ := hs
    exact fin (v := V.non) (u := Value.none) J rfl q
  | brk =>
    obtain ⟨_, _, _, q⟩ := hs
    exact False.elim q
  | cont =>
    obtain ⟨_, _, _, q⟩ := hs
    exact False.elim q
section
variable {X : Cx} {k : Nat} {f : Addr} {fd : FuncData} {ps : List Str} {sp : Addr → Value → Option Addr → Sp} {x : Str} {q pos : Pos} {e : Expr} {es : List Expr} {t : TA} {a : Addr} {oe : Obj}
/-- f(.., e, ..) in the suite -/
theorem pe_callE {cls : Value} {d : Option Addr} (F : FnE X.prog X.w X.K X.mg X.base k f fd ps sp) (hr : L2H.RoomH k X.A) (hp : (a, oe) ∈ X.pn) (hz : Zc cls d oe) (hf : ∃ vs, oe.data = .fields vs) (hg : Gl X x) (hm : X.mg x = some (.ref f)) (hk : PySem.W.keepIn X.K (.ref f) = true) (hb : Binds X.K fd ps [])
    (ha : PA X (e :: es) t) (hdb : (x == ("__debug__" : Str)) = false := by decide) (he : starEach (e :: es) X.env = (false, eval e X.env) :: starEach es X.env := by rfl) (hpl : (backTo pos (starEach es X.env)).any (·.1) = false := by rfl) :
    PE X (.Call (.Name x q) (e :: es) [] pos) (fun σ H Q => t σ H fun vs H1 => sp a cls d vs H1 Q E0) := by
  refine ⟨fun pins s σ H Q I h => ?_⟩
  refine wpAny_Call_Name_kw (ld_glob I hg hm ?_ hdb)
  refine PySem.W.callWith_K (h₀ := X.base) I.ok.mod.kin hk (thn (ha.run pos pins s σ H _ I h) fun us s1 ⟨vs, H1, I1, r, q⟩ => ⟨I1.kIn, ?_⟩) he hpl
  have hl : us.length = ps.length := by rw [← r.length]; exact F.len _ _ _ _ _ _ _ q
  have b := hb s1 us I1.kIn (by rw [List.append_nil]; exact hl)
  rw [List.append_nil] at b
  have P1 := I1.pin (a, oe) (List.mem_append_left _ hp)
  have hpin : L2H.PinOk X.stack H1 s1 (a, oe) := ⟨P1.1, P1.2.1, fun hm => (List.mem_cons.mp (I1.stkSub a hm)).elim P1.2.2.1 P1.2.2.2.1, P1.2.2.2.2⟩
  refine wpAny_call (codeAny_mono (F.run X.A X.stack s1 H1 ⟨us, []⟩ us vs Q E0 (a, oe) cls d hr hpin hz hf I1.env0 b r q) fun r s' hq => ?_)
  cases r with
  | error e => exact False.elim hq
  | ok fl =>
    cases fl with
    | ret u => exact I1.after hq
    | next => exact False.elim hq
    | brk => exact False.elim hq
    | cont => exact False.elim hq
end
/-- room within the suite -/
theorem roomH_suite {X : Cx} {k : Nat} (r : Room k X.A) {a : Addr} {pn : List (Addr × Obj)} : L2H.RoomH k (X.suite a pn).A := ⟨r.dp, r.un⟩
end Aw

namespace Aw
open PySem PySem.Spec PyProof.Rows L2 NdefX
def top (i : Nat) : Stmt := PySem.Challenge.pw_allwordlengths_k16_marks_that_are_refuse.main.body.getD i (.Pass ⟨0, 0, 0, 0⟩)
end Aw

namespace Aw
open PySem PySem.Spec PyProof.Rows L2 NdefX
abbrev sPen : Stmt := (top 47)
abbrev sDraw : Stmt := (top 48)
/-! ### the pen of a law -/
def penL (c : Addr) (i l : Int) : List (Key × V) := [(.inr "cells", .ref c), (.inr "at", .int i), (.inr "left", .int l)]
theorem ne_ca : ¬ ((Sum.inr "cells" : Key) = .inr "at") := by decide +kernel
theorem ne_cl : ¬ ((Sum.inr "cells" : Key) = .inr "left") := by decide +kernel
theorem ne_al : ¬ ((Sum.inr "at" : Key) = .inr "left") := by decide +kernel
theorem pen_cells {c : Addr} {i l : Int} : valV (penL c i l) (.inr "cells") = some (.ref c) := valV_pos rfl
theorem pen_at {c : Addr} {i l : Int} : valV (penL c i l) (.inr "at") = some (.int i) := (valV_neg ne_ca).trans (valV_pos rfl)
theorem pen_left {c : Addr} {i l : Int} : valV (penL c i l) (.inr "left") = some (.int l) := (valV_neg ne_cl).trans ((valV_neg ne_al).trans (valV_pos rfl))
theorem pen_putat {c : Addr} {i l j : Int} : putK (penL c i l) (.inr "at") (.int j) = penL c j l := by
  unfold putK
  rw [if_pos (by rw [valV_any, pen_at]; rfl)]
  simp only [penL, List.map_cons, List.map_nil, if_neg ne_ca, if_neg (fun z : (Sum.inr "left" : Key) = .inr "at" => ne_al z.symm), if_pos]
theorem pen_putleft {c : Addr} {i l j : Int} : putK (penL c i l) (.inr "left") (.int j) = penL c i j := by
  unfold putK
  rw [if_pos (by rw [valV_any, pen_left]; rfl)]
  simp only [penL, List.map_cons, List.map_nil, if_neg ne_cl, if_neg ne_al, if_pos]
/-- a pen stands at p, its cells at c; it has been drawn from at most n times -/
structure Pen (H : Hp) (p c : Addr) (n : Nat) : Prop where
  ex : ∃ (cells : List Int) (i l : Int), H p = some (.dK (penL c i l)) ∧ H c = some (.lst (cells.map V.int)) ∧ cells.length ≤ 63 ∧ 0 ≤ i ∧ i ≤ n ∧ 0 ≤ l
theorem Pen.pc {H : Hp} {p c : Addr} {n : Nat} (P : Pen H p c n) : p ≠ c := by
  obtain ⟨cells, i, l, h1, h2, _⟩ := P.ex
  exact ne_of h1 h2 (fun z => by cases z)
theorem Pen.mono {H : Hp} {p c : Addr} {n m : Nat} (P : Pen H p c n) (h : n ≤ m) : Pen H p c m := by
  obtain ⟨cells, i, l, h1, h2, h3, h4, h5, h6⟩ := P.ex
  exact ⟨cells, i, l, h1, h2, h3, h4, by omega, h6⟩
theorem Pen.same {H H' : Hp} {p c : Addr} {n : Nat} (P : Pen H p c n) (s : Same H H') : Pen H' p c n := by
  obtain ⟨cells, i, l, h1, h2, h3⟩ := P.ex
  exact ⟨cells, i, l, s _ _ h1, s _ _ h2, h3⟩
theorem Pen.upd {H : Hp} {p c a : Addr} {n : Nat} {o : HO} (P : Pen H p c n) (h1 : a ≠ p) (h2 : a ≠ c) : Pen (upd H a o) p c n := by
  obtain ⟨cells, i, l, e1, e2, h3⟩ := P.ex
  exact ⟨cells, i, l, by rw [upd_ne h1.symm]; exact e1, by rw [upd_ne h2.symm]; exact e2, h3⟩
theorem Pen.some1 {H : Hp} {p c : Addr} {n : Nat} (P : Pen H p c n) : ∃ o, H p = some o := by
  obtain ⟨cells, i, l, e1, e2, h3⟩ := P.ex
  exact ⟨_, e1⟩
theorem Pen.some2 {H : Hp} {p c : Addr} {n : Nat} (P : Pen H p c n) : ∃ o, H c = some o := by
  obtain ⟨cells, i, l, e1, e2, h3⟩ := P.ex
  exact ⟨_, e2⟩
theorem Pen.new {H : Hp} {p c a : Addr} {n : Nat} {o : HO} (P : Pen H p c n) (h : H a = none) : Pen (L2.upd H a o) p c n := by
  obtain ⟨o1, e1⟩ := P.some1
  obtain ⟨o2, e2⟩ := P.some2
  exact P.upd (ne_of_none e1 h).symm (ne_of_none e2 h).symm
/-- all but p is as it was -/
def But (p : Addr) (H H' : Hp) : Prop := ∀ b o, H b = some o → b ≠ p → H' b = some o
theorem But.trans {p : Addr} {H H1 H2 : Hp} (a : But p H H1) (b : But p H1 H2) : But p H H2 := fun c o e n => b c o (a c o e n) n
theorem But.same {p : Addr} {H H1 : Hp} (a : Same H H1) : But p H H1 := fun c o e _ => a c o e
theorem But.lst {p a : Addr} {H H1 : Hp} {xs : List V} (k : But p H H1) (h : H a = some (.lst xs)) (hp : a ≠ p) : H1 a = some (.lst xs) := k a _ h hp
theorem same_upd {H : Hp} {a : Addr} {o : HO} (h : H a = none) : Same H (upd H a o) := fun b u e => by rw [upd_ne (ne_of_none e h)]; exact e
/-- _law_pen: a new pen -/
def spPen (K : PySem.W.Frag) : Sp := fun vs H Q _ => ∃ (a : Addr) (ns : List Int), vs = [.ref a] ∧ SqL K H a (ns.map V.int) ∧ ns.length ≤ 63 ∧ ∀ p c H', Same H H' → H p = none → H c = none → Pen H' p c 0 → Q (.ref p) H'
/-- _law_draw: a number below many -/
def spDraw : Sp := fun vs H Q _ => ∃ (p c : Addr) (many : Int) (n : Nat), vs = [.ref p, .int many] ∧ Pen H p c n ∧ n ≤ 1000000 ∧ 0 < many ∧ many < 1073741824 ∧
  ∀ r H', 0 ≤ r → r < many → But p H H' → Pen H' p c (n + 1) → Q (.int r) H'
/-- what the walk asks of the top's names -/
structure TxtP (mg : Str → Option Value) (fDraw : Addr) : Prop where
  list : mg "list" = none
  int : mg "int" = none
  len : mg "len" = none
  draw : mg "_law_draw" = some (.ref fDraw)
section
variable {P : Program} {w : World} {K : PySem.W.Frag} {mg : Str → Option Value} {base : Heap}
theorem scPen : FnScope ["_law_script"] ["_law_script"] (defScope sPen) := ⟨rfl, rfl, rfl, by decide +kernel, rfl, by decide +kernel, by decide +kernel⟩
theorem ok_pen {f g : Addr} {fd : FuncData} (F : Fun K "_law_pen" "_law_pen" sPen f fd) (T : TxtP mg g) : FnOk P w K mg base CX0 1 f fd ["_law_script"] (spPen K) := by
  refine F.ok scPen (fun vs H Q E h => ?_) (fun cdv A outer s H vs Q E hr h => ?_)
  · obtain ⟨p, c, rfl, _⟩ := h
    rfl
  · obtain ⟨a, ns, rfl, hS, hl, k⟩ := h
    refine ⟨_, pss_one (ps_ret (pe_disp (pps_cons pe_str (pe_callTy call_list_of (by rfl) T.list (by decide +kernel) (pa_cons (pe_slice sl_list (pv 0) po_none (po_some pe_int)) pa_nil))
      (pps_cons pe_str pe_int (pps_cons pe_str pe_int pps_nil))) (by rfl) (by rfl) (fun z => by cases z) (by decide))), ?_⟩
    intro p hp
    have hS1 : SqL K (upd H p (.dK [])) a (ns.map V.int) := (same_upd hp).seq hS
    refine ⟨_, rfl, 63, rfl, a, _, rfl, hS1, fun q hq => ?_⟩
    have e63 : cutV (ns.map V.int) none (some (63 : Int)) = ns.map V.int := by
      unfold cutV
      rw [List.length_map, HT.sIx_none ns.length 0, List.drop_zero]
      have : HT.sIx ns.length ns.length (some (63 : Int)) = ns.length := by
        show (if (63 : Int) < 0 then ((63 : Int) + (ns.length : Int)).toNat else min (63 : Int).toNat ns.length) = ns.length
        rw [if_neg (by decide)]
        exact Nat.min_eq_right (by omega)
      rw [this, Nat.sub_zero]
      exact List.take_of_length_le (by rw [List.length_map]; exact Nat.le_refl ns.length)
    rw [e63]
    refine ⟨q, _, rfl, .inl (SqL.of upd_same), fun c hc => ?_⟩
    have hpq : p ≠ q := ne_of_none upd_same hq
    have hpc : p ≠ c := ne_of_none (show upd (upd H p (.dK [])) q (.lst (ns.map V.int)) p = some (.dK []) by rw [upd_ne hpq, upd_same]) hc
    have hcp : upd H p (.dK []) c = none := by
      by_cases e : c = q
      · rw [e, upd_same] at hc; cases hc
      · rw [upd_ne e] at hc; exact hc
    have hcn : H c = none := by
      rw [upd_ne hpc.symm] at hcp
      exact hcp
    refine ⟨by rw [upd_ne hpc, upd_ne hpq, upd_same], penL c 0 0, rfl, by show 3 ≤ 15; decide, ?_⟩
    have em : mergeK [] (penL c 0 0) = penL c 0 0 := by
      unfold mergeK penL
      simp only [List.foldl_cons, List.foldl_nil]
      rw [putK_new _ (show valV ([] : List (Key × V)) _ = none from rfl), putK_new, putK_new]
      · rfl
      · exact (valV_neg ne_ca).trans rfl
      · exact (valV_neg ne_cl).trans ((valV_neg ne_al).trans rfl)
    rw [em]
    refine k p c _ (fun b o e => ?_) hp hcn ⟨⟨ns, 0, 0, upd_same, ?_, hl, by decide, by decide, by decide⟩⟩
    · have hbp : b ≠ p := ne_of_none e hp
      have hbq : b ≠ q := ne_of_none (show upd H p (.dK []) b = some o by rw [upd_ne hbp]; exact e) hq
      rw [upd_ne hbp, upd_ne (ne_of_none e hcn), upd_ne hbq, upd_ne hbp]
      exact e
    · rw [upd_ne hpc.symm, upd_same]

theorem scDraw : FnScope ["_law_pen_here", "_law_many", "_law_digit", "_law_spot", "_law_cell", "_law_mixed"] ["_law_pen_here", "_law_many"] (defScope sDraw) := ⟨rfl, rfl, rfl, by decide +kernel, rfl, by decide +kernel, by decide +kernel⟩
theorem ints_flat {H : Hp} (ns : List Int) : DpAll K H (ns.map V.int) (ns.map PyData.int) := by
  induction ns with
  | nil => exact .nil
  | cons n ns ih => exact .cons (.int n) ih
theorem ints_shaped (ns : List Int) : SeqAt.shaped (.list (ns.map PyData.int)) = true := by
  have h1 : ∀ l : List Int, PyData.canLayAll0 (l.map PyData.int) = true := fun l => by
    induction l with
    | nil => rfl
    | cons n l ih => simp [PyData.canLayAll0, PyData.canLay0, ih]
  have h2 : ∀ l : List Int, PyData.depthAll (l.map PyData.int) ≤ 1 := fun l => by
    induction l with
    | nil => simp [PyData.depthAll]
    | cons n l ih => simp [PyData.depthAll, PyData.depth]; omega
  unfold SeqAt.shaped
  refine Bool.and_eq_true_iff.mpr ⟨h1 ns, decide_eq_true ?_⟩
  have := h2 ns
  simp only [PyData.depth]
  omega
theorem gCells {H : Hp} {p c : Addr} {i l : Int} (e : H p = some (.dK (penL c i l))) : DGet H p (.str "cells") (some (.ref c)) := by
  have h := DGet.k (k := .inr "cells") e
  rw [pen_cells] at h
  exact h
theorem gAt {H : Hp} {p c : Addr} {i l : Int} (e : H p = some (.dK (penL c i l))) : DGet H p (.str "at") (some (.int i)) := by
  have h := DGet.k (k := .inr "at") e
  rw [pen_at] at h
  exact h
theorem gLeft {H : Hp} {p c : Addr} {i l : Int} (e : H p = some (.dK (penL c i l))) : DGet H p (.str "left") (some (.int l)) := by
  have h := DGet.k (k := .inr "left") e
  rw [pen_left] at h
  exact h
theorem sAt {H : Hp} {p c : Addr} {i l j : Int} (e : H p = some (.dK (penL c i l))) : DPut H p (.str "at") (.int j) (upd H p (.dK (penL c j l))) := by
  have h := DPut.k (k := .inr "at") (v := .int j) e (by show 3 < sizeLine; decide)
  rw [pen_putat] at h
  exact h
theorem sLeft {H : Hp} {p c : Addr} {i l j : Int} (e : H p = some (.dK (penL c i l))) : DPut H p (.str "left") (.int j) (upd H p (.dK (penL c i j))) := by
  have h := DPut.k (k := .inr "left") (v := .int j) e (by show 3 < sizeLine; decide)
  rw [pen_putleft] at h
  exact h
theorem lt64 {x : Int} (h0 : 0 ≤ x) (h : x < 4294967296) : -(2 ^ 64) < x ∧ x < 2 ^ 64 := ⟨by omega, by omega⟩
theorem ok_draw {f : Addr} {fd : FuncData} (F : Fun K "_law_draw" "_law_draw" sDraw f fd) (T : TxtP mg f) : FnOk P w K mg base CX0 1 f fd ["_law_pen_here", "_law_many"] spDraw := by
  refine F.ok scDraw (fun vs H Q E h => ?_) (fun cdv A outer s H vs Q E hr h => ?_)
  · obtain ⟨p, c, many, n, rfl, _⟩ := h
    rfl
  · obtain ⟨p, c, many, n, rfl, Pn, hn, hm, hm2, k⟩ := h
    have hu := hu_of hr
    have nd := scDraw.nd
    refine ⟨_, (pss_cons (ps_if (pt_cmpR op_ge (pe_dget hu (pv 0) pe_str (fun _ _ => rfl)) (pv 1) (nomark _))
        (pss_cons (ps_set (i := 2) nd rfl (Or.inl rfl) (pe_op op_mod (pe_callTy call_int1 (by rfl) T.int (by decide +kernel) (pa_cons (pe_dget hu (pv 0) pe_str (fun _ _ => rfl)) pa_nil)) (pv 1)))
        (pss_cons (ps_dput hu (pv 0) pe_str (pe_op op_fdiv (pe_dget hu (pv 0) pe_str (fun _ _ => rfl)) (pv 1)) rfl)
        (pss_one (ps_ret (pv 2))))) pss_nil)
      (pss_cons (ps_set (i := 3) nd rfl (Or.inl rfl) (pe_dget hu (pv 0) pe_str (fun _ _ => rfl)))
      (pss_cons (ps_dput hu (pv 0) pe_str (pe_op op_add (pv 3) pe_int) rfl)
      (pss_cons (ps_if (pt_cmpR (op_eqD hr.units) (pe_dget hu (pv 0) pe_str (fun _ _ => rfl)) (pe_lst pa_nil) (nomark _))
        (pss_one (ps_ret (pe_op op_mod (pe_callTy call_int1 (by rfl) T.int (by decide +kernel) (pa_cons (pe_op op_add (pe_op op_mul pe_int (pv 3)) pe_int) pa_nil)) (pv 1)))) pss_nil)
      (pss_cons (ps_set (i := 4) nd rfl (Or.inl rfl) (pe_ix ix_list (pe_dget hu (pv 0) pe_str (fun _ _ => rfl)) (pe_op op_mod (pe_callTy call_int1 (by rfl) T.int (by decide +kernel) (pa_cons (pv 3) pa_nil)) (pe_callB call_len_seq (by rfl) T.len PySem.boot_len (pa_cons (pe_dget hu (pv 0) pe_str (fun _ _ => rfl)) pa_nil))) (fun _ _ => rfl)))
      (pss_cons (ps_if (PW.pt (pw_and (pt_cmpR op_lt (pv 3) (pe_callB call_len_seq (by rfl) T.len PySem.boot_len (pa_cons (pe_dget hu (pv 0) pe_str (fun _ _ => rfl)) pa_nil)) (nomark _)) (pw_and1 (pt_cmpR op_ge (pv 4) (pe_op op_pow pe_int pe_int) (nomark _)))))
        (pss_cons (ps_dput hu (pv 0) pe_str (pe_op op_fdiv (pe_op op_sub (pv 4) (pe_op op_pow pe_int pe_int)) (pv 1)) rfl)
        (pss_one (ps_ret (pe_op op_mod (pe_callTy call_int1 (by rfl) T.int (by decide +kernel) (pa_cons (pe_op op_sub (pv 4) (pe_op op_pow pe_int pe_int)) pa_nil)) (pv 1))))) pss_nil)
      (pss_cons (ps_set (i := 5) nd rfl (Or.inl rfl) (pe_op op_add (pe_op op_add (pe_op op_mul (pe_op op_add (pe_op op_mod (pe_callTy call_int1 (by rfl) T.int (by decide +kernel) (pa_cons (pv 4) pa_nil)) pe_int) pe_int) (pe_op op_add (pe_op op_mul pe_int (pv 3)) pe_int)) (pe_op op_mul (pe_op op_mul pe_int (pv 3)) (pv 3))) pe_int))
      (pss_cons (ps_set (i := 5) nd rfl (Or.inl rfl) (pe_op op_mod (pe_callTy call_int1 (by rfl) T.int (by decide +kernel) (pa_cons (pv 5) pa_nil)) pe_int))
      (pss_cons (ps_set (i := 5) nd rfl (Or.inl rfl) (pe_op op_mod (pe_callTy call_int1 (by rfl) T.int (by decide +kernel) (pa_cons (pe_op op_mul (pv 5) (pe_op op_add (pv 5) pe_int)) pa_nil)) pe_int))
      (pss_cons (ps_set (i := 5) nd rfl (Or.inl rfl) (pe_op op_mod (pe_callTy call_int1 (by rfl) T.int (by decide +kernel) (pa_cons (pe_op op_mul (pv 5) (pv 5)) pa_nil)) pe_int))
      (pss_one (ps_ret (pe_op op_mod (pe_callTy call_int1 (by rfl) T.int (by decide +kernel) (pa_cons (pe_op op_fdiv (pv 5) pe_int) pa_nil)) (pv 1)))))))))))))), ?_⟩
    obtain ⟨cells, i, l, e1, e2, hl, hi, hi2, hl0⟩ := Pn.ex
    have pc : p ≠ c := Pn.pc
    refine ⟨_, rfl, p, .int l, rfl, gLeft e1, _, rfl, l, many, rfl, rfl, _, rfl, ?_⟩
    by_cases hlm : many ≤ l
    · rw [decide_eq_true hlm]
      refine iteT ?_
      -- the digit
      refine ⟨_, rfl, p, .int l, rfl, gLeft e1, .inl ⟨l, rfl, _, rfl, l, many, rfl, rfl, hm, ?_⟩⟩
      refine ⟨_, rfl, p, .int l, rfl, gLeft e1, _, rfl, l, many, rfl, rfl, ⟨hm, hm2⟩, _, rfl, p, _, rfl, sLeft e1, ?_⟩
      refine ⟨_, rfl, k _ _ (Int.emod_nonneg _ (by omega)) (Int.emod_lt_of_pos _ hm) (fun b o e hb => by rw [upd_ne hb]; exact e) ⟨cells, i, l / many, upd_same, by rw [upd_ne pc.symm]; exact e2, hl, hi, by omega, Int.ediv_nonneg hl0 (by omega)⟩⟩
    · rw [decide_eq_false hlm]
      refine iteF ?_
      -- the place
      refine ⟨_, rfl, p, .int i, rfl, gAt e1, ?_⟩
      refine ⟨_, rfl, i, 1, rfl, rfl, _, rfl, p, _, rfl, sAt e1, ?_⟩
      generalize eH : upd H p (.dK (penL c (i + 1) l)) = H1
      have e1' : H1 p = some (.dK (penL c (i + 1) l)) := by rw [← eH, upd_same]
      have e2' : H1 c = some (.lst (cells.map V.int)) := by rw [← eH, upd_ne pc.symm]; exact e2
      have bt : But p H H1 := fun b o e hb => by rw [← eH, upd_ne hb]; exact e
      refine ⟨_, rfl, p, .ref c, rfl, gCells e1', by show 0 ≤ sizeLine; decide, fun q hq => ?_⟩
      have bt2 : But p H (upd H1 q (.lst [])) := bt.trans (But.same (same_upd hq))
      have e1q : upd H1 q (.lst []) p = some (.dK (penL c (i + 1) l)) := by rw [upd_ne (ne_of_none e1' hq)]; exact e1'
      have e2q : upd H1 q (.lst []) c = some (.lst (cells.map V.int)) := by rw [upd_ne (ne_of_none e2' hq)]; exact e2'
      refine ⟨.list (cells.map PyData.int), .list [], .lst (SqL.of e2q) (ints_flat _), .lst (SqL.of upd_same) .nil, ints_shaped _, by decide, _, rfl, ?_⟩
      cases cells with
      | nil =>
        refine iteT ?_
        refine ⟨_, rfl, 7, i, rfl, rfl, .inl ⟨by decide, by decide⟩, 7 * i, 3, rfl, rfl, .inl ⟨_, rfl, _, rfl, _, many, rfl, rfl, hm, ?_⟩⟩
        exact k _ _ (Int.emod_nonneg _ (by omega)) (Int.emod_lt_of_pos _ hm) bt2 ⟨[], i + 1, l, e1q, e2q, hl, by omega, by omega, hl0⟩
      | cons n0 rest =>
        refine iteF ?_
        generalize hcs : n0 :: rest = cs at *
        have hpos : 0 < cs.length := by rw [← hcs]; exact Nat.succ_pos _
        have fin : ∀ r l', 0 ≤ r → r < many → 0 ≤ l' → ∀ H', But p H H' → H' p = some (.dK (penL c (i + 1) l')) → H' c = some (.lst (cs.map V.int)) → Q (.int r) H' := fun r l' h1 h2 h3 H' b a1 a2 =>
          k r H' h1 h2 b ⟨cs, i + 1, l', a1, a2, hl, by omega, by omega, h3⟩
        have hlen : (cs.map V.int).length = cs.length := List.length_map ..
        obtain ⟨j, hj⟩ : ∃ j : Nat, i % (((cs.map V.int).length : Nat) : Int) = (j : Int) := ⟨(i % (((cs.map V.int).length : Nat) : Int)).toNat, by
          have := Int.emod_nonneg i (show (((cs.map V.int).length : Nat) : Int) ≠ 0 by rw [hlen]; omega)
          omega⟩
        have hjl : j < cs.length := by
          have := Int.emod_lt_of_pos i (show (0 : Int) < (((cs.map V.int).length : Nat) : Int) by rw [hlen]; omega)
          rw [hj, hlen] at this
          omega
        obtain ⟨x, hx⟩ : ∃ x, cs[j]? = some x := ⟨cs[j], List.getElem?_eq_getElem hjl⟩
        have hat : atI (cs.map V.int) (i % (((cs.map V.int).length : Nat) : Int)) = some (.int x) := by
          rw [hj]
          exact atI_nat (by rw [List.getElem?_map, hx]; rfl)
        refine ⟨_, rfl, p, .ref c, rfl, gCells e1q, _, rfl, .inl ⟨i, rfl, _, rfl, p, .ref c, rfl, gCells e1q, c, _, rfl, .inl (SqL.of e2q), i, _, rfl, rfl, by rw [hlen]; omega, c, _, _, .int x, rfl, rfl, SqL.of e2q, hat, ?_⟩⟩
        have hle : (0 : Int) ≤ 18 ∧ (18 : Int) ≤ 1000000 ∧ (10 : Int).natAbs < 2 ^ 64 := ⟨by decide, by decide, by decide⟩
        refine ⟨_, rfl, _, rfl, p, .ref c, rfl, gCells e1q, c, _, rfl, .inl (SqL.of e2q), i, _, rfl, rfl, _, rfl, ?_⟩
        have tail : ∀ {y : Int}, 0 ≤ y → y < 2147483648 → -(2 ^ 64) < y ∧ y < 2 ^ 64 := fun h1 h2 => ⟨by omega, by omega⟩
        have mods : ∀ (y m : Int), 0 < m → m < 2147483648 → 0 ≤ y % m ∧ y % m < 2147483648 := fun y m h1 h2 => ⟨Int.emod_nonneg _ (by omega), Int.lt_trans (Int.emod_lt_of_pos _ h1) h2⟩
        by_cases a1 : i < (((cs.map V.int).length : Nat) : Int)
        rw [decide_eq_true a1]
        refine iteT ?_
        refine ⟨_, rfl, 10, 18, rfl, rfl, hle, x, _, rfl, rfl, _, rfl, ?_⟩
        by_cases a2 : (10 : Int) ^ (18 : Int).toNat ≤ x
        · rw [decide_eq_true a2]
          refine iteT ?_
          refine ⟨_, rfl, 10, 18, rfl, rfl, hle, x, _, rfl, rfl, _, rfl, _, many, rfl, rfl, ⟨hm, hm2⟩, _, rfl, p, _, rfl, sLeft e1q, ?_⟩
          refine ⟨_, rfl, 10, 18, rfl, rfl, hle, x, _, rfl, rfl, .inl ⟨_, rfl, _, rfl, _, many, rfl, rfl, hm, ?_⟩⟩
          exact fin _ _ (Int.emod_nonneg _ (by omega)) (Int.emod_lt_of_pos _ hm) (Int.ediv_nonneg (by omega) (by omega)) _ (bt2.trans fun b o e hb => by rw [upd_ne hb]; exact e) upd_same (by rw [upd_ne pc.symm]; exact e2q)
        rw [decide_eq_false a2]
        refine iteF ?_
        rotate_left
        rw [decide_eq_false a1]
        refine iteF ?_
        refine iteF ?_
        all_goals
          obtain ⟨b1, b2⟩ := mods x 2147483629 (by decide) (by decide)
          refine ⟨_, rfl, .inl ⟨x, rfl, x, 2147483629, rfl, rfl, (by show (0 : Int) < 2147483629; decide), _, 1, rfl, rfl, _, rfl, 97, i, rfl, rfl, .inl ⟨by decide, by decide⟩, _, 40693, rfl, rfl, _, _, rfl, rfl, .inl ⟨by omega, by omega⟩,
            _, rfl, 69623, i, rfl, rfl, .inl ⟨by decide, by decide⟩, _, rfl, _, i, rfl, rfl, .inl ⟨by omega, by omega⟩, _, _, rfl, rfl, _, 11, rfl, rfl, ?_⟩⟩
          obtain ⟨y1, hy1⟩ : ∃ y, (x % 2147483629 + 1) * (97 * i + 40693) + 69623 * i * i + 11 = y := ⟨_, rfl⟩
          refine ⟨_, rfl, .inl ⟨y1, by rw [← hy1], y1, 2147483647, rfl, rfl, (by show (0 : Int) < 2147483647; decide), ?_⟩⟩
          obtain ⟨c1, c2⟩ := mods y1 2147483647 (by decide) (by decide)
          obtain ⟨y2, hy2⟩ : ∃ y, y1 % 2147483647 = y := ⟨_, rfl⟩
          rw [hy2] at c1 c2
          refine ⟨_, rfl, _, rfl, y2, 16811, by rw [← hy2], rfl, y2, _, by rw [← hy2], rfl, .inl (tail c1 c2), .inl ⟨_, rfl, _, 2147483587, rfl, rfl, (by show (0 : Int) < 2147483587; decide), ?_⟩⟩
          obtain ⟨y4, hy4⟩ : ∃ y, y2 * (y2 + 16811) % 2147483587 = y := ⟨_, rfl⟩
          obtain ⟨d1, d2⟩ := mods (y2 * (y2 + 16811)) 2147483587 (by decide) (by decide)
          rw [hy4] at d1 d2
          refine ⟨_, rfl, _, rfl, y4, y4, by rw [← hy4], by rw [← hy4], .inl (tail d1 d2), .inl ⟨_, rfl, _, 2147483563, rfl, rfl, (by show (0 : Int) < 2147483563; decide), ?_⟩⟩
          refine ⟨_, rfl, _, 64, rfl, rfl, ⟨by decide, by decide⟩, .inl ⟨_, rfl, _, rfl, _, many, rfl, rfl, hm, ?_⟩⟩
          exact fin _ l (Int.emod_nonneg _ (by omega)) (Int.emod_lt_of_pos _ hm) hl0 _ bt2 e1q e2q
end
end Aw

namespace Aw
open PySem PySem.Spec PyProof.Rows L2 NdefX
abbrev sPick : Stmt := (top 49)
/-- what But keeps -/
theorem But.seq {K : PySem.W.Frag} {p c : Addr} {n : Nat} {H H' : Hp} {a : Addr} {xs : List V} (b : But p H H') (P : Pen H p c n) (h : SqL K H a xs) : SqL K H' a xs := by
  obtain ⟨cells, i, l, e1, _⟩ := P.ex
  rcases h with (h | ⟨o, h⟩) | h
  · exact .inl (.inl (b _ _ h (ne_of h e1 (fun z => by cases z))))
  · exact .inl (.inr ⟨o, b _ _ h (ne_of h e1 (fun z => by cases z))⟩)
  · exact .inr h
theorem But.tup {K : PySem.W.Frag} {p c : Addr} {n : Nat} {H H' : Hp} {a : Addr} {xs : List V} (b : But p H H') (P : Pen H p c n) (h : SqT K H a xs) : SqT K H' a xs := by
  obtain ⟨cells, i, l, e1, _⟩ := P.ex
  rcases h with (h | ⟨o, h⟩) | h
  · exact .inl (.inl (b _ _ h (ne_of h e1 (fun z => by cases z))))
  · exact .inl (.inr ⟨o, b _ _ h (ne_of h e1 (fun z => by cases z))⟩)
  · exact .inr h
/-- _law_pick of a list -/
def spPick (K : PySem.W.Frag) : Sp := fun vs H Q _ => ∃ (p c l : Addr) (xs : List V) (n : Nat), vs = [.ref p, .ref l] ∧ Pen H p c n ∧ n ≤ 1000000 ∧ SqL K H l xs ∧ 0 < xs.length ∧ xs.length ≤ 1000000 ∧
  ∀ (r : Nat) (v : V) (H' : Hp), xs[r]? = some v → But p H H' → Pen H' p c (n + 1) → Q v H'
section
variable {P : Program} {w : World} {K : PySem.W.Frag} {mg : Str → Option Value} {base : Heap}
theorem scPick : FnScope ["_law_pen_here", "_law_some"] ["_law_pen_here", "_law_some"] (defScope sPick) := ⟨rfl, rfl, rfl, by decide +kernel, rfl, by decide +kernel, by decide +kernel⟩
theorem ok_pick {f g : Addr} {fd gd : FuncData} (F : Fun K "_law_pick" "_law_pick" sPick f fd) (T : TxtP mg g) (G : Fun K "_law_draw" "_law_draw" sDraw g gd) (bG : Binds K gd ["_law_pen_here", "_law_many"] []) : FnOk P w K mg base CX0 2 f fd ["_law_pen_here", "_law_some"] (spPick K) := by
  have GD : FnOk P w K mg base CX0 1 g gd ["_law_pen_here", "_law_many"] spDraw := ok_draw G T
  refine F.ok scPick (fun vs H Q E h => ?_) (fun cdv A outer s H vs Q E hr h => ?_)
  · obtain ⟨p, c, l, xs, n, rfl, _⟩ := h
    rfl
  · obtain ⟨p, c, l, xs, n, rfl, Pn, hn, hS, h0, h1, k⟩ := h
    refine ⟨_, (pss_one (ps_ret (pe_ix ix_list (pv 1) (pe_call GD hr (by rfl) T.draw G.kp bG .nil pass0 (pa_cons (pv 0) (pa_cons (pe_callB call_len_seq (by rfl) T.len PySem.boot_len (pa_cons (pv 1) pa_nil)) pa_nil))) (fun _ _ => rfl)))), ?_⟩
    refine ⟨_, rfl, _, rfl, _, rfl, l, xs, rfl, .inl hS, p, c, xs.length, n, rfl, Pn, hn, by omega, by omega, fun r H' hr0 hr1 b Pn' => ?_⟩
    obtain ⟨j, rfl⟩ : ∃ j : Nat, r = (j : Int) := ⟨r.toNat, by omega⟩
    obtain ⟨v, hv⟩ : ∃ v, xs[j]? = some v := ⟨xs[j]'(by omega), List.getElem?_eq_getElem (by omega)⟩
    exact ⟨l, xs, _, v, rfl, rfl, b.seq Pn hS, atI_nat hv, k j v H' hv b Pn'⟩
end
end Aw

namespace Aw
open PySem PySem.Spec PyProof.Rows L2 NdefX
/-! ### what tuples hold stays -/
/-- tuples are as they were -/
def TK (H H' : Hp) : Prop := (∀ a xs, H a = some (.tup xs) → H' a = some (.tup xs)) ∧ ∀ a o xs, H a = some (.frz o (.tup xs)) → H' a = some (.frz o (.tup xs))
theorem TK.refl (H : Hp) : TK H H := ⟨fun _ _ e => e, fun _ _ _ e => e⟩
theorem TK.trans {H H1 H2 : Hp} (a : TK H H1) (b : TK H1 H2) : TK H H2 := ⟨fun c xs e => b.1 c xs (a.1 c xs e), fun c o xs e => b.2 c o xs (a.2 c o xs e)⟩
theorem TK.same {H H' : Hp} (s : Same H H') : TK H H' := ⟨fun _ _ e => s _ _ e, fun _ _ _ e => s _ _ e⟩
theorem TK.but {H H' : Hp} {p c : Addr} {n : Nat} (b : But p H H') (P : Pen H p c n) : TK H H' := by
  obtain ⟨cells, i, l, e1, _⟩ := P.ex
  exact ⟨fun a xs e => b a _ e (ne_of e e1 (fun z => by cases z)), fun a o xs e => b a _ e (ne_of e e1 (fun z => by cases z))⟩
theorem TK.lst {H : Hp} {a : Addr} {xs : List V} {o : HO} (h : H a = some (.lst xs)) : TK H (upd H a o) :=
  ⟨fun b ys e => by rw [upd_ne (ne_of e h (fun z => by cases z))]; exact e, fun b u ys e => by rw [upd_ne (ne_of e h (fun z => by cases z))]; exact e⟩
theorem TK.new {H : Hp} {a : Addr} {o : HO} (h : H a = none) : TK H (upd H a o) := TK.same (same_upd h)
theorem TK.tup {K : PySem.W.Frag} {H H' : Hp} {a : Addr} {xs : List V} (t : TK H H') (h : SqT K H a xs) : SqT K H' a xs := by
  rcases h with (h | ⟨o, h⟩) | h
  · exact .inl (.inl (t.1 _ _ h))
  · exact .inl (.inr ⟨o, t.2 _ _ _ h⟩)
  · exact .inr h
mutual
/-- a value of plain data, tuples inside -/
inductive Dq (K : PySem.W.Frag) (H : Hp) : V → PyData → Prop
  | non : Dq K H .non .none
  | bl (b : Bool) : Dq K H (.bl b) (.bool b)
  | int (i : Int) : Dq K H (.int i) (.int i)
  | str (x : Str) : Dq K H (.str x) (.str x)
  | tup {a : Addr} {xs : List V} {ds : List PyData} : SqT K H a xs → DqAll K H xs ds → Dq K H (.ref a) (.tuple ds)
inductive DqAll (K : PySem.W.Frag) (H : Hp) : List V → List PyData → Prop
  | nil : DqAll K H [] []
  | cons {v : V} {vs : List V} {d : PyData} {ds : List PyData} : Dq K H v d → DqAll K H vs ds → DqAll K H (v :: vs) (d :: ds)
end
section
variable {K : PySem.W.Frag} {H H' : Hp}
mutual
theorem Dq.keep (t : TK H H') : ∀ {v : V} {d : PyData}, Dq K H v d → Dq K H' v d
  | _, _, .non => .non
  | _, _, .bl b => .bl b
  | _, _, .int i => .int i
  | _, _, .str x => .str x
  | _, _, .tup h r => .tup (t.tup h) (DqAll.keep t r)
theorem DqAll.keep (t : TK H H') : ∀ {vs : List V} {ds : List PyData}, DqAll K H vs ds → DqAll K H' vs ds
  | _, _, .nil => .nil
  | _, _, .cons h r => .cons (Dq.keep t h) (DqAll.keep t r)
end
mutual
theorem Dq.dp : ∀ {v : V} {d : PyData}, Dq K H v d → Dp K H v d
  | _, _, .non => .non
  | _, _, .bl b => .bl b
  | _, _, .int i => .int i
  | _, _, .str x => .str x
  | _, _, .tup h r => .tup h (DqAll.dp r)
theorem DqAll.dp : ∀ {vs : List V} {ds : List PyData}, DqAll K H vs ds → DpAll K H vs ds
  | _, _, .nil => .nil
  | _, _, .cons h r => .cons (Dq.dp h) (DqAll.dp r)
end
theorem DqAll.length : ∀ {vs : List V} {ds : List PyData}, DqAll K H vs ds → vs.length = ds.length
  | _, _, .nil => rfl
  | _, _, .cons _ r => congrArg (· + 1) (DqAll.length r)
theorem DqAll.get : ∀ {vs : List V} {ds : List PyData} {i : Nat} {v : V}, DqAll K H vs ds → vs[i]? = some v → ∃ d, ds[i]? = some d ∧ Dq K H v d
  | _, _, _, _, .nil, h => by simp at h
  | _, _, 0, _, .cons h _, e => ⟨_, rfl, by cases Option.some.inj e; exact h⟩
  | _, _, i + 1, _, .cons _ r, e => DqAll.get (i := i) r (by simpa using e)
theorem DqAll.append : ∀ {vs ws : List V} {ds es : List PyData}, DqAll K H vs ds → DqAll K H ws es → DqAll K H (vs ++ ws) (ds ++ es)
  | _, _, _, _, .nil, s => s
  | _, _, _, _, .cons h r, s => .cons h (DqAll.append r s)
theorem DqAll.split {v : V} {vs : List V} {d : PyData} {ds : List PyData} : DqAll K H (v :: vs) (d :: ds) → Dq K H v d ∧ DqAll K H vs ds
  | .cons h r => ⟨h, r⟩
theorem Dq.of_tuple {v : V} {ds : List PyData} (h : Dq K H v (.tuple ds)) : ∃ a xs, v = .ref a ∧ SqT K H a xs ∧ DqAll K H xs ds := by
  cases h with
  | tup h r => exact ⟨_, _, rfl, h, r⟩
theorem Dq.of_str {v : V} {x : Str} (h : Dq K H v (.str x)) : v = .str x := by cases h; rfl
theorem Dq.of_int {v : V} {i : Int} (h : Dq K H v (.int i)) : v = .int i := by cases h; rfl
theorem Dq.of_none {v : V} (h : Dq K H v .none) : v = .non := by cases h; rfl
theorem Dq.of_bool {v : V} {b : Bool} (h : Dq K H v (.bool b)) : v = .bl b := by cases h; rfl
end
/-! ### values that are alike: the same, or tuples of alike ones -/
def Al (K : PySem.W.Frag) (H : Hp) : Nat → V → V → Prop
  | 0 => fun _ _ => False
  | n + 1 => fun x y => (x = y ∧ flatB x = true) ∨ (∃ a, x = .ref a ∧ y = .ref a) ∨ ∃ a b xs ys, x = .ref a ∧ y = .ref b ∧ SqT K H a xs ∧ SqT K H b ys ∧ Paired (Al K H n) xs ys
theorem Al.flat {K : PySem.W.Frag} {H : Hp} {n : Nat} {x : V} (h : flatB x = true) : Al K H (n + 1) x x := .inl ⟨rfl, h⟩
theorem Al.ref {K : PySem.W.Frag} {H : Hp} {n : Nat} {a : Addr} : Al K H (n + 1) (.ref a) (.ref a) := .inr (.inl ⟨a, rfl, rfl⟩)
theorem Al.self {K : PySem.W.Frag} {H : Hp} {n : Nat} : ∀ {x : V}, (∀ a, x = .ref a ∨ flatB x = true) → Al K H (n + 1) x x := fun {x} h => by
  cases x with
  | ref a => exact Al.ref
  | _ => exact Al.flat ((h 0).resolve_left (fun z => by cases z))
section
variable {X : Cx} {pins : List (Addr × Obj)} {σ : Aw.St} {H : Hp} {s : Shared}
theorem al_items {F : V → V → Prop} {A : Around} (ih : ∀ x y v u, F x y → RelV x v → RelV y u → SeqAt.EqAt A s v u true) : ∀ {xs ys : List V} {us ws : List Value}, Paired F xs ys → Vals xs us → Vals ys ws → ∀ j (h1 : j < us.length) (h2 : j < ws.length), SeqAt.EqAt A s us[j] ws[j] true
  | _, _, _, _, .nil, .nil, .nil, _, h1, _ => absurd h1 (Nat.not_lt_zero _)
  | _, _, _, _, .cons f _, .cons r1 _, .cons r2 _, 0, _, _ => ih _ _ _ _ f r1 r2
  | _, _, _, _, .cons _ p, .cons _ q1, .cons _ q2, j + 1, h1, h2 => al_items ih p q1 q2 j (Nat.lt_of_succ_lt_succ h1) (Nat.lt_of_succ_lt_succ h2)
theorem all_true (n : Nat) : ((List.range n).all fun _ => true) = true := List.all_eq_true.mpr fun _ _ => rfl
theorem al_run (I : Inv X pins σ H s) : ∀ (n : Nat) (A : Around), A.units + n < cLine → ∀ (x y : V) (v u : Value), Al X.K H n x y → RelV x v → RelV y u → SeqAt.EqAt A s v u true
  | 0, _, _, _, _, _, _, h, _, _ => (show False from h).elim
  | n + 1, A, hu, x, y, v, u, h, rx, ry => by
    rcases h with ⟨rfl, f⟩ | ⟨a, rfl, rfl⟩ | ⟨a, b, xs, ys, rfl, rfl, ha, hb, hp⟩
    · exact eqAt_same rx ry f
    · cases (show v = Value.ref a from rx)
      cases (show u = Value.ref a from ry)
      exact SeqAt.EqAt.same _
    · cases (show v = Value.ref a from rx)
      cases (show u = Value.ref b from ry)
      obtain ⟨us, r1, p1, _⟩ := I.tuple ha
      obtain ⟨ws, r2, p2, _⟩ := I.tuple hb
      have hsz : us.length = ws.length := by
        rw [← r1.length, ← r2.length]
        exact Paired.length hp
      have step := al_items (A := A.in1) (fun x y v u f => al_run I n A.in1 (by show A.units + 1 + n < cLine; omega) x y v u f) hp r1 r2
      have rc := SeqAt.RcAt.tuples (A := A) (s := s) (l := a) (b := b) (items := us.toArray) (items2 := ws.toArray) (e := fun _ => true) p1 p2 (by omega) (fun j h1 h2 => by simpa using step j (by simpa using h1) (by simpa using h2))
      by_cases e : a = b
      · subst e
        exact SeqAt.EqAt.same _
      · intro prog w E Q hq
        unfold eqBool
        refine wpAny_holding ?_
        refine wpAny_ite_split (fun hab => absurd (Value.ref.inj (eq_of_beq hab)) e) (fun _ => ?_)
        refine wpAny_bind (rc prog w E _ (wpAny_truthy_bool ?_))
        have e1 : ((List.range (min us.toArray.size ws.toArray.size)).all (fun _ => true) && us.toArray.size == ws.toArray.size) = true := by
          rw [all_true, List.size_toArray, List.size_toArray, hsz]
          simp
        rw [e1]
        exact hq
/-- x != y, two tuples that are alike -/
def rNeAl (K : PySem.W.Frag) : R2 := fun x y H Q => ∃ n a b xs ys, n ≤ 60 ∧ x = .ref a ∧ y = .ref b ∧ SqT K H a xs ∧ SqT K H b ys ∧ Paired (Al K H n) xs ys ∧ Q (.bl false) H
theorem op_neAl (hu : X.A.units + 64 < cLine) : OpR X (compareOp .NotEq) (rNeAl X.K) := by
  intro pins s σ H x y v u Q I rx ry h
  obtain ⟨n, a, b, xs, ys, hn, rfl, rfl, ha, hb, hp, q⟩ := h
  cases (show v = Value.ref a from rx)
  cases (show u = Value.ref b from ry)
  obtain ⟨us, r1, p1, _⟩ := I.tuple ha
  obtain ⟨ws, r2, p2, _⟩ := I.tuple hb
  have hsz : us.length = ws.length := by
    rw [← r1.length, ← r2.length]
    exact Paired.length hp
  have step := al_items (A := X.A.in1) (s := s) (fun x y v u f => al_run I n X.A.in1 (by show X.A.units + 1 + n < cLine; omega) x y v u f) hp r1 r2
  refine SeqAt.RcNeAt.tuples (A := X.A) (s := s) (l := a) (b := b) (items := us.toArray) (items2 := ws.toArray) (e := fun _ => true) p1 p2 (by omega) (fun j h1 h2 => by simpa using step j (by simpa using h1) (by simpa using h2)) X.prog X.w _ _ ?_
  have e1 : (!((List.range (min us.toArray.size ws.toArray.size)).all (fun _ => true) && us.toArray.size == ws.toArray.size)) = false := by
    rw [all_true, List.size_toArray, List.size_toArray, hsz]
    simp
  rw [e1]
  exact ⟨.bl false, H, I, rfl, q⟩
end
end Aw

namespace Aw
open PySem PySem.Spec PyProof.Rows L2 NdefX
/-- an own error class, made by X(v), with one field -/
structure Err (P : Program) (K : PySem.W.Frag) (mg : Str → Option Value) (x y fld : Str) (C : Addr) : Prop where
  ex : ∃ (f cc cda : Addr) (qual : Str) (args : Arguments) (body : List Stmt) (scope : Scope) (fd : FuncData), SupTxt P K mg C f cc cda qual y fld args body scope fd ∧ PySem.W.findIn K (.ref C) "__init__" = some (some (.ref f)) ∧ PySem.W.typeIn K (.ref f) = some (.type "function") ∧ Binds K fd ["self", y] []
  g : mg x = some (.ref C)
  D : ExcD K C
  hno : PySem.W.findIn K (.ref C) fld = some none
section
variable {X : Cx} {C : Addr} {y fld x : Str} {e : Expr} {es : List Expr} {ta : TA} {p pos : Pos}
theorem pe_err (Ex : Err X.prog X.K X.mg x y fld C) (hr : Room 2 X.A) (hg : Gl X x) (ha : PA X (e :: es) ta)
    (hdb : (x == ("__debug__" : Str)) = false := by decide) (he : starEach (e :: es) X.env = (false, eval e X.env) :: starEach es X.env := by rfl) (hpl : (backTo pos (starEach es X.env)).any (·.1) = false := by rfl) :
    PE X (.Call (.Name x p) (e :: es) [] pos) (tVaS C fld ta) := by
  obtain ⟨f, cc, cda, qual, args, body, scope, fd, S, iC, tI, hb⟩ := Ex.ex
  exact pe_sup S iC tI hb hr hg Ex.g ha hdb he hpl
theorem pmk_err (Ex : Err X.prog X.K X.mg x y fld C) (hr : Room 2 X.A) (hg : Gl X x) (ha : PA X (e :: es) ta)
    (hdb : (x == ("__debug__" : Str)) = false := by decide) (he : starEach (e :: es) X.env = (false, eval e X.env) :: starEach es X.env := by rfl) (hpl : (backTo pos (starEach es X.env)).any (·.1) = false := by rfl) :
    PMk X (.Call (.Name x p) (e :: es) [] pos) (tMkO C (spSup C fld) [] ta) := by
  obtain ⟨f, cc, cda, qual, args, body, scope, fd, S, iC, tI, hb⟩ := Ex.ex
  exact pmk_sup S iC tI hb hr hg Ex.g ha hdb he hpl
end
/-- an own error class without own __init__, made by X() -/
structure Err0 (K : PySem.W.Frag) (mg : Str → Option Value) (x : Str) (C : Addr) : Prop where
  q : PySem.W.excIn K C PySem.HandSPX.veTail "ValueError.__new__" = true
  kC : PySem.W.keepIn K (.ref C) = true
  g : mg x = some (.ref C)
  D : ExcD K C
section
variable {X : Cx} {C : Addr} {x : Str} {p pos : Pos}
theorem pe_err0 (Ex : Err0 X.K X.mg x C) (hg : Gl X x) (hdb : (x == ("__debug__" : Str)) = false := by decide) : PE X (.Call (.Name x p) [] [] pos) (fun _ H Q => ∀ a, H a = none → Q (.ref a) (upd H a (exo a C none))) := by
  refine ⟨fun pins s σ H Q I h => ?_⟩
  refine wpAny_Call_Name_kw (ld_glob I hg Ex.g ?_ hdb)
  refine PySem.W.callWith_K0 I.kIn Ex.kC ?_
  show wpAny _ _ (call (.ref C) []) _ _ _
  obtain ⟨bm, N, nm, qn, bs, hdct, sn, sub, ab, col, dd, k0, k1, k2, k3, k5, mN, hC, hN, hni, T⟩ := exc_obj I.kIn Ex.q
  refine wpAny_call_exc_subT F.excBase_ValueError T hC hN hni (fun h' a hm => ?_) (by show 0 ≤ sizeLine; omega)
  have hn : H a = none := I.hok.gone hm.new
  obtain ⟨t, ht, _, _⟩ := hm.there
  exact ⟨.ref a, upd H a (exo a C none), I.laidN hm.keeps hm.new hn (exo_ok ht), rfl, h a hn⟩
end
theorem ite_int {k j : Int} {A B : Prop} (h1 : k = j → A) (h2 : k ≠ j → B) : if decide (V.int k = V.int j) = true then A else B := by
  by_cases e : k = j
  · rw [decide_eq_true (by rw [e])]
    exact iteT (h1 e)
  · rw [decide_eq_false (fun z => e (V.int.inj z))]
    exact iteF (h2 e)
theorem ite_str {x y : Str} {A B : Prop} (h1 : x = y → A) (h2 : x ≠ y → B) : if decide (V.str x = V.str y) = true then A else B := by
  by_cases e : x = y
  · rw [decide_eq_true (by rw [e])]
    exact iteT (h1 e)
  · rw [decide_eq_false (fun z => e (V.str.inj z))]
    exact iteF (h2 e)
theorem ite_dec {c : Prop} [Decidable c] {A B : Prop} (h1 : c → A) (h2 : ¬ c → B) : if decide c = true then A else B := by
  by_cases e : c
  · rw [decide_eq_true e]
    exact iteT (h1 e)
  · rw [decide_eq_false e]
    exact iteF (h2 e)
theorem ite_ndec {c : Prop} [Decidable c] {A B : Prop} (h1 : ¬ c → A) (h2 : c → B) : if (!decide c) = true then A else B := by
  by_cases e : c
  · rw [decide_eq_true e]
    exact iteF (h2 e)
  · rw [decide_eq_false e]
    exact iteT (h1 e)
end Aw

namespace Aw
open PySem PySem.Spec PyProof.Rows L2 NdefX
abbrev sNum : Stmt := (top 14)
abbrev sWob : Stmt := (top 18)
abbrev sChkN : Stmt := (top 15)
abbrev sChkS : Stmt := (top 17)
abbrev sLBig : Stmt := (top 50)
abbrev sLBits : Stmt := (top 51)
abbrev sLSize : Stmt := (top 52)
abbrev sLPlace : Stmt := (top 53)
abbrev sTidy : Stmt := (top 23)
abbrev sMerge : Stmt := (top 25)
abbrev sClassm : Stmt := (top 22)
abbrev sAdded : Stmt := (top 26)
abbrev sIsMk : Stmt := (top 27)
abbrev sPor : Stmt := (top 39)
abbrev sIsRun : Stmt := (top 38)
abbrev sWidth : Stmt := (top 21)
abbrev sFull : Stmt := (top 3)
abbrev sManyB : Stmt := (top 4)
abbrev sUpto : Stmt := (top 28)
abbrev sLow : Stmt := (top 29)
abbrev sMany : Stmt := (inClass (top 37) 9)
abbrev sLRun : Stmt := (top 45)
abbrev sLRuns : Stmt := (top 46)
abbrev sMInit : Stmt := (inClass (top 37) 0)
abbrev sBitsOf : Stmt := (top 2)
abbrev sMPl : Stmt := (top 31)
abbrev sAsB : Stmt := (inClass (top 37) 16)
abbrev sOfB : Stmt := (inClass (top 37) 1)
abbrev sChkC : Stmt := (top 16)
abbrev sPlO : Stmt := (top 30)
abbrev sMBel : Stmt := (inClass (top 37) 11)
abbrev sMNth : Stmt := (inClass (top 37) 14)
abbrev sMNext : Stmt := (inClass (top 37) 12)
abbrev sMLast : Stmt := (inClass (top 37) 13)
abbrev sMLst : Stmt := (inClass (top 37) 15)
abbrev sLRf : Stmt := (top 54)
abbrev sLSm : Stmt := (top 55)
abbrev sLOr : Stmt := (top 56)
abbrev sLRr : Stmt := (top 57)
abbrev sLSr : Stmt := (top 58)
abbrev sLBr : Stmt := (top 59)
abbrev sLAr : Stmt := (top 60)
abbrev sLaw : Stmt := (top 61)
end Aw

namespace Aw
open PySem PySem.Spec PyProof.Rows L2 NdefX He5
open He (eqO eqO_ok ga ma frG frG_in)
/-! ### facts of the written part, as Bools -/
theorem bo {a b : Bool} (h : (a && b) = true) : a = true ∧ b = true := Bool.and_eq_true_iff.mp h
def excDB (K : PySem.W.Frag) (C : Addr) : Bool := eqO (PySem.W.findIn K (.ref C) "__getattribute__") (some (some (.builtin "BaseException.__getattribute__"))) && (eqO (PySem.W.findIn K (.ref C) "__getattr__") (some none) && (decide (PySem.W.subIn K (.ref C) (.type "BaseException") = some true) &&
  (PySem.W.hasDictIn K C && (eqO (PySem.W.findIn K (.ref C) "__class__") (some (some (.builtin "object.__class__"))) && (eqO (PySem.W.specialIn K (.builtin "object.__class__") "__get__") (some (some (.builtin "getset_descriptor.__get__"))) && (decide (PySem.W.takesIn K (.builtin "object.__class__") = some true) && decide (PySem.W.mroIn K C (.type "object") = some true)))))))
theorem excDB_ok {K : PySem.W.Frag} {C : Addr} (h : excDB K C = true) : ExcD K C := by
  obtain ⟨h1, h⟩ := bo h
  obtain ⟨h2, h⟩ := bo h
  obtain ⟨h3, h⟩ := bo h
  obtain ⟨h4, h⟩ := bo h
  obtain ⟨h5, h⟩ := bo h
  obtain ⟨h6, h⟩ := bo h
  obtain ⟨h7, h8⟩ := bo h
  exact ⟨eqO_ok h1, eqO_ok h2, of_decide_eq_true h3, h4, eqO_ok h5, eqO_ok h6, of_decide_eq_true h7, of_decide_eq_true h8⟩
def rawC (K : PySem.W.Frag) (C : Addr) : Bool := match K.lookup C with
  | some ⟨.type T, _, .cls cd, sl⟩ => (match cd.mro, sl.toList with
    | .ref C' :: bm, [_, _, _, _, some (.builtin n), _] => decide (T = "type") && (decide (C' = C) && (PySem.HandSPX.refsVE bm && (cd.hasDict && (!cd.hasDel && decide (n = "ValueError.__new__")))))
    | _, _ => false)
  | _ => false
theorem rawC_ok {K : PySem.W.Frag} {C : Addr} (h : rawC K C = true) : ∃ nm q N bs bm sn sub ab col dd k0 k1 k2 k3 k5, K.lookup C = some (excClassObj nm q C N bs bm true sn sub ab col dd k0 k1 k2 k3 k5 "ValueError.__new__") ∧ PySem.HandSPX.refsVE bm = true := by
  unfold rawC at h
  split at h
  · rename_i T dd cd sl ho
    split at h
    · rename_i C' bm k0 k1 k2 k3 n k5 hm hs
      obtain ⟨h1, h⟩ := bo h
      obtain ⟨h2, h⟩ := bo h
      obtain ⟨h3, h⟩ := bo h
      obtain ⟨h4, h⟩ := bo h
      obtain ⟨h5, h6⟩ := bo h
      have e1 := of_decide_eq_true h1
      have e2 := of_decide_eq_true h2
      have e6 := of_decide_eq_true h6
      subst e1 e2 e6
      obtain ⟨nm, bs, mro, ns, qn, hd, sn, sub, ab, col, del⟩ := cd
      dsimp only at hm h4 h5
      subst hm h4
      have hdel : del = false := by simpa using h5
      subst hdel
      obtain ⟨l⟩ := sl
      simp only at hs
      subst hs
      exact ⟨nm, qn, ns, bs, bm, sn, sub, ab, col, dd, k0, k1, k2, k3, k5, ho, h3⟩
    · cases h
  · cases h
def oexB (K : PySem.W.Frag) (C : Addr) : Bool := rawC K C && (eqO (PySem.W.findIn K (.ref C) "__setattr__") (some (some (.builtin "object.__setattr__"))) && (decide (PySem.W.subIn K (.ref C) (.type "BaseException") = some true) && (decide (PySem.W.typeIn K (.ref C) = some (.type "type")) && PySem.W.keepIn K (.ref C))))
theorem oexB_ok {K : PySem.W.Frag} {C : Addr} (h : oexB K C = true) : OexC K C := by
  obtain ⟨h1, h⟩ := bo h
  obtain ⟨h2, h⟩ := bo h
  obtain ⟨h3, h⟩ := bo h
  obtain ⟨h4, h5⟩ := bo h
  exact ⟨rawC_ok h1, eqO_ok h2, of_decide_eq_true h3, of_decide_eq_true h4, h5⟩
/-- the own __init__ of the class x, as it stands -/
def supAt (K : PySem.W.Frag) (x : Str) : Addr := ma K (ga K x) "__init__"
abbrev SupW : Type := Option (Str × Str × Arguments × FuncBody × Scope × Addr × List Str × Addr)
def supW (K : PySem.W.Frag) (x : Str) : SupW := match K.lookup (supAt K x) with
  | some ⟨_, _, .func fd, _⟩ => some (fd.name, fd.qualname, fd.params, fd.body, fd.scope, fd.globals, fd.closure.map (·.1), fd.builtins)
  | _ => none
structure SupD where
  x : Str
  qual : Str
  y : Str
  fld : Str
  st : Stmt
def SupD.val (d : SupD) : SupW := some ("__init__", d.qual, defArgs d.st, .stmts (defBody d.st), defScope d.st, mainGlobals, ["__class__"], builtinsNs)
def SupD.ok (file : Str) (K : PySem.W.Frag) (d : SupD) : Bool := oexB K (ga K d.x) && (excDB K (ga K d.x) && (eqO (PySem.W.nsIn K mainGlobals d.x) (some (some (.ref (ga K d.x)))) && (eqO (PySem.W.findIn K (.ref (ga K d.x)) "__init__") (some (some (.ref (supAt K d.x)))) && (decide (PySem.W.typeIn K (.ref (supAt K d.x)) = some (.type "function")) &&
  (eqO (PySem.W.ks_superIn K (ga K d.x) (ga K d.x) "__init__") (some (some (.builtin "ValueError.__init__"))) && (decide (PySem.W.subIn K (.ref (ga K d.x)) (.type "ValueError") = some true) && (decide (PySem.W.mroIn K (ga K d.x) (.ref (ga K d.x)) = some true) && (eqO (PySem.W.nsIn K cStatics "thirdparty.any") (some none) && (eqO (PySem.W.findIn K (.ref (ga K d.x)) d.fld) (some none) &&
  (eqO (PySem.W.nsIn K mainGlobals "super") (some none) && (match K.lookup (supAt K d.x) with
    | some ⟨_, _, .func fd, _⟩ => (match fd.closure, fd.code, fd.defaults with
      | [(_, cc)], .ref cda, .none => PySem.W.codeIn K (.ref cda) d.qual && ((match K.lookup cda with
          | some ⟨_, _, .fields vs, _⟩ => (match (vs[2]? : Option Value) with
            | some (Value.str fl _) => (file == fl)
            | _ => false)
          | _ => false) && (match K.lookup cc with
          | some ⟨_, _, .cell (some (.ref D)), _⟩ => decide (D = ga K d.x)
          | _ => false))
      | _, _, _ => false)
    | _ => false)))))))))))
/-- what the text itself says of such an __init__ -/
structure SupS (d : SupD) : Prop where
  bd : ∃ z j p0 p1 p2 p3 p4 p5 p6 p7 p8 p9, defBody d.st = supBody z d.y d.fld j p0 p1 p2 p3 p4 p5 p6 p7 p8 p9 ∧ (p2.endLine == p4.line) = true
  ar : ((defArgs d.st).posonlyargs ++ (defArgs d.st).args).head?.map (·.arg) = some "self"
  sc : NScope ["self", d.y, "__class__"] ["self", d.y] ["__class__"] (defScope d.st)
  scs : (defScope d.st).names.lookup ("super" : Str) = some .globalImplicit
  ny : (d.y == ("__debug__" : Str)) = false ∧ (d.y == ("__classdict__" : Str)) = false
  bind : ∀ (kV doc pm : Value) (an : Option Addr) (cdv ct : Value) (cc : Addr) (us : List Value), us.length = 2 → bindArgs (PySem.W.fnX "__init__" d.qual (defArgs d.st) (defBody d.st) (defScope d.st) [("__class__", cc)] .none kV doc pm an cdv ct) ⟨us, []⟩ = pure ((["self", d.y] : List Str).zip us)
theorem sup_err {P : Program} {K : PySem.W.Frag} {h : Heap} {mg : Str → Option Value} {d : SupD} (X : K.In h) (G : h.Ns mainGlobals mg) (S : SupS d) (htop : (P.main.scope.names.lookup ("super" : Str)).isSome = false) (e : supW K d.x = d.val) (c : d.ok P.main.file K = true) : Err P K mg d.x d.y d.fld (ga K d.x) := by
  obtain ⟨c1, c⟩ := bo c
  obtain ⟨c2, c⟩ := bo c
  obtain ⟨c3, c⟩ := bo c
  obtain ⟨c4, c⟩ := bo c
  obtain ⟨c5, c⟩ := bo c
  obtain ⟨c6, c⟩ := bo c
  obtain ⟨c7, c⟩ := bo c
  obtain ⟨c8, c⟩ := bo c
  obtain ⟨c9, c⟩ := bo c
  obtain ⟨c10, c⟩ := bo c
  obtain ⟨c11, c⟩ := bo c
  refine ⟨?_, PySem.W.mg_of X G (eqO_ok c3), excDB_ok c2, eqO_ok c10⟩
  unfold supW at e
  split at c
  · rename_i oc od fd osl lk
    rw [lk] at e
    split at c
    · rename_i n0 cc cda hcl hco hdf
      obtain ⟨d1, c⟩ := bo c
      obtain ⟨d2, d3⟩ := bo c
      obtain ⟨n1, n2, n3, n4, n5, n6, n7, n8, n9, n10, n11, n12, n13, n14, n15⟩ := fd
      dsimp only at hcl hco hdf
      have e2 : (some (n1, n2, n3, n4, n5, n6, n7.map (·.1), n15) : SupW) = (some (("__init__" : Str), d.qual, defArgs d.st, FuncBody.stmts (defBody d.st), defScope d.st, mainGlobals, (["__class__"] : List Str), builtinsNs) : SupW) := e
      simp only [Option.some.injEq, Prod.mk.injEq] at e2
      obtain ⟨h1, h2, h3, h4, h5, h6, h7, h8⟩ := e2
      subst h1 h2 h3 h4 h5 h6 h8 hcl hco hdf
      have hn0 : n0 = "__class__" := by simpa using h7
      subst hn0
      refine ⟨supAt K d.x, cc, cda, _, _, _, _, _, { T := oexB_ok c1, fdE := ⟨_, _, _, _, _, _, rfl⟩, lk := ⟨_, _, _, lk⟩, cd := d1, file := ?_, cell := ?_, hm := eqO_ok c6, hB := of_decide_eq_true c7, hself := of_decide_eq_true c8, ho := eqO_ok c9, hno := eqO_ok c10, hsup := PySem.W.mg_none_of X G (eqO_ok c11), htop := htop, bd := S.bd, ar := S.ar, sc := S.sc, scs := S.scs, ny := S.ny }, eqO_ok c4, of_decide_eq_true c5, ?_⟩
      · split at d2
        · rename_i ccl cdd vs ccs lkc
          split at d2
          · rename_i fl tf hv
            exact ⟨ccl, cdd, vs, ccs, fl, tf, lkc, hv, d2⟩
          · cases d2
        · cases d2
      · split at d3
        · rename_i cl cld D csl lkcc
          have eD := of_decide_eq_true d3
          subst eD
          exact ⟨cl, cld, csl, lkcc⟩
        · cases d3
      · exact .all fun us hl => S.bind _ _ _ _ _ _ _ us hl
    · cases c
  · cases c
def err0B (K : PySem.W.Frag) (x : Str) : Bool := PySem.W.excIn K (ga K x) PySem.HandSPX.veTail "ValueError.__new__" && (PySem.W.keepIn K (.ref (ga K x)) && (eqO (PySem.W.nsIn K mainGlobals x) (some (some (.ref (ga K x)))) && excDB K (ga K x)))
theorem err0_of {K : PySem.W.Frag} {h : Heap} {mg : Str → Option Value} {x : Str} (X : K.In h) (G : h.Ns mainGlobals mg) (c : err0B K x = true) : Err0 K mg x (ga K x) := by
  obtain ⟨c1, c⟩ := bo c
  obtain ⟨c2, c⟩ := bo c
  obtain ⟨c3, c4⟩ := bo c
  exact ⟨c1, c2, PySem.W.mg_of X G (eqO_ok c3), excDB_ok c4⟩
def gloB (K : PySem.W.Frag) (x : Str) : Bool := eqO (PySem.W.nsIn K mainGlobals x) (some (some (.ref (ga K x))))
def freB (K : PySem.W.Frag) (x : Str) : Bool := eqO (PySem.W.nsIn K mainGlobals x) (some none)
theorem glo_of {K : PySem.W.Frag} {h : Heap} {mg : Str → Option Value} {x : Str} (X : K.In h) (G : h.Ns mainGlobals mg) (c : gloB K x = true) : mg x = some (.ref (ga K x)) := PySem.W.mg_of X G (eqO_ok c)
theorem fre_of {K : PySem.W.Frag} {h : Heap} {mg : Str → Option Value} {x : Str} (X : K.In h) (G : h.Ns mainGlobals mg) (c : freB K x = true) : mg x = none := PySem.W.mg_none_of X G (eqO_ok c)
/-! ### the Hook: the defs, the __init__s, the tables, a Bool -/
abbrev AlZ : Type := He.AlD × (List SupW × (List (Option (List (Option (Str × Int)))) × Bool))
def obsZ (fn : List DefA) (su : List SupD) (ts : List He.Tab) (ex : PySem.W.Frag → Bool) (K : PySem.W.Frag) : AlZ := (obsA [] fn K, su.map (fun d => supW K d.x), ts.map (fun t => He.dicW K (t.1 K)), ex K)
def valZ (fn : List DefA) (su : List SupD) (ts : List He.Tab) (w : World) : AlZ := (valA fn, su.map SupD.val, ts.map (fun t => some (He.keysIn w.params t.2)), true)
def SaysZ (fn : List DefA) (su : List SupD) (ts : List He.Tab) (ex : PySem.W.Frag → Bool) (w : World) (K : PySem.W.Frag) : Prop := obsZ fn su ts ex K = valZ fn su ts w
def obsZG (n : Nat) (fn : List DefA) (su : List SupD) (ts : List He.Tab) (ex : PySem.W.Frag → Bool) (g : Addr → Option Obj) : AlZ := obsZ fn su ts ex (frG g (asA g n))
def hookZ (n : Nat) (fn : List DefA) (su : List SupD) (ts : List He.Tab) (ex : PySem.W.Frag → Bool) : PySem.W.Hook where
  α := AlZ
  obs := fun s => obsZG n fn su ts ex s.heap.get?
  val := fun w => valZ fn su ts w
  says := fun w h => ∃ K : PySem.W.Frag, K.In h ∧ SaysZ fn su ts ex w K
  of := fun _ _ e => ⟨_, frG_in, e⟩
  keeps := fun _ _ _ ⟨K, hK, c⟩ k => ⟨K, PySem.W.Frag.In.keeps hK k, c⟩
theorem obsZG_eq {n : Nat} {fn : List DefA} {su : List SupD} {ts : List He.Tab} {ex : PySem.W.Frag → Bool} {g : Addr → Option Obj} {s : Shared} (h : ∀ a, g a = s.heap.get? a) : obsZG n fn su ts ex g = (hookZ n fn su ts ex).obs s := by
  have e : g = s.heap.get? := funext h
  rw [e] <;> rfl
/-- the same over a written list of addresses (found once by evaluation: aslist.sh): nothing is searched for in the run -/
def obsLG (as : List Addr) (fn : List DefA) (su : List SupD) (ts : List He.Tab) (ex : PySem.W.Frag → Bool) (g : Addr → Option Obj) : AlZ := obsZ fn su ts ex (frG g as)
def hookL (as : List Addr) (fn : List DefA) (su : List SupD) (ts : List He.Tab) (ex : PySem.W.Frag → Bool) : PySem.W.Hook where
  α := AlZ
  obs := fun s => obsLG as fn su ts ex s.heap.get?
  val := fun w => valZ fn su ts w
  says := fun w h => ∃ K : PySem.W.Frag, K.In h ∧ SaysZ fn su ts ex w K
  of := fun _ _ e => ⟨_, frG_in, e⟩
  keeps := fun _ _ _ ⟨K, hK, c⟩ k => ⟨K, PySem.W.Frag.In.keeps hK k, c⟩
theorem obsLG_eq {as : List Addr} {fn : List DefA} {su : List SupD} {ts : List He.Tab} {ex : PySem.W.Frag → Bool} {g : Addr → Option Obj} {s : Shared} (h : ∀ a, g a = s.heap.get? a) : obsLG as fn su ts ex g = (hookL as fn su ts ex).obs s := by
  have e : g = s.heap.get? := funext h
  rw [e] <;> rfl
section
variable {fn : List DefA} {su : List SupD} {ts : List He.Tab} {ex : PySem.W.Frag → Bool} {w : World} {K : PySem.W.Frag}
theorem SaysZ.more (c : SaysZ fn su ts ex w K) : ex K = true := congrArg (fun z : AlZ => z.2.2.2) c
theorem SaysZ.def_ (c : SaysZ fn su ts ex w K) (i : Nat) {d : DefA} (h : fn[i]? = some d := by rfl) : ∃ fd, L2.FunD K d.name d.qual d.params d.body d.scope (d.dvs K) (d.kws K) (d.at_ K) fd :=
  SaysA.def_ (fa := []) (fn := fn) (show obsA [] fn K = valA fn from congrArg (fun z : AlZ => z.1) c) i h
theorem SaysZ.sup (c : SaysZ fn su ts ex w K) (i : Nat) {d : SupD} (h : su[i]? = some d := by rfl) : supW K d.x = d.val := by
  have e : su.map (fun d => supW K d.x) = su.map SupD.val := congrArg (fun z : AlZ => z.2.1) c
  have e2 : (su.map fun d => supW K d.x)[i]? = (su.map SupD.val)[i]? := by rw [e]
  rw [List.getElem?_map, List.getElem?_map, h] at e2
  exact Option.some.inj e2
theorem SaysZ.tab (c : SaysZ fn su ts ex w K) (i : Nat) {t : He.Tab} (h : ts[i]? = some t := by rfl) : ∃ es n, KDict K w (t.1 K) es n := by
  have e : ts.map (fun t => He.dicW K (t.1 K)) = ts.map fun t => some (He.keysIn w.params t.2) := congrArg (fun z : AlZ => z.2.2.1) c
  have e2 : (ts.map fun t => He.dicW K (t.1 K))[i]? = (ts.map fun t => some (He.keysIn w.params t.2))[i]? := by rw [e]
  rw [List.getElem?_map, List.getElem?_map, h] at e2
  exact He.dicW_ok (Option.some.inj e2)
end
/-- a def of the top without defaults -/
def defG (x : Str) (st : Stmt) : DefA := ⟨fun K => ga K x, x, x, defArgs st, defBody st, defScope st, [], []⟩
/-- a method -/
def defM (x m q : Str) (st : Stmt) : DefA := ⟨fun K => ma K (ga K x) m, m, q, defArgs st, defBody st, defScope st, [], []⟩
end Aw

namespace Aw
open PySem PySem.Spec PyProof.Rows L2 NdefX He5
open He (eqO eqO_ok ga ma Fa cls_ok noat_ok meth_ok mkr_ok exm_ok int_ok tupB tupB_ok valsB valsB_ok Dv relAll relAll_ok)
def spmB (K : PySem.W.Frag) (C : Addr) (m : Str) : Bool := eqO (PySem.W.findIn K (.ref C) m) (some (some (.ref (ma K C m)))) && (PySem.W.isFn K (.ref (ma K C m)) && PySem.W.fnIn K (ma K C m))
theorem spmB_ok {K : PySem.W.Frag} {C : Addr} {m : Str} (h : spmB K C m = true) : PySem.W.findIn K (.ref C) m = some (some (.ref (ma K C m))) ∧ PySem.W.isFn K (.ref (ma K C m)) = true ∧ PySem.W.fnIn K (ma K C m) = true := by
  obtain ⟨h1, h⟩ := bo h
  obtain ⟨h2, h3⟩ := bo h
  exact ⟨eqO_ok h1, h2, h3⟩
def creadB (K : PySem.W.Frag) (C : Addr) : Bool := PySem.W.readsIn K C (.type "type") && eqO (PySem.W.specialIn K (.ref C) "__getattribute__") (some (some (.builtin "type.__getattribute__")))
theorem creadB_ok {K : PySem.W.Frag} {C : Addr} (h : creadB K C = true) : ClX.CRead K C (.type "type") := by
  obtain ⟨h1, h2⟩ := bo h
  exact ⟨h1, eqO_ok h2⟩
def clsmB (K : PySem.W.Frag) (C : Addr) (m : Str) : Bool := wrapB K C "classmethod" "classmethod.__get__" m && PySem.W.fnIn K (wf K C "classmethod" m)
theorem clsmB_ok {K : PySem.W.Frag} {C : Addr} {m : Str} (h : clsmB K C m = true) : ClX.CMet K C (.type "type") m (ma K C m) (wf K C "classmethod" m) := by
  obtain ⟨h1, h2⟩ := bo h
  exact cmet_of h1 h2
def kitB' (K : PySem.W.Frag) (a b : Value) (r : Bool) : Bool := decide (PySem.W.kitOne K a b = some r)
def lams : List Str := ["_law_runs_refused", "_law_sizes_refused", "_law_bits_refused", "_law_asked_refused"]
def ceK (K : PySem.W.Frag) : Nat → Addr
  | 0 => ga K "BadNumber"
  | 1 => ga K "BadSize"
  | 2 => ga K "BadBits"
  | _ => ga K "TooMany"
/-- the code object and the table of a def of the top -/
def tabP (K : PySem.W.Frag) (x : Str) : Addr × Addr := (PySem.W.tabIn K x).getD (0, 0)
def tabB (K : PySem.W.Frag) (x : Str) : Bool := eqO (PySem.W.nsIn K mainGlobals x) (some (some (.ref (ga K x)))) && (decide (PySem.W.tabIn K x = some (tabP K x)) && (K.lookup (tabP K x).2).isNone)
/-- an empty tuple of the written part -/
def mtB (K : PySem.W.Frag) (a : Addr) : Bool := match K.lookup a with
  | some ⟨.type T, _, .seq its _, _⟩ => decide (T = "tuple") && decide (its.size = 0)
  | _ => false
theorem mtB_ok {K : PySem.W.Frag} {a : Addr} (h : mtB K a = true) (H : Hp) : SqT K H a [] := by
  unfold mtB at h
  split at h
  · rename_i T dd its n sl e
    obtain ⟨h1, h2⟩ := bo h
    have h1 := of_decide_eq_true h1
    have h2 := of_decide_eq_true h2
    subst h1
    refine .inr ⟨_, its, n, e, rfl, rfl, by rw [h2]; exact Nat.zero_le _, ?_⟩
    have e0 : its = #[] := Array.eq_empty_of_size_eq_zero h2
    rw [e0]
    exact .nil
  · cases h
def su0 : SupD := ⟨"BadNumber", "BadNumber.__init__", "number", "number", (inClass (top 7) 0)⟩
theorem ss0 : SupS su0 := ⟨⟨_, _, _, _, _, _, _, _, _, _, _, _, rfl, rfl⟩, rfl, nscope_by (by decide +kernel), rfl, ⟨by decide, by decide⟩, fun _ _ _ _ _ _ _ us hl => match us, hl with | [_, _], _ => rfl⟩
def su1 : SupD := ⟨"BadSize", "BadSize.__init__", "size", "size", (inClass (top 8) 0)⟩
theorem ss1 : SupS su1 := ⟨⟨_, _, _, _, _, _, _, _, _, _, _, _, rfl, rfl⟩, rfl, nscope_by (by decide +kernel), rfl, ⟨by decide, by decide⟩, fun _ _ _ _ _ _ _ us hl => match us, hl with | [_, _], _ => rfl⟩
def su2 : SupD := ⟨"BadBits", "BadBits.__init__", "index", "index", (inClass (top 9) 0)⟩
theorem ss2 : SupS su2 := ⟨⟨_, _, _, _, _, _, _, _, _, _, _, _, rfl, rfl⟩, rfl, nscope_by (by decide +kernel), rfl, ⟨by decide, by decide⟩, fun _ _ _ _ _ _ _ us hl => match us, hl with | [_, _], _ => rfl⟩
def su3 : SupD := ⟨"TooMany", "TooMany.__init__", "most", "most", (inClass (top 10) 0)⟩
theorem ss3 : SupS su3 := ⟨⟨_, _, _, _, _, _, _, _, _, _, _, _, rfl, rfl⟩, rfl, nscope_by (by decide +kernel), rfl, ⟨by decide, by decide⟩, fun _ _ _ _ _ _ _ us hl => match us, hl with | [_, _], _ => rfl⟩
def sus : List SupD := [su0, su1, su2, su3]
/-- a classmethod -/
def defC (x m q : Str) (st : Stmt) : DefA := ⟨fun K => wf K (ga K x) "classmethod" m, m, q, defArgs st, defBody st, defScope st, [], []⟩
def ddWob : DefA := ⟨fun K => ga K "word_of_bits", "word_of_bits", "word_of_bits", defArgs sWob, defBody sWob, defScope sWob, [He.Dv.int 1000], []⟩
def ddMInit : DefA := ⟨fun K => ma K (ga K "Marks") "__init__", "__init__", "Marks.__init__", defArgs sMInit, defBody sMInit, defScope sMInit, [Dv.adr (He.dflAt ("Marks", some "__init__") 0)], []⟩
def fns : List DefA := [defG "_law_pen" sPen, defG "_law_draw" sDraw, defG "_law_pick" sPick, defG "_law_big" sLBig, defG "_law_bits" sLBits, defG "_law_size" sLSize, defG "_law_place" sLPlace, defG "_law_run" sLRun, defG "_law_runs" sLRuns, defG "_law_refusal" sLRf, defG "_law_same" sLSm, defG "_law_odd_runs" sLOr, defG "_law_runs_refused" sLRr, defG "_law_sizes_refused" sLSr, defG "_law_bits_refused" sLBr, defG "_law_asked_refused" sLAr, defG "law" sLaw, defG "bits_of" sBitsOf, defG "full" sFull, defG "many_bits" sManyB, defG "is_number" sNum, defG "check_number" sChkN, defG "check_count" sChkC, defG "check_size" sChkS, defG "width" sWidth, defG "class_mask" sClassm, defG "tidied" sTidy, defG "merged" sMerge, defG "added" sAdded, defG "many_upto" sUpto, defG "many_below" sLow, defG "place_of" sPlO, defG "marked_places" sMPl, defG "is_run" sIsRun, defG "pieces_of_runs" sPor, defM "Marks" "many" "Marks.many" sMany, defM "Marks" "below" "Marks.below" sMBel, defM "Marks" "nth" "Marks.nth" sMNth, defM "Marks" "next_from" "Marks.next_from" sMNext, defM "Marks" "last_upto" "Marks.last_upto" sMLast, defM "Marks" "listed" "Marks.listed" sMLst, defM "Marks" "as_bits" "Marks.as_bits" sAsB, defC "Marks" "of_bits" "Marks.of_bits" sOfB, ddWob, ddMInit]
def globs : List Str := (["_law_pen", "_law_draw", "_law_pick", "_law_big", "_law_bits", "_law_size", "_law_place", "_law_run", "_law_runs", "_law_refusal", "_law_same", "_law_odd_runs", "_law_runs_refused", "_law_sizes_refused", "_law_bits_refused", "_law_asked_refused", "law", "bits_of", "full", "many_bits"] : List Str) ++ (["is_number", "check_number", "check_count", "check_size", "width", "class_mask", "tidied", "merged", "added", "many_upto", "many_below", "place_of", "marked_places", "is_run", "pieces_of_runs", "word_of_bits", "WordsError", "BadNumber", "BadSize", "BadBits"] : List Str) ++ (["TooMany", "Marks"] : List Str)
def frees : List Str := ["list", "int", "len", "isinstance", "range", "str", "bool", "tuple", "enumerate", "sum", "max", "min", "divmod", "ValueError"]
def tabs : List He.Tab := []
def fas : List Fa := [.cls "Marks", .noat "Marks" "size", .noat "Marks" "depth", .noat "Marks" "pieces", .mkr "Marks", .meth "Marks" "many", .meth "Marks" "below", .meth "Marks" "nth", .meth "Marks" "next_from", .meth "Marks" "last_upto", .meth "Marks" "listed", .meth "Marks" "as_bits", .int "MOST_SIZE" (10 ^ 30), .int "BASE" 12, .int "MOST_RUNS" 20, .int "MOST_STEP" 4, .int "MOST_LISTED" 1000, .int "MOST_TOLD_BITS" 60]
def xCr (K : PySem.W.Frag) : Bool := creadB K (ga K "Marks")
def xCm (K : PySem.W.Frag) : Bool := clsmB K (ga K "Marks") "of_bits"
def xMt (K : PySem.W.Frag) : Bool := mtB K (He.dflAt ("Marks", some "__init__") 0 K)
def xTab (K : PySem.W.Frag) : Bool := lams.all (tabB K)
def xDis (K : PySem.W.Frag) : Bool := decide ((lams.map fun x => (tabP K x).2).Nodup)
def xKw (K : PySem.W.Frag) : Bool := (List.range 4).all fun i => kitB' K (.ref (ceK K i)) (.ref (ga K "WordsError")) true && kitB' K (.ref (ceK K i)) (.type "ValueError") true
def xEx (K : PySem.W.Frag) : Bool := (List.range 4).all fun i => (List.range 4).all fun j => decide (PySem.W.exmOne K (.ref (ceK K i)) (.ref (ceK K j)) = some (decide (i = j)))
def exs : List (PySem.W.Frag → Bool) := [xCr, xCm, xMt, xTab, xDis, xKw, xEx]
def exB (K : PySem.W.Frag) : Bool := globs.all (gloB K) && (frees.all (freB K) && (sus.all (fun d => d.ok PySem.Challenge.pw_allwordlengths_k16_marks_that_are_refuse.main.file K) && (fas.all (Fa.ok K) && exs.all (fun f => f K))))
abbrev R0 : PySem.W.OpenRow := PySem.W.OpenLaw.row PySem.Challenge.rw_allwordlengths_k16_marks_that_are_refuse
def asL : List Addr := [3, 26, 33, 40, 50, 72, 93, 114, 135, 144, 151, 158, 165, 173, 180, 185, 192, 204, 209, 223, 230, 237, 244, 366, 377, 384, 417, 424, 431, 438, 445, 452, 457, 464, 471, 478, 485, 492, 499, 506, 511, 518, 525, 25, 32, 39, 49, 71, 92, 113, 134, 143, 150, 157, 164, 172, 166, 179, 184, 191, 203, 208, 222, 229, 236, 243, 365, 376, 383, 416, 423, 430, 437, 444, 451, 456, 463, 470, 477, 484, 491, 498, 505, 510, 517, 524, 69, 90, 111, 132, 260, 267, 314, 328, 335, 342, 349, 356, 363, 68, 57, 89, 78, 110, 99, 131, 120, 259, 253, 265, 313, 327, 334, 341, 348, 355, 362, 252, 264, 2]
abbrev hk : PySem.W.Hook := hookL asL fns sus tabs exB
def ob (s : PySem.W.SharedT) : AlZ := obsLG asL fns sus tabs exB (HandSHeadRun.getT s)
theorem ob_eq (s : PySem.W.SharedT) : ob s = hk.obs s.abs := obsLG_eq (HandSHeadRun.getT_eq s)
def loose : List Str := (["_wall", "bits_of", "full", "many_bits", "WordsError", "BadNumber", "BadSize", "BadBits", "TooMany", "MOST_BITS", "MOST_SIZE", "is_number", "check_number", "check_count", "check_size", "word_of_bits", "BASE", "width", "class_mask", "tidied", "deepened", "merged", "added", "is_marked", "many_upto", "many_below", "place_of", "marked_places", "MOST_RUNS", "MOST_STEP"] : List Str) ++ (["MOST_TOLD_BITS", "MOST_LISTED", "Marks", "is_run", "pieces_of_runs", "marks_of", "beside", "joined", "are_same", "_law_run", "_law_runs", "_law_pen", "_law_draw", "_law_pick", "_law_big", "_law_bits", "_law_size", "_law_place", "_law_refusal", "_law_same", "_law_odd_runs"] : List Str)
theorem runF (w : World) : HandSHeadRun.RunEq R0 (PySem.W.view R0.prog [57, 58, 59, 60, 61]) hk ob 12000 loose (w.withFollow "special-get-raises" false) := fun os => by kernel_rfl
theorem runT (w : World) : HandSHeadRun.RunEq R0 (PySem.W.view R0.prog [57, 58, 59, 60, 61]) hk ob 12000 loose (w.withFollow "special-get-raises" true) := fun os => by kernel_rfl
theorem run (w : World) : HandSHeadRun.RunEq R0 (PySem.W.view R0.prog [57, 58, 59, 60, 61]) hk ob 12000 loose w :=
  PySem.W.byRow2 "special-get-raises" (P := fun w => HandSHeadRun.RunEq R0 (PySem.W.view R0.prog [57, 58, 59, 60, 61]) hk ob 12000 loose w) runF runT w
end Aw

namespace Aw
open PySem PySem.Spec PyProof.Rows L2 NdefX
/-! ### what the rows without steps need of step, stepobj, lawtext, laws0 -/
/-- a value whose type is known; whether it is a text -/
inductive VOk (H : Hp) : V → Prop
  | str (x : Str) (h : x.length ≤ 1000) : VOk H (.str x)
  | non : VOk H .non
  | bl (b : Bool) : VOk H (.bl b)
  | int (i : Int) : VOk H (.int i)
  | lst {a : Addr} {xs : List V} (h : H a = some (.lst xs)) : VOk H (.ref a)
  | tup {a : Addr} {xs : List V} (h : H a = some (.tup xs)) : VOk H (.ref a)
  | dct {a : Addr} {kvs : List (Key × V)} (h : H a = some (.dK kvs)) : VOk H (.ref a)
theorem VOk.same {H H' : Hp} (s : Same H H') : ∀ {v : V}, VOk H v → VOk H' v
  | _, .str x h => .str x h
  | _, .non => .non
  | _, .bl b => .bl b
  | _, .int i => .int i
  | _, .lst h => .lst (s _ _ h)
  | _, .tup h => .tup (s _ _ h)
  | _, .dct h => .dct (s _ _ h)
def isStr : V → Bool
  | .str _ => true
  | _ => false
theorem VOk.isi {K : PySem.W.Frag} {H : Hp} {v : V} (h : VOk H v) : ∃ t, TyX K H v t ∧ PySem.W.kitOne K t (.type "str") = some (isStr v) := by
  cases h with
  | str x h => exact ⟨_, .base (.str x), kit_ty (show kitB "str" "str" = some true by decide +kernel)⟩
  | non => exact ⟨_, .base .non, kit_ty (show kitB "NoneType" "str" = some false by decide +kernel)⟩
  | bl b => exact ⟨_, .base (.bl b), kit_ty (show kitB "bool" "str" = some false by decide +kernel)⟩
  | int i => exact ⟨_, .base (.int i), kit_ty (show kitB "int" "str" = some false by decide +kernel)⟩
  | lst h => exact ⟨_, .base (.lst h), kit_ty (show kitB "list" "str" = some false by decide +kernel)⟩
  | tup h => exact ⟨_, .base (.tup h), kit_ty (show kitB "tuple" "str" = some false by decide +kernel)⟩
  | dct h => exact ⟨_, .base (.dK h), kit_ty (show kitB "dict" "str" = some false by decide +kernel)⟩
theorem lkk {α : Type} {k m : Str} {v : α} {l : List (Str × α)} (h : ¬ m = k) : ((k, v) :: l).lookup m = l.lookup m := by
  have e : (m == k) = false := by simpa using h
  simp [List.lookup, e]
theorem lk1 {α : Type} {k : Str} {v : α} {l : List (Str × α)} : ((k, v) :: l).lookup k = some v := by simp [List.lookup]
def strI (i : Int) : Str := toString i
theorem kz : (1000 : Nat) ≤ sizeLine := by decide
theorem same_fresh {H H2 : Hp} {D : Addr} {o : HO} (hD : H D = none) (s2 : Same H H2) : Same H (upd H2 D o) := fun b u e => by rw [upd_ne (ne_of_none e hD)]; exact s2 _ _ e
theorem small200 {n : Nat} (h : n ≤ 1000) : n ≤ sizeLine := Nat.le_trans h kz
theorem small200' {n : Nat} (h : n < 1000) : n < sizeLine := Nat.lt_of_lt_of_le h kz
theorem map_take {α β : Type} (f : Nat → α) (g : α → β) (n : Nat) : ((List.range (n + 1)).map f).map g = ((List.range n).map f).map g ++ [g (f n)] := by
  rw [List.range_succ, List.map_append, List.map_append]
  rfl
theorem dec_ints {i j : Int} : decide (V.int i = V.int j) = decide (i = j) := by
  by_cases e : i = j
  · rw [decide_eq_true e, decide_eq_true (by rw [e])]
  · rw [decide_eq_false e, decide_eq_false (fun z => e (V.int.inj z))]
end Aw

namespace Aw
open PySem PySem.Spec PyProof.Rows L2 NdefX
/-- an integer from lo to hi, no bool -/
def numB (v : V) (lo hi : Int) : Bool := match v with
  | .int i => decide (lo ≤ i) && decide (i ≤ hi)
  | _ => false
def isIB : V → Bool
  | .int _ => true
  | .bl _ => true
  | _ => false
def isBB : V → Bool
  | .bl _ => true
  | _ => false
theorem VOk.ty {K : PySem.W.Frag} {H : Hp} {v : V} (h : VOk H v) : ∃ t, TyX K H v t ∧ PySem.W.kitOne K t (.type "int") = some (isIB v) ∧ PySem.W.kitOne K t (.type "bool") = some (isBB v) := by
  cases h with
  | str x h => exact ⟨_, .base (.str x), kit_ty (show kitB "str" "int" = some false by decide +kernel), kit_ty (show kitB "str" "bool" = some false by decide +kernel)⟩
  | non => exact ⟨_, .base .non, kit_ty (show kitB "NoneType" "int" = some false by decide +kernel), kit_ty (show kitB "NoneType" "bool" = some false by decide +kernel)⟩
  | bl b => exact ⟨_, .base (.bl b), kit_ty (show kitB "bool" "int" = some true by decide +kernel), kit_ty (show kitB "bool" "bool" = some true by decide +kernel)⟩
  | int i => exact ⟨_, .base (.int i), kit_ty (show kitB "int" "int" = some true by decide +kernel), kit_ty (show kitB "int" "bool" = some false by decide +kernel)⟩
  | lst h => exact ⟨_, .base (.lst h), kit_ty (show kitB "list" "int" = some false by decide +kernel), kit_ty (show kitB "list" "bool" = some false by decide +kernel)⟩
  | tup h => exact ⟨_, .base (.tup h), kit_ty (show kitB "tuple" "int" = some false by decide +kernel), kit_ty (show kitB "tuple" "bool" = some false by decide +kernel)⟩
  | dct h => exact ⟨_, .base (.dK h), kit_ty (show kitB "dict" "int" = some false by decide +kernel), kit_ty (show kitB "dict" "bool" = some false by decide +kernel)⟩
def spNum : Sp := fun vs H Q _ => ∃ (v : V) (lo hi : Int), vs = [v, .int lo, .int hi] ∧ VOk H v ∧ Q (.bl (numB v lo hi)) H
section
variable {P : Program} {w : World} {K : PySem.W.Frag} {mg : Str → Option Value} {base : Heap}
theorem scNum : FnScope ["value", "low", "high"] ["value", "low", "high"] (defScope sNum) := ⟨rfl, rfl, rfl, by decide +kernel, rfl, by decide +kernel, by decide +kernel⟩
theorem ok_num {f : Addr} {fd : FuncData} (F : Fun K "is_number" "is_number" sNum f fd) (isi : mg "isinstance" = none) (gI : mg "int" = none) (gB : mg "bool" = none) : FnOk P w K mg base CX0 1 f fd ["value", "low", "high"] spNum := by
  refine F.ok scNum (fun vs H Q E h => ?_) (fun cdv A outer s H vs Q E hr h => ?_)
  · obtain ⟨v, lo, hi, rfl, _⟩ := h
    rfl
  · obtain ⟨v, lo, hi, rfl, hv, hQ⟩ := h
    have nd := scNum.nd
    refine ⟨_, (pss_one (ps_ret (pe_and (pe_callB call_isi (by rfl) isi (by decide +kernel) (pa_cons (pv 0) (pa_cons (pe_bltn (v := .ty "int") (by rfl) gI (by decide +kernel) rfl) pa_nil))) (pe_and (pe_not (pe_callB call_isi (by rfl) isi (by decide +kernel) (pa_cons (pv 0) (pa_cons (pe_bltn (v := .ty "bool") (by rfl) gB (by decide +kernel) rfl) pa_nil)))) (pe_one (pe_chain op_le op_le (pv 1) (pv 0) (pv 2))))))), ?_⟩
    obtain ⟨t, ty, kI, kB⟩ := hv.ty (K := K)
    refine ⟨_, rfl, v, .ty "int", t, .type "int", isIB v, rfl, .ty _, ty, kI, _, rfl, ?_⟩
    cases hv with
    | int i =>
      refine iteT ?_
      refine ⟨_, rfl, .int i, .ty "bool", t, .type "bool", false, rfl, .ty _, ty, kB, _, rfl, _, rfl, ?_⟩
      refine iteT ?_
      refine ⟨_, rfl, _, rfl, lo, i, rfl, rfl, _, rfl, ?_⟩
      change Q (.bl (decide (lo ≤ i) && decide (i ≤ hi))) H at hQ
      refine ite_dec (fun h => ?_) (fun h => ?_)
      · refine ⟨_, rfl, i, hi, rfl, rfl, ?_⟩
        rw [decide_eq_true h, Bool.true_and] at hQ
        exact hQ
      · rw [decide_eq_false h, Bool.false_and] at hQ
        exact hQ
    | bl b =>
      refine iteT ?_
      refine ⟨_, rfl, .bl b, .ty "bool", t, .type "bool", true, rfl, .ty _, ty, kB, _, rfl, _, rfl, ?_⟩
      exact iteF hQ
    | _ => exact iteF hQ
end
end Aw

namespace Aw
open PySem PySem.Spec PyProof.Rows L2 NdefX
/-! ### enumerate(tuple) -/
set_option maxHeartbeats 4000000 in
theorem meets_enum1 {v : Value} {o : Obj} {G : Heap → Prop} (B : Begins v o G) :
    Meets (Builtin.«enumerate.__new__» ⟨[.type "enumerate", v], []⟩) (fun _ R s => G s.heap ∧
      R (.ok (.ret (.ref (s.heap.push o).objs.size))) { s with heap := (s.heap.push o).push { cls := .type "enumerate", data := .fields #[.none, .bool false, .ref s.heap.objs.size, rawInt 0, .none, .none] } }) :=
  .of_wp fun prog w A R s h => by
    obtain ⟨hp, g, d, tk, os⟩ := s; obtain ⟨h1, h⟩ := h
    have hsub := sub_enumerate
    have q1 : ∀ {A' : Around} {E : Value → Shared → Prop} {Q : Value → Shared → Prop}, Q (.ref hp.objs.size) ⟨hp.push o, g, d, tk, os⟩ → wpAny (model prog w) A' (pyIter v) Q E ⟨hp, g, d, tk, os⟩ :=
      fun q => B.iter prog w _ _ ⟨hp, g, d, tk, os⟩ _ h1 q
    wp_walk using q1
    refine wpAny_stack_any fun st => wpAny_pure ?_
    split
    · rename_i c _ _ _ _ _
      cases (c == Value.type "enumerate")
      · wp_walk using q1
        exact ⟨_, rfl, h⟩
      · wp_walk using q1
        exact ⟨_, rfl, h⟩
    · wp_walk using q1
      exact ⟨_, rfl, h⟩
theorem enum_begins1 {prog : Program} {w : World} {A : Around} {E : Value → Shared → Prop} {s : Shared} {v : Value} {o : Obj} {G : Heap → Prop} {Q : Value → Shared → Prop} (B : Begins v o G) (h1 : G s.heap)
    (h : ∀ h', IsEnum h' (s.heap.objs.size + 1) s.heap.objs.size 0 .none → h'.get? s.heap.objs.size = some o → h'.objs.size = s.heap.objs.size + 2 →
      (∀ b o, s.heap.get? b = some o → h'.get? b = some o) → Q (.ref (s.heap.objs.size + 1)) { s with heap := h' }) :
    wpAny (model prog w) A (call (.type "enumerate") [v]) Q E s := by
  refine callType_new F.called_enumerate (by decide) (F.typeCall_enumerate_1 _) (F.newCall_enumerate_1 _) (fun obj => F.args_object_init_2 obj _) F.entry_enumerate_new (meets_enum1 B) ⟨h1, ?_⟩
  have hz : (s.heap.push o).objs.size = s.heap.objs.size + 1 := Heap.size_push ..
  show _ ∧ _
  rw [hz]
  have he : IsEnum ((s.heap.push o).push { cls := .type "enumerate", data := .fields #[.none, .bool false, .ref s.heap.objs.size, rawInt 0, .none, .none] }) (s.heap.objs.size + 1) s.heap.objs.size 0 .none := by
    have := Heap.get?_push_size (s.heap.push o) (o := { cls := .type "enumerate", data := .fields #[.none, .bool false, .ref s.heap.objs.size, rawInt 0, .none, .none] }) rfl
    rw [hz] at this; exact this
  refine ⟨⟨_, he, rfl⟩, h _ he (Heap.get?_push_of_some _ (Heap.get?_push_size _ B.free)) (by rw [Heap.size_push, hz]) fun b o x => Heap.get?_push_of_some _ (Heap.get?_push_of_some _ x)⟩
def Itu (K : PySem.W.Frag) (a : Addr) : It :=
  ⟨fun i H => ∃ (xs : List V) (x : V), SqT K H a xs ∧ xs[i]? = some x, fun i H v H' => ∃ T x, v = .ref T ∧ H T = none ∧ H' = upd H T (.tup [.int (i : Nat), x]) ∧ ∀ xs, SqT K H a xs → xs[i]? = some x, fun i H => ∃ xs : List V, SqT K H a xs ∧ xs.length ≤ i⟩
theorem tup_apart {h : Heap} {a it : Addr} {items : Array Value} {i : Nat} (p : h.IsTuple a items) (q : h.IsTupleIter it a i) : a ≠ it := fun e => by
  subst e
  obtain ⟨o, ho, hc, _⟩ := p
  obtain ⟨o', ho', hc', _⟩ := q
  rw [ho] at ho'
  cases ho'
  rw [hc] at hc'
  exact absurd (Value.type.inj hc') (by decide)
theorem enum_apart {h : Heap} {a e it : Addr} {items : Array Value} {i : Int} {old : Value} (p : h.IsTuple a items) (q : IsEnum h e it i old) : e ≠ a := fun z => by
  subst z
  obtain ⟨o, ho, hc, _⟩ := p
  have q : h.get? e = some _ := q
  rw [ho] at q
  cases q
  exact absurd (Value.type.inj hc) (by decide)
theorem enum_endT {prog : Program} {w : World} {A : Around} {E : Value → Shared → Prop} {s : Shared} {e it l : Addr} {i : Nat} {items : Array Value} {old : Value} {Q : Option Value → Shared → Prop} (hh : A.handled = none)
    (he : IsEnum s.heap e it i old) (hit : s.heap.IsTupleIter it l i) (hl : s.heap.IsTuple l items) (hx : items[i]? = none)
    (hQ : ∀ h', Heap.ExtBut it s.heap h' → Q none { s with heap := h' }) : wpAny (model prog w) A (pyNext (.ref e)) Q E s := by
  have hT : s.TypeIs (.ref e) "enumerate" := ⟨_, he, rfl⟩
  unfold pyNext
  refine wpAny_bind (wpAny_attempt (wpAny_callSpecial?_slot (name := Str.ofString "__next__") hT F.slot_enumerate_next
    (wpAny_call_entry F.slot_enumerate_next hT F.entry_enumerate_next ?_ (F.args_enumerate_next_1 _))))
  show wpAny _ _ (field (.ref e) 2 >>= _) _ _ _
  refine wpAny_bind (wpAny_field he rfl (x := .ref it) rfl ?_)
  refine wpAny_bind (wpAny_nextOf_tuple_end hh hit hl hx fun h' x he' hx' => ?_)
  obtain ⟨o, ho, hc⟩ := hx'
  refine wpAny_bind (wpAny_isInstance (T := "StopIteration") (b := true) ⟨o, ho, hc⟩ isSubtype_stop ?_)
  exact wpAny_pure (hQ _ he')
theorem turn_enumT {P : Program} {w : World} {K : PySem.W.Frag} {elts : List Expr} {kk : Nat} {tpos : Pos} (a e it : Addr) :
    Turn P w K (.Tuple elts kk tpos) (Itu K a) [e, it] e (fun i h => (∃ old, IsEnum h e it ((i : Nat) : Int) old) ∧ h.IsTupleIter it a i ∧ e ≠ it) where
  mem := by simp
  obj := fun i h st b hb => by
    obtain ⟨⟨old, he⟩, ⟨o, ho, hc, hd⟩, _⟩ := st
    have e' : b = e ∨ b = it := by simpa using hb
    rcases e' with z | z
    · rw [z]; exact ⟨_, he, fun v q => nomatch q⟩
    · rw [z]; exact ⟨o, ho, fun v q => by rw [hd] at q; cases q⟩
  keep := fun i h h' st k => let ⟨⟨old, he⟩, hi, hne⟩ := st; ⟨⟨old, k e (by simp) _ he⟩, hi.at fun o q => k it (by simp) o q, hne⟩
  item := by
    intro X hP hw hK hc i pins s σ H E I hf st hg
    subst hP hw hK
    obtain ⟨⟨old, he⟩, hit, hne⟩ := st
    obtain ⟨xs, x, hq, hx⟩ := hg
    obtain ⟨its, rv, p, hz⟩ := I.tuple hq
    obtain ⟨u, hu, ru⟩ := rv.get hx
    have p : s.heap.IsTuple a its.toArray := p
    have hel : e < s.heap.objs.size := Heap.lt_size he
    have hil : it < s.heap.objs.size := by obtain ⟨_, q, _⟩ := hit; exact Heap.lt_size q
    have hai := tup_apart p hit
    have hea := enum_apart p he
    have hlt : i < its.toArray.size := by
      have := (List.getElem?_eq_some_iff.mp hu).1
      simpa using this
    refine wpAny_pyNext_enum_itemD (Draws.tuple (show X.A.in1.handled = none from I.ok.hd hc) it a hai its.toArray) he ⟨hit, p⟩ hlt hne (by simp [hne, hea]) fun y h' tk hy ho hst' hT hsz hk => ?_
    have ey : y = u := by
      have hy : its.toArray[i]? = some y := hy
      have hu' : its.toArray[i]? = some u := by simpa using hu
      rw [hu'] at hy
      exact (Option.some.inj hy).symm
    subst ey
    obtain ⟨hit', p'⟩ := hst'
    refine ⟨_, rfl, wpAny_letOwnedTupleGo_enum (s := { s with heap := h', toks := tk + 1 }) ho fun h'' he' sb => ?_⟩
    have hT2 : h''.get? s.heap.objs.size = some { cls := .type "tuple", data := .seq #[.int i tk, y] } := (sb.2 _ (Nat.ne_of_gt hel)).trans hT
    have new : ObjOk X.prog X.w (upd H s.heap.objs.size (.tup [.int (i : Nat), x])) h'' s.heap.objs.size (.tup [.int (i : Nat), x]) :=
      ⟨by show 2 ≤ sizeLine; decide, [.int i tk, y], .cons ⟨_, rfl⟩ (.cons ru .nil), ⟨_, hT2, rfl, _, rfl⟩⟩
    have I1 : Inv X pins σ (upd H s.heap.objs.size (.tup [.int (i : Nat), x])) { s with heap := h'', toks := tk + 1 } :=
      I.turnedNew (ch := [e, it]) (fun b ob hb q => (sb.2 b (fun z => hb (by simp [z]))).trans (hk b ob (fun z => hb (by simp [z])) (fun z => hb (by simp [z])) q)) hf (Nat.le_refl _) new
    refine ⟨.ref s.heap.objs.size, _, I1, rfl, ⟨_, x, rfl, I.hok.fresh (Nat.le_refl _), rfl, fun ys hy => by rw [I.tuple_inj hy hq]; exact hx⟩, ⟨⟨y, ?_⟩, hit'.at fun o q => (sb.2 it (Ne.symm hne)).trans q, hne⟩, fun b hb => ?_⟩
    · have e1 : ((i + 1 : Nat) : Int) = (i : Int) + 1 := by omega
      rw [e1]; exact he'
    · have hb' : b < s.heap.objs.size := by
        have e' : b = e ∨ b = it := by simpa using hb
        rcases e' with z | z
        · rw [z]; exact hel
        · rw [z]; exact hil
      rw [upd_ne (Nat.ne_of_lt hb')]
      exact (hf b hb).1
  done := by
    intro X hP hw hK hc i pins s σ H E I hf st hg
    subst hP hw hK
    obtain ⟨⟨old, he⟩, hit, hne⟩ := st
    obtain ⟨xs, hq, hx⟩ := hg
    obtain ⟨its, rv, p, hz⟩ := I.tuple hq
    obtain ⟨f0, f1, f2, f3, f4, f5⟩ := hf it (by simp)
    have p : s.heap.IsTuple a its.toArray := p
    have hl := rv.length
    exact enum_endT (I.ok.hd hc) he hit p (by simp; omega) fun h' eb => ⟨rfl, I.turned (t' := s.toks) (fun b o hb q => eb b o hb q) f0 f1 f3 f4 f5⟩
  self := fun A i s Q E st h => let ⟨⟨_, he⟩, _⟩ := st; wpAny_pyIter_enum he h
def iEnumT (K : PySem.W.Frag) (ta : TA) : TI := fun σ H R => ta σ H fun vs H1 => ∃ a xs, vs = [.ref a] ∧ SqT K H1 a xs ∧ R (Itu K a) H1
theorem pi_enumT {X : Cx} {e : Expr} {ta : TA} {p pos tpos : Pos} {elts : List Expr} {kk : Nat} (hg : Gl X "enumerate") (hm : X.mg "enumerate" = none) (ha : PA X [e] ta) (hs : starEach [e] X.env = [(false, eval e X.env)] := by rfl) :
    PI X (.Tuple elts kk tpos) (.Call (.Name "enumerate" p) [e] [] pos) (iEnumT X.K ta) := by
  refine ⟨fun pins s σ H R I h => ?_⟩
  refine Call_ (ld_blt I hg hm boot_enumerate (PyProof.Rows.callWith_type1 (thn (ha.run pos pins s σ H _ I h) fun us s1 ⟨vs, H1, I1, r1, q1⟩ => ?_) hs rfl))
  obtain ⟨a, xs, ex, hq, q⟩ := q1
  subst ex
  cases r1 with
  | cons r rr =>
    cases rr
    cases r
    obtain ⟨its, rv, p', hz⟩ := I1.tuple hq
    refine enum_begins1 (begins_tuple a its.toArray) p' fun h' he hi hsz hk => wpAny_pyIter_enum he ?_
    have I2 : Inv X pins σ H1 { s1 with heap := h' } := I1.kept (t' := s1.toks) hk
    refine ⟨s1.heap.objs.size + 1, [s1.heap.objs.size + 1, s1.heap.objs.size], _, _, H1, rfl, I2, turn_enumT a (s1.heap.objs.size + 1) s1.heap.objs.size, ⟨⟨.none, he⟩, ⟨_, hi, rfl, rfl⟩, Nat.succ_ne_self _⟩, fun b hb => ?_, q⟩
    have e' : b = s1.heap.objs.size + 1 ∨ b = s1.heap.objs.size := by simpa using hb
    have hle : s1.heap.objs.size ≤ b := by
      rcases e' with z | z
      · rw [z]; exact Nat.le_add_right _ _
      · rw [z]; exact Nat.le_refl _
    exact I1.fpOk hle (I1.hok.fresh hle)
theorem for_enumT {K : PySem.W.Frag} {a : Addr} {xs : List V} {g : TG} {tb : TS} {D : Ends} {σ : Aw.St} {H : Hp} (Pv : Nat → Aw.St → Hp → Prop) (h0 : Pv 0 σ H) (hl : ∀ i σ H, i ≤ xs.length → Pv i σ H → SqT K H a xs)
    (hs : ∀ i x σ H T, xs[i]? = some x → Pv i σ H → H T = none → g (.ref T) σ (upd H T (.tup [.int (i : Nat), x])) fun σ2 H2 => tb { D with nx := Pv (i + 1), ct := Pv (i + 1), bk := D.nx } σ2 H2)
    (hd : ∀ σ H, Pv xs.length σ H → D.nx σ H) : tFor (fun _ H R => R (Itu K a) H) g tb D σ H := by
  refine ⟨fun i m σ H => m = xs.length - i ∧ i ≤ xs.length ∧ Pv i σ H, ⟨xs.length, by simp, Nat.zero_le _, h0⟩, ?_⟩
  rintro i m σ H ⟨rfl, hi, p⟩
  have q := hl i σ H hi p
  by_cases hlt : i < xs.length
  · refine .inr ⟨⟨xs, xs[i], q, by simp [hlt]⟩, Pv (i + 1), fun σ' H' p' => ⟨xs.length - (i + 1), by omega, rfl, hlt, p'⟩, fun x H' y => ?_⟩
    obtain ⟨T, y, rfl, hT, rfl, hy⟩ := y
    exact hs i y σ H T (hy xs q) p hT
  · have e : i = xs.length := by omega
    subst e
    exact .inl ⟨⟨xs, q, Nat.le_refl _⟩, hd σ H p⟩
end Aw

namespace Aw
open PySem PySem.Spec PyProof.Rows L2 NdefX
/-! ### for i, x in enumerate(l) -/
theorem for_enum {K : PySem.W.Frag} {a : Addr} {xs : List V} {g : TG} {tb : TS} {D : Ends} {σ : Aw.St} {H : Hp} (Pv : Nat → Aw.St → Hp → Prop) (h0 : Pv 0 σ H) (hl : ∀ i σ H, i ≤ xs.length → Pv i σ H → SqL K H a xs)
    (hs : ∀ i x σ H T, xs[i]? = some x → Pv i σ H → H T = none → g (.ref T) σ (upd H T (.tup [.int (i : Nat), x])) fun σ2 H2 => tb { D with nx := Pv (i + 1), ct := Pv (i + 1), bk := D.nx } σ2 H2)
    (hd : ∀ σ H, Pv xs.length σ H → D.nx σ H) : tFor (fun _ H R => R (Ite K a) H) g tb D σ H := by
  refine ⟨fun i m σ H => m = xs.length - i ∧ i ≤ xs.length ∧ Pv i σ H, ⟨xs.length, by simp, Nat.zero_le _, h0⟩, ?_⟩
  rintro i m σ H ⟨rfl, hi, p⟩
  have q := hl i σ H hi p
  by_cases hlt : i < xs.length
  · refine .inr ⟨⟨xs, xs[i], q, by simp [hlt]⟩, Pv (i + 1), fun σ' H' p' => ⟨xs.length - (i + 1), by omega, rfl, hlt, p'⟩, fun x H' y => ?_⟩
    obtain ⟨T, y, rfl, hT, rfl, hy⟩ := y
    exact hs i y σ H T (hy xs q) p hT
  · have e : i = xs.length := by omega
    subst e
    exact .inl ⟨⟨xs, q, Nat.le_refl _⟩, hd σ H p⟩
end Aw

namespace Aw
open PySem PySem.Spec PyProof.Rows L2 NdefX
/-! ### bits -/
def bI (b : Bool) : Int := if b then 1 else 0
def bV (b : Bool) : V := .int (bI b)
theorem numB_bV (b : Bool) : numB (bV b) 0 1 = true := by cases b <;> rfl
theorem bits_of : ∀ {xs : List V}, (∀ x ∈ xs, numB x 0 1 = true) → ∃ w : List Bool, xs = w.map bV
  | [], _ => ⟨[], rfl⟩
  | x :: xs, h => by
    obtain ⟨w, hw⟩ := bits_of (xs := xs) fun y hy => h y (List.mem_cons_of_mem _ hy)
    have h1 := h x (List.mem_cons_self ..)
    cases x with
    | int i =>
      have h1 : (decide (0 ≤ i) && decide (i ≤ 1)) = true := h1
      rw [Bool.and_eq_true, decide_eq_true_eq, decide_eq_true_eq] at h1
      by_cases e : i = 1
      · exact ⟨true :: w, by rw [hw, e]; rfl⟩
      · have e0 : i = 0 := by omega
        exact ⟨false :: w, by rw [hw, e0]; rfl⟩
    | _ => cases h1
theorem bx (a b : Bool) : Builtin.bitXor (bI a) (bI b) = bI (a ^^ b) := by cases a <;> cases b <;> rfl
structure TxtW (P : Program) (K : PySem.W.Frag) (mg : Str → Option Value) (CZ CB fNum : Addr) : Prop where
  isi : mg "isinstance" = none
  int : mg "int" = none
  bool : mg "bool" = none
  len : mg "len" = none
  tup : mg "tuple" = none
  list : mg "list" = none
  enum : mg "enumerate" = none
  num : mg "is_number" = some (.ref fNum)
  bz : Err P K mg "BadSize" "size" "size" CZ
  bb : Err P K mg "BadBits" "index" "index" CB
/-- what is asked of the word -/
structure BitsAt (H : Hp) (l : Addr) (xs : List V) : Prop where
  at_ : H l = some (.lst xs) ∨ H l = some (.tup xs)
  ok : ∀ x ∈ xs, VOk H x
  few : xs.length ≤ 5000
def sizeOk (n : Nat) (most : Int) : Prop := 1 ≤ n ∧ (n : Int) ≤ most
def firstOdd (xs : List V) (i : Nat) : Prop := (∀ j y, j < i → xs[j]? = some y → numB y 0 1 = true) ∧ ∃ x, xs[i]? = some x ∧ numB x 0 1 = false
def spWob (CZ CB : Addr) : Sp := fun vs H Q E => ∃ (l : Addr) (xs : List V) (most : Int), vs = [.ref l, .int most] ∧ BitsAt H l xs ∧
  (¬ sizeOk xs.length most → ∀ d H', Same H H' → H d = none → H' d = some (.xd [("size", .int (xs.length : Nat))]) → E (.ref CZ) (some d) H') ∧
  (sizeOk xs.length most → ∀ i, firstOdd xs i → ∀ d H', Same H H' → H d = none → H' d = some (.xd [("index", .int (i : Nat))]) → E (.ref CB) (some d) H') ∧
  (sizeOk xs.length most → ∀ w : List Bool, xs = w.map bV → ∀ t H', Same H H' → H t = none → H' t = some (.tup (w.map bV)) → Q (.ref t) H')
section
variable {P : Program} {w : World} {K : PySem.W.Frag} {mg : Str → Option Value} {base : Heap} {CZ CB fNum : Addr}
theorem scWob : FnScope ["bits", "most", "index", "bit"] ["bits", "most"] (defScope sWob) := ⟨rfl, rfl, rfl, by decide +kernel, rfl, by decide +kernel, by decide +kernel⟩
theorem ok_wob {f : Addr} {dvs : List V} {fd nd' : FuncData} (F : L2.FunD K "word_of_bits" "word_of_bits" (defArgs sWob) (defBody sWob) (defScope sWob) dvs [] f fd) (W : TxtW P K mg CZ CB fNum) (FNum : Fun K "is_number" "is_number" sNum fNum nd') (bNum : Binds K nd' ["value", "low", "high"] []) : FnOk P w K mg base (L2.CX P w) 3 f fd ["bits", "most"] (spWob CZ CB) := by
  have GNum : FnOk P w K mg base CX0 1 fNum nd' ["value", "low", "high"] spNum := ok_num FNum W.isi W.int W.bool
  refine F.ok scWob (fun vs H Q E h => ?_) (fun cdv A outer s H vs Q E hr h => ?_)
  · obtain ⟨l, xs, most, rfl, _⟩ := h
    rfl
  · obtain ⟨l, xs, most, rfl, B, kZ, kB, kQ⟩ := h
    have nd := scWob.nd
    rcases B.at_ with hl | hl
    · refine ⟨_, (pss_cons (ps_if (pt_not (pt_chain op_le op_le pe_int (pe_callB call_len_seq (by rfl) W.len PySem.boot_len (pa_cons (pv 0) pa_nil)) (pv 1)))
        (pss_one (ps_raise rfl (takes_of rfl rfl rfl rfl) (pmk_err W.bz (hr.mono (by decide)) (by rfl) (pa_cons (pe_callB call_len_seq (by rfl) W.len PySem.boot_len (pa_cons (pv 0) pa_nil)) pa_nil)))) pss_nil)
      (pss_cons (ps_for (passes_of rfl) rfl (pi_enum (by rfl) W.enum (pa_cons (pv 0) pa_nil)) (pg_tup rfl (pgs_cons (pg_name (i := 2) nd rfl (Or.inl rfl)) (pgs_cons (pg_name (i := 3) nd rfl (Or.inl rfl)) pgs_nil)))
        (pss_one (ps_if (pt_not (pt_val (pe_call GNum (hr.mono (by decide)) (by rfl) W.num FNum.kp bNum .nil pass0 (pa_cons (pv 3) (pa_cons pe_int (pa_cons pe_int pa_nil))))))
          (pss_one (ps_raise rfl (takes_of rfl rfl rfl rfl) (pmk_err W.bb (hr.mono (by decide)) (by rfl) (pa_cons (pv 2) pa_nil)))) pss_nil)))
      (pss_one (ps_ret (pe_callTy call_tuple_of (by rfl) W.tup (by decide +kernel) (pa_cons (pe_callTy call_list_of (by rfl) W.list (by decide +kernel) (pa_cons (pv 0) pa_nil)) pa_nil)))))), ?_⟩
      have raiseZ : ¬ sizeOk xs.length most → ∀ d, H d = none → E (.ref CZ) (some d) (upd H d (.xd [("size", .int (xs.length : Nat))])) := fun e d hd => kZ e d _ (same_upd hd) hd upd_same
      refine ⟨_, rfl, l, xs, rfl, .inl (SqL.of hl), 1, (xs.length : Int), rfl, rfl, _, rfl, ?_⟩
      refine ite_dec (fun h1 => ?_) (fun h1 => ?_)
      rotate_left
      · refine ⟨_, rfl, iteT ?_⟩
        exact ⟨_, rfl, l, xs, rfl, .inl (SqL.of hl), mkS_ans fun d hd => raiseZ (fun z => h1 (by have := z.1; omega)) d hd⟩
      refine ⟨_, rfl, (xs.length : Int), most, rfl, rfl, _, rfl, ?_⟩
      refine ite_ndec (fun h2 => ?_) (fun h2 => ?_)
      · exact ⟨_, rfl, l, xs, rfl, .inl (SqL.of hl), mkS_ans fun d hd => raiseZ (fun z => h2 z.2) d hd⟩
      have so : sizeOk xs.length most := ⟨by omega, h2⟩
      have kB := kB so
      have kQ := kQ so
      refine ⟨_, rfl, l, xs, rfl, SqL.of hl, ?_⟩
      refine for_enum (a := l) (xs := xs) (fun j σ H3 => ∃ (v2 v3 : Option V), σ = [some (.ref l), some (.int most), v2, v3] ∧ Same H H3 ∧ ∀ i y, i < j → xs[i]? = some y → numB y 0 1 = true) ⟨none, none, rfl, fun _ _ e => e, fun i y hi => absurd hi (Nat.not_lt_zero _)⟩ (fun j σ H3 hj p => by
        obtain ⟨_, _, _, s3, _⟩ := p
        exact SqL.of (s3 _ _ hl)) ?_ ?_
      · rintro j x σ H3 T hx ⟨v2, v3, rfl, s3, np⟩ hT
        have sT := same_upd (o := .tup [.int (j : Nat), x]) hT
        refine ⟨T, _, rfl, SqT.of upd_same, rfl, _, _, rfl, _, _, rfl, rfl, ?_⟩
        refine ⟨_, rfl, x, 0, 1, rfl, (B.ok x (List.mem_of_getElem? hx)).same (s3.trans sT), _, rfl, ?_⟩
        cases e : numB x 0 1 with
        | false =>
          refine iteT ?_
          refine ⟨_, rfl, mkS_ans fun d hd => ?_⟩
          exact kB j ⟨np, x, hx, e⟩ d _ ((s3.trans sT).trans (same_upd hd)) ((s3.trans sT).free hd) upd_same
        | true =>
          refine iteF ?_
          refine ⟨_, _, rfl, s3.trans sT, fun i y hi hy => ?_⟩
          rcases Nat.lt_or_ge i j with h | h
          · exact np i y h hy
          · have ei : i = j := by omega
            subst ei
            rw [hx] at hy
            cases hy
            exact e
      · rintro σ H3 ⟨v2, v3, rfl, s3, np⟩
        obtain ⟨w, hw⟩ := bits_of (xs := xs) fun x hx => by
          obtain ⟨i, hi⟩ := List.getElem?_of_mem hx
          exact np i x (List.getElem?_eq_some_iff.mp hi).1 hi
        refine ⟨_, rfl, l, xs, rfl, .inl (SqL.of (s3 _ _ hl)), fun q hq => ⟨q, xs, rfl, .inl ⟨SqL.of upd_same, fun t ht => ?_⟩⟩⟩
        have s4 := (s3.trans (same_upd (o := .lst xs) hq)).trans (same_upd (o := .tup xs) ht)
        exact kQ w hw t _ s4 ((s3.trans (same_upd (o := .lst xs) hq)).free ht) (by rw [upd_same, hw])
    · refine ⟨_, (pss_cons (ps_if (pt_not (pt_chain op_le op_le pe_int (pe_callB call_len_seq (by rfl) W.len PySem.boot_len (pa_cons (pv 0) pa_nil)) (pv 1)))
        (pss_one (ps_raise rfl (takes_of rfl rfl rfl rfl) (pmk_err W.bz (hr.mono (by decide)) (by rfl) (pa_cons (pe_callB call_len_seq (by rfl) W.len PySem.boot_len (pa_cons (pv 0) pa_nil)) pa_nil)))) pss_nil)
      (pss_cons (ps_for (passes_of rfl) rfl (pi_enumT (by rfl) W.enum (pa_cons (pv 0) pa_nil)) (pg_tup rfl (pgs_cons (pg_name (i := 2) nd rfl (Or.inl rfl)) (pgs_cons (pg_name (i := 3) nd rfl (Or.inl rfl)) pgs_nil)))
        (pss_one (ps_if (pt_not (pt_val (pe_call GNum (hr.mono (by decide)) (by rfl) W.num FNum.kp bNum .nil pass0 (pa_cons (pv 3) (pa_cons pe_int (pa_cons pe_int pa_nil))))))
          (pss_one (ps_raise rfl (takes_of rfl rfl rfl rfl) (pmk_err W.bb (hr.mono (by decide)) (by rfl) (pa_cons (pv 2) pa_nil)))) pss_nil)))
      (pss_one (ps_ret (pe_callTy call_tuple_of (by rfl) W.tup (by decide +kernel) (pa_cons (pe_callTy call_list_of (by rfl) W.list (by decide +kernel) (pa_cons (pv 0) pa_nil)) pa_nil)))))), ?_⟩
      have raiseZ : ¬ sizeOk xs.length most → ∀ d, H d = none → E (.ref CZ) (some d) (upd H d (.xd [("size", .int (xs.length : Nat))])) := fun e d hd => kZ e d _ (same_upd hd) hd upd_same
      refine ⟨_, rfl, l, xs, rfl, .inr (SqT.of hl), 1, (xs.length : Int), rfl, rfl, _, rfl, ?_⟩
      refine ite_dec (fun h1 => ?_) (fun h1 => ?_)
      rotate_left
      · refine ⟨_, rfl, iteT ?_⟩
        exact ⟨_, rfl, l, xs, rfl, .inr (SqT.of hl), mkS_ans fun d hd => raiseZ (fun z => h1 (by have := z.1; omega)) d hd⟩
      refine ⟨_, rfl, (xs.length : Int), most, rfl, rfl, _, rfl, ?_⟩
      refine ite_ndec (fun h2 => ?_) (fun h2 => ?_)
      · exact ⟨_, rfl, l, xs, rfl, .inr (SqT.of hl), mkS_ans fun d hd => raiseZ (fun z => h2 z.2) d hd⟩
      have so : sizeOk xs.length most := ⟨by omega, h2⟩
      have kB := kB so
      have kQ := kQ so
      refine ⟨_, rfl, l, xs, rfl, SqT.of hl, ?_⟩
      refine for_enumT (a := l) (xs := xs) (fun j σ H3 => ∃ (v2 v3 : Option V), σ = [some (.ref l), some (.int most), v2, v3] ∧ Same H H3 ∧ ∀ i y, i < j → xs[i]? = some y → numB y 0 1 = true) ⟨none, none, rfl, fun _ _ e => e, fun i y hi => absurd hi (Nat.not_lt_zero _)⟩ (fun j σ H3 hj p => by
        obtain ⟨_, _, _, s3, _⟩ := p
        exact SqT.of (s3 _ _ hl)) ?_ ?_
      · rintro j x σ H3 T hx ⟨v2, v3, rfl, s3, np⟩ hT
        have sT := same_upd (o := .tup [.int (j : Nat), x]) hT
        refine ⟨T, _, rfl, SqT.of upd_same, rfl, _, _, rfl, _, _, rfl, rfl, ?_⟩
        refine ⟨_, rfl, x, 0, 1, rfl, (B.ok x (List.mem_of_getElem? hx)).same (s3.trans sT), _, rfl, ?_⟩
        cases e : numB x 0 1 with
        | false =>
          refine iteT ?_
          refine ⟨_, rfl, mkS_ans fun d hd => ?_⟩
          exact kB j ⟨np, x, hx, e⟩ d _ ((s3.trans sT).trans (same_upd hd)) ((s3.trans sT).free hd) upd_same
        | true =>
          refine iteF ?_
          refine ⟨_, _, rfl, s3.trans sT, fun i y hi hy => ?_⟩
          rcases Nat.lt_or_ge i j with h | h
          · exact np i y h hy
          · have ei : i = j := by omega
            subst ei
            rw [hx] at hy
            cases hy
            exact e
      · rintro σ H3 ⟨v2, v3, rfl, s3, np⟩
        obtain ⟨w, hw⟩ := bits_of (xs := xs) fun x hx => by
          obtain ⟨i, hi⟩ := List.getElem?_of_mem hx
          exact np i x (List.getElem?_eq_some_iff.mp hi).1 hi
        refine ⟨_, rfl, l, xs, rfl, .inr (SqT.of (s3 _ _ hl)), fun q hq => ⟨q, xs, rfl, .inl ⟨SqL.of upd_same, fun t ht => ?_⟩⟩⟩
        have s4 := (s3.trans (same_upd (o := .lst xs) hq)).trans (same_upd (o := .tup xs) ht)
        exact kQ w hw t _ s4 ((s3.trans (same_upd (o := .lst xs) hq)).free ht) (by rw [upd_same, hw])
end
end Aw

namespace Aw
open PySem PySem.Spec PyProof.Rows L2 NdefX
/-- the number in a value -/
def iV : V → Int
  | .int i => i
  | _ => 0
theorem numB_int {v : V} {lo hi : Int} (h : numB v lo hi = true) : ∃ i, v = .int i ∧ lo ≤ i ∧ i ≤ hi := by
  cases v with
  | int i =>
    have h : (decide (lo ≤ i) && decide (i ≤ hi)) = true := h
    rw [Bool.and_eq_true, decide_eq_true_eq, decide_eq_true_eq] at h
    exact ⟨i, rfl, h⟩
  | _ => cases h
/-- raises the one error with the one field -/
def errOf (c : Prop) (C : Addr) (fld : Str) (v : V) (H : Hp) (E : XK) : Prop := c → ∀ d H', Same H H' → H d = none → H' d = some (.xd [(fld, v)]) → E (.ref C) (some d) H'
theorem errOf.of {c c' : Prop} {C : Addr} {fld : Str} {v : V} {H H1 : Hp} {E : XK} (h : errOf c C fld v H E) (s : Same H H1) (hc : c' → c) : errOf c' C fld v H1 E := fun z d H' s' h0 h1 => h (hc z) d H' (s.trans s') (s.free h0) h1
end Aw

namespace Aw
open PySem PySem.Spec PyProof.Rows L2 NdefX
def spChkN (CN : Addr) : Sp := fun vs H Q E => ∃ v lo hi, vs = [v, .int lo, .int hi] ∧ VOk H v ∧ errOf (numB v lo hi = false) CN "number" v H E ∧ (numB v lo hi = true → Q .non H)
def spChkS (CZ : Addr) : Sp := fun vs H Q E => ∃ v, vs = [v] ∧ VOk H v ∧ errOf (numB v 1 (10 ^ 30) = false) CZ "size" v H E ∧ (numB v 1 (10 ^ 30) = true → Q .non H)
section
variable {P : Program} {w : World} {K : PySem.W.Frag} {mg : Str → Option Value} {base : Heap} {CN CZ fNum : Addr} {t30 : Tok}
theorem scChkN : FnScope ["value", "low", "high"] ["value", "low", "high"] (defScope sChkN) := ⟨rfl, rfl, rfl, by decide +kernel, rfl, by decide +kernel, by decide +kernel⟩
theorem scChkS : FnScope ["size"] ["size"] (defScope sChkS) := ⟨rfl, rfl, rfl, by decide +kernel, rfl, by decide +kernel, by decide +kernel⟩
theorem ok_chkN {f : Addr} {fd nd' : FuncData} (F : Fun K "check_number" "check_number" sChkN f fd) (En : Err P K mg "BadNumber" "number" "number" CN)
    (GNum : FnOk P w K mg base CX0 1 fNum nd' ["value", "low", "high"] spNum) (FNum : Fun K "is_number" "is_number" sNum fNum nd') (bNum : Binds K nd' ["value", "low", "high"] []) (gNum : mg "is_number" = some (.ref fNum)) : FnOk P w K mg base (L2.CX P w) 3 f fd ["value", "low", "high"] (spChkN CN) := by
  refine F.okX scChkN (fun vs H Q E h => ?_) (fun cdv A outer s H vs Q E hr h => ?_)
  · obtain ⟨v, lo, hi, rfl, _⟩ := h
    rfl
  · obtain ⟨v, lo, hi, rfl, hv, kE, kQ⟩ := h
    have nd := scChkN.nd
    refine ⟨_, (pss_one (ps_if (pt_not (pt_val (pe_call GNum (hr.mono (by decide)) (by rfl) gNum FNum.kp bNum .nil pass0 (pa_cons (pv 0) (pa_cons (pv 1) (pa_cons (pv 2) pa_nil))))))
        (pss_one (ps_raise rfl (takes_of rfl rfl rfl rfl) (pmk_err En hr (by rfl) (pa_cons (pv 0) pa_nil)))) pss_nil)), ?_⟩
    refine ⟨_, rfl, _, rfl, _, rfl, v, lo, hi, rfl, hv, _, rfl, ?_⟩
    cases hb : numB v lo hi with
    | false =>
      refine iteT ?_
      refine ⟨_, rfl, mkS_ans fun d hd => ?_⟩
      exact kE hb d _ (same_upd hd) hd upd_same
    | true => exact iteF (kQ hb)
theorem ok_chkS {f : Addr} {fd nd' : FuncData} (F : Fun K "check_size" "check_size" sChkS f fd) (Ez : Err P K mg "BadSize" "size" "size" CZ) (gM : mg "MOST_SIZE" = some (.int (10 ^ 30) t30))
    (GNum : FnOk P w K mg base CX0 1 fNum nd' ["value", "low", "high"] spNum) (FNum : Fun K "is_number" "is_number" sNum fNum nd') (bNum : Binds K nd' ["value", "low", "high"] []) (gNum : mg "is_number" = some (.ref fNum)) : FnOk P w K mg base (L2.CX P w) 3 f fd ["size"] (spChkS CZ) := by
  refine F.okX scChkS (fun vs H Q E h => ?_) (fun cdv A outer s H vs Q E hr h => ?_)
  · obtain ⟨v, rfl, _⟩ := h
    rfl
  · obtain ⟨v, rfl, hv, kE, kQ⟩ := h
    have nd := scChkS.nd
    refine ⟨_, (pss_one (ps_if (pt_not (pt_val (pe_call GNum (hr.mono (by decide)) (by rfl) gNum FNum.kp bNum .nil pass0 (pa_cons (pv 0) (pa_cons pe_int (pa_cons (pe_glob (v := .int (10 ^ 30)) (by rfl) gM ⟨_, rfl⟩) pa_nil))))))
        (pss_one (ps_raise rfl (takes_of rfl rfl rfl rfl) (pmk_err Ez hr (by rfl) (pa_cons (pv 0) pa_nil)))) pss_nil)), ?_⟩
    refine ⟨_, rfl, v, 1, 10 ^ 30, rfl, hv, _, rfl, ?_⟩
    cases hb : numB v 1 (10 ^ 30) with
    | false =>
      refine iteT ?_
      refine ⟨_, rfl, mkS_ans fun d hd => ?_⟩
      exact kE hb d _ (same_upd hd) hd upd_same
    | true => exact iteF (kQ hb)
end
end Aw

namespace Aw
open PySem PySem.Spec PyProof.Rows L2 NdefX
/-! ### tests and values that change nothing that stands -/
def PureT (t : TT) (σ : Aw.St) (H : Hp) (c : Bool) : Prop := ∀ Q : Bool → Hp → Prop, (∀ H', Same H H' → Q c H') → t σ H Q
def PureE (t : TE) (σ : Aw.St) (H : Hp) (v : V) : Prop := ∀ Q : VK, (∀ H', Same H H' → Q v H') → t σ H Q
theorem nxt {D : Ends} {σ : Aw.St} {H : Hp} (h : D.nx σ H) : tNext D σ H := h
theorem seq {D : Ends} {t u : TS} {σ : Aw.St} {H : Hp} (h : t { D with nx := u D } σ H) : tSeq t u D σ H := h
theorem same_refl (H : Hp) : Same H H := fun _ _ z => z
section
variable {a b : TT} {σ : Aw.St} {H : Hp} {c d : Bool}
theorem PureT.and (ha : PureT a σ H c) (hb : c = true → ∀ H', Same H H' → PureT b σ H' d) : PureT (tAnd a b) σ H (c && d) := fun Q k => ha _ fun H1 s1 => by
  cases c with
  | true => exact iteT (hb rfl H1 s1 _ fun H2 s2 => k H2 (s1.trans s2))
  | false => exact iteF (k H1 s1)
theorem PureT.or (ha : PureT a σ H c) (hb : c = false → ∀ H', Same H H' → PureT b σ H' d) : PureT (tOr a b) σ H (c || d) := fun Q k => ha _ fun H1 s1 => by
  cases c with
  | true => exact iteT (k H1 s1)
  | false => exact iteF (hb rfl H1 s1 _ fun H2 s2 => k H2 (s1.trans s2))
theorem PureT.not (ha : PureT a σ H c) : PureT (tNot a) σ H (!c) := fun Q k => ha _ fun H1 s1 => k H1 s1
theorem PureT.ite {D : Ends} {t u : TS} {p : Prop} [Decidable p] (ha : PureT a σ H c) (hp : c = decide p) (h1 : p → ∀ H', Same H H' → t D σ H') (h2 : ¬ p → ∀ H', Same H H' → u D σ H') : tIfS a t u D σ H := ha _ fun H1 s1 => by
  rw [hp]
  exact ite_dec (fun z => h1 z H1 s1) (fun z => h2 z H1 s1)
theorem PureT.ite0 {D : Ends} {t : TS} {p : Prop} [Decidable p] (ha : PureT a σ H c) (hp : c = decide p) (h1 : p → ∀ H', Same H H' → t D σ H') (h2 : ¬ p → ∀ H', Same H H' → D.nx σ H') : tIfS a t tNext D σ H := ha _ fun H1 s1 => by
  rw [hp]
  exact ite_dec (fun z => h1 z H1 s1) (fun z => h2 z H1 s1)
end
end Aw

namespace Aw
open PySem PySem.Spec PyProof.Rows L2 NdefX
structure TxtL (mg : Str → Option Value) : Prop where
  str : mg "str" = none
  len : mg "len" = none
  int : mg "int" = none
  range : mg "range" = none
theorem len_two : ∀ k < 61, (strI ((2 : Int) ^ k)).length ≤ 19 := by decide +kernel
theorem log_two : ∀ k < 61, ((2 : Int) ^ k).natAbs.log2 < 1920 := by decide +kernel
theorem two_pos (k : Nat) : (0 : Int) < 2 ^ k := Int.pow_pos (by decide)
/-- a number below 2 ^ k -/
def spLBig : Sp := fun vs H Q _ => ∃ (p c : Addr) (k n : Nat), vs = [.ref p, .int (2 ^ k)] ∧ k ≤ 60 ∧ Pen H p c n ∧ n ≤ 900000 ∧ ∀ (r : Int) H', 0 ≤ r → r < 2 ^ k → But p H H' → Pen H' p c (n + 5) → Q (.int r) H'
section
variable {P : Program} {w : World} {K : PySem.W.Frag} {mg : Str → Option Value} {base : Heap} {fD : Addr}
theorem scLBig : FnScope ["_law_pen_here", "_law_many", "_law_found", "_law_k"] ["_law_pen_here", "_law_many"] (defScope sLBig) := ⟨rfl, rfl, rfl, by decide +kernel, rfl, by decide +kernel, by decide +kernel⟩
theorem ok_lbig {f : Addr} {fd dd : FuncData} (F : Fun K "_law_big" "_law_big" sLBig f fd) (B : TxtL mg) (GD : FnOk P w K mg base CX0 1 fD dd ["_law_pen_here", "_law_many"] spDraw) (gD : mg "_law_draw" = some (.ref fD)) (FD : Fun K "_law_draw" "_law_draw" sDraw fD dd) (bD : Binds K dd ["_law_pen_here", "_law_many"] []) : FnOk P w K mg base CX0 2 f fd ["_law_pen_here", "_law_many"] spLBig := by
  refine F.ok scLBig (fun vs H Q E h => ?_) (fun cdv A outer s H vs Q E hr h => ?_)
  · obtain ⟨p, c, k, n, rfl, _⟩ := h
    rfl
  · obtain ⟨p, c, k, n, rfl, hk, pn, hn, hQ⟩ := h
    have nd := scLBig.nd
    refine ⟨_, (pss_cons (ps_set (i := 2) nd rfl (Or.inl rfl) pe_int)
      (pss_cons (ps_for PassesOwn.never rfl (pi_range1 rfl B.range (pa_cons (pe_op op_add (pe_op op_fdiv (pe_callB call_len_str (by rfl) B.len PySem.boot_len (pa_cons (pe_callTy call_str_int (by rfl) B.str (by decide +kernel) (pa_cons (pv 1) pa_nil)) pa_nil)) pe_int) pe_int) pa_nil)) (pg_name (i := 3) nd rfl (Or.inl rfl))
        (pss_one (ps_set (i := 2) nd rfl (Or.inl rfl) (pe_op op_add (pe_op op_mul (pv 2) (pe_op op_pow pe_int pe_int)) (pe_call GD hr (by rfl) gD FD.kp bD .nil pass0 (pa_cons (pv 0) (pa_cons (pe_op op_pow pe_int pe_int) pa_nil)))))))
      (pss_one (ps_ret (pe_op op_mod (pe_callTy call_int1 (by rfl) B.int (by decide +kernel) (pa_cons (pv 2) pa_nil)) (pv 1)))))), ?_⟩
    have hl := len_two k (by omega)
    obtain ⟨L, eL⟩ : ∃ L : Nat, (strI ((2 : Int) ^ k)).length = L := ⟨_, rfl⟩
    rw [eL] at hl
    refine ⟨_, rfl, _, rfl, log_two k (by omega), _, rfl, Nat.le_trans (by rw [show (Str.ofString (toString ((2 : Int) ^ k))).length = L from eL]; omega) kz, _, 6, rfl, rfl, ⟨by decide, by decide⟩, _, 2, rfl, rfl, ?_⟩
    rw [show (Str.ofString (toString ((2 : Int) ^ k))).length = L from eL]
    refine ⟨_, rfl, by omega, by omega, ?_⟩
    refine for_range (n := ((L : Int) / 6 + 2).toNat) (fun m σ H3 => ∃ (fo : Int) (v3 : Option V), σ = [some (.ref p), some (.int (2 ^ k)), some (.int fo), v3] ∧ But p H H3 ∧ Pen H3 p c (n + m)) ⟨0, none, rfl, But.same (fun _ _ e => e), pn⟩ ?_ ?_
    · rintro i σ H3 hi ⟨fo, v3, rfl, b3, p3⟩
      refine ⟨_, rfl, 10, 6, rfl, rfl, ⟨by decide, by decide, by decide⟩, fo, _, rfl, rfl, .inr ⟨by decide, by decide⟩, _, rfl, 10, 6, rfl, rfl, ⟨by decide, by decide, by decide⟩, ?_⟩
      refine ⟨p, c, 1000000, n + i, rfl, p3, by omega, by decide, by decide, fun r H4 r0 r1 b4 p4 => ?_⟩
      exact ⟨_, _, rfl, rfl, _, _, rfl, b3.trans b4, p4⟩
    · rintro σ H3 ⟨fo, v3, rfl, b3, p3⟩
      refine ⟨_, rfl, .inl ⟨_, rfl, _, rfl, _, _, rfl, rfl, two_pos k, ?_⟩⟩
      exact hQ _ _ (Int.emod_nonneg _ (Int.ne_of_gt (two_pos k))) (Int.emod_lt_of_pos _ (two_pos k)) b3 (p3.mono (by omega))
end
end Aw

namespace Aw
open PySem PySem.Spec PyProof.Rows L2 NdefX
/-- any word of that length -/
def spLBits : Sp := fun vs H Q _ => ∃ (p c : Addr) (m n : Nat), vs = [.ref p, .int (m : Nat)] ∧ 1 ≤ m ∧ m ≤ 60 ∧ Pen H p c n ∧ n ≤ 800000 ∧ ∀ (w : List Bool) (l : Addr) H', w.length = m → But p H H' → H l = none → H' l = some (.lst (w.map bV)) → Pen H' p c (n + 6) → Q (.ref l) H'
theorem and_bit (x : Int) : V.int (x % 2 ^ 1) = bV (decide (x % 2 = 1)) := by
  show V.int (x % 2) = _
  have h0 : 0 ≤ x % 2 := Int.emod_nonneg _ (by decide)
  have h1 : x % 2 < 2 := Int.emod_lt_of_pos _ (by decide)
  by_cases e : x % 2 = 1
  · rw [e]; rfl
  · have e2 : x % 2 = 0 := by omega
    rw [e2]; rfl
theorem rep_bits (b : Bool) (m : Nat) : (List.replicate m [bV b]).flatten = (List.replicate m b).map bV := by
  induction m with
  | zero => rfl
  | succ m ih => rw [List.replicate_succ, List.flatten_cons, ih]; rfl
section
variable {P : Program} {w : World} {K : PySem.W.Frag} {mg : Str → Option Value} {base : Heap} {fD fB : Addr}
theorem scLBits : FnScope ["_law_pen_here", "_law_many", "_law_way", "_law_number", "_law_spot", "_law_k"] ["_law_pen_here", "_law_many"] (defScope sLBits) := ⟨rfl, rfl, rfl, by decide +kernel, rfl, by decide +kernel, by decide +kernel⟩
theorem ok_lbits {f : Addr} {fd dd bd : FuncData} (F : Fun K "_law_bits" "_law_bits" sLBits f fd) (B : TxtL mg) (GD : FnOk P w K mg base CX0 1 fD dd ["_law_pen_here", "_law_many"] spDraw) (gD : mg "_law_draw" = some (.ref fD)) (FD : Fun K "_law_draw" "_law_draw" sDraw fD dd) (bD : Binds K dd ["_law_pen_here", "_law_many"] [])
    (FB : Fun K "_law_big" "_law_big" sLBig fB bd) (bB : Binds K bd ["_law_pen_here", "_law_many"] []) (gB : mg "_law_big" = some (.ref fB)) : FnOk P w K mg base CX0 3 f fd ["_law_pen_here", "_law_many"] spLBits := by
  have GB : FnOk P w K mg base CX0 2 fB bd ["_law_pen_here", "_law_many"] spLBig := ok_lbig FB B GD gD FD bD
  refine F.ok scLBits (fun vs H Q E h => ?_) (fun cdv A outer s H vs Q E hr h => ?_)
  · obtain ⟨p, c, m, n, rfl, _⟩ := h
    rfl
  · obtain ⟨p, c, m, n, rfl, m1, m2, pn, hn, hQ⟩ := h
    have nd := scLBits.nd
    refine ⟨_, (pss_cons (ps_asg (pe_tup (pa_cons (pe_call GD (hr.mono (by decide)) (by rfl) gD FD.kp bD .nil pass0 (pa_cons (pv 0) (pa_cons pe_int pa_nil))) (pa_cons (pe_call GB hr (by rfl) gB FB.kp bB .nil pass0 (pa_cons (pv 0) (pa_cons (pe_op op_shl pe_int (pv 1)) pa_nil))) pa_nil))) (pg_tup rfl (pgs_cons (pg_name (i := 2) nd rfl (Or.inl rfl)) (pgs_cons (pg_name (i := 3) nd rfl (Or.inr rfl)) pgs_nil))))
      (pss_cons (ps_if (pt_cmpR op_eq (pv 2) pe_int (nomark _))
        (pss_one (ps_ret (pe_op op_rep (pe_lst (pa_cons pe_int pa_nil)) (pv 1)))) pss_nil)
      (pss_cons (ps_if (pt_cmpR op_eq (pv 2) pe_int (nomark _))
        (pss_one (ps_ret (pe_op op_rep (pe_lst (pa_cons pe_int pa_nil)) (pv 1)))) pss_nil)
      (pss_cons (ps_if (pt_cmpR op_eq (pv 2) pe_int (nomark _))
        (pss_cons (ps_set (i := 4) nd rfl (Or.inr rfl) (pe_op op_mod (pe_callTy call_int1 (by rfl) B.int (by decide +kernel) (pa_cons (pv 3) pa_nil)) (pv 1)))
        (pss_one (ps_ret (pe_lc (own := [("_law_k", 5)]) (g := (gName 5)) (tt := tYes) rfl nd (pi_range1 rfl B.range (pa_cons (pv 1) pa_nil)) (blkOk_by (own := [("_law_k", 5)]) (N := ["_law_pen_here", "_law_many", "_law_way", "_law_number", "_law_spot", "_law_k"]) (sc := defScope sLBits) (by decide +kernel)) (fun _ _ _ _ _ => (pg_name (i := 5) nd rfl (Or.inl rfl))) (fun _ _ _ _ _ => pts_nil) (fun _ _ _ _ _ => (pe_callTy call_int1 (by rfl) B.int (by decide +kernel) (pa_cons (pe_cmpR op_eq (pv 5) (pv 4) (nomark _)) pa_nil))))))) pss_nil)
      (pss_one (ps_ret (pe_lc (own := [("_law_k", 5)]) (g := (gName 5)) (tt := tYes) rfl nd (pi_range1 rfl B.range (pa_cons (pv 1) pa_nil)) (blkOk_by (own := [("_law_k", 5)]) (N := ["_law_pen_here", "_law_many", "_law_way", "_law_number", "_law_spot", "_law_k"]) (sc := defScope sLBits) (by decide +kernel)) (fun _ _ _ _ _ => (pg_name (i := 5) nd rfl (Or.inl rfl))) (fun _ _ _ _ _ => pts_nil) (fun _ _ _ _ _ => (pe_op op_andM (pe_op op_shr (pv 3) (pv 5)) pe_int))))))))), ?_⟩
    refine ⟨_, rfl, p, c, 8, n, rfl, pn, by omega, by decide, by decide, fun r1 H1 r0 r8 b1 p1 => ?_⟩
    refine ⟨_, rfl, _, rfl, 1, (m : Int), rfl, rfl, ⟨by omega, by omega, by decide⟩, ?_⟩
    refine ⟨p, c, m, n + 1, by show [V.ref p, V.int (1 * 2 ^ ((m : Nat) : Int).toNat)] = _; rw [Int.one_mul]; rfl, m2, p1, by omega, fun N H2 n0 n1 b2 p2 => ?_⟩
    refine ⟨by show 2 ≤ sizeLine; decide, fun T hT => ?_⟩
    have b12 := b1.trans b2
    have b3 : But p H2 (upd H2 T (.tup [.int r1, .int N])) := But.same (same_upd hT)
    have p3 := p2.new (o := .tup [.int r1, .int N]) hT
    refine ⟨T, _, rfl, SqT.of upd_same, rfl, _, _, rfl, _, _, rfl, rfl, ?_⟩
    obtain ⟨H4, eH⟩ : ∃ H4, upd H2 T (.tup [.int r1, .int N]) = H4 := ⟨_, rfl⟩
    rw [eH] at b3 p3
    have b14 := b12.trans b3
    have none1 : ∀ l, H4 l = none → H l = none := fun l hl => by
      cases e : H l with
      | none => rfl
      | some o =>
        by_cases ep : l = p
        · subst ep
          obtain ⟨o2, e2⟩ := p3.some1
          rw [hl] at e2
          cases e2
        · rw [b14 l o e ep] at hl
          cases hl
    have fin : ∀ (w : List Bool) (l : Addr) H', w.length = m → Same H4 H' → H4 l = none → H' l = some (.lst (w.map bV)) → Q (.ref l) H' := fun w l H' hw s1 hl hl2 => hQ w l H' hw (b14.trans (But.same s1)) (none1 l hl) hl2 (p3.same s1)
    rw [eH]
    refine ⟨_, rfl, rfl, _, rfl, ?_⟩
    refine ite_int (fun e => ?_) (fun _ => ?_)
    · refine ⟨by show 1 ≤ sizeLine; decide, fun L hL => ⟨_, rfl, L, (m : Int), _, rfl, rfl, upd_same, by omega, by omega, ?_, fun l hl => ?_⟩⟩
      · show 1 * m ≤ _
        exact Nat.le_trans (by omega) kz
      · refine fin (List.replicate m false) l _ (List.length_replicate ..) ((same_upd hL).trans (same_upd hl)) ((same_upd hL).free hl) ?_
        rw [upd_same, ← rep_bits]
        rfl
    refine ⟨_, rfl, rfl, _, rfl, ?_⟩
    refine ite_int (fun e => ?_) (fun _ => ?_)
    · refine ⟨by show 1 ≤ sizeLine; decide, fun L hL => ⟨_, rfl, L, (m : Int), _, rfl, rfl, upd_same, by omega, by omega, ?_, fun l hl => ?_⟩⟩
      · show 1 * m ≤ _
        exact Nat.le_trans (by omega) kz
      · refine fin (List.replicate m true) l _ (List.length_replicate ..) ((same_upd hL).trans (same_upd hl)) ((same_upd hL).free hl) ?_
        rw [upd_same, ← rep_bits]
        rfl
    refine ⟨_, rfl, rfl, _, rfl, ?_⟩
    refine ite_int (fun e => ?_) (fun _ => ?_)
    · refine ⟨_, rfl, .inl ⟨_, rfl, _, rfl, _, _, rfl, rfl, (show (0 : Int) < m by omega), ?_⟩⟩
      refine ⟨_, rfl, _, rfl, by omega, by omega, fun D hD => ?_⟩
      refine lc_range (n := (m : Int).toNat) (fun q H5 => Same H4 H5 ∧ H5 D = some (.lst (((List.range q).map fun j : Nat => decide ((j : Int) = N % m)).map bV))) ⟨same_upd hD, upd_same⟩ ?_ ?_
      · rintro i H5 hi ⟨s5, e5⟩
        refine ⟨rfl, _, rfl, _, rfl, rfl, .inr ⟨_, rfl, _, e5, ?_, same_fresh hD s5, ?_⟩⟩
        · rw [List.length_map, List.length_map, List.length_range]
          exact Nat.lt_of_lt_of_le (by omega : i < 1000) kz
        · rw [upd_same, map_take, ← dec_ints, Int.zero_add]
          rfl
      · rintro H5 ⟨s5, e5⟩
        exact fin _ D H5 (by rw [List.length_map, List.length_range]; rfl) s5 hD e5
    refine ⟨_, rfl, _, rfl, by omega, by omega, fun D hD => ?_⟩
    refine lc_range (n := (m : Int).toNat) (fun q H5 => Same H4 H5 ∧ H5 D = some (.lst (((List.range q).map fun j : Nat => decide ((N / 2 ^ j) % 2 = 1)).map bV))) ⟨same_upd hD, upd_same⟩ ?_ ?_
    · rintro i H5 hi ⟨s5, e5⟩
      refine ⟨rfl, _, rfl, _, rfl, N, _, rfl, rfl, (show (0 : Int) ≤ 0 + i by omega), _, 1, rfl, rfl, _, e5, ?_, same_fresh hD s5, ?_⟩
      · rw [List.length_map, List.length_map, List.length_range]
        exact Nat.lt_of_lt_of_le (by omega : i < 1000) kz
      · rw [upd_same, map_take, ← and_bit, Int.zero_add]
        rfl
    · rintro H5 ⟨s5, e5⟩
      exact fin _ D H5 (by rw [List.length_map, List.length_range]; rfl) s5 hD e5
end
end Aw

namespace Aw
open PySem PySem.Spec PyProof.Rows L2 NdefX
/-- the greatest size -/
def T30 : Int := 10 ^ 30
theorem T30_eq : T30 = 1000000000000000000000000000000 := by decide
theorem len_big {m : Int} (h0 : 0 < m) (h1 : m ≤ 4 * T30) : (strI m).length ≤ 31 := by
  refine PyProof.Rows.toString_length_le (by omega) (by decide) ?_
  rw [T30_eq] at h1
  exact Int.lt_of_le_of_lt h1 (by decide)
theorem log_big {m : Int} (h0 : 0 < m) (h1 : m ≤ 4 * T30) : m.natAbs.log2 < 1920 := by
  have h2 : m.natAbs < 2 ^ 103 := by
    rw [T30_eq] at h1
    have : (2 : Nat) ^ 103 = 10141204801825835211973625643008 := by decide
    omega
  exact Nat.lt_of_lt_of_le ((Nat.log2_lt (by omega)).mpr h2) (by decide)
theorem two_le {a b : Nat} (h : a ≤ b) : (2 : Int) ^ a ≤ 2 ^ b := by
  have e : ∀ n : Nat, (2 : Int) ^ n = ((2 ^ n : Nat) : Int) := fun n => (Int.natCast_pow 2 n).symm
  rw [e, e]
  exact Int.ofNat_le.mpr (Nat.pow_le_pow_right (by decide) h)
/-- a number below any one -/
def spLBigN : Sp := fun vs H Q _ => ∃ (p c : Addr) (m : Int) (n : Nat), vs = [.ref p, .int m] ∧ 0 < m ∧ m ≤ 4 * T30 ∧ Pen H p c n ∧ n ≤ 900000 ∧ ∀ (r : Int) H', 0 ≤ r → r < m → But p H H' → Pen H' p c (n + 8) → Q (.int r) H'
def spLSize : Sp := fun vs H Q _ => ∃ (p c : Addr) (n : Nat), vs = [.ref p] ∧ Pen H p c n ∧ n ≤ 800000 ∧ ∀ (k : Int) H', 1 ≤ k → k ≤ T30 → But p H H' → Pen H' p c (n + 10) → Q (.int k) H'
def spLPlace : Sp := fun vs H Q _ => ∃ (p c : Addr) (k : Int) (n : Nat), vs = [.ref p, .int k] ∧ 1 ≤ k ∧ k ≤ T30 ∧ Pen H p c n ∧ n ≤ 800000 ∧ ∀ (j : Int) H', 0 ≤ j → j < k → But p H H' → Pen H' p c (n + 10) → Q (.int j) H'
section
variable {P : Program} {w : World} {K : PySem.W.Frag} {mg : Str → Option Value} {base : Heap} {fD fB : Addr}
theorem ok_lbigN {f : Addr} {fd dd : FuncData} (F : Fun K "_law_big" "_law_big" sLBig f fd) (B : TxtL mg) (GD : FnOk P w K mg base CX0 1 fD dd ["_law_pen_here", "_law_many"] spDraw) (gD : mg "_law_draw" = some (.ref fD)) (FD : Fun K "_law_draw" "_law_draw" sDraw fD dd) (bD : Binds K dd ["_law_pen_here", "_law_many"] []) : FnOk P w K mg base CX0 2 f fd ["_law_pen_here", "_law_many"] spLBigN := by
  refine F.ok scLBig (fun vs H Q E h => ?_) (fun cdv A outer s H vs Q E hr h => ?_)
  · obtain ⟨p, c, m, n, rfl, _⟩ := h
    rfl
  · obtain ⟨p, c, mm, n, rfl, h0, h1, pn, hn, hQ⟩ := h
    have nd := scLBig.nd
    refine ⟨_, (pss_cons (ps_set (i := 2) nd rfl (Or.inl rfl) pe_int)
      (pss_cons (ps_for PassesOwn.never rfl (pi_range1 rfl B.range (pa_cons (pe_op op_add (pe_op op_fdiv (pe_callB call_len_str (by rfl) B.len PySem.boot_len (pa_cons (pe_callTy call_str_int (by rfl) B.str (by decide +kernel) (pa_cons (pv 1) pa_nil)) pa_nil)) pe_int) pe_int) pa_nil)) (pg_name (i := 3) nd rfl (Or.inl rfl))
        (pss_one (ps_set (i := 2) nd rfl (Or.inl rfl) (pe_op op_add (pe_op op_mul (pv 2) (pe_op op_pow pe_int pe_int)) (pe_call GD hr (by rfl) gD FD.kp bD .nil pass0 (pa_cons (pv 0) (pa_cons (pe_op op_pow pe_int pe_int) pa_nil)))))))
      (pss_one (ps_ret (pe_op op_mod (pe_callTy call_int1 (by rfl) B.int (by decide +kernel) (pa_cons (pv 2) pa_nil)) (pv 1)))))), ?_⟩
    have hl := len_big h0 h1
    obtain ⟨L, eL⟩ : ∃ L : Nat, (strI mm).length = L := ⟨_, rfl⟩
    rw [eL] at hl
    refine ⟨_, rfl, _, rfl, log_big h0 h1, _, rfl, Nat.le_trans (by rw [show (Str.ofString (toString mm)).length = L from eL]; omega) kz, _, 6, rfl, rfl, ⟨by decide, by decide⟩, _, 2, rfl, rfl, ?_⟩
    rw [show (Str.ofString (toString mm)).length = L from eL]
    refine ⟨_, rfl, by omega, by omega, ?_⟩
    refine for_range (n := ((L : Int) / 6 + 2).toNat) (fun m σ H3 => ∃ (fo : Int) (v3 : Option V), σ = [some (.ref p), some (.int mm), some (.int fo), v3] ∧ But p H H3 ∧ Pen H3 p c (n + m)) ⟨0, none, rfl, But.same (fun _ _ e => e), pn⟩ ?_ ?_
    · rintro i σ H3 hi ⟨fo, v3, rfl, b3, p3⟩
      refine ⟨_, rfl, 10, 6, rfl, rfl, ⟨by decide, by decide, by decide⟩, fo, _, rfl, rfl, .inr ⟨by decide, by decide⟩, _, rfl, 10, 6, rfl, rfl, ⟨by decide, by decide, by decide⟩, ?_⟩
      refine ⟨p, c, 1000000, n + i, rfl, p3, by omega, by decide, by decide, fun r H4 r0 r1 b4 p4 => ?_⟩
      exact ⟨_, _, rfl, rfl, _, _, rfl, b3.trans b4, p4⟩
    · rintro σ H3 ⟨fo, v3, rfl, b3, p3⟩
      refine ⟨_, rfl, .inl ⟨_, rfl, _, rfl, _, _, rfl, rfl, h0, ?_⟩⟩
      exact hQ _ _ (Int.emod_nonneg _ (Int.ne_of_gt h0)) (Int.emod_lt_of_pos _ h0) b3 (p3.mono (by omega))
structure TxtN (P : Program) (w : World) (K : PySem.W.Frag) (mg : Str → Option Value) (base : Heap) (fD fB : Addr) (dd bd : FuncData) : Prop where
  GD : FnOk P w K mg base CX0 1 fD dd ["_law_pen_here", "_law_many"] spDraw
  gD : mg "_law_draw" = some (.ref fD)
  FD : Fun K "_law_draw" "_law_draw" sDraw fD dd
  bD : Binds K dd ["_law_pen_here", "_law_many"] []
  GB : FnOk P w K mg base CX0 2 fB bd ["_law_pen_here", "_law_many"] spLBigN
  gB : mg "_law_big" = some (.ref fB)
  FB : Fun K "_law_big" "_law_big" sLBig fB bd
  bB : Binds K bd ["_law_pen_here", "_law_many"] []
  max : mg "max" = none
  min : mg "min" = none
theorem scLSize : FnScope ["_law_pen_here", "_law_way", "_law_near"] ["_law_pen_here"] (defScope sLSize) := ⟨rfl, rfl, rfl, by decide +kernel, rfl, by decide +kernel, by decide +kernel⟩
theorem scLPlace : FnScope ["_law_pen_here", "_law_k", "_law_way", "_law_near"] ["_law_pen_here", "_law_k"] (defScope sLPlace) := ⟨rfl, rfl, rfl, by decide +kernel, rfl, by decide +kernel, by decide +kernel⟩
theorem ok_lsize {f : Addr} {fd dd bd : FuncData} (F : Fun K "_law_size" "_law_size" sLSize f fd) (N : TxtN P w K mg base fD fB dd bd) : FnOk P w K mg base CX0 3 f fd ["_law_pen_here"] spLSize := by
  refine F.ok scLSize (fun vs H Q E h => ?_) (fun cdv A outer s H vs Q E hr h => ?_)
  · obtain ⟨p, c, n, rfl, _⟩ := h
    rfl
  · obtain ⟨p, c, n, rfl, pn, hn, hQ⟩ := h
    have nd := scLSize.nd
    refine ⟨_, (pss_cons (ps_par (i := 1) (j := 2) rfl nd rfl rfl (by decide) rfl rfl (pa_cons (pe_call N.GD (hr.mono (by decide)) (by rfl) N.gD N.FD.kp N.bD .nil pass0 (pa_cons (pv 0) (pa_cons pe_int pa_nil))) (pa_cons (pe_call N.GD (hr.mono (by decide)) (by rfl) N.gD N.FD.kp N.bD .nil pass0 (pa_cons (pv 0) (pa_cons pe_int pa_nil))) pa_nil)) (by rfl))
      (pss_cons (ps_if (pt_cmpR op_eq (pv 1) pe_int (nomark _))
        (pss_one (ps_ret (pe_op op_add pe_int (pe_call N.GD (hr.mono (by decide)) (by rfl) N.gD N.FD.kp N.bD .nil pass0 (pa_cons (pv 0) (pa_cons pe_int pa_nil)))))) pss_nil)
      (pss_cons (ps_if (pt_cmpR op_eq (pv 1) pe_int (nomark _))
        (pss_one (ps_ret (pe_op op_sub (pe_op op_pow pe_int pe_int) (pv 2)))) pss_nil)
      (pss_cons (ps_if (pt_cmpR op_lt (pv 1) pe_int (nomark _))
        (pss_one (ps_ret (pe_callB (call_max2 rfl) (by rfl) N.max (by decide +kernel) (pa_cons pe_int (pa_cons (pe_op op_add (pe_op op_sub (pe_op op_shl pe_int (pe_op op_add pe_int (pe_call N.GD (hr.mono (by decide)) (by rfl) N.gD N.FD.kp N.bD .nil pass0 (pa_cons (pv 0) (pa_cons pe_int pa_nil))))) pe_int) (pv 2)) pa_nil))))) pss_nil)
      (pss_one (ps_ret (pe_op op_add pe_int (pe_call N.GB (hr.mono (by decide)) (by rfl) N.gB N.FB.kp N.bB .nil pass0 (pa_cons (pv 0) (pa_cons (pe_op op_pow pe_int pe_int) pa_nil)))))))))), ?_⟩
    refine ⟨_, rfl, p, c, 6, n, rfl, pn, by omega, by decide, by decide, fun way H1 w0 w1 b1 p1 => ?_⟩
    refine ⟨_, rfl, p, c, 5, n + 1, rfl, p1, by omega, by decide, by decide, fun near H2 n0 n1 b2 p2 => ?_⟩
    have b12 := b1.trans b2
    refine ⟨_, _, rfl, ?_⟩
    refine ⟨_, rfl, rfl, _, rfl, ?_⟩
    refine ite_int (fun e => ?_) (fun _ => ?_)
    · refine ⟨_, rfl, p, c, 12, n + 2, rfl, p2, by omega, by decide, by decide, fun r H3 r0 r1 b3 p3 => ?_⟩
      exact ⟨1, r, rfl, rfl, hQ _ _ (by omega) (by rw [T30_eq]; omega) (b12.trans b3) (p3.mono (by omega))⟩
    refine ⟨_, rfl, rfl, _, rfl, ?_⟩
    refine ite_int (fun e => ?_) (fun _ => ?_)
    · refine ⟨10, 30, rfl, rfl, ⟨by decide, by decide, by decide⟩, _, rfl, _, near, rfl, rfl, ?_⟩
      have e3 : (10 : Int) ^ (30 : Int).toNat = 1000000000000000000000000000000 := by decide
      refine hQ _ _ ?_ ?_ b12 (p2.mono (by omega))
      · show 1 ≤ (10 : Int) ^ (30 : Int).toNat - near
        rw [e3]; omega
      · show (10 : Int) ^ (30 : Int).toNat - near ≤ T30
        rw [e3, T30_eq]; omega
    refine ⟨_, rfl, way, 4, rfl, rfl, _, rfl, ?_⟩
    refine ite_dec (fun e => ?_) (fun _ => ?_)
    · refine ⟨_, rfl, p, c, 98, n + 2, rfl, p2, by omega, by decide, by decide, fun r H3 r0 r1 b3 p3 => ?_⟩
      refine ⟨1, r, rfl, rfl, 1, 1 + r, rfl, rfl, ⟨by omega, by omega, by decide⟩, _, 2, rfl, rfl, _, rfl, _, near, rfl, rfl, 1, _, rfl, ?_⟩
      have hp : (2 : Int) ^ (1 + r).toNat ≤ 2 ^ 98 := two_le (by omega)
      have hp0 : (0 : Int) < 2 ^ (1 + r).toNat := Int.pow_pos (by decide)
      have e98 : (2 : Int) ^ 98 = 316912650057057350374175801344 := by decide
      refine hQ _ _ ?_ ?_ (b12.trans b3) (p3.mono (by omega))
      · split <;> omega
      · show (if 1 * (2 : Int) ^ (1 + r).toNat - 2 + near > 1 then 1 * (2 : Int) ^ (1 + r).toNat - 2 + near else 1) ≤ T30
        rw [T30_eq]
        split <;> omega
    · refine ⟨_, rfl, 10, 30, rfl, rfl, ⟨by decide, by decide, by decide⟩, p, c, T30, n + 2, rfl, by decide, by have := T30_eq; omega, p2, by omega, fun r H3 r0 r1 b3 p3 => ?_⟩
      exact ⟨1, r, rfl, rfl, hQ _ _ (by omega) (by omega) (b12.trans b3) (p3.mono (by omega))⟩
theorem ok_lplace {f : Addr} {fd dd bd : FuncData} (F : Fun K "_law_place" "_law_place" sLPlace f fd) (N : TxtN P w K mg base fD fB dd bd) : FnOk P w K mg base CX0 3 f fd ["_law_pen_here", "_law_k"] spLPlace := by
  refine F.ok scLPlace (fun vs H Q E h => ?_) (fun cdv A outer s H vs Q E hr h => ?_)
  · obtain ⟨p, c, k, n, rfl, _⟩ := h
    rfl
  · obtain ⟨p, c, k, n, rfl, k1, k2, pn, hn, hQ⟩ := h
    have nd := scLPlace.nd
    refine ⟨_, (pss_cons (ps_par (i := 2) (j := 3) rfl nd rfl rfl (by decide) rfl rfl (pa_cons (pe_call N.GD (hr.mono (by decide)) (by rfl) N.gD N.FD.kp N.bD .nil pass0 (pa_cons (pv 0) (pa_cons pe_int pa_nil))) (pa_cons (pe_call N.GD (hr.mono (by decide)) (by rfl) N.gD N.FD.kp N.bD .nil pass0 (pa_cons (pv 0) (pa_cons pe_int pa_nil))) pa_nil)) (by rfl))
      (pss_cons (ps_if (pt_cmpR op_eq (pv 2) pe_int (nomark _))
        (pss_one (ps_ret (pe_callB (call_min2 rfl) (by rfl) N.min (by decide +kernel) (pa_cons (pv 3) (pa_cons (pe_op op_sub (pv 1) pe_int) pa_nil))))) pss_nil)
      (pss_cons (ps_if (pt_cmpR op_eq (pv 2) pe_int (nomark _))
        (pss_one (ps_ret (pe_callB (call_max2 rfl) (by rfl) N.max (by decide +kernel) (pa_cons pe_int (pa_cons (pe_op op_sub (pe_op op_sub (pv 1) pe_int) (pv 3)) pa_nil))))) pss_nil)
      (pss_cons (ps_if (pt_cmpR op_eq (pv 2) pe_int (nomark _))
        (pss_one (ps_ret (pe_callB (call_max2 rfl) (by rfl) N.max (by decide +kernel) (pa_cons pe_int (pa_cons (pe_callB (call_min2 rfl) (by rfl) N.min (by decide +kernel) (pa_cons (pe_op op_sub (pv 1) pe_int) (pa_cons (pe_op op_add (pe_op op_sub (pe_op op_fdiv (pv 1) pe_int) pe_int) (pv 3)) pa_nil))) pa_nil))))) pss_nil)
      (pss_one (ps_ret (pe_call N.GB (hr.mono (by decide)) (by rfl) N.gB N.FB.kp N.bB .nil pass0 (pa_cons (pv 0) (pa_cons (pv 1) pa_nil))))))))), ?_⟩
    refine ⟨_, rfl, p, c, 6, n, rfl, pn, by omega, by decide, by decide, fun way H1 w0 w1 b1 p1 => ?_⟩
    refine ⟨_, rfl, p, c, 4, n + 1, rfl, p1, by omega, by decide, by decide, fun near H2 n0 n1 b2 p2 => ?_⟩
    have b12 := b1.trans b2
    refine ⟨_, _, rfl, ?_⟩
    refine ⟨_, rfl, rfl, _, rfl, ?_⟩
    refine ite_int (fun e => ?_) (fun _ => ?_)
    · refine ⟨_, rfl, _, rfl, k, 1, rfl, rfl, near, k - 1, rfl, ?_⟩
      refine hQ _ _ ?_ ?_ b12 (p2.mono (by omega)) <;> split <;> omega
    refine ⟨_, rfl, rfl, _, rfl, ?_⟩
    refine ite_int (fun e => ?_) (fun _ => ?_)
    · refine ⟨_, rfl, k, 1, rfl, rfl, _, rfl, _, near, rfl, rfl, 0, _, rfl, ?_⟩
      refine hQ _ _ ?_ ?_ b12 (p2.mono (by omega)) <;> split <;> omega
    refine ⟨_, rfl, rfl, _, rfl, ?_⟩
    refine ite_int (fun e => ?_) (fun _ => ?_)
    · refine ⟨_, rfl, k, 1, rfl, rfl, _, rfl, k, 2, rfl, rfl, ⟨by decide, by decide⟩, _, 2, rfl, rfl, _, rfl, _, near, rfl, rfl, k - 1, _, rfl, 0, _, rfl, ?_⟩
      refine hQ _ _ ?_ ?_ b12 (p2.mono (by omega)) <;> (repeat' split) <;> omega
    · exact ⟨_, rfl, _, rfl, p, c, k, n + 2, rfl, by omega, by have := T30_eq; omega, p2, by omega, fun r H3 r0 r1 b3 p3 => hQ _ _ r0 r1 (b12.trans b3) (p3.mono (by omega))⟩
end
end Aw

namespace Aw
open PySem PySem.Spec PyProof.Rows L2 NdefX
def bitsD (w : List Bool) : List PyData := w.map fun b => .int (bI b)
theorem bits_dp {K : PySem.W.Frag} {H : Hp} : ∀ w : List Bool, DpAll K H (w.map bV) (bitsD w)
  | [] => .nil
  | b :: w => .cons (.int _) (bits_dp w)
theorem bits_lay : ∀ w : List Bool, PyData.canLayAll0 (bitsD w) = true ∧ PyData.depthAll (bitsD w) ≤ 1
  | [] => ⟨rfl, by simp [bitsD, PyData.depthAll]⟩
  | b :: w => by
    obtain ⟨h1, h2⟩ := bits_lay w
    have e : bitsD (b :: w) = .int (bI b) :: bitsD w := rfl
    rw [e]
    refine ⟨?_, ?_⟩
    · simp only [PyData.canLayAll0, PyData.canLay0, h1, Bool.and_self]
    · simp only [PyData.depthAll, PyData.depth]
      omega
theorem sh_tup (w : List Bool) : SeqAt.shaped (.tuple (bitsD w)) = true := by
  obtain ⟨h1, h2⟩ := bits_lay w
  unfold SeqAt.shaped
  refine Bool.and_eq_true_iff.mpr ⟨?_, decide_eq_true ?_⟩
  · simp only [PyData.canLay0, h1]
  · simp only [PyData.depth]
    omega
theorem sh_lst (w : List Bool) : SeqAt.shaped (.list (bitsD w)) = true := by
  obtain ⟨h1, h2⟩ := bits_lay w
  unfold SeqAt.shaped
  refine Bool.and_eq_true_iff.mpr ⟨?_, decide_eq_true ?_⟩
  · simp only [PyData.canLay0, h1]
  · simp only [PyData.depth]
    omega
theorem eqv_self {d : PyData} (h : SeqAt.shaped d = true) : PyData.eqv d d = true := SeqAt.eqv_refl d (SeqAt.canLay_of_shaped h)
theorem bits_vok {H : Hp} {w : List Bool} : ∀ x ∈ w.map bV, VOk H x := fun x hx => by
  obtain ⟨b, _, rfl⟩ := List.mem_map.mp hx
  exact .int _
theorem but_lst {H H' : Hp} {a p c : Addr} {n : Nat} {xs : List V} (b : But p H H') (P : Pen H p c n) (h : H a = some (.lst xs)) : H' a = some (.lst xs) := by
  obtain ⟨cells, i, l, e1, _⟩ := P.ex
  exact b _ _ h (ne_of h e1 (fun z => by cases z))
theorem but_tup {H H' : Hp} {a p c : Addr} {n : Nat} {xs : List V} (b : But p H H') (P : Pen H p c n) (h : H a = some (.tup xs)) : H' a = some (.tup xs) := by
  obtain ⟨cells, i, l, e1, _⟩ := P.ex
  exact b _ _ h (ne_of h e1 (fun z => by cases z))
theorem bV_inj {a b : Bool} (h : bV a = bV b) : a = b := by
  cases a <;> cases b <;> first | rfl | exact absurd h (by decide)
theorem bVs_inj : ∀ {v w : List Bool}, v.map bV = w.map bV → v = w
  | [], [], _ => rfl
  | [], _ :: _, h => by cases h
  | _ :: _, [], h => by cases h
  | a :: v, b :: w, h => by
    rw [List.map_cons, List.map_cons] at h
    obtain ⟨h1, h2⟩ := List.cons.inj h
    rw [bV_inj h1, bVs_inj h2]
theorem bits_so {w : List Bool} (h0 : 0 < w.length) (h1 : w.length ≤ 1000) : sizeOk (w.map bV).length 1000 := ⟨by rw [List.length_map]; omega, by rw [List.length_map]; omega⟩
theorem no_odd {w : List Bool} {i : Nat} (h : firstOdd (w.map bV) i) : False := by
  obtain ⟨x, hx, h2⟩ := h.2
  obtain ⟨b, _, rfl⟩ := List.mem_map.mp (List.mem_of_getElem? hx)
  rw [numB_bV] at h2
  cases h2
end Aw

namespace Aw
open PySem PySem.Spec PyProof.Rows L2 NdefX
section
variable {X : Cx} {CX : CXT} {k : Nat} {C f : Addr} {sp : Sp} {o e : Expr} {es : List Expr} {m : Str} {pos apos : Pos} {ta : TE} {t : TA} {pl : Sem Bool} {fd : FuncData} {ps : List Str} {E : Aw.St → XK}
def tMethSw (C : Addr) (m : Str) (sp : Sp) (E : Aw.St → XK) (ta : TE) (t : TA) : TE := fun σ H Q => ta σ H fun x H1 => ∃ a dx fs, x = .ref a ∧ H1 a = some (.ins C dx fs) ∧ fs.lookup m = none ∧ t σ H1 fun vs H2 => sp (x :: vs) H2 Q (E σ)
/-- o.m(e, ..), an own method that may raise within a try -/
theorem pe_methSw (he : PE X o ta) (c : Cls X.K C) (hm : Meth X.K C m f) (F : FnOk X.prog X.w X.K X.mg X.base CX k f fd ps sp) (hr : Room k X.A) (hb : Binds X.K fd ps []) (hx : ∀ σ, PassesAt CX X σ (E σ)) (ha : PA X (e :: es) t)
    (hst : starEach (e :: es) X.env = (false, eval e X.env) :: starEach es X.env := by rfl) (hpl : (backTo pos (starEach es X.env)).any (·.1) = false := by rfl)
    (ht : eval (.Call (.Attribute o m apos) (e :: es) [] pos) X.env = (do
      let ov ← eval o X.env
      standAt apos.atName
      let (f, first) ← holding [ov] (getMethod ov m pl)
      callWith pos f first (backTo pos (starEach (e :: es) X.env)) (backToKw pos (keywordEach [] X.env))) := by rfl) :
    PE X (.Call (.Attribute o m apos) (e :: es) [] pos) (tMethSw C m sp E ta t) := by
  refine ⟨fun pins s σ H Q I h => ?_⟩
  refine PySem.W.methodCall_KW (pl := pl) (thn (he.run pins s σ H _ I h) fun u s1 ⟨x, H1, I1, rx, a, dx, fs, ex, ea, l, q⟩ => ?_) ht
  subst ex
  obtain rfl : u = Value.ref a := rx
  refine getmeth_ok I1 ea c hm l ?_
  refine PySem.W.callWith_K (first := [.ref a]) (h₀ := X.base) I.ok.mod.kin hm.kp (thn (ha.run pos pins s1 σ H1 _ I1 q) fun us s2 ⟨vs, H2, I2, r, q2⟩ => ⟨I2.kIn, ?_⟩) hst hpl
  exact run_fnS (us := .ref a :: us) (vs := .ref a :: vs) F hr hb (hx σ) I2 (.cons rfl r) q2
end
end Aw

namespace Aw
open PySem PySem.Spec PyProof.Rows L2 NdefX
theorem BitsAt.same {H H' : Hp} {l : Addr} {xs : List V} (B : BitsAt H l xs) (s : Same H H') : BitsAt H' l xs := ⟨B.at_.elim (fun h => .inl (s _ _ h)) (fun h => .inr (s _ _ h)), fun x hx => (B.ok x hx).same s, B.few⟩
end Aw

namespace Aw
open PySem PySem.Spec PyProof.Rows L2 NdefX
/-! ### C.m(..), m a classmethod, an exception passed on as the state has it -/
def tCMethS (C : Addr) (sp : Sp) (E : Aw.St → XK) (ta : TE) (t : TA) : TE := fun σ H Q => ta σ H fun x H1 => x = .ref C ∧ t σ H1 fun vs H2 => sp (.ref C :: vs) H2 Q (E σ)
section
variable {X : Cx} {CX : CXT} {k : Nat} {C p g : Addr} {mc : Value} {sp : Sp} {o e : Expr} {es : List Expr} {m : Str} {pos apos : Pos} {ta : TE} {t : TA} {pl : Sem Bool} {fd : FuncData} {ps : List Str} {E : Aw.St → XK}
theorem pe_cmethS (he : PE X o ta) (r : ClX.CRead X.K C mc) (c : ClX.CMet X.K C mc m p g) (F : FnOk X.prog X.w X.K X.mg X.base CX k g fd ps sp) (hr : Room k X.A) (hb : Binds X.K fd ps []) (hx : ∀ σ, PassesAt CX X σ (E σ)) (ha : PA X (e :: es) t)
    (hst : starEach (e :: es) X.env = (false, eval e X.env) :: starEach es X.env := by rfl) (hpl : (backTo pos (starEach es X.env)).any (·.1) = false := by rfl)
    (ht : eval (.Call (.Attribute o m apos) (e :: es) [] pos) X.env = (do
      let ov ← eval o X.env
      standAt apos.atName
      let (f, first) ← holding [ov] (getMethod ov m pl)
      callWith pos f first (backTo pos (starEach (e :: es) X.env)) (backToKw pos (keywordEach [] X.env))) := by rfl) :
    PE X (.Call (.Attribute o m apos) (e :: es) [] pos) (tCMethS C sp E ta t) := by
  refine ⟨fun pins s σ H Q I h => ?_⟩
  refine PySem.W.methodCall_KW (pl := pl) (thn (he.run pins s σ H _ I h) fun u s1 ⟨x, H1, I1, rx, ex, q⟩ => ?_) ht
  subst ex
  obtain rfl : u = Value.ref C := rx
  refine ClX.getmethcm_ok I1 r c fun s2 I2 => ?_
  refine ClX.callwith_cm I2 (ClX.base_none I1 (Nat.le_refl _)) c.fi (thn (ha.run pos _ s2 σ H1 _ I2 q) fun us s3 ⟨vs, H2, I3, rv, q2⟩ => ⟨⟨ClX.pin_at I3, I3.kIn⟩, ?_⟩) hst hpl
  have r2 : Vals (V.ref C :: vs) (Value.ref C :: us) := .cons rfl rv
  have hl : (Value.ref C :: us).length = ps.length := by rw [← r2.length]; exact F.len _ _ _ _ q2
  have bb := hb s3 (Value.ref C :: us) I3.kIn (by rw [List.append_nil]; exact hl)
  rw [List.append_nil] at bb
  have z : wpAny (model X.prog X.w) X.A (call (.ref s1.heap.objs.size) us) (EP X ((s1.heap.objs.size, PySem.W.methodObj (.ref g) (.ref C)) :: pins) σ Q) X.xe s3 :=
    wpAny_call (PySem.W.method_call (ClX.pin_at I3) (codeAny_mono (F.run X.A X.stack s3 H2 ⟨Value.ref C :: us, []⟩ (Value.ref C :: us) (V.ref C :: vs) Q (E σ) hr I3.env0 bb r2 q2) fun r s' hq => by
      cases r with
      | error e => exact hx σ _ _ _ e s' I3 hq
      | ok fl =>
        cases fl with
        | ret w => exact I3.after hq
        | next => exact False.elim hq
        | brk => exact False.elim hq
        | cont => exact False.elim hq))
  exact thn z fun _ _ y => ClX.unpinE y
end
end Aw

namespace Aw
open PySem PySem.Spec PyProof.Rows L2 NdefX
/-! ### f'{n:b}' -/
/-- the digits of n by 2 -/
def binC (n : Nat) : List Nat := (Nat.toDigits 2 n).map Char.toNat
def binT (n : Nat) : Str := ⟨(binC n).toArray⟩
section
open PySem.W PySem.Calls PySem.Builtin Builtin Float
variable {prog : Program} {w : World} {A : Around} {E : Value → Shared → Prop} {s : Shared}
theorem ret_text2 {M : PySem.Model} {X T : Str} {Q : PySem.Fin → Shared → Prop} (e : X = T) (hL : T.length ≤ sizeLine) (h : ∀ t k, Q (.done (.ret (.str T t))) { s with toks := k }) : wpAny M A (retStr X) Q E s := KXf.ret_text e (e ▸ hL) h
theorem parse_b : parseFormatSpec (Str.ofString "b").cps.toList "int" 62 = .ok { fill := 32, align := 62, type := some 98 } := by rfl
theorem field_b {a : Nat} {t : Tok} {Q : Value → Shared → Prop} (hlen : (binT a).length ≤ sizeLine) (h : ∀ t' k, Q (.str (binT a) t') { s with toks := k }) : wpAny (model prog w) A (formatField (.int (a : Nat) t) "b") Q E s := by
  show wpAny _ _ (holding [.int a t] (pyFormat (.int a t) "b")) Q E s
  refine wpAny_holding ?_
  unfold pyFormat
  refine wpAny_bind (wpAny_mkStr ?_ (by show 1 ≤ sizeLine; decide))
  refine wpAny_bind (m := callSpecial? (.int a t) (Str.ofString "__format__") [.str "b" s.toks]) (wpAny_callSpecial?_slot (name := Str.ofString "__format__") (typeIs_int _ a t) F.slot_int_format ?_)
  refine wpAny_call (codeAny_call_builtin F.slot_int_format.plain F.entry_int_format (F.slot_int_format.check _ _ _ _ _ _ _ _ (typeIs_int _ a t) (F.args_int_format_2 _ _) ?_))
  unfold Builtin.«int.__format__»
  simp only [selfAndOne, noKeywords, Int.intOfSelf, asInt?, asStr?, List.isEmpty_nil, if_true, pure_bind, bind_pure, bind_assoc, Bool.false_eq_true, if_false,
    show (Value.str "b" s.toks == Value.none) = false from rfl, show ((Str.ofString "b").length == 0) = false from rfl]
  refine wpAny_bind (wpAny_typeNameOf (T := "str") (typeIs_str _ _ _) (by decide) fun _ => ?_)
  rw [if_neg (by decide)]
  refine wpAny_bind (wpAny_typeNameOfCut_int ?_)
  simp only [parse_b]
  rw [if_pos (by decide)]
  show wpAny _ _ (retStr _) _ _ _
  refine ret_text2 (T := binT a) ?_ ?_ fun t' k => ?_
  · have e : ∀ D : List Nat, D ≠ [] → PyProof.Rows.intField' { align := 62, type := some 98 } false [] D [] 4 = ⟨D.toArray⟩ := fun D hD => by
      unfold PyProof.Rows.intField'
      have h1 : D.isEmpty = false := by cases D with
        | nil => exact absurd rfl hD
        | cons => rfl
      simp [h1]
    have hne : binC a ≠ [] := fun z => by
      have := PyProof.Rows.tDigits_len_ge 2 a
      have z2 := congrArg List.length z
      unfold binC at z2
      rw [List.length_map] at z2
      have z2 : (Nat.toDigits 2 a).length = 0 := z2
      omega
    have hneg : decide ((a : Int) < 0) = false := decide_eq_false (by omega)
    rw [hneg]
    exact e (binC a) hne
  · exact hlen
  · exact wpAny_bind (wpAny_isInstance (typeIs_str _ _ _) isSubtype_str_str (wpAny_pure (h _ _)))
end
section
variable {X : Cx}
def tFmtB (te : TE) : TE := fun σ H Q => te σ H fun x H1 => ∃ i : Nat, x = .int (i : Nat) ∧ (binT i).length ≤ sizeLine ∧ Q (.str (binT i)) H1
theorem pe_fmtB {e spec : Expr} {te : TE} {pos : Pos} (hs : PE X spec (tC (.str "b"))) (he : PE X e te) : PE X (.FormattedValue e (-1) (some spec) pos) (tFmtB te) := by
  refine ⟨fun pins s σ H Q I h => ?_⟩
  refine wpAny_FormattedValue_spec (thn (he.run pins s σ H _ I h) fun v s1 hv => ?_)
  obtain ⟨x, H1, I1, r1, i, rfl, hz, q⟩ := hv
  obtain ⟨t, rfl⟩ := r1
  refine thn (hs.run pins s1 σ H1 (fun x H2 => x = .str "b" ∧ Q (.str (binT i)) H2) I1 ⟨rfl, q⟩) fun r s2 hv2 => ?_
  obtain ⟨x2, H2, I2, r2, rfl, q2⟩ := hv2
  obtain ⟨t2, rfl⟩ := r2
  exact ⟨_, _, rfl, field_b hz fun t' k => ⟨.str (binT i), H2, I2.tok _, ⟨_, rfl⟩, q2⟩⟩
end
end Aw

namespace Aw
open PySem PySem.Spec PyProof.Rows L2 NdefX
/-! ### pieces: ends and masks -/
abbrev Pcs := List (Int × Nat)
/-- the mask of the piece in which j is -/
def maskAt : Pcs → Int → Nat
  | [], _ => 0
  | (e, m) :: r, j => if j < e then m else maskAt r j
def markF (P : Pcs) (w : Nat) (j : Int) : Bool := (maskAt P j).testBit (j % (w : Int)).toNat
theorem maskAt_app {P Q : Pcs} {j : Int} : maskAt (P ++ Q) j = if ∃ x ∈ P, j < x.1 then maskAt P j else maskAt Q j := by
  induction P with
  | nil => rw [List.nil_append, if_neg (by simp)]
  | cons x P ih =>
    obtain ⟨e, m⟩ := x
    show (if j < e then m else maskAt (P ++ Q) j) = _
    by_cases h : j < e
    · rw [if_pos h, if_pos ⟨(e, m), List.mem_cons_self, h⟩]
      show m = if j < e then m else maskAt P j
      rw [if_pos h]
    · rw [if_neg h, ih]
      by_cases h2 : ∃ x ∈ P, j < x.1
      · obtain ⟨x, hx, hj⟩ := h2
        rw [if_pos ⟨x, hx, hj⟩, if_pos ⟨x, List.mem_cons_of_mem _ hx, hj⟩]
        show _ = if j < e then m else maskAt P j
        rw [if_neg h]
      · rw [if_neg h2, if_neg]
        rintro ⟨x, hx, hj⟩
        rcases List.mem_cons.mp hx with rfl | hx
        · exact h hj
        · exact h2 ⟨x, hx, hj⟩
/-- strictly ascending ends, the last one is s -/
def Asc : Int → Pcs → Int → Prop
  | a, [], s => a = s
  | a, (e, _) :: r, s => a < e ∧ Asc e r s
theorem Asc.le : ∀ {a s : Int} {P : Pcs}, Asc a P s → a ≤ s
  | _, _, [], h => Int.le_of_eq h
  | _, _, (_, _) :: _, h => Int.le_trans (Int.le_of_lt h.1) h.2.le
theorem Asc.mem_le : ∀ {a s : Int} {P : Pcs}, Asc a P s → ∀ x ∈ P, a < x.1 ∧ x.1 ≤ s
  | _, _, [], _ => fun _ h => absurd h List.not_mem_nil
  | a, s, (e, m) :: r, h => fun x hx => by
    rcases List.mem_cons.mp hx with rfl | hx
    · exact ⟨h.1, h.2.le⟩
    · obtain ⟨h1, h2⟩ := h.2.mem_le x hx
      exact ⟨Int.lt_trans h.1 h1, h2⟩
theorem Asc.app : ∀ {a b s : Int} {P Q : Pcs}, Asc a P b → Asc b Q s → Asc a (P ++ Q) s
  | _, _, _, [], _, h, k => by cases (show _ = _ from h); exact k
  | _, _, _, (_, _) :: _, _, h, k => ⟨h.1, h.2.app k⟩
theorem Asc.cover : ∀ {a s : Int} {P : Pcs}, Asc a P s → ∀ j, a ≤ j → j < s → ∃ x ∈ P, j < x.1
  | a, s, [], h, j, h0, h1 => by have : a = s := h; omega
  | a, s, (e, m) :: r, h, j, h0, h1 => by
    by_cases z : j < e
    · exact ⟨(e, m), List.mem_cons_self, z⟩
    · obtain ⟨x, hx, hj⟩ := h.2.cover j (by omega) h1
      exact ⟨x, List.mem_cons_of_mem _ hx, hj⟩
theorem Asc.snoc {a b s : Int} {P : Pcs} {m : Nat} (h : Asc a P b) (h2 : b < s) : Asc a (P ++ [(s, m)]) s := h.app ⟨h2, rfl⟩
theorem Asc.drop_last : ∀ {a s : Int} {P : Pcs} {x : Int × Nat}, Asc a (P ++ [x]) s → ∃ b, Asc a P b ∧ b < s ∧ x.1 = s
  | a, s, [], (e, m), h => by
    have h : a < e ∧ e = s := h
    exact ⟨a, rfl, by omega, h.2⟩
  | a, s, (e, m) :: P, x, h => by
    obtain ⟨b, h1, h2, h3⟩ := Asc.drop_last (P := P) h.2
    exact ⟨b, ⟨h.1, h1⟩, h2, h3⟩
/-! #### tidied -/
/-- what is found so far, with the piece (e, m) behind it -/
def tidyS (F : Pcs) (x : Int × Nat) : Pcs := (match F.getLast? with
  | some l => if l.2 = x.2 then F.dropLast else F
  | none => F) ++ [x]
/-- one turn: found, start -/
def tidyT (st : Pcs × Int) (x : Int × Nat) : Pcs × Int := if st.2 < x.1 then (tidyS st.1 x, x.1) else st
def tidyF (P : Pcs) : Pcs := (P.foldl tidyT ([], 0)).1
structure TidyI (P : Pcs) (st : Pcs × Int) : Prop where
  asc : Asc 0 st.1 st.2
  ends : ∀ x ∈ P, x.1 ≤ st.2
  same : ∀ j, 0 ≤ j → j < st.2 → maskAt st.1 j = maskAt P j
  has : ∀ j, 0 ≤ j → j < st.2 → ∃ x ∈ P, j < x.1
  masks : ∀ y ∈ st.1, ∃ x ∈ P, x.2 = y.2
  len : st.1.length ≤ P.length
theorem tidyS_asc {F : Pcs} {b s : Int} {m : Nat} (h : Asc 0 F b) (h2 : b < s) : Asc 0 (tidyS F (s, m)) s := by
  unfold tidyS
  split
  · rename_i l hl
    split
    · have e : F = F.dropLast ++ [l] := by
        obtain ⟨ys, e⟩ := List.getLast?_eq_some_iff.mp hl
        rw [e, List.dropLast_concat]
      rw [e] at h
      obtain ⟨c, h3, h4, _⟩ := h.drop_last
      exact h3.snoc (by omega)
    · exact h.snoc h2
  · exact h.snoc h2
theorem tidyS_at {F : Pcs} {b s : Int} {m : Nat} (h : Asc 0 F b) (h2 : b < s) {j : Int} (j0 : 0 ≤ j) : maskAt (tidyS F (s, m)) j = if j < b then maskAt F j else if j < s then m else 0 := by
  have last : ∀ G : Pcs, ∀ c, Asc 0 G c → c ≤ s → maskAt (G ++ [(s, m)]) j = if j < c then maskAt G j else if j < s then m else 0 := fun G c hG hc => by
    rw [maskAt_app]
    by_cases z : j < c
    · rw [if_pos z, if_pos (hG.cover j j0 z)]
    · rw [if_neg z, if_neg]
      · rfl
      · rintro ⟨x, hx, hj⟩
        have := (hG.mem_le x hx).2
        omega
  unfold tidyS
  split
  · rename_i l hl
    split
    · rename_i hlm
      have e : F = F.dropLast ++ [l] := by
        obtain ⟨ys, e⟩ := List.getLast?_eq_some_iff.mp hl
        rw [e, List.dropLast_concat]
      rw [e] at h
      obtain ⟨c, h3, h4, h5⟩ := h.drop_last
      rw [last _ c h3 (by omega)]
      have eF : maskAt F j = if j < c then maskAt F.dropLast j else if j < b then l.2 else 0 := by
        conv => lhs; rw [e]
        rw [maskAt_app]
        by_cases z : j < c
        · rw [if_pos z, if_pos (h3.cover j j0 z)]
        · rw [if_neg z, if_neg]
          · show (if j < l.1 then l.2 else 0) = _
            rw [h5]
          · rintro ⟨x, hx, hj⟩
            have := (h3.mem_le x hx).2
            omega
      rw [eF]
      by_cases z : j < c
      · rw [if_pos z, if_pos (show j < b by omega), if_pos z]
      · rw [if_neg z]
        by_cases z2 : j < b
        · rw [if_pos z2, if_neg z, if_pos z2, if_pos (show j < s by omega), hlm]
        · rw [if_neg z2]
    · exact last F b h (by omega)
  · exact last F b h (by omega)
theorem tidyS_masks {F : Pcs} {x : Int × Nat} : ∀ y ∈ tidyS F x, y ∈ F ∨ y = x := fun y hy => by
  unfold tidyS at hy
  rcases List.mem_append.mp hy with h | h
  · split at h
    · split at h
      · exact .inl (List.dropLast_subset _ h)
      · exact .inl h
    · exact .inl h
  · exact .inr (List.mem_singleton.mp h)
theorem tidyS_len {F : Pcs} {x : Int × Nat} : (tidyS F x).length ≤ F.length + 1 := by
  unfold tidyS
  rw [List.length_append]
  have : (match F.getLast? with | some l => if l.2 = x.2 then F.dropLast else F | none => F).length ≤ F.length := by
    split
    · split
      · rw [List.length_dropLast]; omega
      · exact Nat.le_refl _
    · exact Nat.le_refl _
  exact Nat.add_le_add_right this 1
theorem TidyI.next {P : Pcs} {st : Pcs × Int} {x : Int × Nat} (h : TidyI P st) : TidyI (P ++ [x]) (tidyT st x) := by
  obtain ⟨F, b⟩ := st
  obtain ⟨e, m⟩ := x
  have b0 : 0 ≤ b := h.asc.le
  unfold tidyT
  dsimp only
  by_cases z : b < e
  · rw [if_pos z]
    refine ⟨tidyS_asc h.asc z, fun x hx => ?_, fun j j0 j1 => ?_, fun j j0 j1 => ⟨(e, m), List.mem_append_right _ (List.mem_singleton.mpr rfl), j1⟩, fun y hy => ?_, ?_⟩
    · rcases List.mem_append.mp hx with hx | hx
      · have := h.ends x hx
        have : x.1 ≤ b := this
        show x.1 ≤ e
        omega
      · rw [List.mem_singleton.mp hx]
        exact Int.le_refl _
    · have j1 : j < e := j1
      rw [tidyS_at h.asc z j0, maskAt_app]
      by_cases q : j < b
      · rw [if_pos q, if_pos (h.has j j0 q)]
        exact h.same j j0 q
      · rw [if_neg q, if_pos j1, if_neg]
        · show m = if j < e then m else 0
          rw [if_pos j1]
        · rintro ⟨x, hx, hj⟩
          have : x.1 ≤ b := h.ends x hx
          omega
    · rcases tidyS_masks y hy with hy | rfl
      · obtain ⟨x, hx, e⟩ := h.masks y hy
        exact ⟨x, List.mem_append_left _ hx, e⟩
      · exact ⟨(e, m), List.mem_append_right _ (List.mem_singleton.mpr rfl), rfl⟩
    · have h1 := tidyS_len (F := F) (x := (e, m))
      have h2 : F.length ≤ P.length := h.len
      rw [List.length_append]
      show (tidyS F (e, m)).length ≤ P.length + 1
      omega
  · rw [if_neg z]
    refine ⟨h.asc, fun x hx => ?_, fun j j0 j1 => ?_, fun j j0 j1 => ?_, fun y hy => ?_, ?_⟩
    · rcases List.mem_append.mp hx with hx | hx
      · exact h.ends x hx
      · rw [List.mem_singleton.mp hx]
        show e ≤ b
        omega
    · rw [maskAt_app, if_pos (h.has j j0 j1)]
      exact h.same j j0 j1
    · obtain ⟨x, hx, hj⟩ := h.has j j0 j1
      exact ⟨x, List.mem_append_left _ hx, hj⟩
    · obtain ⟨x, hx, e⟩ := h.masks y hy
      exact ⟨x, List.mem_append_left _ hx, e⟩
    · have h2 : F.length ≤ P.length := h.len
      rw [List.length_append]
      show F.length ≤ P.length + 1
      omega
theorem tidyI (P : Pcs) : TidyI P (P.foldl tidyT ([], 0)) := by
  have go : ∀ (Q P : Pcs) (st : Pcs × Int), TidyI P st → TidyI (P ++ Q) (Q.foldl tidyT st) := by
    intro Q
    induction Q with
    | nil => intro P st h; rw [List.append_nil]; exact h
    | cons x Q ih =>
      intro P st h
      have := ih (P ++ [x]) (tidyT st x) h.next
      rw [List.append_assoc] at this
      exact this
  exact go P [] ([], 0) ⟨rfl, fun _ h => absurd h List.not_mem_nil, fun j h0 h1 => absurd h1 (by show ¬ j < 0; omega), fun j h0 h1 => absurd h1 (by show ¬ j < 0; omega), fun _ h => absurd h List.not_mem_nil, Nat.le_refl _⟩
/-- pieces of a size: ascending, up to the size -/
structure GoodP (P : Pcs) (s : Int) : Prop where
  asc : Asc 0 P s
theorem tidy_good {P : Pcs} {s : Int} (h1 : ∀ x ∈ P, x.1 ≤ s) (h2 : ∃ x ∈ P, x.1 = s) (s0 : 0 < s) : Asc 0 (tidyF P) s ∧ ∀ j, 0 ≤ j → j < s → maskAt (tidyF P) j = maskAt P j := by
  have t := tidyI P
  have e : (P.foldl tidyT ([], 0)).2 = s := by
    obtain ⟨x, hx, e⟩ := h2
    have a : s ≤ (P.foldl tidyT ([], 0)).2 := by rw [← e]; exact t.ends x hx
    by_cases z : (P.foldl tidyT ([], 0)).2 = s
    · exact z
    · obtain ⟨y, hy, q⟩ := t.has s (by omega) (by omega)
      have := h1 y hy
      omega
  have ta := t.asc
  have ts := t.same
  rw [e] at ta ts
  exact ⟨ta, ts⟩
/-! #### merged -/
abbrev Trip := List (Int × Nat × Nat)
/-- the rows of other ahead of e, and those behind -/
def mergeF : Pcs → Pcs → Trip
  | [], _ => []
  | (e, m) :: r, o => ((o.takeWhile fun x => decide (x.1 < e)).map fun x => (x.1, m, x.2)) ++ (e, m, ((o.dropWhile fun x => decide (x.1 < e)).headD (0, 0)).2) :: mergeF r (o.dropWhile fun x => decide (x.1 < e))
def tripAt : Trip → Int → Nat × Nat
  | [], _ => (0, 0)
  | (e, m, n) :: r, j => if j < e then (m, n) else tripAt r j
/-- ends that do not descend, up to s at the end -/
def Ups : Pcs → Int → Prop
  | [], _ => False
  | [(e, _)], s => e = s
  | (e, _) :: (f, n) :: r, s => e ≤ f ∧ Ups ((f, n) :: r) s
theorem Ups.le : ∀ {P : Pcs} {s : Int}, Ups P s → ∀ x ∈ P, x.1 ≤ s
  | [], _, h => h.elim
  | [(e, m)], s, h => fun x hx => by rw [List.mem_singleton.mp hx]; exact Int.le_of_eq h
  | (e, m) :: (f, n) :: r, s, h => fun x hx => by
    have ih := Ups.le (P := (f, n) :: r) h.2
    rcases List.mem_cons.mp hx with rfl | hx
    · exact Int.le_trans h.1 (ih (f, n) List.mem_cons_self)
    · exact ih x hx
theorem Ups.of_asc : ∀ {P : Pcs} {a s : Int}, Asc a P s → P ≠ [] → Ups P s
  | [], _, _, _, h => absurd rfl h
  | [(e, m)], a, s, h, _ => h.2
  | (e, m) :: (f, n) :: r, a, s, h, _ => ⟨Int.le_of_lt h.2.1, Ups.of_asc (P := (f, n) :: r) h.2 (by simp)⟩
/-- what is left of other at e -/
theorem Ups.drop : ∀ {P : Pcs} {s e : Int}, Ups P s → e ≤ s → Ups (P.dropWhile fun x => decide (x.1 < e)) s ∧ ∀ x ∈ P.dropWhile (fun x => decide (x.1 < e)), e ≤ x.1
  | [], _, _, h, _ => h.elim
  | [(f, m)], s, e, h, he => by
    have h : f = s := h
    have z : decide (f < e) = false := decide_eq_false (by omega)
    rw [List.dropWhile_cons, z]
    exact ⟨h, fun x hx => by rw [List.mem_singleton.mp hx]; show e ≤ f; omega⟩
  | (f, m) :: (g, n) :: r, s, e, h, he => by
    rw [List.dropWhile_cons]
    by_cases z : f < e
    · rw [decide_eq_true z]
      exact Ups.drop (P := (g, n) :: r) h.2 he
    · rw [decide_eq_false z]
      refine ⟨h, ?_⟩
      have up : ∀ (Q : Pcs) (c : Int), Ups Q s → (∀ q, Q.head? = some q → c ≤ q.1) → ∀ x ∈ Q, c ≤ x.1 := by
        intro Q
        induction Q with
        | nil => intro c hq; exact hq.elim
        | cons q Q ih =>
          intro c hq hc x hx
          have c1 : c ≤ q.1 := hc q rfl
          rcases List.mem_cons.mp hx with rfl | hx
          · exact c1
          · cases Q with
            | nil => exact absurd hx List.not_mem_nil
            | cons q2 Q2 =>
              have hq : q.1 ≤ q2.1 ∧ Ups (q2 :: Q2) s := hq
              exact ih c hq.2 (fun y hy => by cases hy; exact Int.le_trans c1 hq.1) x hx
      exact up _ e h fun q hq => by cases hq; show e ≤ f; omega
theorem tripAt_app {S T : Trip} {j : Int} : tripAt (S ++ T) j = if ∃ x ∈ S, j < x.1 then tripAt S j else tripAt T j := by
  induction S with
  | nil => rw [List.nil_append, if_neg (by simp)]
  | cons x S ih =>
    obtain ⟨e, m, n⟩ := x
    show (if j < e then (m, n) else tripAt (S ++ T) j) = _
    by_cases h : j < e
    · rw [if_pos h, if_pos ⟨(e, m, n), List.mem_cons_self, h⟩]
      show (m, n) = if j < e then (m, n) else tripAt S j
      rw [if_pos h]
    · rw [if_neg h, ih]
      by_cases h2 : ∃ x ∈ S, j < x.1
      · obtain ⟨x, hx, hj⟩ := h2
        rw [if_pos ⟨x, hx, hj⟩, if_pos ⟨x, List.mem_cons_of_mem _ hx, hj⟩]
        show _ = if j < e then (m, n) else tripAt S j
        rw [if_neg h]
      · rw [if_neg h2, if_neg]
        rintro ⟨x, hx, hj⟩
        rcases List.mem_cons.mp hx with rfl | hx
        · exact h hj
        · exact h2 ⟨x, hx, hj⟩
theorem tripAt_map {o : Pcs} {m : Nat} {j : Int} (h : ∃ x ∈ o, j < x.1) : tripAt (o.map fun x => (x.1, m, x.2)) j = (m, maskAt o j) := by
  induction o with
  | nil => obtain ⟨x, hx, _⟩ := h; exact absurd hx List.not_mem_nil
  | cons x o ih =>
    obtain ⟨e, n⟩ := x
    show (if j < e then (m, n) else tripAt (o.map fun x => (x.1, m, x.2)) j) = (m, if j < e then n else maskAt o j)
    by_cases z : j < e
    · rw [if_pos z, if_pos z]
    · rw [if_neg z, if_neg z]
      refine ih ?_
      obtain ⟨x, hx, hj⟩ := h
      rcases List.mem_cons.mp hx with rfl | hx
      · exact absurd hj z
      · exact ⟨x, hx, hj⟩
/-- both masks of a place stand in the row of it -/
theorem merge_at : ∀ {P o : Pcs} {a s : Int}, Asc a P s → (P = [] ∨ Ups o s) → ∀ j, a ≤ j → j < s → (∀ x ∈ o, a ≤ x.1) → tripAt (mergeF P o) j = (maskAt P j, maskAt o j)
  | [], o, a, s, h, _, j, h0, h1, _ => by have : a = s := h; omega
  | (e, m) :: r, o, a, s, h, ho, j, h0, h1, ha => by
    have up : Ups o s := ho.resolve_left (by simp)
    have es : e ≤ s := h.2.le
    obtain ⟨d1, d2⟩ := up.drop es
    have split : o = (o.takeWhile fun x => decide (x.1 < e)) ++ o.dropWhile fun x => decide (x.1 < e) := (List.takeWhile_append_dropWhile).symm
    have tk : ∀ x ∈ o.takeWhile (fun x => decide (x.1 < e)), x.1 < e := fun x hx => of_decide_eq_true (List.all_eq_true.mp (List.all_takeWhile (p := fun x : Int × Nat => decide (x.1 < e))) x hx)
    show tripAt (((o.takeWhile fun x => decide (x.1 < e)).map fun x => (x.1, m, x.2)) ++ (e, m, ((o.dropWhile fun x => decide (x.1 < e)).headD (0, 0)).2) :: mergeF r (o.dropWhile fun x => decide (x.1 < e))) j = (if j < e then m else maskAt r j, maskAt o j)
    have om : maskAt o j = if ∃ x ∈ o.takeWhile (fun x : Int × Nat => decide (x.1 < e)), j < x.1 then maskAt (o.takeWhile fun x => decide (x.1 < e)) j else maskAt (o.dropWhile fun x => decide (x.1 < e)) j := by
      conv => lhs; rw [split]
      exact maskAt_app
    rw [tripAt_app, om]
    by_cases q : ∃ x ∈ o.takeWhile (fun x => decide (x.1 < e)), j < x.1
    · have q2 : ∃ x ∈ ((o.takeWhile fun x => decide (x.1 < e)).map fun x => (x.1, m, x.2)), j < x.1 := by
        obtain ⟨x, hx, hj⟩ := q
        exact ⟨_, List.mem_map.mpr ⟨x, hx, rfl⟩, hj⟩
      rw [if_pos q2, if_pos q, tripAt_map q]
      obtain ⟨x, hx, hj⟩ := q
      have := tk x hx
      rw [if_pos (show j < e by omega)]
    · have q2 : ¬ ∃ x ∈ ((o.takeWhile fun x => decide (x.1 < e)).map fun x => (x.1, m, x.2)), j < x.1 := by
        rintro ⟨y, hy, hj⟩
        obtain ⟨x, hx, rfl⟩ := List.mem_map.mp hy
        exact q ⟨x, hx, hj⟩
      rw [if_neg q2, if_neg q]
      show (if j < e then (m, ((o.dropWhile fun x => decide (x.1 < e)).headD (0, 0)).2) else tripAt (mergeF r (o.dropWhile fun x => decide (x.1 < e))) j) = _
      by_cases z : j < e
      · rw [if_pos z, if_pos z]
        cases hd : o.dropWhile fun x => decide (x.1 < e) with
        | nil => rw [hd] at d1; exact d1.elim
        | cons x y =>
          have : e ≤ x.1 := d2 x (by rw [hd]; exact List.mem_cons_self)
          show (m, x.2) = (m, if j < x.1 then x.2 else maskAt y j)
          rw [if_pos (show j < x.1 by omega)]
      · rw [if_neg z, if_neg z]
        exact merge_at h.2 (.inr d1) j (by omega) h1 d2
theorem merge_ends : ∀ {P o : Pcs} {s : Int}, (∀ x ∈ P, x.1 ≤ s) → (∀ x ∈ o, x.1 ≤ s) → ∀ y ∈ mergeF P o, y.1 ≤ s
  | [], _, _, _, _ => fun y hy => absurd hy List.not_mem_nil
  | (e, m) :: r, o, s, h, ho => fun y hy => by
    rcases List.mem_append.mp hy with hy | hy
    · obtain ⟨x, hx, rfl⟩ := List.mem_map.mp hy
      exact ho x (List.takeWhile_subset _ hx)
    · rcases List.mem_cons.mp hy with rfl | hy
      · exact h (e, m) List.mem_cons_self
      · exact merge_ends (fun x hx => h x (List.mem_cons_of_mem _ hx)) (fun x hx => ho x (List.dropWhile_subset _ hx)) y hy
theorem merge_last : ∀ {P o : Pcs} {x : Int × Nat}, x ∈ P → ∃ y ∈ mergeF P o, y.1 = x.1
  | [], _, _, h => absurd h List.not_mem_nil
  | (e, m) :: r, o, x, h => by
    rcases List.mem_cons.mp h with rfl | h
    · exact ⟨_, List.mem_append_right _ List.mem_cons_self, rfl⟩
    · obtain ⟨y, hy, e2⟩ := merge_last (o := o.dropWhile fun x => decide (x.1 < e)) h
      exact ⟨y, List.mem_append_right _ (List.mem_cons_of_mem _ hy), e2⟩
theorem merge_len : ∀ {P o : Pcs}, (mergeF P o).length ≤ P.length + o.length
  | [], _ => Nat.zero_le _
  | (e, m) :: r, o => by
    have ih := merge_len (P := r) (o := o.dropWhile fun x => decide (x.1 < e))
    have sp : o.length = (o.takeWhile fun x => decide (x.1 < e)).length + (o.dropWhile fun x => decide (x.1 < e)).length := by
      rw [← List.length_append, List.takeWhile_append_dropWhile]
    show (((o.takeWhile fun x => decide (x.1 < e)).map fun x => (x.1, m, x.2)) ++ (e, m, ((o.dropWhile fun x => decide (x.1 < e)).headD (0, 0)).2) :: mergeF r (o.dropWhile fun x => decide (x.1 < e))).length ≤ _
    rw [List.length_append, List.length_map, List.length_cons, List.length_cons]
    omega
end Aw

namespace Aw
open PySem PySem.Spec PyProof.Rows L2 NdefX
/-! ### masks of classes, runs, pieces of runs -/
/-- the sum of the powers at a, a + c, .. (n of them) -/
def clsS (a c : Nat) : Nat → Nat
  | 0 => 0
  | n + 1 => clsS a c n + 2 ^ (a + n * c)
/-- how many places a, a + c, .. are below 12 -/
def clsN (a c : Nat) : Nat := (12 - a + c - 1) / c
def clsM (a c : Nat) : Nat := clsS a c (clsN a c)
theorem cls_all : ∀ c, c < 5 → ∀ a, a < c → clsM a c < 2 ^ 12 ∧ ∀ i, i < 12 → (clsM a c).testBit i = decide (i % c = a) := by decide +kernel
/-- j is in the run -/
def inRun (r : Int × Int × Int) (j : Int) : Bool := decide (r.1 ≤ j) && (decide (j ≤ r.2.1) && decide ((j - r.1) % r.2.2 = 0))
/-- a run of a size -/
structure RunOk (r : Int × Int × Int) (s : Int) : Prop where
  f0 : 0 ≤ r.1
  fl : r.1 ≤ r.2.1
  ls : r.2.1 < s
  c1 : 1 ≤ r.2.2
  c4 : r.2.2 ≤ 4
def runM (r : Int × Int × Int) : Nat := clsM (r.1 % r.2.2).toNat r.2.2.toNat
/-- the pieces of one run -/
def runP (s : Int) (r : Int × Int × Int) : Pcs := [(r.1, 0), (r.2.1 + 1, runM r), (s, 0)]
theorem runM_lt {r : Int × Int × Int} {s : Int} (h : RunOk r s) : runM r < 2 ^ 12 := by
  obtain ⟨f, l, c⟩ := r
  obtain ⟨h0, h1, h2, h3, h4⟩ := h
  dsimp only at h0 h1 h2 h3 h4
  have a1 := Int.emod_nonneg f (show c ≠ 0 by omega)
  have a2 := Int.emod_lt_of_pos f (show 0 < c by omega)
  exact (cls_all c.toNat (by omega) (f % c).toNat (by omega)).1
theorem run_mark {r : Int × Int × Int} {s : Int} (h : RunOk r s) {j : Int} (j0 : 0 ≤ j) (j1 : j < s) : markF (runP s r) 12 j = inRun r j := by
  have rm := h
  obtain ⟨f, l, c⟩ := r
  obtain ⟨h0, h1, h2, h3, h4⟩ := h
  dsimp only at h0 h1 h2 h3 h4
  have a1 := Int.emod_nonneg f (show c ≠ 0 by omega)
  have a2 := Int.emod_lt_of_pos f (show 0 < c by omega)
  show Nat.testBit (if j < f then 0 else if j < l + 1 then runM (f, l, c) else if j < s then 0 else 0) (j % (12 : Nat)).toNat = (decide (f ≤ j) && (decide (j ≤ l) && decide ((j - f) % c = 0)))
  by_cases z1 : j < f
  · rw [if_pos z1, Nat.zero_testBit, decide_eq_false (show ¬ f ≤ j by omega)]
    rfl
  · rw [if_neg z1, decide_eq_true (show f ≤ j by omega), Bool.true_and]
    by_cases z2 : j < l + 1
    · rw [if_pos z2, decide_eq_true (show j ≤ l by omega), Bool.true_and]
      have b := (cls_all c.toNat (by omega) (f % c).toNat (by omega)).2 (j % (12 : Nat)).toNat (by omega)
      rw [show runM (f, l, c) = clsM (f % c).toNat c.toNat from rfl, b]
      have hc : c = 1 ∨ c = 2 ∨ c = 3 ∨ c = 4 := by omega
      rw [decide_eq_decide]
      rcases hc with rfl | rfl | rfl | rfl
      · show ((j % (12 : Nat)).toNat % 1 = (f % 1).toNat) ↔ _
        omega
      · show ((j % (12 : Nat)).toNat % 2 = (f % 2).toNat) ↔ _
        omega
      · show ((j % (12 : Nat)).toNat % 3 = (f % 3).toNat) ↔ _
        omega
      · show ((j % (12 : Nat)).toNat % 4 = (f % 4).toNat) ↔ _
        omega
    · rw [if_neg z2, decide_eq_false (show ¬ j ≤ l by omega), Bool.false_and]
      split <;> exact Nat.zero_testBit _
/-- two rows of pieces put together by a rule for the masks -/
def joinF (g : Nat → Nat → Nat) (P Q : Pcs) : Pcs := (mergeF P Q).map fun x => (x.1, g x.2.1 x.2.2)
def addF (P Q : Pcs) : Pcs := tidyF (joinF (· ^^^ ·) P Q)
theorem joinF_at {g : Nat → Nat → Nat} : ∀ {T : Trip} {j : Int}, (∃ x ∈ T, j < x.1) → maskAt (T.map fun x => (x.1, g x.2.1 x.2.2)) j = g (tripAt T j).1 (tripAt T j).2
  | [], _, h => by obtain ⟨x, hx, _⟩ := h; exact absurd hx List.not_mem_nil
  | (e, m, n) :: T, j, h => by
    show (if j < e then g m n else maskAt (T.map fun x => (x.1, g x.2.1 x.2.2)) j) = g (if j < e then (m, n) else tripAt T j).1 (if j < e then (m, n) else tripAt T j).2
    by_cases z : j < e
    · rw [if_pos z, if_pos z]
    · rw [if_neg z, if_neg z]
      refine joinF_at ?_
      obtain ⟨x, hx, hj⟩ := h
      rcases List.mem_cons.mp hx with rfl | hx
      · exact absurd hj z
      · exact ⟨x, hx, hj⟩
theorem last_mem : ∀ {P : Pcs} {a s : Int}, Asc a P s → a < s → ∃ x ∈ P, x.1 = s
  | [], _, _, h, l => by have h : _ = _ := h; omega
  | [(e, m)], a, s, h, _ => ⟨(e, m), List.mem_cons_self, h.2⟩
  | (e, m) :: (f, n) :: r, a, s, h, _ => by
    obtain ⟨x, hx, e2⟩ := last_mem (P := (f, n) :: r) h.2 (Int.lt_of_lt_of_le h.2.1 h.2.2.le)
    exact ⟨x, List.mem_cons_of_mem _ hx, e2⟩
/-- what two rows put together are -/
structure JoinI (g : Nat → Nat → Nat) (P Q : Pcs) (s : Int) : Prop where
  ends : ∀ x ∈ joinF g P Q, x.1 ≤ s
  last : ∃ x ∈ joinF g P Q, x.1 = s
  at_ : ∀ j, 0 ≤ j → j < s → maskAt (joinF g P Q) j = g (maskAt P j) (maskAt Q j)
  len : (joinF g P Q).length ≤ P.length + Q.length
theorem joinI {g : Nat → Nat → Nat} {P Q : Pcs} {s : Int} (hP : Asc 0 P s) (hQ : Ups Q s) (q0 : ∀ x ∈ Q, 0 ≤ x.1) (s0 : 0 < s) : JoinI g P Q s := by
  have ends : ∀ y ∈ mergeF P Q, y.1 ≤ s := merge_ends (fun x hx => (hP.mem_le x hx).2) hQ.le
  obtain ⟨x, hx, ex⟩ := last_mem hP s0
  obtain ⟨y, hy, ey⟩ := merge_last (o := Q) hx
  refine ⟨fun z hz => ?_, ⟨_, List.mem_map.mpr ⟨y, hy, rfl⟩, ey.trans ex⟩, fun j j0 j1 => ?_, ?_⟩
  · obtain ⟨t, ht, rfl⟩ := List.mem_map.mp hz
    exact ends t ht
  · unfold joinF
    rw [joinF_at ⟨y, hy, by rw [ey, ex]; exact j1⟩, merge_at hP (.inr hQ) j j0 j1 q0]
  · unfold joinF
    rw [List.length_map]
    exact merge_len
theorem tidy_len {P : Pcs} : (tidyF P).length ≤ P.length := (tidyI P).len
theorem tidy_masks {P : Pcs} {b : Nat} (h : ∀ x ∈ P, x.2 < b) : ∀ y ∈ tidyF P, y.2 < b := fun y hy => by
  obtain ⟨x, hx, e⟩ := (tidyI P).masks y hy
  rw [← e]
  exact h x hx
theorem merge_masks {p : Nat → Prop} (p0 : p 0) : ∀ {P o : Pcs}, (∀ x ∈ P, p x.2) → (∀ x ∈ o, p x.2) → ∀ y ∈ mergeF P o, p y.2.1 ∧ p y.2.2
  | [], _, _, _ => fun y hy => absurd hy List.not_mem_nil
  | (e, m) :: r, o, h, ho => fun y hy => by
    have hm := h (e, m) List.mem_cons_self
    rcases List.mem_append.mp hy with hy | hy
    · obtain ⟨x, hx, rfl⟩ := List.mem_map.mp hy
      exact ⟨hm, ho x (List.takeWhile_subset _ hx)⟩
    · have hd : ∀ x ∈ o.dropWhile (fun x => decide (x.1 < e)), p x.2 := fun x hx => ho x (List.dropWhile_subset _ hx)
      rcases List.mem_cons.mp hy with rfl | hy
      · refine ⟨hm, ?_⟩
        show p ((o.dropWhile fun x => decide (x.1 < e)).headD (0, 0)).2
        cases hc : o.dropWhile fun x => decide (x.1 < e) with
        | nil => exact p0
        | cons x y => exact hd x (by rw [hc]; exact List.mem_cons_self)
      · exact merge_masks p0 (fun x hx => h x (List.mem_cons_of_mem _ hx)) hd y hy
/-- pieces of a size and a width -/
structure PcsOk (P : Pcs) (w : Nat) (s : Int) : Prop where
  asc : Asc 0 P s
  masks : ∀ x ∈ P, x.2 < 2 ^ w
theorem add_ok {P Q : Pcs} {w : Nat} {s : Int} (hP : PcsOk P w s) (hQ : Ups Q s) (q0 : ∀ x ∈ Q, 0 ≤ x.1) (qm : ∀ x ∈ Q, x.2 < 2 ^ w) (s0 : 0 < s) :
    PcsOk (addF P Q) w s ∧ (∀ j, 0 ≤ j → j < s → markF (addF P Q) w j = (markF P w j ^^ markF Q w j)) ∧ (addF P Q).length ≤ P.length + Q.length := by
  have J := joinI (g := (· ^^^ ·)) hP.asc hQ q0 s0
  obtain ⟨t1, t2⟩ := tidy_good J.ends J.last s0
  refine ⟨⟨t1, tidy_masks fun x hx => ?_⟩, fun j j0 j1 => ?_, Nat.le_trans tidy_len J.len⟩
  · obtain ⟨y, hy, rfl⟩ := List.mem_map.mp hx
    obtain ⟨a, b⟩ := merge_masks (p := fun m => m < 2 ^ w) (Nat.two_pow_pos w) hP.masks qm y hy
    exact Nat.xor_lt_two_pow a b
  · unfold markF
    show Nat.testBit (maskAt (tidyF (joinF (· ^^^ ·) P Q)) j) _ = _
    rw [t2 j j0 j1, J.at_ j j0 j1, Nat.testBit_xor]
/-- the pieces of runs -/
def runsP (s : Int) (rs : List (Int × Int × Int)) : Pcs := rs.foldl (fun P r => addF P (runP s r)) [(s, 0)]
/-- whether an odd number of runs has j -/
def oddR (rs : List (Int × Int × Int)) (j : Int) : Bool := rs.foldl (fun b r => b ^^ inRun r j) false
theorem runs_ok {s : Int} (s0 : 0 < s) : ∀ {rs : List (Int × Int × Int)}, (∀ r ∈ rs, RunOk r s) → PcsOk (runsP s rs) 12 s ∧ (∀ j, 0 ≤ j → j < s → markF (runsP s rs) 12 j = oddR rs j) ∧ (runsP s rs).length ≤ 1 + 3 * rs.length := by
  have go : ∀ (rs : List (Int × Int × Int)) (P : Pcs) (f : Int → Bool), (∀ r ∈ rs, RunOk r s) → PcsOk P 12 s → (∀ j, 0 ≤ j → j < s → markF P 12 j = f j) →
      PcsOk (rs.foldl (fun P r => addF P (runP s r)) P) 12 s ∧ (∀ j, 0 ≤ j → j < s → markF (rs.foldl (fun P r => addF P (runP s r)) P) 12 j = rs.foldl (fun b r => b ^^ inRun r j) (f j)) ∧ (rs.foldl (fun P r => addF P (runP s r)) P).length ≤ P.length + 3 * rs.length := by
    intro rs
    induction rs with
    | nil => exact fun P f _ h1 h2 => ⟨h1, h2, Nat.le_refl _⟩
    | cons r rs ih =>
      intro P f hr h1 h2
      have ro := hr r List.mem_cons_self
      have up : Ups (runP s r) s := ⟨by have := ro.fl; show r.1 ≤ r.2.1 + 1; omega, by have := ro.ls; show r.2.1 + 1 ≤ s; omega, rfl⟩
      have q0 : ∀ x ∈ runP s r, 0 ≤ x.1 := fun x hx => by
        have a := ro.f0; have b := ro.fl
        simp only [runP, List.mem_cons, List.not_mem_nil, or_false] at hx
        rcases hx with rfl | rfl | rfl <;> (dsimp only; omega)
      have qm : ∀ x ∈ runP s r, x.2 < 2 ^ 12 := fun x hx => by
        simp only [runP, List.mem_cons, List.not_mem_nil, or_false] at hx
        rcases hx with rfl | rfl | rfl
        · exact (by decide : 0 < 2 ^ 12)
        · exact runM_lt ro
        · exact (by decide : 0 < 2 ^ 12)
      obtain ⟨a1, a2, a3⟩ := add_ok h1 up q0 qm s0
      obtain ⟨b1, b2, b3⟩ := ih (addF P (runP s r)) (fun j => f j ^^ inRun r j) (fun q hq => hr q (List.mem_cons_of_mem _ hq)) a1 fun j j0 j1 => by rw [a2 j j0 j1, h2 j j0 j1, run_mark ro j0 j1]
      refine ⟨b1, b2, ?_⟩
      have e : (runP s r).length = 3 := rfl
      rw [List.length_cons, List.foldl_cons]
      omega
  intro rs hr
  obtain ⟨a, b, c⟩ := go rs [(s, 0)] (fun _ => false) hr ⟨⟨s0, rfl⟩, fun x hx => by rw [List.mem_singleton.mp hx]; exact (by decide : 0 < 2 ^ 12)⟩ fun j j0 j1 => by
    show Nat.testBit (if j < s then 0 else 0) _ = false
    rw [if_pos j1, Nat.zero_testBit]
  exact ⟨a, b, c⟩
theorem oddR_count {rs : List (Int × Int × Int)} {j : Int} : oddR rs j = decide ((rs.filter fun r => inRun r j).length % 2 = 1) := by
  have go : ∀ (rs : List (Int × Int × Int)) (b : Bool), rs.foldl (fun b r => b ^^ inRun r j) b = (b ^^ decide ((rs.filter fun r => inRun r j).length % 2 = 1)) := by
    intro rs
    induction rs with
    | nil => intro b; show b = (b ^^ false); rw [Bool.xor_false]
    | cons r rs ih =>
      intro b
      rw [List.foldl_cons, ih]
      by_cases z : inRun r j = true
      · rw [List.filter_cons_of_pos (p := fun r => inRun r j) z, z, List.length_cons]
        by_cases q : (rs.filter fun r => inRun r j).length % 2 = 1
        · rw [decide_eq_true q, decide_eq_false (by omega)]; cases b <;> rfl
        · rw [decide_eq_false q, decide_eq_true (by omega)]; cases b <;> rfl
      · rw [List.filter_cons_of_neg (p := fun r => inRun r j) z, Bool.eq_false_iff.mpr z, Bool.xor_false]
  have := go rs false
  rw [Bool.false_xor] at this
  exact this
end Aw

namespace Aw
open PySem PySem.Spec PyProof.Rows L2 NdefX
/-! ### pieces in the heap -/
inductive PcA (H : Hp) : List V → Pcs → Prop
  | nil : PcA H [] []
  | cons {t : Addr} {e : Int} {m : Nat} {vs : List V} {P : Pcs} : H t = some (.tup [.int e, .int (m : Nat)]) → PcA H vs P → PcA H (.ref t :: vs) ((e, m) :: P)
inductive TrA (H : Hp) : List V → Trip → Prop
  | nil : TrA H [] []
  | cons {t : Addr} {e : Int} {m n : Nat} {vs : List V} {P : Trip} : H t = some (.tup [.int e, .int (m : Nat), .int (n : Nat)]) → TrA H vs P → TrA H (.ref t :: vs) ((e, m, n) :: P)
theorem PcA.keep {H H' : Hp} (k : TK H H') : ∀ {vs : List V} {P : Pcs}, PcA H vs P → PcA H' vs P
  | _, _, .nil => .nil
  | _, _, .cons h r => .cons (k.1 _ _ h) (PcA.keep k r)
theorem PcA.same {H H' : Hp} (s : Same H H') {vs : List V} {P : Pcs} (h : PcA H vs P) : PcA H' vs P := h.keep (TK.same s)
theorem TrA.keep {H H' : Hp} (k : TK H H') : ∀ {vs : List V} {P : Trip}, TrA H vs P → TrA H' vs P
  | _, _, .nil => .nil
  | _, _, .cons h r => .cons (k.1 _ _ h) (TrA.keep k r)
theorem TrA.same {H H' : Hp} (s : Same H H') {vs : List V} {P : Trip} (h : TrA H vs P) : TrA H' vs P := h.keep (TK.same s)
theorem PcA.length {H : Hp} : ∀ {vs : List V} {P : Pcs}, PcA H vs P → vs.length = P.length
  | _, _, .nil => rfl
  | _, _, .cons _ r => congrArg (· + 1) (PcA.length r)
theorem TrA.length {H : Hp} : ∀ {vs : List V} {P : Trip}, TrA H vs P → vs.length = P.length
  | _, _, .nil => rfl
  | _, _, .cons _ r => congrArg (· + 1) (TrA.length r)
theorem PcA.app {H : Hp} : ∀ {vs ws : List V} {P Q : Pcs}, PcA H vs P → PcA H ws Q → PcA H (vs ++ ws) (P ++ Q)
  | _, _, _, _, .nil, s => s
  | _, _, _, _, .cons h r, s => .cons h (PcA.app r s)
theorem TrA.app {H : Hp} : ∀ {vs ws : List V} {P Q : Trip}, TrA H vs P → TrA H ws Q → TrA H (vs ++ ws) (P ++ Q)
  | _, _, _, _, .nil, s => s
  | _, _, _, _, .cons h r, s => .cons h (TrA.app r s)
theorem PcA.get {H : Hp} : ∀ {vs : List V} {P : Pcs} {i : Nat} {v : V}, PcA H vs P → vs[i]? = some v → ∃ (t : Addr) (x : Int × Nat), v = .ref t ∧ P[i]? = some x ∧ H t = some (.tup [.int x.1, .int (x.2 : Nat)])
  | _, _, _, _, .nil, e => by simp at e
  | _, _, 0, _, .cons h _, e => by
    cases Option.some.inj e
    exact ⟨_, _, rfl, rfl, h⟩
  | _, _, i + 1, _, .cons _ r, e => PcA.get (i := i) r (by simpa using e)
theorem PcA.getP {H : Hp} : ∀ {vs : List V} {P : Pcs} {i : Nat} {x : Int × Nat}, PcA H vs P → P[i]? = some x → ∃ t : Addr, vs[i]? = some (.ref t) ∧ H t = some (.tup [.int x.1, .int (x.2 : Nat)])
  | _, _, _, _, .nil, e => by simp at e
  | _, _, 0, _, .cons h _, e => by
    cases Option.some.inj e
    exact ⟨_, rfl, h⟩
  | _, _, i + 1, _, .cons _ r, e => PcA.getP (i := i) r (by simpa using e)
theorem TrA.get {H : Hp} : ∀ {vs : List V} {P : Trip} {i : Nat} {v : V}, TrA H vs P → vs[i]? = some v → ∃ (t : Addr) (x : Int × Nat × Nat), v = .ref t ∧ P[i]? = some x ∧ H t = some (.tup [.int x.1, .int (x.2.1 : Nat), .int (x.2.2 : Nat)])
  | _, _, _, _, .nil, e => by simp at e
  | _, _, 0, _, .cons h _, e => by
    cases Option.some.inj e
    exact ⟨_, _, rfl, rfl, h⟩
  | _, _, i + 1, _, .cons _ r, e => TrA.get (i := i) r (by simpa using e)
theorem PcA.dropLast {H : Hp} : ∀ {vs : List V} {P : Pcs}, PcA H vs P → PcA H vs.dropLast P.dropLast
  | _, _, .nil => .nil
  | _, _, .cons _ .nil => .nil
  | _, _, .cons h (.cons h2 r) => .cons h (PcA.dropLast (.cons h2 r))
/-- the last one -/
theorem PcA.last {H : Hp} {vs : List V} {P : Pcs} {x : Int × Nat} (h : PcA H vs P) (e : P.getLast? = some x) : ∃ t : Addr, vs.getLast? = some (.ref t) ∧ atI vs (-1) = some (.ref t) ∧ vs[vs.length - 1]? = some (.ref t) ∧ H t = some (.tup [.int x.1, .int (x.2 : Nat)]) := by
  rw [List.getLast?_eq_getElem?] at e
  obtain ⟨t, h1, h2⟩ := h.getP e
  rw [← h.length] at h1
  have pos : 0 < vs.length := by
    have := (List.getElem?_eq_some_iff.mp h1).1
    omega
  refine ⟨t, by rw [List.getLast?_eq_getElem?]; exact h1, ?_, h1, h2⟩
  unfold atI ixN
  rw [if_neg (by decide), if_pos (by omega)]
  show vs[((-1 : Int) + vs.length).toNat]? = _
  rw [show ((-1 : Int) + vs.length).toNat = vs.length - 1 by omega]
  exact h1
end Aw

namespace Aw
open PySem PySem.Spec PyProof.Rows L2 NdefX
def spTidy : Sp := fun vs H Q _ => ∃ (L : Addr) (xs : List V) (P : Pcs), vs = [.ref L] ∧ H L = some (.lst xs) ∧ PcA H xs P ∧ P.length ≤ 900 ∧
  ∀ (R : Addr) (ys : List V) (H' : Hp), Same H H' → H R = none → H' R = some (.lst ys) → PcA H' ys (tidyF P) → Q (.ref R) H'
section
variable {P : Program} {w : World} {K : PySem.W.Frag} {mg : Str → Option Value} {base : Heap}
theorem scTidy : FnScope ["pieces", "found", "start", "end", "mask"] ["pieces"] (defScope sTidy) := ⟨rfl, rfl, rfl, by decide +kernel, rfl, by decide +kernel, by decide +kernel⟩
theorem ok_tidy {f : Addr} {fd : FuncData} (F : Fun K "tidied" "tidied" sTidy f fd) : FnOk P w K mg base CX0 1 f fd ["pieces"] spTidy := by
  refine F.ok scTidy (fun vs H Q E h => ?_) (fun cdv A outer s H vs Q E hr h => ?_)
  · obtain ⟨L, xs, P, rfl, _⟩ := h
    rfl
  · obtain ⟨L, xs, P, rfl, hL, pa, lP, hQ⟩ := h
    have nd := scTidy.nd
    refine ⟨_, (pss_cons (ps_set (i := 1) nd rfl (Or.inl rfl) (pe_lst pa_nil))
      (pss_cons (ps_set (i := 2) nd rfl (Or.inl rfl) pe_int)
      (pss_cons (ps_for PassesOwn.never rfl (pi_list (pv 0)) (pg_tup rfl (pgs_cons (pg_name (i := 3) nd rfl (Or.inl rfl)) (pgs_cons (pg_name (i := 4) nd rfl (Or.inl rfl)) pgs_nil)))
        (pss_one (ps_if (pt_cmpR op_gt (pv 3) (pv 2) (nomark _))
          (pss_cons (ps_if (PW.pt (pw_and (pt_truth (pv 1) (by intro _; rfl)) (pw_and1 (pt_cmpR op_eq (pe_ix ix_tup (pe_ix ix_list (pv 1) (pe_un un_neg pe_int) (fun _ _ => rfl)) pe_int (fun _ _ => rfl)) (pv 4) (nomark _)))))
            (pss_one (ps_expr (pe_bm0 PySem.F.plainAttrs_list PySem.F.slot_list_pop PySem.F.type_list_pop mt_pop (pv 1)))) pss_nil)
          (pss_cons (ps_expr (pe_bm PySem.F.plainAttrs_list PySem.F.slot_list_append PySem.F.type_list_append mt_append (pv 1) (pa_cons (pe_tup (pa_cons (pv 3) (pa_cons (pv 4) pa_nil))) pa_nil)))
          (pss_one (ps_set (i := 2) nd rfl (Or.inl rfl) (pv 3))))) pss_nil)))
      (pss_one (ps_ret (pv 1)))))), ?_⟩
    -- BODY
    have lx := pa.length
    refine ⟨Nat.zero_le _, fun R hR => ?_⟩
    have sR := same_upd (o := .lst []) hR
    refine ⟨_, rfl, L, rfl, ⟨_, SqL.of (sR _ _ hL)⟩, ?_⟩
    refine for_list (a := L) (xs := xs) (fun i σ H2 => ∃ (v3 v4 : Option V) (ys : List V) (b : Int) (G : Pcs), σ = [some (.ref L), some (.ref R), some (.int b), v3, v4] ∧ Same H H2 ∧ H2 R = some (.lst ys) ∧ PcA H2 ys G ∧ (G, b) = (P.take i).foldl tidyT ([], 0)) ⟨none, none, [], 0, [], rfl, sR, upd_same, .nil, rfl⟩ (fun i σ H2 _ z => by
      obtain ⟨_, _, _, _, _, _, s2, _⟩ := z
      exact SqL.of (s2 _ _ hL)) ?_ ?_
    · rintro i v σ H2 hv ⟨v3, v4, ys, b, G, rfl, s2, e2, pg, eG⟩
      obtain ⟨t, ⟨e, m⟩, rfl, ix, et⟩ := (pa.same s2).get hv
      have etk : P.take (i + 1) = P.take i ++ [(e, m)] := by rw [List.take_succ, ix]; rfl
      have eG2 : (P.take (i + 1)).foldl tidyT ([], 0) = tidyT (G, b) (e, m) := by rw [etk, List.foldl_append, ← eG]; rfl
      have ly : ys.length ≤ 900 := by
        have t := (tidyI (P.take i)).len
        rw [← eG] at t
        have := pg.length
        have h2 : (P.take i).length ≤ P.length := by rw [List.length_take]; omega
        have t : G.length ≤ (P.take i).length := t
        omega
      refine ⟨t, _, rfl, SqT.of et, rfl, _, _, rfl, _, _, rfl, rfl, ?_⟩
      refine ⟨_, rfl, _, rfl, e, b, rfl, rfl, _, rfl, ite_dec (fun g => ?_) (fun g => ?_)⟩
      · have fin : ∀ (zs : List V) (G' : Pcs) (H3 : Hp), Same H H3 → H3 R = some (.lst zs) → PcA H3 zs G' → zs.length ≤ 900 → tidyS G (e, m) = G' ++ [(e, m)] →
            ∀ T, H3 T = none → ∃ (v3 v4 : Option V) (ys : List V) (b' : Int) (G2 : Pcs), [some (V.ref L), some (V.ref R), some (V.int e), some (V.int e), some (V.int (m : Nat))] = [some (.ref L), some (.ref R), some (.int b'), v3, v4] ∧ Same H (upd (upd H3 T (.tup [.int e, .int (m : Nat)])) R (.lst (zs ++ [.ref T]))) ∧ upd (upd H3 T (.tup [.int e, .int (m : Nat)])) R (.lst (zs ++ [.ref T])) R = some (.lst ys) ∧ PcA (upd (upd H3 T (.tup [.int e, .int (m : Nat)])) R (.lst (zs ++ [.ref T]))) ys G2 ∧ (G2, b') = (P.take (i + 1)).foldl tidyT ([], 0) := fun zs G' H3 s3 e3 p3 l3 es T hT => by
          have sT := same_upd (o := .tup [.int e, .int (m : Nat)]) hT
          have eR := sT _ _ e3
          refine ⟨_, _, zs ++ [.ref T], e, G' ++ [(e, m)], rfl, same_fresh hR (s3.trans sT), upd_same, ?_, ?_⟩
          · exact ((p3.same sT).app (.cons upd_same .nil)).keep (TK.lst eR)
          · rw [eG2]
            unfold tidyT
            rw [if_pos (show (G, b).2 < ((e, m) : Int × Nat).1 from g)]
            show _ = (tidyS G (e, m), e)
            rw [es]
        cases hl : G.getLast? with
        | none =>
          have G0 : G = [] := List.getLast?_eq_none_iff.mp hl
          subst G0
          cases pg
          refine ⟨_, rfl, false, .inl ⟨[], SqL.of e2, rfl⟩, iteF ?_⟩
          refine iteF (nxt ?_)
          dsimp only
          refine ⟨_, rfl, .inl ⟨rfl, _, SqL.of e2⟩, _, rfl, _, rfl, by show 2 ≤ sizeLine; decide, fun T hT => ?_⟩
          have eR := same_upd (o := .tup [.int e, .int (m : Nat)]) hT _ _ e2
          refine ⟨R, [], _, rfl, rfl, eR, Nat.lt_of_lt_of_le (show ([] : List V).length < 1000 by show 0 < 1000; decide) kz, ?_⟩
          exact ⟨_, rfl, fin [] [] _ s2 e2 .nil (by show 0 ≤ 900; decide) rfl T hT⟩
        | some x =>
          obtain ⟨u, h1, h2, h3, h4⟩ := pg.last hl
          have ne : ys.isEmpty = false := by
            cases ys with
            | nil => simp at h1
            | cons => rfl
          refine ⟨_, rfl, true, .inl ⟨ys, SqL.of e2, by rw [ne]; rfl⟩, iteT ?_⟩
          refine ⟨_, rfl, 1, rfl, R, ys, -1, _, rfl, rfl, SqL.of e2, h2, u, _, 1, _, rfl, rfl, SqT.of h4, rfl, _, rfl, rfl, _, rfl, ite_int (fun em => ?_) (fun em => ?_)⟩
          · have em : x.2 = m := Int.ofNat_inj.mp em
            refine ⟨_, rfl, .inl ⟨rfl, _, SqL.of e2⟩, R, ys, _, rfl, rfl, e2, h3, ?_⟩
            have s3 : Same H (upd H2 R (.lst ys.dropLast)) := same_fresh hR s2
            have e3 : upd H2 R (.lst ys.dropLast) R = some (.lst ys.dropLast) := upd_same
            have p3 : PcA (upd H2 R (.lst ys.dropLast)) ys.dropLast G.dropLast := pg.dropLast.keep (TK.lst e2)
            have l3 : ys.dropLast.length ≤ 900 := by rw [List.length_dropLast]; omega
            have es : tidyS G (e, m) = G.dropLast ++ [(e, m)] := by
              unfold tidyS
              rw [hl]
              dsimp only
              rw [if_pos em]
            generalize upd H2 R (.lst ys.dropLast) = H3 at *
            refine ⟨_, rfl, .inl ⟨rfl, _, SqL.of e3⟩, _, rfl, _, rfl, by show 2 ≤ sizeLine; decide, fun T hT => ?_⟩
            have eR := same_upd (o := .tup [.int e, .int (m : Nat)]) hT _ _ e3
            refine ⟨R, ys.dropLast, _, rfl, rfl, eR, Nat.lt_of_lt_of_le (show (ys.dropLast : List V).length < 1000 by omega) kz, ?_⟩
            exact ⟨_, rfl, fin ys.dropLast G.dropLast _ s3 e3 p3 (by omega) es T hT⟩
          · have em : x.2 ≠ m := fun z => em (by rw [z])
            refine nxt ?_
            dsimp only
            have es : tidyS G (e, m) = G ++ [(e, m)] := by
              unfold tidyS
              rw [hl]
              dsimp only
              rw [if_neg em]
            refine ⟨_, rfl, .inl ⟨rfl, _, SqL.of e2⟩, _, rfl, _, rfl, by show 2 ≤ sizeLine; decide, fun T hT => ?_⟩
            have eR := same_upd (o := .tup [.int e, .int (m : Nat)]) hT _ _ e2
            refine ⟨R, ys, _, rfl, rfl, eR, Nat.lt_of_lt_of_le (show (ys : List V).length < 1000 by omega) kz, ?_⟩
            exact ⟨_, rfl, fin ys G _ s2 e2 pg (by omega) es T hT⟩
      · refine nxt ⟨_, _, ys, b, G, rfl, s2, e2, pg, ?_⟩
        rw [eG2]
        unfold tidyT
        rw [if_neg (show ¬ (G, b).2 < ((e, m) : Int × Nat).1 from g)]
    · rintro σ H2 ⟨v3, v4, ys, b, G, rfl, s2, e2, pg, eG⟩
      rw [List.take_of_length_le (by omega)] at eG
      have : G = tidyF P := by unfold tidyF; rw [← eG]
      subst this
      exact ⟨_, rfl, hQ R ys H2 s2 hR e2 pg⟩
end
end Aw

namespace Aw
open PySem PySem.Spec PyProof.Rows L2 NdefX
/-- what is left of the other one -/
def restM : Pcs → Pcs → Pcs
  | [], o => o
  | (e, _) :: r, o => restM r (o.dropWhile fun x => decide (x.1 < e))
theorem merge_app : ∀ {P Q o : Pcs}, mergeF (P ++ Q) o = mergeF P o ++ mergeF Q (restM P o)
  | [], _, _ => rfl
  | (e, m) :: r, Q, o => by
    show _ ++ _ :: mergeF (r ++ Q) _ = (_ ++ _ :: mergeF r _) ++ _
    rw [merge_app, List.append_assoc, List.cons_append]
    rfl
theorem rest_app : ∀ {P Q o : Pcs}, restM (P ++ Q) o = restM Q (restM P o)
  | [], _, _ => rfl
  | (e, m) :: r, Q, o => rest_app (P := r)
theorem merge_len2 : ∀ {P o : Pcs}, (mergeF P o).length + (restM P o).length ≤ P.length + o.length
  | [], o => by show 0 + o.length ≤ 0 + o.length; omega
  | (e, m) :: r, o => by
    have ih := merge_len2 (P := r) (o := o.dropWhile fun x => decide (x.1 < e))
    have sp : o.length = (o.takeWhile fun x => decide (x.1 < e)).length + (o.dropWhile fun x => decide (x.1 < e)).length := by
      rw [← List.length_append, List.takeWhile_append_dropWhile]
    show (((o.takeWhile fun x => decide (x.1 < e)).map fun x => (x.1, m, x.2)) ++ (e, m, ((o.dropWhile fun x => decide (x.1 < e)).headD (0, 0)).2) :: mergeF r (o.dropWhile fun x => decide (x.1 < e))).length + (restM r (o.dropWhile fun x => decide (x.1 < e))).length ≤ _
    rw [List.length_append, List.length_map, List.length_cons, List.length_cons]
    omega
theorem rest_ups : ∀ {P o : Pcs} {s : Int}, Ups o s → (∀ x ∈ P, x.1 ≤ s) → Ups (restM P o) s
  | [], _, _, h, _ => h
  | (e, m) :: r, o, s, h, hp => rest_ups (P := r) (h.drop (hp (e, m) List.mem_cons_self)).1 fun x hx => hp x (List.mem_cons_of_mem _ hx)
theorem while_cut {α : Type} {p : α → Bool} : ∀ {l : List α} {k : Nat} {y : α}, (∀ x ∈ l.take k, p x = true) → l[k]? = some y → p y = false → l.takeWhile p = l.take k ∧ l.dropWhile p = l.drop k
  | [], _, _, _, h, _ => by simp at h
  | x :: l, 0, y, _, h, hy => by
    cases Option.some.inj h
    rw [List.takeWhile_cons, List.dropWhile_cons, hy]
    exact ⟨rfl, rfl⟩
  | x :: l, k + 1, y, hk, h, hy => by
    have hx : p x = true := hk x List.mem_cons_self
    obtain ⟨a, b⟩ := while_cut (l := l) (k := k) (fun z hz => hk z (List.mem_cons_of_mem _ hz)) (by simpa using h) hy
    rw [List.takeWhile_cons, List.dropWhile_cons, hx]
    exact ⟨congrArg (x :: ·) a, b⟩
theorem Ups.some_ge : ∀ {P : Pcs} {s : Int}, Ups P s → ∃ x ∈ P, x.1 = s
  | [], _, h => h.elim
  | [(e, m)], s, h => ⟨(e, m), List.mem_cons_self, h⟩
  | (e, m) :: (f, n) :: r, s, h => by
    obtain ⟨x, hx, ex⟩ := Ups.some_ge (P := (f, n) :: r) h.2
    exact ⟨x, List.mem_cons_of_mem _ hx, ex⟩
def spMerge : Sp := fun vs H Q _ => ∃ (A B : Addr) (xs ys : List V) (P O : Pcs) (s : Int), vs = [.ref A, .ref B] ∧ H A = some (.lst xs) ∧ PcA H xs P ∧ H B = some (.lst ys) ∧ PcA H ys O ∧ P.length ≤ 400 ∧ O.length ≤ 400 ∧ Ups O s ∧ (∀ x ∈ P, x.1 ≤ s) ∧
  ∀ (R : Addr) (zs : List V) (H' : Hp), Same H H' → H R = none → H' R = some (.lst zs) → TrA H' zs (mergeF P O) → Q (.ref R) H'
section
variable {P : Program} {w : World} {K : PySem.W.Frag} {mg : Str → Option Value} {base : Heap}
theorem scMerge : FnScope ["one", "other", "found", "spot", "end", "mask"] ["one", "other"] (defScope sMerge) := ⟨rfl, rfl, rfl, by decide +kernel, rfl, by decide +kernel, by decide +kernel⟩
theorem ok_merge {f : Addr} {fd : FuncData} (F : Fun K "merged" "merged" sMerge f fd) : FnOk P w K mg base CX0 1 f fd ["one", "other"] spMerge := by
  refine F.ok scMerge (fun vs H Q E h => ?_) (fun cdv A outer s H vs Q E hr h => ?_)
  · obtain ⟨A, B, xs, ys, P, O, s, rfl, _⟩ := h
    rfl
  · obtain ⟨A, B, xs, ys, P, O, sz, rfl, hA, pa, hB, pb, lP, lO, up, hP, hQ⟩ := h
    have nd := scMerge.nd
    refine ⟨_, (pss_cons (ps_set (i := 2) nd rfl (Or.inl rfl) (pe_lst pa_nil))
      (pss_cons (ps_set (i := 3) nd rfl (Or.inl rfl) pe_int)
      (pss_cons (ps_for PassesOwn.never rfl (pi_list (pv 0)) (pg_tup rfl (pgs_cons (pg_name (i := 4) nd rfl (Or.inl rfl)) (pgs_cons (pg_name (i := 5) nd rfl (Or.inl rfl)) pgs_nil)))
        (pss_cons (ps_while PassesOwn.never (pt_cmpR op_lt (pe_ix ix_tup (pe_ix ix_list (pv 1) (pv 3) (fun _ _ => rfl)) pe_int (fun _ _ => rfl)) (pv 4) (nomark _))
          (pss_cons (ps_expr (pe_bm PySem.F.plainAttrs_list PySem.F.slot_list_append PySem.F.type_list_append mt_append (pv 2) (pa_cons (pe_tup (pa_cons (pe_ix ix_tup (pe_ix ix_list (pv 1) (pv 3) (fun _ _ => rfl)) pe_int (fun _ _ => rfl)) (pa_cons (pv 5) (pa_cons (pe_ix ix_tup (pe_ix ix_list (pv 1) (pv 3) (fun _ _ => rfl)) pe_int (fun _ _ => rfl)) pa_nil)))) pa_nil)))
          (pss_one (ps_set (i := 3) nd rfl (Or.inl rfl) (pe_op op_add (pv 3) pe_int)))))
        (pss_one (ps_expr (pe_bm PySem.F.plainAttrs_list PySem.F.slot_list_append PySem.F.type_list_append mt_append (pv 2) (pa_cons (pe_tup (pa_cons (pv 4) (pa_cons (pv 5) (pa_cons (pe_ix ix_tup (pe_ix ix_list (pv 1) (pv 3) (fun _ _ => rfl)) pe_int (fun _ _ => rfl)) pa_nil)))) pa_nil))))))
      (pss_one (ps_ret (pv 2)))))), ?_⟩
    -- BODY
    have lx := pa.length
    have ly := pb.length
    refine ⟨Nat.zero_le _, fun R hR => ?_⟩
    have sR := same_upd (o := .lst []) hR
    refine ⟨_, rfl, A, rfl, ⟨_, SqL.of (sR _ _ hA)⟩, ?_⟩
    refine for_list (a := A) (xs := xs) (fun i σ H2 => ∃ (v4 v5 : Option V) (zs : List V) (k : Nat), σ = [some (.ref A), some (.ref B), some (.ref R), some (.int (k : Nat)), v4, v5] ∧ Same H H2 ∧ H2 R = some (.lst zs) ∧ TrA H2 zs (mergeF (P.take i) O) ∧ O.drop k = restM (P.take i) O) ⟨none, none, [], 0, rfl, sR, upd_same, .nil, rfl⟩ (fun i σ H2 _ z => by
      obtain ⟨_, _, _, _, _, s2, _⟩ := z
      exact SqL.of (s2 _ _ hA)) ?_ ?_
    · rintro i v σ H2 hv ⟨v4, v5, zs, k, rfl, s2, e2, pz, hk⟩
      obtain ⟨t, ⟨e, m⟩, rfl, ix, et⟩ := (pa.same s2).get hv
      have etk : P.take (i + 1) = P.take i ++ [(e, m)] := by rw [List.take_succ, ix]; rfl
      have es : e ≤ sz := hP (e, m) (List.mem_of_getElem? ix)
      have upk : Ups (O.drop k) sz := by rw [hk]; exact rest_ups up fun x hx => hP x (List.mem_of_mem_take hx)
      have lz := pz.length
      have lm := merge_len2 (P := P.take i) (o := O)
      have lt : (P.take i).length ≤ 400 := by rw [List.length_take]; omega
      have ek : O.length - k = (O.drop k).length := (List.length_drop ..).symm
      rw [← hk] at lm
      refine ⟨t, _, rfl, SqT.of et, rfl, _, _, rfl, _, _, rfl, rfl, ?_⟩
      refine ⟨fun mm σ H3 => ∃ (q : Nat) (zs : List V), mm + q = O.length - k ∧ σ = [some (.ref A), some (.ref B), some (.ref R), some (.int ((k + q : Nat) : Int)), some (.int e), some (.int (m : Nat))] ∧ Same H H3 ∧ H3 R = some (.lst zs) ∧ TrA H3 zs (mergeF (P.take i) O ++ ((O.drop k).take q).map fun x => (x.1, m, x.2)) ∧ ∀ x ∈ (O.drop k).take q, x.1 < e, ⟨O.length - k, 0, zs, rfl, rfl, s2, e2, by rw [List.take_zero, List.map_nil, List.append_nil]; exact pz, fun x hx => absurd hx (by simp)⟩, ?_⟩
      rintro mm σ H3 ⟨q, zs3, hm, rfl, s3, e3, p3, hq⟩
      have qlt : q < (O.drop k).length := by
        rcases Nat.lt_or_ge q (O.drop k).length with z | z
        · exact z
        · rw [List.take_of_length_le z] at hq
          obtain ⟨x, hx, ex⟩ := upk.some_ge
          have := hq x hx
          omega
      obtain ⟨y, hy⟩ : ∃ y, (O.drop k)[q]? = some y := ⟨_, List.getElem?_eq_getElem qlt⟩
      have hyO : O[k + q]? = some y := by rw [List.getElem?_drop] at hy; exact hy
      obtain ⟨u, hu, eu⟩ := (pb.same s3).getP hyO
      have hB3 := s3 _ _ hB
      have l3 := p3.length
      rw [List.length_append, List.length_map, List.length_take] at l3
      refine ⟨_, rfl, _, rfl, B, ys, _, _, rfl, rfl, SqL.of hB3, atI_nat hu, u, _, 0, _, rfl, rfl, SqT.of eu, rfl, _, rfl, y.1, e, rfl, rfl, _, rfl, ite_dec (fun g => ?_) (fun g => ?_)⟩
      · have tq : (O.drop k).take (q + 1) = (O.drop k).take q ++ [y] := by rw [List.take_succ, hy]; rfl
        have hq1 : ∀ x ∈ (O.drop k).take (q + 1), x.1 < e := fun x hx => by
          rw [tq] at hx
          rcases List.mem_append.mp hx with hx | hx
          · exact hq x hx
          · rw [List.mem_singleton.mp hx]
            exact g
        refine ⟨fun σ H5 => ∃ zs : List V, σ = [some (.ref A), some (.ref B), some (.ref R), some (.int ((k + (q + 1) : Nat) : Int)), some (.int e), some (.int (m : Nat))] ∧ Same H H5 ∧ H5 R = some (.lst zs) ∧ TrA H5 zs (mergeF (P.take i) O ++ ((O.drop k).take (q + 1)).map fun x => (x.1, m, x.2)), fun σ' H5 z => ?_, ?_⟩
        · obtain ⟨zs', h1, h2, h3, h4⟩ := z
          exact ⟨mm - 1, by omega, q + 1, zs', by omega, h1, h2, h3, h4, hq1⟩
        refine ⟨_, rfl, .inl ⟨rfl, _, SqL.of e3⟩, _, rfl, _, rfl, B, ys, _, _, rfl, rfl, SqL.of hB3, atI_nat hu, u, _, 0, _, rfl, rfl, SqT.of eu, rfl, _, rfl, _, rfl, _, rfl, B, ys, _, _, rfl, rfl, SqL.of hB3, atI_nat hu, u, _, 1, _, rfl, rfl, SqT.of eu, rfl, by show 3 ≤ sizeLine; decide, fun T hT => ?_⟩
        have sT := same_upd (o := .tup [.int y.1, .int (m : Nat), .int (y.2 : Nat)]) hT
        have eR := sT _ _ e3
        refine ⟨R, zs3, _, rfl, rfl, eR, Nat.lt_of_lt_of_le (show zs3.length < 1000 by omega) kz, ?_⟩
        refine ⟨_, rfl, _, _, rfl, rfl, ?_⟩
        refine ⟨zs3 ++ [.ref T], by rw [← Nat.add_assoc]; rfl, same_fresh hR (s3.trans sT), upd_same, ?_⟩
        rw [tq, List.map_append, ← List.append_assoc]
        exact ((p3.same sT).app (.cons upd_same .nil)).keep (TK.lst eR)
      · have cut := while_cut (p := fun x : Int × Nat => decide (x.1 < e)) (fun x hx => decide_eq_true (hq x hx)) hy (decide_eq_false g)
        refine ⟨_, rfl, .inl ⟨rfl, _, SqL.of e3⟩, _, rfl, _, rfl, _, rfl, _, rfl, B, ys, _, _, rfl, rfl, SqL.of hB3, atI_nat hu, u, _, 1, _, rfl, rfl, SqT.of eu, rfl, by show 3 ≤ sizeLine; decide, fun T hT => ?_⟩
        have sT := same_upd (o := .tup [.int e, .int (m : Nat), .int (y.2 : Nat)]) hT
        have eR := sT _ _ e3
        refine ⟨R, zs3, _, rfl, rfl, eR, Nat.lt_of_lt_of_le (show zs3.length < 1000 by omega) kz, ?_⟩
        refine ⟨_, _, zs3 ++ [.ref T], k + q, rfl, same_fresh hR (s3.trans sT), upd_same, ?_, ?_⟩
        · have em : mergeF (P.take (i + 1)) O = (mergeF (P.take i) O ++ ((O.drop k).take q).map fun x => (x.1, m, x.2)) ++ [(e, m, y.2)] := by
            rw [etk, merge_app, ← hk, List.append_assoc]
            show _ ++ (((O.drop k).takeWhile fun x => decide (x.1 < e)).map (fun x => (x.1, m, x.2)) ++ (e, m, (((O.drop k).dropWhile fun x => decide (x.1 < e)).headD (0, 0)).2) :: []) = _
            have hd : ((O.drop k).drop q).headD (0, 0) = y := by
              rw [List.headD_eq_head?_getD, List.head?_drop, hy]
              rfl
            rw [cut.1, cut.2, hd]
          rw [em]
          exact ((p3.same sT).app (.cons upd_same .nil)).keep (TK.lst eR)
        · rw [etk, rest_app, ← hk]
          show _ = (O.drop k).dropWhile fun x => decide (x.1 < e)
          rw [cut.2, List.drop_drop]
    · rintro σ H2 ⟨v4, v5, zs, k, rfl, s2, e2, pz, hk⟩
      rw [List.take_of_length_le (by omega)] at pz
      exact ⟨_, rfl, hQ R zs H2 s2 hR e2 pz⟩
end
end Aw

namespace Aw
open PySem PySem.Spec PyProof.Rows L2 NdefX
/-! ### the masks of classes -/
/-- over a range with a step: Pv by the turn and the heap (the new list at D within) -/
theorem lc_rangeC {lo c : Int} {n : Nat} {g : TG} {tt : TT} {te : TE} {vs : List Nat} {σ : Aw.St} {H1 : Hp} {D : Addr} {Qd : Hp → Prop} (Pv : Nat → Hp → Prop) (h0 : Pv 0 (upd H1 D (.lst [])))
    (hs : ∀ i H, i < n → Pv i H → g (.int (lo + (i : Nat) * c)) (wipe σ vs) H fun σ2 H2 => wipe σ2 vs = wipe σ vs ∧ tt σ2 H2 fun b H3 =>
      if b = true then te σ2 H3 fun y H4 => ∃ acc, H4 D = some (.lst acc) ∧ acc.length < sizeLine ∧ Pv (i + 1) (upd H4 D (.lst (acc ++ [y]))) else Pv (i + 1) H3) (hd : ∀ H, Pv n H → Qd H) :
    ∃ W : Nat → Nat → Hp → Prop, (∃ m, W 0 m (upd H1 D (.lst []))) ∧ ∀ i m H, W i m H →
      ((Itc lo c n).stop i H ∧ Qd H) ∨ ((Itc lo c n).go i H ∧ ∃ Nx : Hp → Prop, (∀ H', Nx H' → ∃ m', m' < m ∧ W (i + 1) m' H') ∧ ∀ x H', (Itc lo c n).yld i H x H' → g x (wipe σ vs) H' fun σ2 H2 => wipe σ2 vs = wipe σ vs ∧ tt σ2 H2 fun b H3 =>
        if b = true then te σ2 H3 fun y H4 => ∃ acc, H4 D = some (.lst acc) ∧ acc.length < sizeLine ∧ Nx (upd H4 D (.lst (acc ++ [y]))) else Nx H3) := by
  refine ⟨fun i m H => m = n - i ∧ i ≤ n ∧ Pv i H, ⟨n, by simp, Nat.zero_le _, h0⟩, ?_⟩
  rintro i m H ⟨rfl, hi, p⟩
  by_cases hlt : i < n
  · refine .inr ⟨hlt, Pv (i + 1), fun H' p' => ⟨n - (i + 1), by omega, rfl, hlt, p'⟩, fun x H' y => ?_⟩
    obtain ⟨e, y⟩ := y
    subst e y
    exact hs i _ hlt p
  · have e : i = n := by omega
    subst e
    exact .inl ⟨Nat.le_refl _, hd H p⟩
def spClassm : Sp := fun vs H Q _ => ∃ (w : Int) (a c n : Nat), vs = [.int w, .int (a : Nat), .int (c : Nat)] ∧ RgC a w c n ∧ n ≤ 900 ∧ a + n * c ≤ 100000 ∧ ∀ H', Same H H' → Q (.int (clsS a c n : Nat)) H'
section
variable {P : Program} {w : World} {K : PySem.W.Frag} {mg : Str → Option Value} {base : Heap}
theorem scClassm : FnScope ["wide", "at", "of", "place"] ["wide", "at", "of"] (defScope sClassm) := ⟨rfl, rfl, rfl, by decide +kernel, rfl, by decide +kernel, by decide +kernel⟩
structure TxtCls (mg : Str → Option Value) : Prop where
  range : mg "range" = none
  sum : mg "sum" = none
theorem clsS_sum {a c : Nat} : ∀ {n : Nat}, (((List.range n).map fun i : Nat => ((2 ^ (a + i * c) : Nat) : Int))).sum = (clsS a c n : Nat)
  | 0 => rfl
  | n + 1 => by
    rw [List.range_succ, List.map_append, List.sum_append, clsS_sum]
    show ((clsS a c n : Nat) : Int) + (((2 ^ (a + n * c) : Nat) : Int) + 0) = ((clsS a c n + 2 ^ (a + n * c) : Nat) : Int)
    omega
theorem ok_classm {f : Addr} {fd : FuncData} (F : Fun K "class_mask" "class_mask" sClassm f fd) (W : TxtCls mg) : FnOk P w K mg base CX0 1 f fd ["wide", "at", "of"] spClassm := by
  refine F.ok scClassm (fun vs H Q E h => ?_) (fun cdv A outer s H vs Q E hr h => ?_)
  · obtain ⟨w, a, c, n, rfl, _⟩ := h
    rfl
  · obtain ⟨wd, a, c, n, rfl, rg, hn, hb, hQ⟩ := h
    have nd := scClassm.nd
    refine ⟨_, (pss_one (ps_ret (pe_callB (cr_sum rfl) (by rfl) W.sum (by decide +kernel) (pa_cons (pe_lc (own := [("place", 3)]) (g := (gName 3)) (tt := tYes) rfl nd (pi_range3 (by rfl) W.range (pa_cons (pv 1) (pa_cons (pv 0) (pa_cons (pv 2) pa_nil)))) (blkOk_by (own := [("place", 3)]) (N := ["wide", "at", "of", "place"]) (sc := defScope sClassm) (by decide +kernel)) (fun _ _ _ _ _ => (pg_name (i := 3) nd rfl (Or.inl rfl))) (fun _ _ _ _ _ => pts_nil) (fun _ _ _ _ _ => (pe_op op_shl pe_int (pv 3)))) pa_nil)))), ?_⟩
    -- BODY
    refine ⟨_, rfl, _, rfl, _, rfl, _, _, _, n, rfl, rg, fun D hD => ?_⟩
    refine lc_rangeC (fun i H2 => Same H H2 ∧ H2 D = some (.lst (((List.range i).map fun i : Nat => ((2 ^ (a + i * c) : Nat) : Int)).map V.int))) ⟨same_upd hD, upd_same⟩ ?_ ?_
    · rintro i H2 hi ⟨s2, e2⟩
      have ei : ((a : Nat) : Int) + (i : Nat) * (c : Nat) = ((a + i * c : Nat) : Int) := by simp
      refine ⟨rfl, _, rfl, 1, _, rfl, rfl, ?_, _, e2, ?_, same_fresh hD s2, ?_⟩
      · rw [ei]
        have : i * c ≤ n * c := Nat.mul_le_mul_right c (Nat.le_of_lt hi)
        exact ⟨by omega, by omega, by decide⟩
      · rw [List.length_map, List.length_map, List.length_range]
        exact Nat.lt_of_lt_of_le (by omega : i < 1000) kz
      · rw [upd_same, map_take]
        show some (HO.lst (_ ++ [V.int (1 * 2 ^ (((a : Nat) : Int) + (i : Nat) * (c : Nat)).toNat)])) = _
        rw [ei, Int.toNat_natCast, Int.one_mul, Int.natCast_pow]
        rfl
    · rintro H2 ⟨s2, e2⟩
      refine ⟨_, _, rfl, SqL.of e2, ?_⟩
      rw [clsS_sum]
      exact hQ H2 s2
end
end Aw

namespace Aw
open PySem PySem.Spec PyProof.Rows L2 NdefX
theorem or_sum : ∀ n : Nat, ∀ a b : Nat, a + b < n → (a ||| b) = (a ^^^ b) + (a &&& b)
  | 0, _, _, h => absurd h (Nat.not_lt_zero _)
  | n + 1, a, b, h => by
    by_cases z : a = 0 ∧ b = 0
    · rw [z.1, z.2]; rfl
    · have ih := or_sum n (a / 2) (b / 2) (by omega)
      have o2 := Nat.or_mod_two_pow (a := a) (b := b) (n := 1)
      have x2 := Nat.xor_mod_two_pow (a := a) (b := b) (n := 1)
      have n2 := Nat.and_mod_two_pow (a := a) (b := b) (n := 1)
      rw [← Nat.or_div_two, ← Nat.xor_div_two, ← Nat.and_div_two] at ih
      rw [Nat.pow_one] at o2 x2 n2
      have c : (a ||| b) % 2 = (a ^^^ b) % 2 + (a &&& b) % 2 := by
        rw [o2, x2, n2]
        rcases (show a % 2 = 0 ∨ a % 2 = 1 by omega) with e | e <;> rcases (show b % 2 = 0 ∨ b % 2 = 1 by omega) with f | f <;> rw [e, f] <;> rfl
      omega
theorem bx_nat {a b : Nat} : Builtin.bitXor (a : Int) (b : Int) = ((a ^^^ b : Nat) : Int) := by
  have h := or_sum (a + b + 1) a b (Nat.lt_succ_self _)
  show Builtin.bitOr (a : Int) (b : Int) - Builtin.bitAnd (a : Int) (b : Int) = _
  rw [bitOr_nn (Int.natCast_nonneg _) (Int.natCast_nonneg _), bitAnd_pp (Int.natCast_nonneg _) (Int.natCast_nonneg _), Int.toNat_natCast, Int.toNat_natCast, h]
  omega
def spAdded : Sp := fun vs H Q _ => ∃ (A B : Addr) (xs ys : List V) (P O : Pcs) (s : Int), vs = [.ref A, .ref B] ∧ H A = some (.lst xs) ∧ PcA H xs P ∧ H B = some (.lst ys) ∧ PcA H ys O ∧ P.length ≤ 400 ∧ O.length ≤ 400 ∧ Ups O s ∧ (∀ x ∈ P, x.1 ≤ s) ∧
  ∀ (R : Addr) (zs : List V) (H' : Hp), Same H H' → H R = none → H' R = some (.lst zs) → PcA H' zs (addF P O) → Q (.ref R) H'
section
variable {P : Program} {w : World} {K : PySem.W.Frag} {mg : Str → Option Value} {base : Heap}
theorem scAdded : FnScope ["one", "other", "end", "mask", "more"] ["one", "other"] (defScope sAdded) := ⟨rfl, rfl, rfl, by decide +kernel, rfl, by decide +kernel, by decide +kernel⟩
theorem ok_added {f fT fM : Addr} {fd tdd md : FuncData} (F : Fun K "added" "added" sAdded f fd) (FT : Fun K "tidied" "tidied" sTidy fT tdd) (FM : Fun K "merged" "merged" sMerge fM md) (bT : Binds K tdd ["pieces"] []) (bM : Binds K md ["one", "other"] []) (gT : mg "tidied" = some (.ref fT)) (gM : mg "merged" = some (.ref fM)) : FnOk P w K mg base CX0 2 f fd ["one", "other"] spAdded := by
  have GT : FnOk P w K mg base CX0 1 fT tdd ["pieces"] spTidy := ok_tidy FT
  have GM : FnOk P w K mg base CX0 1 fM md ["one", "other"] spMerge := ok_merge FM
  refine F.ok scAdded (fun vs H Q E h => ?_) (fun cdv A outer s H vs Q E hr h => ?_)
  · obtain ⟨A, B, xs, ys, P, O, s, rfl, _⟩ := h
    rfl
  · obtain ⟨A, B, xs, ys, P, O, sz, rfl, hA, pa, hB, pb, lP, lO, up, hP, hQ⟩ := h
    have nd := scAdded.nd
    refine ⟨_, (pss_one (ps_ret (pe_call GT (hr.mono (by decide)) (by rfl) gT FT.kp bT .nil pass0 (pa_cons (pe_lc (own := [("end", 2), ("mask", 3), ("more", 4)]) (g := (gTup _ 3 (gCons (gName 2) (gCons (gName 3) (gCons (gName 4) gNil))))) (tt := tYes) rfl nd (pi_list (pe_call GM (hr.mono (by decide)) (by rfl) gM FM.kp bM .nil pass0 (pa_cons (pv 0) (pa_cons (pv 1) pa_nil)))) (blkOk_by (own := [("end", 2), ("mask", 3), ("more", 4)]) (N := ["one", "other", "end", "mask", "more"]) (sc := defScope sAdded) (by decide +kernel)) (fun _ _ _ _ _ => (pg_tup rfl (pgs_cons (pg_name (i := 2) nd rfl (Or.inl rfl)) (pgs_cons (pg_name (i := 3) nd rfl (Or.inl rfl)) (pgs_cons (pg_name (i := 4) nd rfl (Or.inl rfl)) pgs_nil))))) (fun _ _ _ _ _ => pts_nil) (fun _ _ _ _ _ => (pe_tup (pa_cons (pv 2) (pa_cons (pe_op op_xor (pv 3) (pv 4)) pa_nil))))) pa_nil)))), ?_⟩
    -- BODY
    have lx := pa.length
    refine ⟨_, rfl, _, rfl, A, B, xs, ys, P, O, sz, rfl, hA, pa, hB, pb, lP, lO, up, hP, fun R zs H1 s1 hR e1 t1 => ?_⟩
    have lt := merge_len (P := P) (o := O)
    have lz := t1.length
    refine ⟨R, rfl, ⟨_, SqL.of e1⟩, fun D hD => ?_⟩
    refine lc_list (a := R) (xs := zs) (fun i H2 => Same H1 H2 ∧ ∃ us, H2 D = some (.lst us) ∧ PcA H2 us (((mergeF P O).take i).map fun x => (x.1, x.2.1 ^^^ x.2.2))) ⟨same_upd hD, [], upd_same, .nil⟩ (fun i H2 _ z => SqL.of (z.1 _ _ e1)) ?_ ?_
    · rintro i v H2 hv ⟨s2, us, e2, pu⟩
      obtain ⟨t, ⟨e, m, n⟩, rfl, ix, et⟩ := (t1.same s2).get hv
      refine ⟨t, _, rfl, SqT.of et, rfl, _, _, rfl, _, _, rfl, _, _, rfl, rfl, rfl, ?_⟩
      refine ⟨_, rfl, _, rfl, _, rfl, _, _, rfl, rfl, by show 2 ≤ sizeLine; decide, fun T hT => ?_⟩
      have sT := same_upd (o := .tup [.int e, .int (Builtin.bitXor (m : Nat) (n : Nat))]) hT
      have eD := sT _ _ e2
      refine ⟨us, eD, Nat.lt_of_lt_of_le (show us.length < 1000 by
        have := pu.length
        rw [List.length_map, List.length_take] at this
        omega) kz, same_fresh hD (s2.trans sT), _, upd_same, ?_⟩
      have e4 : (mergeF P O).take (i + 1) = (mergeF P O).take i ++ [(e, m, n)] := by rw [List.take_succ, ix]; rfl
      rw [e4, List.map_append]
      refine ((pu.same sT).app (.cons ?_ .nil)).keep (TK.lst eD)
      rw [← bx_nat]
      exact upd_same
    · rintro H2 ⟨s2, us, e2, pu⟩
      rw [List.take_of_length_le (by omega)] at pu
      refine ⟨D, us, _, rfl, e2, pu, by rw [List.length_map]; omega, fun R2 vs2 H3 s3 hR2 e3 p3 => ?_⟩
      exact hQ R2 vs2 H3 (s1.trans (s2.trans s3)) ((s1.trans s2).free hR2) e3 p3
end
end Aw

namespace Aw
open PySem PySem.Spec PyProof.Rows L2 NdefX
theorem shr_bit {m i : Nat} : decide (V.int ((m : Int) / 2 ^ i % 2 ^ 1) = V.int 1) = m.testBit i := by
  have e : (m : Int) / 2 ^ i % 2 ^ 1 = ((m / 2 ^ i % 2 : Nat) : Int) := by
    rw [show (2 : Int) ^ 1 = ((2 : Nat) : Int) from rfl, show (2 : Int) ^ i = ((2 ^ i : Nat) : Int) by rw [Int.natCast_pow]; rfl]
    rfl
  rw [e, Nat.testBit_eq_decide_div_mod_eq, decide_eq_decide]
  exact ⟨fun z => by have := V.int.inj z; omega, fun z => by rw [z]; rfl⟩
def spIsMk : Sp := fun vs H Q _ => ∃ (L : Addr) (xs : List V) (P : Pcs) (w : Nat) (j : Int), vs = [.ref L, .int (w : Nat), .int j] ∧ H L = some (.lst xs) ∧ PcA H xs P ∧ P.length ≤ 900 ∧ 0 < w ∧ Q (.bl (markF P w j)) H
section
variable {P : Program} {w : World} {K : PySem.W.Frag} {mg : Str → Option Value} {base : Heap}
theorem scIsMk : FnScope ["pieces", "wide", "place", "end", "mask"] ["pieces", "wide", "place"] (defScope sIsMk) := ⟨rfl, rfl, rfl, by decide +kernel, rfl, by decide +kernel, by decide +kernel⟩
theorem ok_ismk {f : Addr} {fd : FuncData} (F : Fun K "is_marked" "is_marked" sIsMk f fd) : FnOk P w K mg base CX0 1 f fd ["pieces", "wide", "place"] spIsMk := by
  refine F.ok scIsMk (fun vs H Q E h => ?_) (fun cdv A outer s H vs Q E hr h => ?_)
  · obtain ⟨L, xs, P, w, j, rfl, _⟩ := h
    rfl
  · obtain ⟨L, xs, P, wd, j, rfl, hL, pa, lP, w0, hQ⟩ := h
    have nd := scIsMk.nd
    refine ⟨_, (pss_cons (ps_for PassesOwn.never rfl (pi_list (pv 0)) (pg_tup rfl (pgs_cons (pg_name (i := 3) nd rfl (Or.inl rfl)) (pgs_cons (pg_name (i := 4) nd rfl (Or.inl rfl)) pgs_nil)))
        (pss_one (ps_if (pt_cmpR op_lt (pv 2) (pv 3) (nomark _))
          (pss_one (ps_ret (pe_cmpR op_eq (pe_op op_andM (pe_op op_shr (pv 4) (pe_op op_mod (pv 2) (pv 1))) pe_int) pe_int (nomark _)))) pss_nil)))
      (pss_one (ps_ret pe_bl))), ?_⟩
    -- BODY
    have lx := pa.length
    refine ⟨_, rfl, L, rfl, ⟨_, SqL.of hL⟩, ?_⟩
    refine for_list (a := L) (xs := xs) (fun i σ H2 => ∃ (v3 v4 : Option V), σ = [some (.ref L), some (.int (wd : Nat)), some (.int j), v3, v4] ∧ H2 = H ∧ markF P wd j = markF (P.drop i) wd j) ⟨none, none, rfl, rfl, rfl⟩ (fun i σ H2 _ z => by
      obtain ⟨_, _, _, rfl, _⟩ := z
      exact SqL.of hL) ?_ ?_
    · rintro i v σ H2 hv ⟨v3, v4, rfl, rfl, em⟩
      obtain ⟨t, ⟨e, m⟩, rfl, ix, et⟩ := pa.get hv
      have ed : P.drop i = (e, m) :: P.drop (i + 1) := List.drop_eq_getElem_cons (List.getElem?_eq_some_iff.mp ix).1 |>.trans (by rw [(List.getElem?_eq_some_iff.mp ix).2])
      refine ⟨t, _, rfl, SqT.of et, rfl, _, _, rfl, _, _, rfl, rfl, ?_⟩
      refine ⟨_, rfl, _, rfl, j, e, rfl, rfl, _, rfl, ite_dec (fun g => ?_) (fun g => ?_)⟩
      · have j0 : 0 ≤ j % ((wd : Nat) : Int) := Int.emod_nonneg _ (by omega)
        refine ⟨_, rfl, _, rfl, _, rfl, j, (wd : Nat), rfl, rfl, by omega, (m : Nat), _, rfl, rfl, j0, _, 1, rfl, rfl, rfl, ?_⟩
        have e3 : markF P wd j = m.testBit (j % ((wd : Nat) : Int)).toNat := by
          rw [em, ed]
          unfold markF
          show Nat.testBit (if j < e then m else _) _ = _
          rw [if_pos g]
        rw [e3, ← shr_bit] at hQ
        exact hQ
      · refine nxt ⟨_, _, rfl, rfl, ?_⟩
        rw [em, ed]
        unfold markF
        show Nat.testBit (if j < e then m else _) _ = _
        rw [if_neg g]
    · rintro σ H2 ⟨v3, v4, rfl, rfl, em⟩
      rw [List.drop_of_length_le (by omega)] at em
      have e2 : markF P wd j = false := by rw [em]; exact Nat.zero_testBit _
      rw [e2] at hQ
      exact hQ
end
end Aw

namespace Aw
open PySem PySem.Spec PyProof.Rows L2 NdefX
/-! ### what is walked or taken apart may be a list or a tuple -/
def iSeq (K : PySem.W.Frag) (tl : TE) : TI := fun σ H R => tl σ H fun x H1 => ∃ a, x = .ref a ∧ (((∃ xs, SqL K H1 a xs) ∧ R (Itl K a) H1) ∨ ((∃ xs, SqT K H1 a xs) ∧ R (Itt K a) H1))
def gSeq (K : PySem.W.Frag) (n : Nat) (t : TGs) : TG := fun v σ H Q => ∃ a xs, v = .ref a ∧ (SqL K H a xs ∨ SqT K H a xs) ∧ xs.length = n ∧ t xs σ H Q
section
variable {X : Cx} {pos : Pos} {tg : Expr}
theorem pg_seq {es : List Expr} {k : Nat} {t : TGs} {n : Nat} (hc : X.calm = true) (h : PGs X es t)
    (hn : (assignEach es X.env).length = n := by rfl) (hst : (assignEach es X.env).findIdx? (·.1) = none := by rfl) : PG X (.Tuple es k pos) (gSeq X.K n t) := by
  refine ⟨fun pins s σ H v u Q I r hw => ?_⟩
  obtain ⟨a, xs, e1, hq | hq, hl, hw⟩ := hw
  · exact (pg_lst (pos := pos) (k := k) hc h hn hst).run pins s σ H v u Q I r ⟨a, xs, e1, hq, hl, hw⟩
  · exact (pg_tup (pos := pos) (k := k) hc h hn hst).run pins s σ H v u Q I r ⟨a, xs, e1, hq, hl, hw⟩
theorem pi_seq {l : Expr} {tl : TE} (hl : PE X l tl) : PI X tg l (iSeq X.K tl) := by
  refine ⟨fun pins s σ H R I h => ?_⟩
  refine thn (hl.run pins s σ H _ I h) fun v s1 ⟨x, H1, I1, r1, q1⟩ => ?_
  obtain ⟨a, e, ⟨⟨xs, hq⟩, q⟩ | ⟨⟨xs, hq⟩, q⟩⟩ := q1
  · subst e
    cases r1
    obtain ⟨its, rv, p, hz⟩ := I1.list hq
    refine wpAny_pyIter_list p.isList ?_
    refine ⟨s1.heap.objs.size, [s1.heap.objs.size], _, _, H1, rfl, I1.kept (t' := s1.toks) fun b o e => Heap.get?_push_of_some _ e, turn_list a _, ⟨_, Heap.get?_push_size _ rfl, rfl, rfl⟩, fun b hb => ?_, q⟩
    have e : b = s1.heap.objs.size := by simpa using hb
    subst e
    exact I1.fpOk (Nat.le_refl _) (I1.hok.fresh (Nat.le_refl _))
  · subst e
    cases r1
    obtain ⟨its, rv, p, hz⟩ := I1.tuple hq
    refine wpAny_pyIter_tuple (show s1.heap.IsTuple a its.toArray from p) ?_
    refine ⟨s1.heap.objs.size, [s1.heap.objs.size], _, _, H1, rfl, I1.kept (t' := s1.toks) fun b o e => Heap.get?_push_of_some _ e, turn_tuple a _, ⟨_, Heap.get?_push_size _ rfl, rfl, rfl⟩, fun b hb => ?_, q⟩
    have e : b = s1.heap.objs.size := by simpa using hb
    subst e
    exact I1.fpOk (Nat.le_refl _) (I1.hok.fresh (Nat.le_refl _))
end
theorem for_seq {K : PySem.W.Frag} {a : Addr} {xs : List V} {g : TG} {tb : TS} {D : Ends} {σ : Aw.St} {H : Hp} (Pv : Nat → Aw.St → Hp → Prop) (h0 : Pv 0 σ H) (hl : (∀ i σ H, i ≤ xs.length → Pv i σ H → SqL K H a xs) ∨ (∀ i σ H, i ≤ xs.length → Pv i σ H → SqT K H a xs))
    (hs : ∀ i x σ H, xs[i]? = some x → Pv i σ H → g x σ H fun σ2 H2 => tb { D with nx := Pv (i + 1), ct := Pv (i + 1), bk := D.nx } σ2 H2) (hd : ∀ σ H, Pv xs.length σ H → D.nx σ H) :
    ((∃ xs, SqL K H a xs) ∧ ∃ W : Nat → Nat → Aw.St → Hp → Prop, (∃ m, W 0 m σ H) ∧ ∀ i m σ H, W i m σ H →
      ((Itl K a).stop i H ∧ D.nx σ H) ∨ ((Itl K a).go i H ∧ ∃ N : Aw.St → Hp → Prop, (∀ σ' H', N σ' H' → ∃ m', m' < m ∧ W (i + 1) m' σ' H') ∧ ∀ x H', (Itl K a).yld i H x H' → g x σ H' fun σ2 H2 => tb { D with nx := N, ct := N, bk := D.nx } σ2 H2)) ∨
    ((∃ xs, SqT K H a xs) ∧ ∃ W : Nat → Nat → Aw.St → Hp → Prop, (∃ m, W 0 m σ H) ∧ ∀ i m σ H, W i m σ H →
      ((Itt K a).stop i H ∧ D.nx σ H) ∨ ((Itt K a).go i H ∧ ∃ N : Aw.St → Hp → Prop, (∀ σ' H', N σ' H' → ∃ m', m' < m ∧ W (i + 1) m' σ' H') ∧ ∀ x H', (Itt K a).yld i H x H' → g x σ H' fun σ2 H2 => tb { D with nx := N, ct := N, bk := D.nx } σ2 H2)) :=
  hl.imp (fun h => ⟨⟨xs, h 0 σ H (Nat.zero_le _) h0⟩, for_list Pv h0 h hs hd⟩) (fun h => ⟨⟨xs, h 0 σ H (Nat.zero_le _) h0⟩, for_tup Pv h0 h hs hd⟩)
/-- a list or a tuple of a heap -/
def SeqH (H : Hp) (a : Addr) (xs : List V) : Prop := H a = some (.lst xs) ∨ H a = some (.tup xs)
theorem SeqH.sq {K : PySem.W.Frag} {H : Hp} {a : Addr} {xs : List V} (h : SeqH H a xs) : SqL K H a xs ∨ SqT K H a xs := h.imp SqL.of SqT.of
theorem SeqH.same {H H' : Hp} {a : Addr} {xs : List V} (h : SeqH H a xs) (s : Same H H') : SeqH H' a xs := h.imp (s _ _) (s _ _)
/-- the Pv of for_seq keeps what was there -/
theorem SeqH.all {K : PySem.W.Frag} {H : Hp} {a : Addr} {xs : List V} {n : Nat} {Pv : Nat → Aw.St → Hp → Prop} (h : SeqH H a xs) (hp : ∀ i σ H', Pv i σ H' → Same H H') : (∀ i σ H', i ≤ n → Pv i σ H' → SqL K H' a xs) ∨ (∀ i σ H', i ≤ n → Pv i σ H' → SqT K H' a xs) :=
  h.imp (fun e i σ H' _ p => SqL.of (hp i σ H' p _ _ e)) (fun e i σ H' _ p => SqT.of (hp i σ H' p _ _ e))
/-- runs in the heap: the three numbers in a list or a tuple -/
inductive RnA (H : Hp) : List V → List (Int × Int × Int) → Prop
  | nil : RnA H [] []
  | cons {t : Addr} {f l c : Int} {vs : List V} {rs : List (Int × Int × Int)} : SeqH H t [.int f, .int l, .int c] → RnA H vs rs → RnA H (.ref t :: vs) ((f, l, c) :: rs)
theorem RnA.same {H H' : Hp} (s : Same H H') : ∀ {vs : List V} {P : List (Int × Int × Int)}, RnA H vs P → RnA H' vs P
  | _, _, .nil => .nil
  | _, _, .cons h r => .cons (h.same s) (RnA.same s r)
theorem RnA.length {H : Hp} : ∀ {vs : List V} {P : List (Int × Int × Int)}, RnA H vs P → vs.length = P.length
  | _, _, .nil => rfl
  | _, _, .cons _ r => congrArg (· + 1) (RnA.length r)
theorem RnA.get {H : Hp} : ∀ {vs : List V} {P : List (Int × Int × Int)} {i : Nat} {v : V}, RnA H vs P → vs[i]? = some v → ∃ (t : Addr) (x : Int × Int × Int), v = .ref t ∧ P[i]? = some x ∧ SeqH H t [.int x.1, .int x.2.1, .int x.2.2]
  | _, _, _, _, .nil, e => by simp at e
  | _, _, 0, _, .cons h _, e => by
    cases Option.some.inj e
    exact ⟨_, _, rfl, rfl, h⟩
  | _, _, i + 1, _, .cons _ r, e => RnA.get (i := i) r (by simpa using e)
end Aw

namespace Aw
open PySem PySem.Spec PyProof.Rows L2 NdefX
/-! ### a list or a tuple of the heap or of the written part; enumerate of either -/
def SeqK (K : PySem.W.Frag) (H : Hp) (a : Addr) (xs : List V) : Prop := SqL K H a xs ∨ SqT K H a xs
theorem SeqH.k {K : PySem.W.Frag} {H : Hp} {a : Addr} {xs : List V} (h : SeqH H a xs) : SeqK K H a xs := h.sq
theorem rd_same {H H' : Hp} {a : Addr} {u : HO} (h : L2.Rd H a u) (s : Same H H') : L2.Rd H' a u := h.imp (s _ _) fun ⟨o, e⟩ => ⟨o, s _ _ e⟩
theorem sql_same {K : PySem.W.Frag} {H H' : Hp} {a : Addr} {xs : List V} (h : SqL K H a xs) (s : Same H H') : SqL K H' a xs := h.imp (fun z => rd_same z s) id
theorem sqt_same {K : PySem.W.Frag} {H H' : Hp} {a : Addr} {xs : List V} (h : SqT K H a xs) (s : Same H H') : SqT K H' a xs := h.imp (fun z => rd_same z s) id
theorem SeqK.same {K : PySem.W.Frag} {H H' : Hp} {a : Addr} {xs : List V} (h : SeqK K H a xs) (s : Same H H') : SeqK K H' a xs := h.imp (fun z => sql_same z s) (fun z => sqt_same z s)
theorem SeqK.all {K : PySem.W.Frag} {H : Hp} {a : Addr} {xs : List V} {n : Nat} {Pv : Nat → Aw.St → Hp → Prop} (h : SeqK K H a xs) (hp : ∀ i σ H', Pv i σ H' → Same H H') : (∀ i σ H', i ≤ n → Pv i σ H' → SqL K H' a xs) ∨ (∀ i σ H', i ≤ n → Pv i σ H' → SqT K H' a xs) :=
  h.imp (fun e i σ H' _ p => sql_same e (hp i σ H' p)) (fun e i σ H' _ p => sqt_same e (hp i σ H' p))
theorem rd_but {H H' : Hp} {a b C dx : Addr} {fs : List (Str × V)} {u : HO} (h : L2.Rd H a u) (hb : H b = some (.ins C dx fs)) (hu : u ≠ .ins C dx fs) (k : ∀ c o, H c = some o → c ≠ b → H' c = some o) : L2.Rd H' a u := by
  rcases h with h | ⟨o, h⟩
  · exact .inl (k _ _ h (ne_of h hb hu))
  · exact .inr ⟨o, k _ _ h (ne_of h hb (fun z => by cases z))⟩
theorem SeqK.but {K : PySem.W.Frag} {H H' : Hp} {a b C dx : Addr} {fs : List (Str × V)} {xs : List V} (h : SeqK K H a xs) (hb : H b = some (.ins C dx fs)) (k : ∀ c o, H c = some o → c ≠ b → H' c = some o) : SeqK K H' a xs :=
  h.imp (fun z => z.imp (fun z => rd_but z hb (fun e => by cases e) k) id) (fun z => z.imp (fun z => rd_but z hb (fun e => by cases e) k) id)
theorem SeqH.but {H H' : Hp} {a b C dx : Addr} {fs : List (Str × V)} {xs : List V} (h : SeqH H a xs) (hb : H b = some (.ins C dx fs)) (k : ∀ c o, H c = some o → c ≠ b → H' c = some o) : SeqH H' a xs :=
  h.imp (fun z => k _ _ z (ne_of z hb (fun e => by cases e))) (fun z => k _ _ z (ne_of z hb (fun e => by cases e)))
theorem RnA.but {H H' : Hp} {b C dx : Addr} {fs : List (Str × V)} (hb : H b = some (.ins C dx fs)) (k : ∀ c o, H c = some o → c ≠ b → H' c = some o) : ∀ {vs : List V} {rs : List (Int × Int × Int)}, RnA H vs rs → RnA H' vs rs
  | _, _, .nil => .nil
  | _, _, .cons h r => .cons (h.but hb k) (RnA.but hb k r)
def iEnumS (K : PySem.W.Frag) (ta : TA) : TI := fun σ H R => ta σ H fun vs H1 => ∃ a, vs = [.ref a] ∧ ((∃ xs, SqL K H1 a xs ∧ R (Ite K a) H1) ∨ (∃ xs, SqT K H1 a xs ∧ R (Itu K a) H1))
theorem pi_enumS {X : Cx} {e : Expr} {ta : TA} {p pos tpos : Pos} {elts : List Expr} {kk : Nat} (hg : Gl X "enumerate") (hm : X.mg "enumerate" = none) (ha : PA X [e] ta) (hs : starEach [e] X.env = [(false, eval e X.env)] := by rfl) :
    PI X (.Tuple elts kk tpos) (.Call (.Name "enumerate" p) [e] [] pos) (iEnumS X.K ta) := by
  refine ⟨fun pins s σ H R I h => ?_⟩
  refine Call_ (ld_blt I hg hm boot_enumerate (PyProof.Rows.callWith_type1 (thn (ha.run pos pins s σ H _ I h) fun us s1 ⟨vs, H1, I1, r1, q1⟩ => ?_) hs rfl))
  obtain ⟨a, ex, q⟩ := q1
  subst ex
  cases r1 with
  | cons r rr =>
    cases rr
    cases r
    have fr : ∀ b ∈ [s1.heap.objs.size + 1, s1.heap.objs.size], s1.heap.objs.size ≤ b := fun b hb => by
      have e' : b = s1.heap.objs.size + 1 ∨ b = s1.heap.objs.size := by simpa using hb
      rcases e' with z | z
      · rw [z]; exact Nat.le_add_right _ _
      · rw [z]; exact Nat.le_refl _
    rcases q with ⟨xs, hq, q⟩ | ⟨xs, hq, q⟩
    · obtain ⟨its, rv, p', hz⟩ := I1.list hq
      refine call_enumerate_list p'.isList fun h' he hit hsz hk => wpAny_pyIter_enum he ?_
      have I2 : Inv X pins σ H1 { s1 with heap := h' } := I1.kept (t' := s1.toks) hk
      exact ⟨s1.heap.objs.size + 1, [s1.heap.objs.size + 1, s1.heap.objs.size], _, _, H1, rfl, I2, turn_enum a (s1.heap.objs.size + 1) s1.heap.objs.size, ⟨⟨.none, he⟩, hit, Nat.succ_ne_self _⟩, fun b hb => I1.fpOk (fr b hb) (I1.hok.fresh (fr b hb)), q⟩
    · obtain ⟨its, rv, p', hz⟩ := I1.tuple hq
      refine enum_begins1 (begins_tuple a its.toArray) p' fun h' he hi hsz hk => wpAny_pyIter_enum he ?_
      have I2 : Inv X pins σ H1 { s1 with heap := h' } := I1.kept (t' := s1.toks) hk
      exact ⟨s1.heap.objs.size + 1, [s1.heap.objs.size + 1, s1.heap.objs.size], _, _, H1, rfl, I2, turn_enumT a (s1.heap.objs.size + 1) s1.heap.objs.size, ⟨⟨.none, he⟩, ⟨_, hi, rfl, rfl⟩, Nat.succ_ne_self _⟩, fun b hb => I1.fpOk (fr b hb) (I1.hok.fresh (fr b hb)), q⟩
theorem for_enumS {K : PySem.W.Frag} {a : Addr} {xs : List V} {g : TG} {tb : TS} {D : Ends} {σ : Aw.St} {H : Hp} (Pv : Nat → Aw.St → Hp → Prop) (h0 : Pv 0 σ H) (hl : (∀ i σ H, i ≤ xs.length → Pv i σ H → SqL K H a xs) ∨ (∀ i σ H, i ≤ xs.length → Pv i σ H → SqT K H a xs))
    (hs : ∀ i x σ H T, xs[i]? = some x → Pv i σ H → H T = none → g (.ref T) σ (upd H T (.tup [.int (i : Nat), x])) fun σ2 H2 => tb { D with nx := Pv (i + 1), ct := Pv (i + 1), bk := D.nx } σ2 H2)
    (hd : ∀ σ H, Pv xs.length σ H → D.nx σ H) : tFor (fun _ H R => (∃ xs, SqL K H a xs ∧ R (Ite K a) H) ∨ (∃ xs, SqT K H a xs ∧ R (Itu K a) H)) g tb D σ H :=
  hl.imp (fun h => ⟨xs, h 0 _ _ (Nat.zero_le _) h0, for_enum Pv h0 h hs hd⟩) (fun h => ⟨xs, h 0 _ _ (Nat.zero_le _) h0, for_enumT Pv h0 h hs hd⟩)
end Aw

namespace Aw
open PySem PySem.Spec PyProof.Rows L2 NdefX
theorem cls_rg : ∀ c : Nat, c < 5 → ∀ a : Nat, a < c → ((c : Int) ≠ 0 ∧ (c : Int).natAbs < 1073741824 ∧ Builtin.Range.small (a : Nat) 12 (c : Nat) = true ∧ Builtin.Range.rangeSize (a : Nat) 12 (c : Nat) = (clsN a c : Nat)) ∧ clsN a c ≤ 12 := by decide +kernel
def spPor (K : PySem.W.Frag) : Sp := fun vs H Q _ => ∃ (R : Addr) (xs : List V) (s : Int) (rs : List (Int × Int × Int)), vs = [.int s, .ref R] ∧ SeqK K H R xs ∧ RnA H xs rs ∧ 0 < s ∧ rs.length ≤ 20 ∧ (∀ r ∈ rs, RunOk r s) ∧
  ∀ (L : Addr) (zs : List V) (H' : Hp), Same H H' → H L = none → H' L = some (.lst zs) → PcA H' zs (runsP s rs) → Q (.ref L) H'
section
variable {P : Program} {w : World} {K : PySem.W.Frag} {mg : Str → Option Value} {base : Heap}
theorem scPor : FnScope ["size", "runs", "pieces", "first", "last", "step", "places"] ["size", "runs"] (defScope sPor) := ⟨rfl, rfl, rfl, by decide +kernel, rfl, by decide +kernel, by decide +kernel⟩
structure TxtPor (K : PySem.W.Frag) (mg : Str → Option Value) (fC fA fT fM : Addr) (cd ad td md : FuncData) (t12 : Tok) : Prop where
  C : TxtCls mg
  FC : Fun K "class_mask" "class_mask" sClassm fC cd
  bC : Binds K cd ["wide", "at", "of"] []
  gC : mg "class_mask" = some (.ref fC)
  FA : Fun K "added" "added" sAdded fA ad
  bA : Binds K ad ["one", "other"] []
  gA : mg "added" = some (.ref fA)
  FT : Fun K "tidied" "tidied" sTidy fT td
  bT : Binds K td ["pieces"] []
  gT : mg "tidied" = some (.ref fT)
  FM : Fun K "merged" "merged" sMerge fM md
  bM : Binds K md ["one", "other"] []
  gM : mg "merged" = some (.ref fM)
  gB : mg "BASE" = some (.int 12 t12)
theorem ok_por {f fC fA fT fM : Addr} {fd cd ad td md : FuncData} {t12 : Tok} (F : Fun K "pieces_of_runs" "pieces_of_runs" sPor f fd) (W : TxtPor K mg fC fA fT fM cd ad td md t12) : FnOk P w K mg base CX0 3 f fd ["size", "runs"] (spPor K) := by
  have GC : FnOk P w K mg base CX0 1 fC cd ["wide", "at", "of"] spClassm := ok_classm W.FC W.C
  have GA : FnOk P w K mg base CX0 2 fA ad ["one", "other"] spAdded := ok_added W.FA W.FT W.FM W.bT W.bM W.gT W.gM
  refine F.ok scPor (fun vs H Q E h => ?_) (fun cdv A outer s H vs Q E hr h => ?_)
  · obtain ⟨R, xs, s, rs, rfl, _⟩ := h
    rfl
  · obtain ⟨R, xs, sz, rs, rfl, hR, ra, s0, ln, ro, hQ⟩ := h
    have nd := scPor.nd
    refine ⟨_, (pss_cons (ps_set (i := 2) nd rfl (Or.inl rfl) (pe_lst (pa_cons (pe_tup (pa_cons (pv 0) (pa_cons pe_int pa_nil))) pa_nil)))
      (pss_cons (ps_for PassesOwn.never rfl (pi_seq (pv 1)) (pg_seq rfl (pgs_cons (pg_name (i := 3) nd rfl (Or.inl rfl)) (pgs_cons (pg_name (i := 4) nd rfl (Or.inl rfl)) (pgs_cons (pg_name (i := 5) nd rfl (Or.inl rfl)) pgs_nil))))
        (pss_cons (ps_set (i := 6) nd rfl (Or.inl rfl) (pe_call GC (hr.mono (by decide)) (by rfl) W.gC W.FC.kp W.bC .nil pass0 (pa_cons (pe_glob (v := .int 12) (by rfl) W.gB ⟨_, rfl⟩) (pa_cons (pe_op op_mod (pv 3) (pv 5)) (pa_cons (pv 5) pa_nil)))))
        (pss_one (ps_set (i := 2) nd rfl (Or.inl rfl) (pe_call GA (hr.mono (by decide)) (by rfl) W.gA W.FA.kp W.bA .nil pass0 (pa_cons (pv 2) (pa_cons (pe_lst (pa_cons (pe_tup (pa_cons (pv 3) (pa_cons pe_int pa_nil))) (pa_cons (pe_tup (pa_cons (pe_op op_add (pv 4) pe_int) (pa_cons (pv 6) pa_nil))) (pa_cons (pe_tup (pa_cons (pv 0) (pa_cons pe_int pa_nil))) pa_nil)))) pa_nil)))))))
      (pss_one (ps_ret (pv 2))))), ?_⟩
    -- BODY
    have lx := ra.length
    refine ⟨_, rfl, by show 2 ≤ sizeLine; decide, fun T0 hT0 => ⟨by show 1 ≤ sizeLine; decide, fun L0 hL0 => ?_⟩⟩
    have s0' := (same_upd (o := .tup [.int sz, .int 0]) hT0).trans (same_upd (o := .lst [.ref T0]) hL0)
    have hL0' : H L0 = none := (same_upd (o := .tup [.int sz, .int 0]) hT0).free hL0
    have eT0 : upd (upd H T0 (.tup [.int sz, .int 0])) L0 (.lst [.ref T0]) T0 = some (.tup [.int sz, .int ((0 : Nat) : Int)]) := same_upd hL0 _ _ upd_same
    have eL0 : upd (upd H T0 (.tup [.int sz, .int 0])) L0 (.lst [.ref T0]) L0 = some (.lst [.ref T0]) := upd_same
    generalize upd (upd H T0 (.tup [.int sz, .int 0])) L0 (.lst [.ref T0]) = H1 at *
    refine ⟨_, rfl, R, rfl, ?_⟩
    refine for_seq (a := R) (xs := xs) (fun i σ H2 => ∃ (L : Addr) (v3 v4 v5 v6 : Option V) (zs : List V), σ = [some (.int sz), some (.ref R), some (.ref L), v3, v4, v5, v6] ∧ Same H H2 ∧ H L = none ∧ H2 L = some (.lst zs) ∧ PcA H2 zs (runsP sz (rs.take i))) ⟨L0, none, none, none, none, [.ref T0], rfl, s0', hL0', eL0, .cons eT0 .nil⟩ (hR.all fun i σ H2 z => by
      obtain ⟨_, _, _, _, _, _, _, s2, _⟩ := z
      exact s2) ?_ ?_
    · rintro i v σ H2 hv ⟨L, v3, v4, v5, v6, zs, rfl, s2, hL, e2, pz⟩
      obtain ⟨t, ⟨f, l, c⟩, rfl, ix, et⟩ := (ra.same s2).get hv
      have et2 : rs.take (i + 1) = rs.take i ++ [(f, l, c)] := by rw [List.take_succ, ix]; rfl
      have rk : RunOk (f, l, c) sz := ro _ (List.mem_of_getElem? ix)
      obtain ⟨f0, fl, ls, c1, c4⟩ := rk
      dsimp only at f0 fl ls c1 c4 et
      obtain ⟨ok1, ok2, ok3⟩ := runs_ok s0 (rs := rs.take i) fun r hr => ro r (List.mem_of_mem_take hr)
      have lt : (rs.take i).length ≤ 20 := by rw [List.length_take]; omega
      refine ⟨t, _, rfl, et.sq, rfl, _, _, rfl, _, _, rfl, _, _, rfl, rfl, ?_⟩
      refine ⟨_, rfl, _, rfl, f, c, rfl, rfl, by omega, _, rfl, ?_⟩
      have a1 := Int.emod_nonneg f (show c ≠ 0 by omega)
      have a2 := Int.emod_lt_of_pos f (show 0 < c by omega)
      obtain ⟨a, ha⟩ : ∃ a : Nat, f % c = (a : Nat) := ⟨(f % c).toNat, by omega⟩
      obtain ⟨cn, hc⟩ : ∃ cn : Nat, c = (cn : Nat) := ⟨c.toNat, by omega⟩
      obtain ⟨rg, nb⟩ := cls_rg cn (by omega) a (by omega)
      have em : clsS a cn (clsN a cn) = runM (f, l, c) := by
        unfold runM clsM
        dsimp only
        rw [ha, hc, Int.toNat_natCast, Int.toNat_natCast]
      have kb : clsN a cn * cn ≤ 12 * 4 := Nat.mul_le_mul nb (by omega)
      refine ⟨12, a, cn, clsN a cn, by rw [← ha, ← hc]; rfl, rg, by omega, by omega, fun H3 s3 => ?_⟩
      rw [em]
      have e3 := s3 _ _ e2
      have p3 := pz.same s3
      refine ⟨_, rfl, _, rfl, by show 2 ≤ sizeLine; decide, fun T1 h1 => ⟨_, rfl, l, 1, rfl, rfl, _, rfl, by show 2 ≤ sizeLine; decide, fun T2 h2 => ⟨_, rfl, by show 2 ≤ sizeLine; decide, fun T3 h3 => ⟨by show 3 ≤ sizeLine; decide, fun B hB => ?_⟩⟩⟩⟩
      have q1 := same_upd (o := .tup [.int f, .int 0]) h1
      have q2 := same_upd (o := .tup [.int (l + 1), .int (runM (f, l, c) : Nat)]) h2
      have q3 := same_upd (o := .tup [.int sz, .int 0]) h3
      have q4 := same_upd (o := .lst [.ref T1, .ref T2, .ref T3]) hB
      have g1 := q4 _ _ (q3 _ _ (q2 _ _ (upd_same (H := H3) (a := T1) (o := .tup [.int f, .int ((0 : Nat) : Int)]))))
      have g2 := q4 _ _ (q3 _ _ (upd_same (a := T2) (o := .tup [.int (l + 1), .int (runM (f, l, c) : Nat)])))
      have g3 := q4 _ _ (upd_same (a := T3) (o := .tup [.int sz, .int ((0 : Nat) : Int)]))
      have q := ((q1.trans q2).trans q3).trans q4
      refine ⟨L, B, zs, [.ref T1, .ref T2, .ref T3], runsP sz (rs.take i), runP sz (f, l, c), sz, rfl, q _ _ e3, p3.same q, upd_same, .cons g1 (.cons g2 (.cons g3 .nil)), by omega, by show 3 ≤ 400; decide, ⟨by show f ≤ l + 1; omega, by show l + 1 ≤ sz; omega, rfl⟩, fun x hx => (ok1.asc.mem_le x hx).2, fun R2 zs2 H8 s8 hR2 e8 p8 => ?_⟩
      have s7 := (s2.trans s3).trans q
      refine ⟨R2, _, _, _, _, zs2, rfl, s7.trans s8, s7.free hR2, e8, ?_⟩
      rw [et2]
      unfold runsP
      rw [List.foldl_append]
      exact p8
    · rintro σ H2 ⟨L, v3, v4, v5, v6, zs, rfl, s2, hL, e2, pz⟩
      rw [List.take_of_length_le (by omega)] at pz
      exact ⟨_, rfl, hQ L zs H2 s2 hL e2 pz⟩
end
end Aw

namespace Aw
open PySem PySem.Spec PyProof.Rows L2 NdefX
def loB (f l : V) : Bool := match l with
  | .int i => numB f 0 i
  | _ => false
/-- three values are a run of a size -/
def rB (xs : List V) (s : Int) : Bool := match xs with
  | [f, l, c] => numB l 0 (s - 1) && (loB f l && numB c 1 4)
  | _ => false
theorem kitLT {K : PySem.W.Frag} {a : String} {b1 b2 : Bool} (h1 : kitB a "list" = some b1) (h2 : kitB a "tuple" = some b2) : PySem.W.kitAny K (.type a) [.type "list", .type "tuple"] = some (b1 || b2) :=
  kitAny_cons (b := b1) (r := b1 || b2) (kit_ty h1) (fun e => by
    rw [e]
    exact kitAny_cons (b := b2) (r := false || b2) (kit_ty h2) (fun e2 => by rw [e2]; rfl) (fun e2 => by rw [e2]; rfl)) (fun e => by rw [e]; rfl)
/-- a value that may be a run; whether it is one -/
inductive RunV (H : Hp) (s : Int) : V → Bool → Prop
  | str (x : Str) : RunV H s (.str x) false
  | non : RunV H s .non false
  | bl (b : Bool) : RunV H s (.bl b) false
  | int (i : Int) : RunV H s (.int i) false
  | dct {a : Addr} {kvs : List (Key × V)} (h : H a = some (.dK kvs)) : RunV H s (.ref a) false
  | seq {a : Addr} {xs : List V} (h : SeqH H a xs) (hx : ∀ x ∈ xs, VOk H x) : RunV H s (.ref a) (rB xs s)
theorem RunV.same {H H' : Hp} {s : Int} (k : Same H H') : ∀ {v : V} {b : Bool}, RunV H s v b → RunV H' s v b
  | _, _, .str x => .str x
  | _, _, .non => .non
  | _, _, .bl b => .bl b
  | _, _, .int i => .int i
  | _, _, .dct h => .dct (k _ _ h)
  | _, _, .seq h hx => .seq (h.same k) fun x m => (hx x m).same k
theorem RunV.kit {K : PySem.W.Frag} {H : Hp} {s : Int} {v : V} {b : Bool} (h : RunV H s v b) :
    (b = false ∧ ∀ H', Same H H' → ∃ t, TyX K H' v t ∧ PySem.W.kitAny K t [.type "list", .type "tuple"] = some false) ∨
    (∃ a xs, v = .ref a ∧ SeqH H a xs ∧ (∀ x ∈ xs, VOk H x) ∧ b = rB xs s ∧ ∀ H', Same H H' → ∃ t, TyX K H' v t ∧ PySem.W.kitAny K t [.type "list", .type "tuple"] = some true) := by
  cases h with
  | str x => exact .inl ⟨rfl, fun H' k => ⟨_, .base (.str x), kitLT (show kitB "str" "list" = some false by decide +kernel) (show kitB "str" "tuple" = some false by decide +kernel)⟩⟩
  | non => exact .inl ⟨rfl, fun H' k => ⟨_, .base .non, kitLT (show kitB "NoneType" "list" = some false by decide +kernel) (show kitB "NoneType" "tuple" = some false by decide +kernel)⟩⟩
  | bl b => exact .inl ⟨rfl, fun H' k => ⟨_, .base (.bl b), kitLT (show kitB "bool" "list" = some false by decide +kernel) (show kitB "bool" "tuple" = some false by decide +kernel)⟩⟩
  | int i => exact .inl ⟨rfl, fun H' k => ⟨_, .base (.int i), kitLT (show kitB "int" "list" = some false by decide +kernel) (show kitB "int" "tuple" = some false by decide +kernel)⟩⟩
  | dct h => exact .inl ⟨rfl, fun H' k => ⟨_, .base (.dK (k _ _ h)), kitLT (show kitB "dict" "list" = some false by decide +kernel) (show kitB "dict" "tuple" = some false by decide +kernel)⟩⟩
  | seq h hx =>
    refine .inr ⟨_, _, rfl, h, hx, rfl, fun H' k => ?_⟩
    rcases h with h | h
    · exact ⟨_, .base (.lst (k _ _ h)), kitLT (show kitB "list" "list" = some true by decide +kernel) (show kitB "list" "tuple" = some false by decide +kernel)⟩
    · exact ⟨_, .base (.tup (k _ _ h)), kitLT (show kitB "tuple" "list" = some false by decide +kernel) (show kitB "tuple" "tuple" = some true by decide +kernel)⟩
theorem rB_run {f l c s : Int} : rB [.int f, .int l, .int c] s = true ↔ RunOk (f, l, c) s := by
  show ((decide (0 ≤ l) && decide (l ≤ s - 1)) && ((decide (0 ≤ f) && decide (f ≤ l)) && (decide (1 ≤ c) && decide (c ≤ 4)))) = true ↔ _
  simp only [Bool.and_eq_true, decide_eq_true_eq]
  exact ⟨fun z => ⟨z.2.1.1, z.2.1.2, by show l < s; omega, z.2.2.1, z.2.2.2⟩, fun z => by
    obtain ⟨a, b, d, e, g⟩ := z
    dsimp only at a b d e g
    exact ⟨⟨by omega, by omega⟩, ⟨a, b⟩, e, g⟩⟩
def spIsRun : Sp := fun vs H Q _ => ∃ (v : V) (s : Int) (b : Bool), vs = [v, .int s] ∧ RunV H s v b ∧ ∀ H', Same H H' → Q (.bl b) H'
section
variable {P : Program} {w : World} {K : PySem.W.Frag} {mg : Str → Option Value} {base : Heap}
structure TxtRun (K : PySem.W.Frag) (mg : Str → Option Value) (fN : Addr) (nd' : FuncData) (t4 : Tok) : Prop where
  isi : mg "isinstance" = none
  list : mg "list" = none
  tup : mg "tuple" = none
  len : mg "len" = none
  int : mg "int" = none
  bool : mg "bool" = none
  FN : Fun K "is_number" "is_number" sNum fN nd'
  bN : Binds K nd' ["value", "low", "high"] []
  gN : mg "is_number" = some (.ref fN)
  g4 : mg "MOST_STEP" = some (.int 4 t4)
theorem scIsRun : FnScope ["run", "size", "first", "last", "step"] ["run", "size"] (defScope sIsRun) := ⟨rfl, rfl, rfl, by decide +kernel, rfl, by decide +kernel, by decide +kernel⟩
theorem ok_isrun {f fN : Addr} {fd nd' : FuncData} {t4 : Tok} (F : Fun K "is_run" "is_run" sIsRun f fd) (W : TxtRun K mg fN nd' t4) : FnOk P w K mg base CX0 2 f fd ["run", "size"] spIsRun := by
  have GN : FnOk P w K mg base CX0 1 fN nd' ["value", "low", "high"] spNum := ok_num W.FN W.isi W.int W.bool
  refine F.ok scIsRun (fun vs H Q E h => ?_) (fun cdv A outer s H vs Q E hr h => ?_)
  · obtain ⟨v, s, b, rfl, _⟩ := h
    rfl
  · obtain ⟨v, sz, b, rfl, rv, hQ⟩ := h
    have nd := scIsRun.nd
    refine ⟨_, (pss_cons (ps_if (PW.pt (pw_or (pt_not (pt_val (pe_callB call_isiT (by rfl) W.isi (by decide +kernel) (pa_cons (pv 0) (pa_cons (pe_tup (pa_cons (pe_bltn (v := .ty "list") (by rfl) W.list (by decide +kernel) rfl) (pa_cons (pe_bltn (v := .ty "tuple") (by rfl) W.tup (by decide +kernel) rfl) pa_nil))) pa_nil))))) (pw_or1 (pt_cmpR op_ne (pe_callB call_len_seq (by rfl) W.len PySem.boot_len (pa_cons (pv 0) pa_nil)) pe_int (nomark _)))))
        (pss_one (ps_ret pe_bl)) pss_nil)
      (pss_cons (ps_asg (pv 0) (pg_seq rfl (pgs_cons (pg_name (i := 2) nd rfl (Or.inl rfl)) (pgs_cons (pg_name (i := 3) nd rfl (Or.inl rfl)) (pgs_cons (pg_name (i := 4) nd rfl (Or.inl rfl)) pgs_nil)))))
      (pss_one (ps_ret (pe_and (pe_call GN (hr.mono (by decide)) (by rfl) W.gN W.FN.kp W.bN .nil pass0 (pa_cons (pv 3) (pa_cons pe_int (pa_cons (pe_op op_sub (pv 1) pe_int) pa_nil)))) (pe_and (pe_call GN (hr.mono (by decide)) (by rfl) W.gN W.FN.kp W.bN .nil pass0 (pa_cons (pv 2) (pa_cons pe_int (pa_cons (pv 3) pa_nil)))) (pe_one (pe_call GN (hr.mono (by decide)) (by rfl) W.gN W.FN.kp W.bN .nil pass0 (pa_cons (pv 4) (pa_cons pe_int (pa_cons (pe_glob (v := .int 4) (by rfl) W.g4 ⟨_, rfl⟩) pa_nil))))))))))), ?_⟩
    -- BODY
    refine ⟨_, rfl, by show 2 ≤ sizeLine; decide, fun T hT => ?_⟩
    have sT := same_upd (o := .tup [.ty "list", .ty "tuple"]) hT
    have eT : upd H T (.tup [.ty "list", .ty "tuple"]) T = some (.tup [.ty "list", .ty "tuple"]) := upd_same
    generalize upd H T (.tup [.ty "list", .ty "tuple"]) = H1 at *
    rcases rv.kit (K := K) with ⟨rfl, kt⟩ | ⟨a, xs, rfl, sq, hx, rfl, kt⟩
    · obtain ⟨t, ty, ka⟩ := kt H1 sT
      refine ⟨v, T, _, t, _, false, rfl, eT, .cons (.ty _) (.cons (.ty _) .nil), ty, ka, ?_⟩
      exact ⟨_, rfl, iteT (iteT (hQ _ sT))⟩
    · obtain ⟨t, ty, ka⟩ := kt H1 sT
      have sq1 := sq.same sT
      refine ⟨_, T, _, t, _, true, rfl, eT, .cons (.ty _) (.cons (.ty _) .nil), ty, ka, ?_⟩
      refine ⟨_, rfl, iteF ?_⟩
      refine ⟨_, rfl, a, xs, rfl, sq1.sq, rfl, _, rfl, ite_ndec (fun g => ?_) (fun g => ?_)⟩
      · have ne : xs.length ≠ 3 := fun z => g (by rw [z]; rfl)
        have e : rB xs sz = false := by
          match xs with
          | [] => rfl
          | [_] => rfl
          | [_, _] => rfl
          | [_, _, _] => exact absurd rfl ne
          | _ :: _ :: _ :: _ :: _ => rfl
        rw [e] at hQ
        exact hQ _ sT
      · have l3 : xs.length = 3 := Int.ofNat_inj.mp (V.int.inj g)
        obtain ⟨f, l, c, rfl⟩ : ∃ f l c, xs = [f, l, c] := by
          match xs, l3 with
          | [f, l, c], _ => exact ⟨f, l, c, rfl⟩
        have of' := (hx f (by simp)).same sT
        have ol := (hx l (by simp)).same sT
        have oc := (hx c (by simp)).same sT
        refine nxt ?_
        dsimp only
        refine ⟨_, rfl, a, _, rfl, sq1.sq, rfl, _, _, rfl, _, _, rfl, _, _, rfl, rfl, ?_⟩
        refine ⟨_, rfl, _, rfl, sz, 1, rfl, rfl, l, 0, sz - 1, rfl, ol, ?_⟩
        have hQ : ∀ H', Same H H' → Q (.bl (numB l 0 (sz - 1) && (loB f l && numB c 1 4))) H' := hQ
        refine ⟨_, rfl, ?_⟩
        cases e1 : numB l 0 (sz - 1) with
        | false =>
          rw [e1] at hQ
          exact iteF (hQ _ sT)
        | true =>
          obtain ⟨li, rfl⟩ : ∃ li, l = .int li := by
            cases l with
            | int i => exact ⟨i, rfl⟩
            | _ => exact Bool.noConfusion e1
          rw [e1] at hQ
          have hQ : ∀ H', Same H H' → Q (.bl (numB f 0 li && numB c 1 4)) H' := hQ
          refine iteT ?_
          refine ⟨_, rfl, _, rfl, f, 0, li, rfl, of', _, rfl, ?_⟩
          cases e2 : numB f 0 li with
          | false =>
            rw [e2] at hQ
            exact iteF (hQ _ sT)
          | true =>
            rw [e2] at hQ
            refine iteT ?_
            exact ⟨_, rfl, c, 1, 4, rfl, oc, hQ _ sT⟩
end
end Aw

namespace Aw
open PySem PySem.Spec PyProof.Rows L2 NdefX
def spWidth : Sp := fun vs H Q _ => ∃ d : Nat, vs = [.int (d : Nat)] ∧ d ≤ 1000 ∧ Q (.int ((12 * 2 ^ d : Nat) : Int)) H
def spFull : Sp := fun vs H Q _ => ∃ d : Nat, vs = [.int (d : Nat)] ∧ d ≤ 1000000 ∧ Q (.int ((2 ^ d - 1 : Nat) : Int)) H
section
variable {P : Program} {w : World} {K : PySem.W.Frag} {mg : Str → Option Value} {base : Heap}
theorem scWidth : FnScope ["depth"] ["depth"] (defScope sWidth) := ⟨rfl, rfl, rfl, by decide +kernel, rfl, by decide +kernel, by decide +kernel⟩
theorem scFull : FnScope ["many"] ["many"] (defScope sFull) := ⟨rfl, rfl, rfl, by decide +kernel, rfl, by decide +kernel, by decide +kernel⟩
theorem ok_width {f : Addr} {fd : FuncData} {t12 : Tok} (F : Fun K "width" "width" sWidth f fd) (gB : mg "BASE" = some (.int 12 t12)) : FnOk P w K mg base CX0 1 f fd ["depth"] spWidth := by
  refine F.ok scWidth (fun vs H Q E h => ?_) (fun cdv A outer s H vs Q E hr h => ?_)
  · obtain ⟨d, rfl, _⟩ := h
    rfl
  · obtain ⟨d, rfl, hd, hQ⟩ := h
    have nd := scWidth.nd
    refine ⟨_, (pss_one (ps_ret (pe_op op_shl (pe_glob (v := .int 12) (by rfl) gB ⟨_, rfl⟩) (pv 0)))), ?_⟩
    refine ⟨_, rfl, 12, (d : Nat), rfl, rfl, ⟨by omega, by omega, by decide⟩, ?_⟩
    have e : (12 : Int) * 2 ^ ((d : Nat) : Int).toNat = ((12 * 2 ^ d : Nat) : Int) := by
      rw [Int.toNat_natCast, Int.natCast_mul, Int.natCast_pow]
      rfl
    show Q (.int ((12 : Int) * 2 ^ ((d : Nat) : Int).toNat)) H
    rw [e]
    exact hQ
theorem ok_full {f : Addr} {fd : FuncData} (F : Fun K "full" "full" sFull f fd) : FnOk P w K mg base CX0 1 f fd ["many"] spFull := by
  refine F.ok scFull (fun vs H Q E h => ?_) (fun cdv A outer s H vs Q E hr h => ?_)
  · obtain ⟨d, rfl, _⟩ := h
    rfl
  · obtain ⟨d, rfl, hd, hQ⟩ := h
    have nd := scFull.nd
    refine ⟨_, (pss_one (ps_ret (pe_op op_sub (pe_op op_shl pe_int (pv 0)) pe_int))), ?_⟩
    refine ⟨_, rfl, 1, (d : Nat), rfl, rfl, ⟨by omega, by omega, by decide⟩, _, 1, rfl, rfl, ?_⟩
    have e : (1 : Int) * 2 ^ ((d : Nat) : Int).toNat - 1 = ((2 ^ d - 1 : Nat) : Int) := by
      rw [Int.toNat_natCast, Int.one_mul, Int.natCast_sub (Nat.one_le_two_pow), Int.natCast_pow]
      rfl
    show Q (.int ((1 : Int) * 2 ^ ((d : Nat) : Int).toNat - 1)) H
    rw [e]
    exact hQ
end
end Aw

namespace Aw
open PySem PySem.Spec PyProof.Rows L2 NdefX
/-! ### how many bits, how many places -/
def popW (m w : Nat) : Nat := ((List.range w).filter fun i => m.testBit i).length
theorem popW_succ {m w : Nat} : popW m (w + 1) = m % 2 + popW (m / 2) w := by
  unfold popW
  rw [List.range_succ_eq_map]
  have e : ((List.range w).map Nat.succ).filter (fun i => m.testBit i) = ((List.range w).filter fun i => (m / 2).testBit i).map Nat.succ := by
    rw [List.filter_map]
    congr 1
    apply List.filter_congr
    intro i _
    show m.testBit (i + 1) = _
    rw [Nat.testBit_succ]
  by_cases z : m.testBit 0 = true
  · rw [List.filter_cons_of_pos (p := fun i => m.testBit i) z, e, List.length_cons, List.length_map]
    rw [Nat.testBit_zero] at z
    have := of_decide_eq_true z
    omega
  · rw [List.filter_cons_of_neg (p := fun i => m.testBit i) z, e, List.length_map]
    rw [Nat.testBit_zero] at z
    have : ¬ m % 2 = 1 := fun h => z (decide_eq_true h)
    omega
theorem popW_le {m w : Nat} : popW m w ≤ w := by
  unfold popW
  exact Nat.le_trans (List.length_filter_le _ _) (by rw [List.length_range]; exact Nat.le_refl _)
theorem bin_lt {n : Nat} (h : n < 2) : binC n = [48 + n] := by
  unfold binC
  rw [Nat.toDigits_of_lt_base h]
  rcases (show n = 0 ∨ n = 1 by omega) with rfl | rfl <;> rfl
theorem bin_ge {n : Nat} (h : 2 ≤ n) : binC n = binC (n / 2) ++ [48 + n % 2] := by
  unfold binC
  rw [Nat.toDigits_of_base_le (by decide) h, List.map_append]
  rcases (show n % 2 = 0 ∨ n % 2 = 1 by omega) with e | e <;> rw [e] <;> rfl
/-- the bits of a number, from the last sign on -/
theorem bin_at : ∀ (w n : Nat), n < 2 ^ w → 0 < w → ∀ i, (binC n).reverse[i]? = if i < (binC n).length then some (if n.testBit i then 49 else 48) else none
  | 0, _, _, h, _ => absurd h (Nat.lt_irrefl _)
  | w + 1, n, hn, _, i => by
    by_cases z : n < 2
    · rw [bin_lt z]
      cases i with
      | zero =>
        rcases (show n = 0 ∨ n = 1 by omega) with rfl | rfl <;> rfl
      | succ i => rfl
    · have w0 : 0 < w := by
        rcases Nat.eq_zero_or_pos w with e | e
        · rw [e] at hn
          exact absurd hn (by show ¬ n < 2; omega)
        · exact e
      have hp : 2 ^ (w + 1) = 2 * 2 ^ w := by rw [Nat.pow_succ, Nat.mul_comm]
      have ih := bin_at w (n / 2) (by omega) w0
      rw [bin_ge (by omega), List.reverse_append, List.length_append]
      cases i with
      | zero =>
        show some (48 + n % 2) = if 0 < (binC (n / 2)).length + 1 then _ else _
        rw [if_pos (Nat.succ_pos _), Nat.testBit_zero]
        rcases (show n % 2 = 0 ∨ n % 2 = 1 by omega) with e | e <;> rw [e] <;> rfl
      | succ i =>
        show (binC (n / 2)).reverse[i]? = if i + 1 < (binC (n / 2)).length + 1 then _ else _
        rw [ih i, Nat.testBit_succ]
        by_cases q : i < (binC (n / 2)).length
        · rw [if_pos q, if_pos (Nat.succ_lt_succ q)]
        · rw [if_neg q, if_neg (fun h => q (Nat.lt_of_succ_lt_succ h))]
theorem bin_len : ∀ (w n : Nat), n < 2 ^ w → (binC n).length ≤ w + 1
  | 0, n, h => by
    have h : n < 1 := h
    rw [bin_lt (by omega)]
    exact Nat.le_refl _
  | w + 1, n, h => by
    by_cases z : n < 2
    · rw [bin_lt z]
      show 1 ≤ _
      omega
    · have hp : 2 ^ (w + 1) = 2 * 2 ^ w := by rw [Nat.pow_succ, Nat.mul_comm]
      have := bin_len w (n / 2) (by omega)
      rw [bin_ge (by omega), List.length_append]
      show _ + 1 ≤ _
      omega
theorem cnt_bin : ∀ (w n : Nat), n < 2 ^ w → cnt 49 (binC n) = (popW n w : Nat)
  | 0, n, h => by
    have h : n < 1 := h
    rw [bin_lt (by omega), show n = 0 by omega]
    rfl
  | w + 1, n, h => by
    have hp : 2 ^ (w + 1) = 2 * 2 ^ w := by rw [Nat.pow_succ, Nat.mul_comm]
    have c1 : ∀ k, k < 2 → cnt 49 [48 + k] = (k : Nat) := fun k hk => by rcases (show k = 0 ∨ k = 1 by omega) with rfl | rfl <;> rfl
    rw [popW_succ]
    by_cases z : n < 2
    · have h0 := cnt_bin w 0 (Nat.two_pow_pos w)
      rw [bin_lt (by decide)] at h0
      have h0 : (0 : Int) = (popW 0 w : Nat) := h0
      rw [bin_lt z, c1 n z, show n / 2 = 0 by omega]
      omega
    · have ih := cnt_bin w (n / 2) (by omega)
      rw [bin_ge (by omega), cnt_append, ih, c1 (n % 2) (by omega)]
      omega
/-- how many places below p are marked if the mask holds for all -/
def cntF (m w p : Nat) : Nat := ((List.range p).filter fun j => m.testBit (j % w)).length
theorem cntF_add {m w a b : Nat} : cntF m w (a + b) = cntF m w a + ((List.range b).filter fun j => m.testBit ((a + j) % w)).length := by
  unfold cntF
  rw [List.range_add, List.filter_append, List.length_append, List.filter_map, List.length_map]
  rfl
theorem cntF_lt {m w r : Nat} (h : r ≤ w) : cntF m w r = popW m r := by
  unfold cntF popW
  congr 1
  apply List.filter_congr
  intro j hj
  rw [Nat.mod_eq_of_lt (Nat.lt_of_lt_of_le (List.mem_range.mp hj) h)]
theorem cntF_lap {m w r : Nat} (h : r ≤ w) : ∀ q, cntF m w (q * w + r) = q * popW m w + popW m r
  | 0 => by rw [Nat.zero_mul, Nat.zero_mul, Nat.zero_add, Nat.zero_add]; exact cntF_lt h
  | q + 1 => by
    have e : (q + 1) * w + r = w + (q * w + r) := by rw [Nat.succ_mul]; omega
    have e2 : ((List.range (q * w + r)).filter fun j => m.testBit ((w + j) % w)) = (List.range (q * w + r)).filter fun j => m.testBit (j % w) := by
      apply List.filter_congr
      intro j _
      rw [Nat.add_mod_left]
    rw [e, cntF_add, e2, cntF_lt (Nat.le_refl w)]
    show popW m w + cntF m w (q * w + r) = _
    rw [cntF_lap h q, Nat.succ_mul]
    omega
theorem popW_mod {m r : Nat} : popW (m % 2 ^ r) r = popW m r := by
  unfold popW
  congr 1
  apply List.filter_congr
  intro i hi
  rw [Nat.testBit_mod_two_pow, decide_eq_true (List.mem_range.mp hi), Bool.true_and]
end Aw

namespace Aw
open PySem PySem.Spec PyProof.Rows L2 NdefX
def spManyB : Sp := fun vs H Q _ => ∃ m w : Nat, vs = [.int (m : Nat)] ∧ m < 2 ^ w ∧ w ≤ 900 ∧ Q (.int (popW m w : Nat)) H
def spUpto : Sp := fun vs H Q _ => ∃ m w p : Nat, vs = [.int (m : Nat), .int (w : Nat), .int (p : Nat)] ∧ m < 2 ^ w ∧ 0 < w ∧ w ≤ 900 ∧ ∀ H', Same H H' → Q (.int (cntF m w p : Nat)) H'
section
variable {P : Program} {w : World} {K : PySem.W.Frag} {mg : Str → Option Value} {base : Heap}
theorem scManyB : FnScope ["mask", "text"] ["mask"] (defScope sManyB) := ⟨rfl, rfl, rfl, by decide +kernel, rfl, by decide +kernel, by decide +kernel⟩
theorem scUpto : FnScope ["mask", "wide", "place", "laps", "rest"] ["mask", "wide", "place"] (defScope sUpto) := ⟨rfl, rfl, rfl, by decide +kernel, rfl, by decide +kernel, by decide +kernel⟩
theorem count_bin {m w : Nat} (h : m < 2 ^ w) : Txt.count (binT m) "1" = (popW m w : Nat) := by
  have e := count_is (binT m) 49
  have e2 := cnt_bin w m h
  exact e.trans e2
theorem ok_manyb {f : Addr} {fd : FuncData} (F : Fun K "many_bits" "many_bits" sManyB f fd) : FnOk P w K mg base CX0 1 f fd ["mask"] spManyB := by
  refine F.ok scManyB (fun vs H Q E h => ?_) (fun cdv A outer s H vs Q E hr h => ?_)
  · obtain ⟨m, wd, rfl, _⟩ := h
    rfl
  · obtain ⟨m, wd, rfl, hm, hw, hQ⟩ := h
    have nd := scManyB.nd
    refine ⟨_, (pss_cons (ps_set (i := 1) nd rfl (Or.inl rfl) (pe_joined1 (pe_fmtB (pe_joined1 pe_str) (pv 0))))
      (pss_one (ps_ret (pe_bm PySem.F.plainAttrs_str PySem.F.slot_str_count PySem.F.type_str_count mt_count (pv 1) (pa_cons pe_str pa_nil))))), ?_⟩
    -- BODY
    have bl := bin_len wd m hm
    refine ⟨_, rfl, m, rfl, Nat.le_trans (show (binC m).length ≤ 1000 by omega) kz, ?_⟩
    refine ⟨_, rfl, rfl, binT m, "1", rfl, rfl, ?_⟩
    rw [count_bin hm]
    exact hQ
structure TxtUp (K : PySem.W.Frag) (mg : Str → Option Value) (fB fF : Addr) (bd fd : FuncData) : Prop where
  dm : mg "divmod" = none
  FB : Fun K "many_bits" "many_bits" sManyB fB bd
  bB : Binds K bd ["mask"] []
  gB : mg "many_bits" = some (.ref fB)
  FF : Fun K "full" "full" sFull fF fd
  bF : Binds K fd ["many"] []
  gF : mg "full" = some (.ref fF)
theorem ok_upto {f fB fF : Addr} {fd bd ffd : FuncData} (F : Fun K "many_upto" "many_upto" sUpto f fd) (W : TxtUp K mg fB fF bd ffd) : FnOk P w K mg base CX0 2 f fd ["mask", "wide", "place"] spUpto := by
  have GB : FnOk P w K mg base CX0 1 fB bd ["mask"] spManyB := ok_manyb W.FB
  have GF : FnOk P w K mg base CX0 1 fF ffd ["many"] spFull := ok_full W.FF
  refine F.ok scUpto (fun vs H Q E h => ?_) (fun cdv A outer s H vs Q E hr h => ?_)
  · obtain ⟨m, wd, p, rfl, _⟩ := h
    rfl
  · obtain ⟨m, wd, p, rfl, hm, w0, hw, hQ⟩ := h
    have nd := scUpto.nd
    refine ⟨_, (pss_cons (ps_asg (pe_callB call_divmod (by rfl) W.dm (by decide +kernel) (pa_cons (pv 2) (pa_cons (pv 1) pa_nil))) (pg_tup rfl (pgs_cons (pg_name (i := 3) nd rfl (Or.inl rfl)) (pgs_cons (pg_name (i := 4) nd rfl (Or.inl rfl)) pgs_nil))))
      (pss_one (ps_ret (pe_op op_add (pe_op op_mul (pv 3) (pe_call GB (hr.mono (by decide)) (by rfl) W.gB W.FB.kp W.bB .nil pass0 (pa_cons (pv 0) pa_nil))) (pe_call GB (hr.mono (by decide)) (by rfl) W.gB W.FB.kp W.bB .nil pass0 (pa_cons (pe_op op_and (pv 0) (pe_call GF (hr.mono (by decide)) (by rfl) W.gF W.FF.kp W.bF .nil pass0 (pa_cons (pv 4) pa_nil))) pa_nil)))))), ?_⟩
    -- BODY
    have cd : CDiv (p : Nat) (wd : Nat) := by
      exact ⟨by omega, by omega⟩
    refine ⟨_, rfl, _, rfl, (p : Nat), (wd : Nat), rfl, cd, fun T hT => ?_⟩
    have sT := same_upd (o := .tup [.int ((p : Nat) / (wd : Nat)), .int ((p : Nat) % (wd : Nat))]) hT
    refine ⟨T, _, rfl, SqT.of upd_same, rfl, _, _, rfl, _, _, rfl, rfl, ?_⟩
    have r1 : p % wd < wd := Nat.mod_lt _ w0
    have lp := popW_le (m := m) (w := wd)
    have bw : ((popW m wd : Nat) : Int) < 2 ^ 64 := by
      have : ((popW m wd : Nat) : Int) ≤ 900 := by omega
      exact Int.lt_of_le_of_lt this (by decide)
    have mm : m % 2 ^ (p % wd) < 2 ^ (p % wd) := Nat.mod_lt _ (Nat.two_pow_pos _)
    refine ⟨_, rfl, _, rfl, m, wd, rfl, hm, hw, _, _, rfl, rfl, .inr ⟨by omega, bw⟩, _, rfl, _, rfl, p % wd, rfl, by omega, _, _, rfl, rfl, m % 2 ^ (p % wd), p % wd, ?_, mm, by omega, _, _, rfl, rfl, ?_⟩
    · have e : Builtin.bitAnd ((m : Nat) : Int) ((2 ^ (p % wd) - 1 : Nat) : Int) = ((m % 2 ^ (p % wd) : Nat) : Int) := by
        rw [bitAnd_pp (Int.natCast_nonneg _) (Int.natCast_nonneg _), Int.toNat_natCast, Int.toNat_natCast, Nat.and_two_pow_sub_one_eq_mod]
      show [V.int (Builtin.bitAnd ((m : Nat) : Int) ((2 ^ (p % wd) - 1 : Nat) : Int))] = _
      rw [e]
    · have e : ((p : Nat) : Int) / (wd : Nat) * (popW m wd : Nat) + (popW (m % 2 ^ (p % wd)) (p % wd) : Nat) = (cntF m wd p : Nat) := by
        have l := cntF_lap (m := m) (w := wd) (r := p % wd) (Nat.le_of_lt r1) (p / wd)
        rw [show p / wd * wd + p % wd = p from Nat.div_add_mod' p wd] at l
        rw [l, popW_mod, Int.natCast_add, Int.natCast_mul]
        rfl
      have hq := hQ _ sT
      rw [← e] at hq
      exact hq
end
end Aw

namespace Aw
open PySem PySem.Spec PyProof.Rows L2 NdefX
/-! ### how many marks are below a place -/
/-- ends that do not descend, from a to s -/
def WscE : Int → List Int → Int → Prop
  | a, [], s => a = s
  | a, e :: r, s => a ≤ e ∧ WscE e r s
theorem WscE.le : ∀ {a s : Int} {l : List Int}, WscE a l s → a ≤ s
  | _, _, [], h => Int.le_of_eq h
  | _, _, _ :: _, h => Int.le_trans h.1 h.2.le
theorem Asc.wsc : ∀ {a s : Int} {P : Pcs}, Asc a P s → WscE a (P.map fun x => x.1) s
  | _, _, [], h => h
  | _, _, (_, _) :: _, h => ⟨Int.le_of_lt h.1, h.2.wsc⟩
/-- ends that do not descend, from a on -/
def UpE : Int → Pcs → Prop
  | _, [] => True
  | a, (e, _) :: r => a ≤ e ∧ UpE e r
theorem WscE.up : ∀ {a s : Int} {P : Pcs}, WscE a (P.map fun x => x.1) s → UpE a P
  | _, _, [], _ => trivial
  | _, _, (_, _) :: _, h => ⟨h.1, WscE.up h.2⟩
theorem UpE.drop : ∀ {a e : Int} {o : Pcs}, UpE a o → UpE e (o.dropWhile fun x => decide (x.1 < e))
  | _, _, [], _ => trivial
  | a, e, (f, n) :: o, h => by
    rw [List.dropWhile_cons]
    by_cases z : f < e
    · rw [decide_eq_true z]
      exact h.2.drop
    · rw [decide_eq_false z]
      exact ⟨by show e ≤ f; omega, h.2⟩
theorem UpE.take : ∀ {o : Pcs} {a e s : Int} {m : Nat} {y : Nat × Nat} {T : Trip}, UpE a o → a ≤ e → WscE e (T.map fun x => x.1) s →
    WscE a ((((o.takeWhile fun x => decide (x.1 < e)).map fun x => (x.1, m, x.2)) ++ (e, y) :: T).map fun x => x.1) s
  | [], _, _, _, _, _, _, _, ha, hT => ⟨ha, hT⟩
  | (f, n) :: o, a, e, s, m, y, T, h, ha, hT => by
    rw [List.takeWhile_cons]
    by_cases z : f < e
    · rw [decide_eq_true z]
      exact ⟨h.1, h.2.take (by omega) hT⟩
    · rw [decide_eq_false z]
      exact ⟨ha, hT⟩
theorem merge_wsc : ∀ {P o : Pcs} {a s : Int}, WscE a (P.map fun x => x.1) s → UpE a o → WscE a ((mergeF P o).map fun x => x.1) s
  | [], _, _, _, h, _ => h
  | (e, m) :: r, o, a, s, h, ho => UpE.take (e := e) (m := m) (y := (m, ((o.dropWhile fun x : Int × Nat => decide (x.1 < e)).headD (0, 0)).2)) ho h.1 (merge_wsc (P := r) h.2 (ho.drop (e := e)))
theorem join_wsc {g : Nat → Nat → Nat} {P o : Pcs} {a s : Int} (h : WscE a (P.map fun x => x.1) s) (ho : UpE a o) : WscE a ((joinF g P o).map fun x => x.1) s := by
  unfold joinF
  rw [List.map_map]
  exact merge_wsc h ho
/-- the number of marks below p -/
def nMk (P : Pcs) (w p : Nat) : Nat := ((List.range p).filter fun j : Nat => markF P w (j : Nat)).length
theorem nMk_step {P : Pcs} {w m b e : Nat} (be : b ≤ e) (h : ∀ j : Nat, b ≤ j → j < e → maskAt P (j : Nat) = m) : nMk P w e + cntF m w b = nMk P w b + cntF m w e := by
  obtain ⟨d, rfl⟩ : ∃ d, e = b + d := ⟨e - b, by omega⟩
  have e1 : nMk P w (b + d) = nMk P w b + ((List.range d).filter fun j => markF P w ((b + j : Nat) : Int)).length := by
    unfold nMk
    rw [List.range_add, List.filter_append, List.length_append, List.filter_map, List.length_map]
    rfl
  have e2 : ((List.range d).filter fun j => markF P w ((b + j : Nat) : Int)) = (List.range d).filter fun j => m.testBit ((b + j) % w) := by
    apply List.filter_congr
    intro j hj
    have hj := List.mem_range.mp hj
    unfold markF
    rw [h (b + j) (by omega) (by omega)]
    rfl
  rw [e1, e2, cntF_add]
  omega
def lowT (w : Nat) (p : Int) (st : Int × Int) (x : Int × Nat) : Int × Int :=
  (if st.2 < p then st.1 + (cntF x.2 w (min x.1 p).toNat : Nat) - (cntF x.2 w st.2.toNat : Nat) else st.1, x.1)
theorem low_ok {P : Pcs} {w : Nat} {p s : Int} (p0 : 0 ≤ p) (ps : p ≤ s) : ∀ (B A : Pcs) (b many : Int), P = A ++ B → (∀ x ∈ A, x.1 ≤ b) → WscE b (B.map fun x => x.1) s → 0 ≤ b → many = (nMk P w (min b p).toNat : Nat) →
    (B.foldl (lowT w p) (many, b)).1 = (nMk P w p.toNat : Nat)
  | [], A, b, many, _, _, hw, b0, hm => by
    have hw : b = s := hw
    show many = _
    rw [hm, show min b p = p by omega]
  | (e, m) :: B, A, b, many, hP, hA, hw, b0, hm => by
    have be : b ≤ e := hw.1
    refine low_ok p0 ps B (A ++ [(e, m)]) e _ (by rw [hP, List.append_assoc]; rfl) (fun x hx => ?_) hw.2 (by omega) ?_
    · rcases List.mem_append.mp hx with hx | hx
      · exact Int.le_trans (hA x hx) be
      · rw [List.mem_singleton.mp hx]
        exact Int.le_refl _
    · show (if b < p then many + (cntF m w (min e p).toNat : Nat) - (cntF m w b.toNat : Nat) else many) = _
      by_cases z : b < p
      · rw [if_pos z, hm, show min b p = b by omega]
        have st := nMk_step (P := P) (w := w) (m := m) (b := b.toNat) (e := (min e p).toNat) (by omega) fun j h1 h2 => by
          rw [hP, maskAt_app, if_neg]
          · show (if ((j : Nat) : Int) < e then m else _) = m
            rw [if_pos (by omega)]
          · rintro ⟨x, hx, hj⟩
            have := hA x hx
            omega
        omega
      · rw [if_neg z, hm, show min b p = p by omega, show min e p = p by omega]
theorem low_all {P : Pcs} {w : Nat} {p s : Int} (p0 : 0 ≤ p) (ps : p ≤ s) (h : WscE 0 (P.map fun x => x.1) s) : (P.foldl (lowT w p) (0, 0)).1 = (nMk P w p.toNat : Nat) :=
  low_ok p0 ps P [] 0 0 rfl (fun _ h => absurd h List.not_mem_nil) h (Int.le_refl 0) (by rw [show min (0 : Int) p = 0 by omega]; rfl)
theorem nMk_zero {P : Pcs} {w p : Nat} : nMk P w p = 0 ↔ ∀ j : Nat, j < p → markF P w (j : Nat) = false := by
  unfold nMk
  rw [List.length_eq_zero_iff, List.filter_eq_nil_iff]
  exact ⟨fun h j hj => Bool.eq_false_iff.mpr (h j (List.mem_range.mpr hj)), fun h j hj => by rw [h j (List.mem_range.mp hj)]; decide⟩
end Aw

namespace Aw
open PySem PySem.Spec PyProof.Rows L2 NdefX
/-- pieces in the heap, of which the marks are counted -/
structure PcW (H : Hp) (L : Addr) (P : Pcs) (w : Nat) (s : Int) : Prop where
  ex : ∃ xs, H L = some (.lst xs) ∧ PcA H xs P
  few : P.length ≤ 900
  ends : WscE 0 (P.map fun x => x.1) s
  masks : ∀ x ∈ P, x.2 < 2 ^ w
  w0 : 0 < w
  w9 : w ≤ 900
theorem WscE.ge : ∀ {a s : Int} {l : List Int}, WscE a l s → ∀ x ∈ l, a ≤ x
  | _, _, [], _ => fun _ h => absurd h List.not_mem_nil
  | _, _, _ :: _, h => fun x hx => by
    rcases List.mem_cons.mp hx with rfl | hx
    · exact h.1
    · exact Int.le_trans h.1 (h.2.ge x hx)
def spLow : Sp := fun vs H Q _ => ∃ (L : Addr) (P : Pcs) (w : Nat) (s p : Int), vs = [.ref L, .int (w : Nat), .int p] ∧ PcW H L P w s ∧ 0 ≤ p ∧ p ≤ s ∧ ∀ H', Same H H' → Q (.int (nMk P w p.toNat : Nat)) H'
section
variable {P : Program} {w : World} {K : PySem.W.Frag} {mg : Str → Option Value} {base : Heap}
structure TxtLow (K : PySem.W.Frag) (mg : Str → Option Value) (fU fB fF : Addr) (ud bd fd : FuncData) : Prop where
  U : TxtUp K mg fB fF bd fd
  FU : Fun K "many_upto" "many_upto" sUpto fU ud
  bU : Binds K ud ["mask", "wide", "place"] []
  gU : mg "many_upto" = some (.ref fU)
  min : mg "min" = none
theorem scLow : FnScope ["pieces", "wide", "place", "many", "start", "end", "mask"] ["pieces", "wide", "place"] (defScope sLow) := ⟨rfl, rfl, rfl, by decide +kernel, rfl, by decide +kernel, by decide +kernel⟩
theorem ok_low {f fU fB fF : Addr} {fd ud bd ffd : FuncData} (F : Fun K "many_below" "many_below" sLow f fd) (W : TxtLow K mg fU fB fF ud bd ffd) : FnOk P w K mg base CX0 3 f fd ["pieces", "wide", "place"] spLow := by
  have GU : FnOk P w K mg base CX0 2 fU ud ["mask", "wide", "place"] spUpto := ok_upto W.FU W.U
  refine F.ok scLow (fun vs H Q E h => ?_) (fun cdv A outer s H vs Q E hr h => ?_)
  · obtain ⟨L, P, wd, s, p, rfl, _⟩ := h
    rfl
  · obtain ⟨L, P, wd, sz, p, rfl, ⟨⟨xs, hL, pa⟩, lP, we, ms, w0, w9⟩, p0, ps, hQ⟩ := h
    have nd := scLow.nd
    refine ⟨_, (pss_cons (ps_set (i := 3) nd rfl (Or.inl rfl) pe_int)
      (pss_cons (ps_set (i := 4) nd rfl (Or.inl rfl) pe_int)
      (pss_cons (ps_for PassesOwn.never rfl (pi_list (pv 0)) (pg_tup rfl (pgs_cons (pg_name (i := 5) nd rfl (Or.inl rfl)) (pgs_cons (pg_name (i := 6) nd rfl (Or.inl rfl)) pgs_nil)))
        (pss_cons (ps_if (pt_cmpR op_lt (pv 4) (pv 2) (nomark _))
          (pss_one (ps_set (i := 3) nd rfl (Or.inl rfl) (pe_op op_sub (pe_op op_add (pv 3) (pe_call GU (hr.mono (by decide)) (by rfl) W.gU W.FU.kp W.bU .nil pass0 (pa_cons (pv 6) (pa_cons (pv 1) (pa_cons (pe_callB (call_min2 rfl) (by rfl) W.min (by decide +kernel) (pa_cons (pv 5) (pa_cons (pv 2) pa_nil))) pa_nil))))) (pe_call GU (hr.mono (by decide)) (by rfl) W.gU W.FU.kp W.bU .nil pass0 (pa_cons (pv 6) (pa_cons (pv 1) (pa_cons (pv 4) pa_nil))))))) pss_nil)
        (pss_one (ps_set (i := 4) nd rfl (Or.inl rfl) (pv 5)))))
      (pss_one (ps_ret (pv 3)))))), ?_⟩
    -- BODY
    have lx := pa.length
    refine ⟨_, rfl, L, rfl, ⟨_, SqL.of hL⟩, ?_⟩
    refine for_list (a := L) (xs := xs) (fun i σ H2 => ∃ (v5 v6 : Option V) (many start : Int), σ = [some (.ref L), some (.int (wd : Nat)), some (.int p), some (.int many), some (.int start), v5, v6] ∧ Same H H2 ∧ (P.take i).foldl (lowT wd p) (0, 0) = (many, start) ∧ 0 ≤ start) ⟨none, none, 0, 0, rfl, fun _ _ e => e, rfl, Int.le_refl 0⟩ (fun i σ H2 _ z => by
      obtain ⟨_, _, _, _, _, s2, _⟩ := z
      exact SqL.of (s2 _ _ hL)) ?_ ?_
    · rintro i v σ H2 hv ⟨v5, v6, many, start, rfl, s2, ef, st0⟩
      obtain ⟨t, ⟨e, m⟩, rfl, ix, et⟩ := (pa.same s2).get hv
      have etk : P.take (i + 1) = P.take i ++ [(e, m)] := by rw [List.take_succ, ix]; rfl
      have mem : (e, m) ∈ P := List.mem_of_getElem? ix
      have mm : m < 2 ^ wd := ms _ mem
      have e0 : 0 ≤ e := we.ge _ (List.mem_map.mpr ⟨_, mem, rfl⟩)
      have ef2 : (P.take (i + 1)).foldl (lowT wd p) (0, 0) = lowT wd p (many, start) (e, m) := by rw [etk, List.foldl_append, ef]; rfl
      refine ⟨t, _, rfl, SqT.of et, rfl, _, _, rfl, _, _, rfl, rfl, ?_⟩
      refine ⟨_, rfl, _, rfl, start, p, rfl, rfl, _, rfl, ite_dec (fun g => ?_) (fun g => ?_)⟩
      · have em : (if p < e then p else e) = (((min e p).toNat : Nat) : Int) := by
          split <;> omega
        have es : start = ((start.toNat : Nat) : Int) := by omega
        refine ⟨_, rfl, _, rfl, _, rfl, _, rfl, _, rfl, e, p, rfl, m, wd, (min e p).toNat, by rw [← em]; rfl, mm, w0, w9, fun H3 s3 => ⟨many, _, rfl, rfl, _, rfl, _, rfl, _, rfl, m, wd, start.toNat, by rw [← es]; rfl, mm, w0, w9, fun H4 s4 => ⟨_, _, rfl, rfl, ?_⟩⟩⟩
        refine ⟨_, rfl, _, _, _, e, rfl, (s2.trans s3).trans s4, ?_, e0⟩
        rw [ef2]
        unfold lowT
        dsimp only
        rw [if_pos g]
      · refine nxt ?_
        dsimp only
        refine ⟨_, rfl, _, _, many, e, rfl, s2, ?_, e0⟩
        rw [ef2]
        unfold lowT
        dsimp only
        rw [if_neg g]
    · rintro σ H2 ⟨v5, v6, many, start, rfl, s2, ef, st0⟩
      rw [List.take_of_length_le (by omega)] at ef
      have l := low_all (P := P) (w := wd) p0 ps we
      rw [ef] at l
      have l : many = (nMk P wd p.toNat : Nat) := l
      have hq := hQ H2 s2
      rw [← l] at hq
      exact ⟨_, rfl, hq⟩
end
end Aw

namespace Aw
open PySem PySem.Spec PyProof.Rows L2 NdefX
/-! ### Marks in the heap -/
def mkF (s d : Int) (L : Addr) : List (Str × V) := [("size", .int s), ("depth", .int d), ("pieces", .ref L)]
structure MkAt (C : Addr) (H : Hp) (a : Addr) (P : Pcs) (d : Nat) (s : Int) : Prop where
  ex : ∃ dx L xs, H a = some (.ins C dx (mkF s (d : Nat) L)) ∧ H L = some (.lst xs) ∧ PcA H xs P
  few : P.length ≤ 400
  asc : Asc 0 P s
  masks : ∀ x ∈ P, x.2 < 2 ^ (12 * 2 ^ d)
  s0 : 0 < s
  d6 : d ≤ 6
theorem MkAt.same {C : Addr} {H H' : Hp} {a : Addr} {P : Pcs} {d : Nat} {s : Int} (M : MkAt C H a P d s) (k : Same H H') : MkAt C H' a P d s := by
  obtain ⟨dx, L, xs, h1, h2, h3⟩ := M.ex
  exact ⟨⟨dx, L, xs, k _ _ h1, k _ _ h2, h3.same k⟩, M.few, M.asc, M.masks, M.s0, M.d6⟩
theorem wide_le {d : Nat} (h : d ≤ 6) : 0 < 12 * 2 ^ d ∧ 12 * 2 ^ d ≤ 900 := by
  have a : 2 ^ d ≤ 2 ^ 6 := Nat.pow_le_pow_right (by decide) h
  have b := Nat.two_pow_pos d
  have e : (2 : Nat) ^ 6 = 64 := by decide
  omega
/-- x in marks -/
def inM (P : Pcs) (w : Nat) (s : Int) (x : V) : Bool := match x with
  | .int j => (decide (0 ≤ j) && decide (j ≤ s - 1)) && markF P w j
  | _ => false
structure MkCls (K : PySem.W.Frag) (C : Addr) : Prop where
  c : Cls K C
  size : NoAttr K C "size"
  depth : NoAttr K C "depth"
  pieces : NoAttr K C "pieces"
end Aw

namespace Aw
open PySem PySem.Spec PyProof.Rows L2 NdefX
def spMany (C : Addr) : Sp := fun vs H Q _ => ∃ (a : Addr) (P : Pcs) (d : Nat) (s : Int), vs = [.ref a] ∧ MkAt C H a P d s ∧ ∀ H', Same H H' → Q (.int (nMk P (12 * 2 ^ d) s.toNat : Nat)) H'
def spNone (C : Addr) : Sp := fun vs H Q _ => ∃ (a : Addr) (P : Pcs) (d : Nat) (s : Int), vs = [.ref a] ∧ MkAt C H a P d s ∧ ∀ H', Same H H' → Q (.bl (decide (nMk P (12 * 2 ^ d) s.toNat = 0))) H'
section
variable {P : Program} {w : World} {K : PySem.W.Frag} {mg : Str → Option Value} {base : Heap} {C : Addr}
structure TxtMany (K : PySem.W.Frag) (mg : Str → Option Value) (fL fU fB fF fW : Addr) (ld ud bd fd wd' : FuncData) (t12 : Tok) : Prop where
  L : TxtLow K mg fU fB fF ud bd fd
  FL : Fun K "many_below" "many_below" sLow fL ld
  bL : Binds K ld ["pieces", "wide", "place"] []
  gL : mg "many_below" = some (.ref fL)
  FW : Fun K "width" "width" sWidth fW wd'
  bW : Binds K wd' ["depth"] []
  gW : mg "width" = some (.ref fW)
  gB : mg "BASE" = some (.int 12 t12)
theorem scMany : FnScope ["self"] ["self"] (defScope sMany) := ⟨rfl, rfl, rfl, by decide +kernel, rfl, by decide +kernel, by decide +kernel⟩
theorem ok_many {f fL fU fB fF fW : Addr} {fd ld ud bd ffd wd' : FuncData} {t12 : Tok} (F : Fun K "many" "Marks.many" sMany f fd) (W : TxtMany K mg fL fU fB fF fW ld ud bd ffd wd' t12) (M : MkCls K C) : FnOk P w K mg base CX0 4 f fd ["self"] (spMany C) := by
  have GL : FnOk P w K mg base CX0 3 fL ld ["pieces", "wide", "place"] spLow := ok_low W.FL W.L
  have GW : FnOk P w K mg base CX0 1 fW wd' ["depth"] spWidth := ok_width W.FW W.gB
  refine F.ok scMany (fun vs H Q E h => ?_) (fun cdv A outer s H vs Q E hr h => ?_)
  · obtain ⟨a, P, d, s, rfl, _⟩ := h
    rfl
  · obtain ⟨a, P, d, sz, rfl, S, hQ⟩ := h
    have nd := scMany.nd
    refine ⟨_, (pss_one (ps_ret (pe_call GL (hr.mono (by decide)) (by rfl) W.gL W.FL.kp W.bL .nil pass0 (pa_cons (pe_fld (pv 0) rfl) (pa_cons (pe_call GW (hr.mono (by decide)) (by rfl) W.gW W.FW.kp W.bW .nil pass0 (pa_cons (pe_fld (pv 0) rfl) pa_nil)) (pa_cons (pe_fld (pv 0) rfl) pa_nil)))))), ?_⟩
    obtain ⟨dx, L, xs, hA, hL, pa⟩ := S.ex
    obtain ⟨w0, w9⟩ := wide_le S.d6
    have fw := S.few
    refine ⟨_, rfl, a, C, dx, _, .ref L, rfl, hA, M.c, M.pieces, rfl, _, rfl, a, C, dx, _, .int (d : Nat), rfl, hA, M.c, M.depth, rfl, d, rfl, by have := S.d6; omega, _, rfl, a, C, dx, _, .int sz, rfl, hA, M.c, M.size, rfl, ?_⟩
    exact ⟨L, P, 12 * 2 ^ d, sz, sz, rfl, ⟨⟨xs, hL, pa⟩, by omega, S.asc.wsc, S.masks, w0, w9⟩, Int.le_of_lt S.s0, Int.le_refl _, hQ⟩
end
end Aw

namespace Aw
open PySem PySem.Spec PyProof.Rows L2 NdefX
/-- a def that raises nothing where what it is asked for is good -/
theorem quiet {P : Program} {w : World} {K : PySem.W.Frag} {mg : Str → Option Value} {base : Heap} {k : Nat} {f : Addr} {fd : FuncData} {ps : List Str} {sp : Sp} (F : FnOk P w K mg base (L2.CX P w) k f fd ps sp) :
    FnOk P w K mg base CX0 k f fd ps (fun vs H Q _ => sp vs H Q E0) :=
  ⟨fun vs H Q E h => F.len _ _ _ _ h, fun A outer s H args us vs Q E hr he hb hv hs => codeAny_mono (F.run A outer s H args us vs Q E0 hr he hb hv hs) fun r s' hq => by
    cases r with
    | error e =>
      obtain ⟨_, _, _, _, _, _, _, _, _, _, _, _, h⟩ := hq
      exact h.elim
    | ok fl => cases fl <;> exact hq⟩
theorem passA0 {X : Cx} {E : Aw.St → XK} : ∀ σ, PassesAt CX0 X σ (E σ) := fun _ _ _ _ _ _ _ c => c.elim
/-! ### the runs of single places -/
def onesF (w : List Bool) (n : Nat) : List (Int × Int × Int) := ((List.range n).filter fun j => w[j]?.getD false).map fun j => (((j : Nat) : Int), ((j : Nat) : Int), (1 : Int))
theorem onesF_succ {w : List Bool} {n : Nat} : onesF w (n + 1) = onesF w n ++ (if w[n]?.getD false then [(((n : Nat) : Int), ((n : Nat) : Int), (1 : Int))] else []) := by
  unfold onesF
  rw [List.range_succ, List.filter_append, List.map_append]
  congr 1
  cases hb : w[n]?.getD false with
  | true => rw [List.filter_cons_of_pos (p := fun j => w[j]?.getD false) hb]; rfl
  | false => rw [List.filter_cons_of_neg (p := fun j => w[j]?.getD false) (by rw [hb]; exact Bool.noConfusion)]; rfl
theorem inRun_one {i : Nat} {j : Int} : inRun (((i : Nat) : Int), ((i : Nat) : Int), (1 : Int)) j = decide (j = (i : Nat)) := by
  show (decide (((i : Nat) : Int) ≤ j) && (decide (j ≤ ((i : Nat) : Int)) && decide ((j - (i : Nat)) % 1 = 0))) = _
  by_cases z : j = (i : Nat)
  · rw [decide_eq_true z, decide_eq_true (by omega), decide_eq_true (by omega), decide_eq_true (by omega)]
    rfl
  · rw [decide_eq_false z]
    by_cases y : ((i : Nat) : Int) ≤ j
    · rw [decide_eq_false (show ¬ j ≤ ((i : Nat) : Int) by omega), Bool.false_and, Bool.and_false]
    · rw [decide_eq_false y, Bool.false_and]
theorem oddR_ones {w : List Bool} {j : Int} : ∀ {n : Nat}, oddR (onesF w n) j = (decide (0 ≤ j ∧ j < (n : Nat)) && w[j.toNat]?.getD false)
  | 0 => by
    rw [decide_eq_false (show ¬ (0 ≤ j ∧ j < ((0 : Nat) : Int)) by omega), Bool.false_and]
    rfl
  | n + 1 => by
    have ih := oddR_ones (w := w) (j := j) (n := n)
    unfold oddR at ih ⊢
    rw [onesF_succ, List.foldl_append, ih]
    by_cases e : j = (n : Nat)
    · subst e
      rw [decide_eq_false (show ¬ (0 ≤ ((n : Nat) : Int) ∧ ((n : Nat) : Int) < (n : Nat)) by omega), Bool.false_and, decide_eq_true (show 0 ≤ ((n : Nat) : Int) ∧ ((n : Nat) : Int) < ((n + 1 : Nat) : Int) by omega), Bool.true_and, Int.toNat_natCast]
      cases hb : w[n]?.getD false with
      | true =>
        show (false ^^ inRun (((n : Nat) : Int), ((n : Nat) : Int), (1 : Int)) (n : Nat)) = true
        rw [inRun_one, decide_eq_true rfl]
        rfl
      | false => rfl
    · have ed : decide (0 ≤ j ∧ j < ((n + 1 : Nat) : Int)) = decide (0 ≤ j ∧ j < (n : Nat)) := by
        rw [decide_eq_decide]
        omega
      rw [ed]
      cases hb : w[n]?.getD false with
      | true =>
        show ((decide (0 ≤ j ∧ j < (n : Nat)) && w[j.toNat]?.getD false) ^^ inRun (((n : Nat) : Int), ((n : Nat) : Int), (1 : Int)) j) = _
        rw [inRun_one, decide_eq_false e, Bool.xor_false]
      | false => rfl
theorem onesF_ok {w : List Bool} {n : Nat} : ∀ r ∈ onesF w n, RunOk r (n : Nat) := fun r hr => by
  obtain ⟨j, hj, rfl⟩ := List.mem_map.mp hr
  have := List.mem_range.mp (List.mem_filter.mp hj).1
  exact ⟨by show 0 ≤ ((j : Nat) : Int); omega, Int.le_refl _, by show ((j : Nat) : Int) < (n : Nat); omega, Int.le_refl _, by show (1 : Int) ≤ 4; decide⟩
theorem onesF_len {w : List Bool} {n : Nat} : (onesF w n).length ≤ n := by
  unfold onesF
  rw [List.length_map]
  exact Nat.le_trans (List.length_filter_le _ _) (by rw [List.length_range]; exact Nat.le_refl _)
end Aw

namespace Aw
open PySem PySem.Spec PyProof.Rows L2 NdefX
/-- runs in the heap, all of them tuples -/
inductive RnT (H : Hp) : List V → List (Int × Int × Int) → Prop
  | nil : RnT H [] []
  | cons {t : Addr} {f l c : Int} {vs : List V} {rs : List (Int × Int × Int)} : H t = some (.tup [.int f, .int l, .int c]) → RnT H vs rs → RnT H (.ref t :: vs) ((f, l, c) :: rs)
theorem RnT.same {H H' : Hp} (s : Same H H') : ∀ {vs : List V} {P : List (Int × Int × Int)}, RnT H vs P → RnT H' vs P
  | _, _, .nil => .nil
  | _, _, .cons h r => .cons (s _ _ h) (RnT.same s r)
theorem RnT.any {H : Hp} : ∀ {vs : List V} {P : List (Int × Int × Int)}, RnT H vs P → RnA H vs P
  | _, _, .nil => .nil
  | _, _, .cons h r => .cons (.inr h) r.any
theorem RnT.get {H : Hp} : ∀ {vs : List V} {P : List (Int × Int × Int)} {i : Nat} {v : V}, RnT H vs P → vs[i]? = some v → ∃ (t : Addr) (x : Int × Int × Int), v = .ref t ∧ P[i]? = some x ∧ H t = some (.tup [.int x.1, .int x.2.1, .int x.2.2])
  | _, _, _, _, .nil, e => by simp at e
  | _, _, 0, _, .cons h _, e => by
    cases Option.some.inj e
    exact ⟨_, _, rfl, rfl, h⟩
  | _, _, i + 1, _, .cons _ r, e => RnT.get (i := i) r (by simpa using e)
end Aw

namespace Aw
open PySem PySem.Spec PyProof.Rows L2 NdefX
def spLRun : Sp := fun vs H Q _ => ∃ (p c : Addr) (k : Int) (n : Nat), vs = [.ref p, .int k] ∧ 1 ≤ k ∧ k ≤ T30 ∧ Pen H p c n ∧ n ≤ 700000 ∧ ∀ (r : Int × Int × Int) (t : Addr) H', RunOk r k → But p H H' → H t = none → H' t = some (.tup [.int r.1, .int r.2.1, .int r.2.2]) → Pen H' p c (n + 23) → Q (.ref t) H'
section
variable {P : Program} {w : World} {K : PySem.W.Frag} {mg : Str → Option Value} {base : Heap} {fD fB : Addr}
theorem scLRun : FnScope ["_law_pen_here", "_law_k", "_law_first", "_law_last", "_law_step"] ["_law_pen_here", "_law_k"] (defScope sLRun) := ⟨rfl, rfl, rfl, by decide +kernel, rfl, by decide +kernel, by decide +kernel⟩
theorem ok_lrun {f fP : Addr} {fd dd bd pd : FuncData} (F : Fun K "_law_run" "_law_run" sLRun f fd) (N : TxtN P w K mg base fD fB dd bd) (FP : Fun K "_law_place" "_law_place" sLPlace fP pd) (bP : Binds K pd ["_law_pen_here", "_law_k"] []) (gP : mg "_law_place" = some (.ref fP)) : FnOk P w K mg base CX0 4 f fd ["_law_pen_here", "_law_k"] spLRun := by
  have GP : FnOk P w K mg base CX0 3 fP pd ["_law_pen_here", "_law_k"] spLPlace := ok_lplace FP N
  refine F.ok scLRun (fun vs H Q E h => ?_) (fun cdv A outer s H vs Q E hr h => ?_)
  · obtain ⟨p, c, k, n, rfl, _⟩ := h
    rfl
  · obtain ⟨p, c, k, n, rfl, k1, k2, pn, hn, hQ⟩ := h
    have nd := scLRun.nd
    refine ⟨_, (pss_cons (ps_par3 (i := 2) (j := 3) (l := 4) rfl nd rfl rfl rfl (by decide) (by decide) (by decide) rfl rfl rfl (pa_cons (pe_call GP (hr.mono (by decide)) (by rfl) gP FP.kp bP .nil pass0 (pa_cons (pv 0) (pa_cons (pv 1) pa_nil))) (pa_cons (pe_call GP (hr.mono (by decide)) (by rfl) gP FP.kp bP .nil pass0 (pa_cons (pv 0) (pa_cons (pv 1) pa_nil))) (pa_cons (pe_op op_add pe_int (pe_call N.GD (hr.mono (by decide)) (by rfl) N.gD N.FD.kp N.bD .nil pass0 (pa_cons (pv 0) (pa_cons pe_int pa_nil)))) pa_nil))) (by rfl))
      (pss_cons (ps_if (pt_cmpR op_eq (pe_call N.GD (hr.mono (by decide)) (by rfl) N.gD N.FD.kp N.bD .nil pass0 (pa_cons (pv 0) (pa_cons pe_int pa_nil))) pe_int (nomark _))
        (pss_one (ps_set (i := 3) nd rfl (Or.inl rfl) (pe_callB (call_min2 rfl) (by rfl) N.min (by decide +kernel) (pa_cons (pe_op op_sub (pv 1) pe_int) (pa_cons (pe_op op_add (pv 2) (pe_call N.GD (hr.mono (by decide)) (by rfl) N.gD N.FD.kp N.bD .nil pass0 (pa_cons (pv 0) (pa_cons pe_int pa_nil)))) pa_nil))))) pss_nil)
      (pss_one (ps_ret (pe_tup (pa_cons (pe_callB (call_min2 rfl) (by rfl) N.min (by decide +kernel) (pa_cons (pv 2) (pa_cons (pv 3) pa_nil))) (pa_cons (pe_callB (call_max2 rfl) (by rfl) N.max (by decide +kernel) (pa_cons (pv 2) (pa_cons (pv 3) pa_nil))) (pa_cons (pv 4) pa_nil)))))))), ?_⟩
    -- BODY
    refine ⟨_, rfl, _, rfl, p, c, k, n, rfl, k1, k2, pn, by omega, fun x H1 x0 x1 b1 p1 => ?_⟩
    refine ⟨_, rfl, _, rfl, p, c, k, n + 10, rfl, k1, k2, p1, by omega, fun y H2 y0 y1 b2 p2 => ?_⟩
    refine ⟨_, rfl, p, c, 4, n + 20, rfl, p2, by omega, by decide, by decide, fun z H3 z0 z1 b3 p3 => ?_⟩
    refine ⟨1, z, rfl, rfl, _, _, _, rfl, ?_⟩
    refine ⟨_, rfl, p, c, 3, n + 21, rfl, p3, by omega, by decide, by decide, fun q H4 q0 q1 b4 p4 => ?_⟩
    have b14 := ((b1.trans b2).trans b3).trans b4
    have fin : ∀ (y' : Int) (Hn : Hp), 0 ≤ y' → y' < k → But p H Hn → Pen Hn p c (n + 23) → ∀ t, Hn t = none →
        Q (.ref t) (upd Hn t (.tup [.int (if y' < x then y' else x), .int (if y' > x then y' else x), .int (1 + z)])) := fun y' Hn g0 g1 b P t ht => by
      have hn0 : H t = none := by
        cases e : H t with
        | none => rfl
        | some o =>
          by_cases ep : t = p
          · subst ep
            obtain ⟨o2, e2⟩ := P.some1
            rw [ht] at e2
            cases e2
          · rw [b t o e ep] at ht
            cases ht
      have st := same_upd (o := .tup [.int (if y' < x then y' else x), .int (if y' > x then y' else x), .int (1 + z)]) ht
      refine hQ (if y' < x then y' else x, if y' > x then y' else x, 1 + z) t _ ⟨?_, ?_, ?_, ?_, ?_⟩ (b.trans (But.same st)) hn0 upd_same (P.same st)
      · dsimp only; split <;> omega
      · dsimp only; split <;> split <;> omega
      · dsimp only; split <;> omega
      · dsimp only; omega
      · dsimp only; omega
    refine ⟨rfl, _, rfl, ite_int (fun e => ?_) (fun e => ?_)⟩
    · refine ⟨_, rfl, k, 1, rfl, rfl, _, rfl, _, rfl, p, c, 40, n + 22, rfl, p4, by omega, by decide, by decide, fun d H5 d0 d1 b5 p5 => ?_⟩
      refine ⟨x, d, rfl, rfl, k - 1, x + d, rfl, ?_⟩
      refine ⟨_, rfl, _, rfl, x, _, rfl, _, rfl, _, rfl, x, _, rfl, _, rfl, by show 3 ≤ sizeLine; decide, fun t ht => ?_⟩
      exact fin (if x + d < k - 1 then x + d else k - 1) H5 (by split <;> omega) (by split <;> omega) (b14.trans b5) p5 t ht
    · refine nxt ?_
      dsimp only
      refine ⟨_, rfl, _, rfl, x, y, rfl, _, rfl, _, rfl, x, y, rfl, _, rfl, by show 3 ≤ sizeLine; decide, fun t ht => ?_⟩
      exact fin y H4 y0 y1 b14 (p4.mono (by omega)) t ht
end
end Aw

namespace Aw
open PySem PySem.Spec PyProof.Rows L2 NdefX
theorem RnT.keep {H H' : Hp} (k : TK H H') : ∀ {vs : List V} {P : List (Int × Int × Int)}, RnT H vs P → RnT H' vs P
  | _, _, .nil => .nil
  | _, _, .cons h r => .cons (k.1 _ _ h) (RnT.keep k r)
theorem RnT.app {H : Hp} : ∀ {vs ws : List V} {P Q : List (Int × Int × Int)}, RnT H vs P → RnT H ws Q → RnT H (vs ++ ws) (P ++ Q)
  | _, _, _, _, .nil, s => s
  | _, _, _, _, .cons h r, s => .cons h (RnT.app r s)
def spLRuns : Sp := fun vs H Q _ => ∃ (p c : Addr) (k : Int) (m n : Nat), vs = [.ref p, .int k, .int (m : Nat)] ∧ 1 ≤ k ∧ k ≤ T30 ∧ m ≤ 20 ∧ Pen H p c n ∧ n ≤ 600000 ∧
  ∀ (L : Addr) (xs : List V) (rs : List (Int × Int × Int)) H', rs.length = m → (∀ r ∈ rs, RunOk r k) → But p H H' → H L = none → H' L = some (.lst xs) → RnT H' xs rs → Pen H' p c (n + 23 * m) → Q (.ref L) H'
section
variable {P : Program} {w : World} {K : PySem.W.Frag} {mg : Str → Option Value} {base : Heap} {fD fB : Addr}
theorem scLRuns : FnScope ["_law_pen_here", "_law_k", "_law_many", "_law_found", "_law_turn"] ["_law_pen_here", "_law_k", "_law_many"] (defScope sLRuns) := ⟨rfl, rfl, rfl, by decide +kernel, rfl, by decide +kernel, by decide +kernel⟩
theorem ok_lruns {f fR : Addr} {fd rd : FuncData} (F : Fun K "_law_runs" "_law_runs" sLRuns f fd) (GR : FnOk P w K mg base CX0 4 fR rd ["_law_pen_here", "_law_k"] spLRun) (FR : Fun K "_law_run" "_law_run" sLRun fR rd) (bR : Binds K rd ["_law_pen_here", "_law_k"] []) (gRn : mg "_law_run" = some (.ref fR)) (gR : mg "range" = none) : FnOk P w K mg base CX0 5 f fd ["_law_pen_here", "_law_k", "_law_many"] spLRuns := by
  refine F.ok scLRuns (fun vs H Q E h => ?_) (fun cdv A outer s H vs Q E hr h => ?_)
  · obtain ⟨p, c, k, m, n, rfl, _⟩ := h
    rfl
  · obtain ⟨p, c, k, m, n, rfl, k1, k2, m2, pn, hn, hQ⟩ := h
    have nd := scLRuns.nd
    refine ⟨_, (pss_cons (ps_set (i := 3) nd rfl (Or.inl rfl) (pe_lst pa_nil))
      (pss_cons (ps_for PassesOwn.never rfl (pi_range1 rfl gR (pa_cons (pv 2) pa_nil)) (pg_name (i := 4) nd rfl (Or.inl rfl))
        (pss_one (ps_expr (pe_bm PySem.F.plainAttrs_list PySem.F.slot_list_append PySem.F.type_list_append mt_append (pv 3) (pa_cons (pe_call GR (hr.mono (by decide)) (by rfl) gRn FR.kp bR .nil pass0 (pa_cons (pv 0) (pa_cons (pv 1) pa_nil))) pa_nil)))))
      (pss_one (ps_ret (pv 3))))), ?_⟩
    -- BODY
    refine ⟨Nat.zero_le _, fun L hL => ?_⟩
    have sL := same_upd (o := .lst []) hL
    refine ⟨_, rfl, _, rfl, by omega, by omega, ?_⟩
    refine for_range (n := ((m : Nat) : Int).toNat) (fun i σ H2 => ∃ (v4 : Option V) (xs : List V) (rs : List (Int × Int × Int)), σ = [some (.ref p), some (.int k), some (.int (m : Nat)), some (.ref L), v4] ∧ rs.length = i ∧ (∀ r ∈ rs, RunOk r k) ∧ But p H H2 ∧ H2 L = some (.lst xs) ∧ RnT H2 xs rs ∧ Pen H2 p c (n + 23 * i)) ⟨none, [], [], rfl, rfl, fun _ h => absurd h List.not_mem_nil, But.same sL, upd_same, .nil, pn.same sL⟩ ?_ ?_
    · rintro i σ H2 hi ⟨v4, xs, rs, rfl, l, ro, b, e, rt, P2⟩
      have lx := rt.any.length
      refine ⟨_, rfl, .inl ⟨rfl, _, SqL.of e⟩, _, rfl, _, rfl, p, c, k, n + 23 * i, rfl, k1, k2, P2, by omega, fun r t H3 rk b3 ht et P3 => ?_⟩
      have e3 := but_lst b3 P2 e
      have k3 := TK.but b3 P2
      refine ⟨L, xs, _, rfl, rfl, e3, Nat.lt_of_lt_of_le (show xs.length < 1000 by omega) kz, ?_⟩
      have b4 : But p H (upd H3 L (.lst (xs ++ [.ref t]))) := fun q u e0 ne => by
        rw [upd_ne (ne_of_none e0 hL)]
        exact (b.trans b3) q u e0 ne
      refine ⟨_, xs ++ [.ref t], rs ++ [r], rfl, by rw [List.length_append, l]; rfl, fun q hq => ?_, b4, upd_same, ?_, ?_⟩
      · rcases List.mem_append.mp hq with hq | hq
        · exact ro q hq
        · rw [List.mem_singleton.mp hq]
          exact rk
      · exact ((rt.keep k3).app (.cons et .nil)).keep (TK.lst e3)
      · exact (P3.upd (fun z => by subst z; obtain ⟨o, eo⟩ := pn.some1; rw [hL] at eo; cases eo) (fun z => by subst z; obtain ⟨o, eo⟩ := pn.some2; rw [hL] at eo; cases eo)).mono (by omega)
    · rintro σ H2 ⟨v4, xs, rs, rfl, l, ro, b, e, rt, P2⟩
      exact ⟨_, rfl, hQ L xs rs H2 (by omega) ro b hL e rt (P2.mono (by omega))⟩
end
end Aw

namespace Aw
open PySem PySem.Spec PyProof.Rows L2 NdefX
theorem putM1 {v : V} : putF "size" v [] = ([("size", v)] : List (Str × V)) := rfl
theorem ne_sd : ¬ (("size" : Str) = "depth") := by decide +kernel
theorem ne_sp : ¬ (("size" : Str) = "pieces") := by decide +kernel
theorem ne_dp : ¬ (("depth" : Str) = "pieces") := by decide +kernel
theorem putM2 {a v : V} : putF "depth" v ([("size", a)] : List (Str × V)) = ([("size", a), ("depth", v)] : List (Str × V)) := by
  show (if ("size" : Str) = "depth" then _ else (("size" : Str), a) :: putF "depth" v []) = _
  rw [if_neg ne_sd]
  rfl
theorem putM3 {a b v : V} : putF "pieces" v ([("size", a), ("depth", b)] : List (Str × V)) = ([("size", a), ("depth", b), ("pieces", v)] : List (Str × V)) := by
  show (if ("size" : Str) = "pieces" then _ else (("size" : Str), a) :: (if ("depth" : Str) = "pieces" then _ else (("depth" : Str), b) :: putF "pieces" v [])) = _
  rw [if_neg ne_sp, if_neg ne_dp]
  rfl
theorem RnA.runV {H : Hp} {s : Int} : ∀ {vs : List V} {rs : List (Int × Int × Int)}, RnA H vs rs → (∀ r ∈ rs, RunOk r s) → ∀ v ∈ vs, RunV H s v true
  | _, _, .nil, _ => fun v h => absurd h List.not_mem_nil
  | _, _, .cons (f := f) (l := l) (c := c) h r, ok => fun v hv => by
    rcases List.mem_cons.mp hv with rfl | hv
    · have e : rB [.int f, .int l, .int c] s = true := rB_run.mpr (ok _ List.mem_cons_self)
      rw [← e]
      refine .seq h fun x hx => ?_
      rcases List.mem_cons.mp hx with rfl | hx
      · exact .int _
      rcases List.mem_cons.mp hx with rfl | hx
      · exact .int _
      rcases List.mem_cons.mp hx with rfl | hx
      · exact .int _
      exact absurd hx List.not_mem_nil
    · exact RnA.runV r (fun x hx => ok x (List.mem_cons_of_mem _ hx)) v hv
/-- Marks with the list of its pieces -/
structure MkL (C : Addr) (H : Hp) (a L : Addr) (P : Pcs) (d : Nat) (s : Int) : Prop where
  ex : ∃ dx xs, H a = some (.ins C dx (mkF s (d : Nat) L)) ∧ H L = some (.lst xs) ∧ PcA H xs P
  few : P.length ≤ 400
  asc : Asc 0 P s
  masks : ∀ x ∈ P, x.2 < 2 ^ (12 * 2 ^ d)
  s0 : 0 < s
  d6 : d ≤ 6
theorem MkL.at_ {C : Addr} {H : Hp} {a L : Addr} {P : Pcs} {d : Nat} {s : Int} (M : MkL C H a L P d s) : MkAt C H a P d s := by
  obtain ⟨dx, xs, h1, h2, h3⟩ := M.ex
  exact ⟨⟨dx, L, xs, h1, h2, h3⟩, M.few, M.asc, M.masks, M.s0, M.d6⟩
theorem MkL.same {C : Addr} {H H' : Hp} {a L : Addr} {P : Pcs} {d : Nat} {s : Int} (M : MkL C H a L P d s) (k : Same H H') : MkL C H' a L P d s := by
  obtain ⟨dx, xs, h1, h2, h3⟩ := M.ex
  exact ⟨⟨dx, xs, k _ _ h1, k _ _ h2, h3.same k⟩, M.few, M.asc, M.masks, M.s0, M.d6⟩
/-- another list may change -/
theorem MkL.lst {C : Addr} {H : Hp} {a L l : Addr} {P : Pcs} {d : Nat} {s : Int} {ys : List V} {o : HO} (M : MkL C H a L P d s) (h : H l = some (.lst ys)) (ne : L ≠ l) : MkL C (upd H l o) a L P d s := by
  obtain ⟨dx, xs, h1, h2, h3⟩ := M.ex
  exact ⟨⟨dx, xs, by rw [upd_ne (ne_of h1 h (fun z => by cases z))]; exact h1, by rw [upd_ne ne]; exact h2, h3.keep (TK.lst h)⟩, M.few, M.asc, M.masks, M.s0, M.d6⟩
theorem MkL.but {C : Addr} {H H' : Hp} {a L p c : Addr} {n : Nat} {P : Pcs} {d : Nat} {s : Int} (M : MkL C H a L P d s) (b : But p H H') (pn : Pen H p c n) : MkL C H' a L P d s := by
  obtain ⟨dx, xs, h1, h2, h3⟩ := M.ex
  obtain ⟨cells, i, l, e1, _⟩ := pn.ex
  exact ⟨⟨dx, xs, b _ _ h1 (ne_of h1 e1 (fun z => by cases z)), b _ _ h2 (ne_of h2 e1 (fun z => by cases z)), h3.keep (TK.but b pn)⟩, M.few, M.asc, M.masks, M.s0, M.d6⟩
theorem MkAt.but {C : Addr} {H H' : Hp} {a p c : Addr} {n : Nat} {P : Pcs} {d : Nat} {s : Int} (M : MkAt C H a P d s) (b : But p H H') (pn : Pen H p c n) : MkAt C H' a P d s := by
  obtain ⟨dx, L, xs, h1, h2, h3⟩ := M.ex
  obtain ⟨cells, i, l, e1, _⟩ := pn.ex
  exact ⟨⟨dx, L, xs, b _ _ h1 (ne_of h1 e1 (fun z => by cases z)), b _ _ h2 (ne_of h2 e1 (fun z => by cases z)), h3.keep (TK.but b pn)⟩, M.few, M.asc, M.masks, M.s0, M.d6⟩
/-- the first i runs are runs, the next one is none -/
def NoRun (H : Hp) (s : Int) (xs : List V) (i : Nat) : Prop := (∀ j v, j < i → xs[j]? = some v → RunV H s v true) ∧ ∃ v, xs[i]? = some v ∧ RunV H s v false
def spMInit (K : PySem.W.Frag) (C CZ CT CN : Addr) : Sp := fun vs H Q E => ∃ (a dx R : Addr) (v : V) (xs : List V), vs = [.ref a, v, .ref R] ∧ H a = some (.ins C dx []) ∧ VOk H v ∧ SeqK K H R xs ∧
  errOf (numB v 1 (10 ^ 30) = false) CZ "size" v H E ∧
  ∀ s : Int, v = .int s → 1 ≤ s → s ≤ 10 ^ 30 → errOf (20 < xs.length) CT "most" (.int 20) H E ∧ (xs.length ≤ 20 →
    (∃ i, NoRun H s xs i ∧ errOf True CN "number" (.int (i : Nat)) H E) ∨
    (∃ rs, RnA H xs rs ∧ (∀ r ∈ rs, RunOk r s) ∧ ∀ H' L, (∀ c o, H c = some o → c ≠ a → H' c = some o) → H L = none → MkL C H' a L (runsP s rs) 0 s → Q .non H'))
section
variable {P : Program} {w : World} {K : PySem.W.Frag} {mg : Str → Option Value} {base : Heap} {C CZ CT CN : Addr}
structure TxtMI (P : Program) (K : PySem.W.Frag) (mg : Str → Option Value) (CT CN fS fR fP : Addr) (sd rd pd : FuncData) (t20 : Tok) : Prop where
  tm : Err P K mg "TooMany" "most" "most" CT
  bn : Err P K mg "BadNumber" "number" "number" CN
  len : mg "len" = none
  enum : mg "enumerate" = none
  FS : Fun K "check_size" "check_size" sChkS fS sd
  bS : Binds K sd ["size"] []
  gS : mg "check_size" = some (.ref fS)
  FR : Fun K "is_run" "is_run" sIsRun fR rd
  bR : Binds K rd ["run", "size"] []
  gR : mg "is_run" = some (.ref fR)
  FP : Fun K "pieces_of_runs" "pieces_of_runs" sPor fP pd
  bP : Binds K pd ["size", "runs"] []
  gP : mg "pieces_of_runs" = some (.ref fP)
  g20 : mg "MOST_RUNS" = some (.int 20 t20)
theorem scMInit : FnScope ["self", "size", "runs", "index", "run"] ["self", "size", "runs"] (defScope sMInit) := ⟨rfl, rfl, rfl, by decide +kernel, rfl, by decide +kernel, by decide +kernel⟩
theorem ok_minit {f fS fR fP : Addr} {fd sd rd pd : FuncData} {dvs : List V} {t20 : Tok} (F : L2.FunD K "__init__" "Marks.__init__" (defArgs sMInit) (defBody sMInit) (defScope sMInit) dvs [] f fd) (W : TxtMI P K mg CT CN fS fR fP sd rd pd t20)
    (GS : FnOk P w K mg base (L2.CX P w) 3 fS sd ["size"] (spChkS CZ)) (GR : FnOk P w K mg base CX0 2 fR rd ["run", "size"] spIsRun) (GP : FnOk P w K mg base CX0 3 fP pd ["size", "runs"] (spPor K)) (M : MkCls K C) : FnOk P w K mg base (L2.CX P w) 4 f fd ["self", "size", "runs"] (spMInit K C CZ CT CN) := by
  refine F.ok scMInit (fun vs H Q E h => ?_) (fun cdv A outer s H vs Q E hr h => ?_)
  · obtain ⟨a, dx, R, v, xs, rfl, _⟩ := h
    rfl
  · obtain ⟨a, dx, R, v, xs, rfl, ha, hv, hR, kZ, k⟩ := h
    have nd := scMInit.nd
    refine ⟨_, (pss_cons (ps_expr (pe_callS GS (hr.mono (by decide)) (by rfl) W.gS W.FS.kp W.bS (fun σ => passAt (takes_of rfl rfl rfl rfl) σ) (pa_cons (pv 1) pa_nil)))
      (pss_cons (ps_if (pt_cmpR op_gt (pe_callB call_len_seq (by rfl) W.len PySem.boot_len (pa_cons (pv 2) pa_nil)) (pe_glob (v := .int 20) (by rfl) W.g20 ⟨_, rfl⟩) (nomark _))
        (pss_one (ps_raise rfl (takes_of rfl rfl rfl rfl) (pmk_err W.tm (hr.mono (by decide)) (by rfl) (pa_cons (pe_glob (v := .int 20) (by rfl) W.g20 ⟨_, rfl⟩) pa_nil)))) pss_nil)
      (pss_cons (ps_for (passes_of rfl) rfl (pi_enumS (by rfl) W.enum (pa_cons (pv 2) pa_nil)) (pg_tup rfl (pgs_cons (pg_name (i := 3) nd rfl (Or.inl rfl)) (pgs_cons (pg_name (i := 4) nd rfl (Or.inl rfl)) pgs_nil)))
        (pss_one (ps_if (pt_not (pt_val (pe_call GR (hr.mono (by decide)) (by rfl) W.gR W.FR.kp W.bR .nil pass0 (pa_cons (pv 4) (pa_cons (pv 1) pa_nil)))))
          (pss_one (ps_raise rfl (takes_of rfl rfl rfl rfl) (pmk_err W.bn (hr.mono (by decide)) (by rfl) (pa_cons (pv 3) pa_nil)))) pss_nil)))
      (pss_cons (ps_fld (pv 0) (pv 1) rfl)
      (pss_cons (ps_fld (pv 0) pe_int rfl)
      (pss_one (ps_fld (pv 0) (pe_call GP (hr.mono (by decide)) (by rfl) W.gP W.FP.kp W.bP .nil pass0 (pa_cons (pv 1) (pa_cons (pv 2) pa_nil))) rfl))))))), ?_⟩
    -- BODY
    refine ⟨_, rfl, v, rfl, hv, kZ, fun hb => ?_⟩
    obtain ⟨sz, rfl, s1, s30⟩ := numB_int hb
    obtain ⟨kT, k⟩ := k sz rfl s1 s30
    refine ⟨_, rfl, R, xs, rfl, hR, (xs.length : Nat), 20, rfl, rfl, _, rfl, ?_⟩
    refine ite_dec (fun h2 => ?_) (fun h2 => ?_)
    · exact mkS_ans fun d hd => kT (by omega) d _ (same_upd hd) hd upd_same
    refine nxt ?_
    dsimp only
    have ln : xs.length ≤ 20 := by omega
    refine ⟨_, rfl, R, rfl, ?_⟩
    rcases k ln with ⟨i, ⟨hp, v0, hv0, r0⟩, kN⟩ | ⟨rs, ra, ro, kQ⟩
    · refine for_enumS (a := R) (xs := xs) (fun j σ H3 => ∃ (v3 v4 : Option V), σ = [some (.ref a), some (.int sz), some (.ref R), v3, v4] ∧ Same H H3 ∧ j ≤ i) ⟨none, none, rfl, fun _ _ e => e, Nat.zero_le _⟩ (hR.all fun j σ H3 p => by
        obtain ⟨_, _, _, s3, _⟩ := p
        exact s3) ?_ ?_
      · rintro j x σ H3 T hx ⟨v3, v4, rfl, s3, hj⟩ hT
        have s4 := s3.trans (same_upd (o := .tup [.int (j : Nat), x]) hT)
        refine ⟨T, _, rfl, SqT.of upd_same, rfl, _, _, rfl, _, _, rfl, rfl, ?_⟩
        rcases Nat.lt_or_ge j i with h | h
        · refine ⟨_, rfl, _, rfl, x, sz, true, rfl, (hp j x h hx).same s4, fun H5 s5 => ⟨_, rfl, iteF ?_⟩⟩
          exact ⟨_, _, rfl, s4.trans s5, h⟩
        · have e : j = i := by omega
          subst e
          rw [hv0] at hx
          cases hx
          refine ⟨_, rfl, _, rfl, v0, sz, false, rfl, r0.same s4, fun H5 s5 => ⟨_, rfl, iteT ?_⟩⟩
          refine ⟨_, rfl, mkS_ans fun d hd => ?_⟩
          exact kN trivial d _ ((s4.trans s5).trans (same_upd hd)) ((s4.trans s5).free hd) upd_same
      · rintro σ H3 ⟨v3, v4, rfl, s3, hj⟩
        have := (List.getElem?_eq_some_iff.mp hv0).1
        omega
    · have rv := ra.runV ro
      refine for_enumS (a := R) (xs := xs) (fun j σ H3 => ∃ (v3 v4 : Option V), σ = [some (.ref a), some (.int sz), some (.ref R), v3, v4] ∧ Same H H3) ⟨none, none, rfl, fun _ _ e => e⟩ (hR.all fun j σ H3 p => by
        obtain ⟨_, _, _, s3⟩ := p
        exact s3) ?_ ?_
      · rintro j x σ H3 T hx ⟨v3, v4, rfl, s3⟩ hT
        have s4 := s3.trans (same_upd (o := .tup [.int (j : Nat), x]) hT)
        refine ⟨T, _, rfl, SqT.of upd_same, rfl, _, _, rfl, _, _, rfl, rfl, ?_⟩
        refine ⟨_, rfl, _, rfl, x, sz, true, rfl, (rv x (List.mem_of_getElem? hx)).same s4, fun H5 s5 => ⟨_, rfl, iteF ?_⟩⟩
        exact ⟨_, _, rfl, s4.trans s5⟩
      · rintro σ H3 ⟨v3, v4, rfl, s3⟩
        have lr := ra.length
        have ha3 := s3 _ _ ha
        refine ⟨_, rfl, _, rfl, a, C, dx, [], rfl, ha3, M.c, M.size, (by show 0 < 1000; decide), ?_⟩
        rw [putM1]
        refine ⟨_, rfl, a, C, dx, _, rfl, upd_same, M.c, M.depth, (by show 1 < 1000; decide), ?_⟩
        rw [putM2]
        have but5 : ∀ c o, H3 c = some o → c ≠ a → upd (upd H3 a (.ins C dx [("size", .int sz)])) a (.ins C dx [("size", .int sz), ("depth", .int 0)]) c = some o := fun c o e ne => by
          rw [upd_ne ne, upd_ne ne]
          exact e
        have ha5 : upd (upd H3 a (.ins C dx [("size", .int sz)])) a (.ins C dx [("size", .int sz), ("depth", .int 0)]) a = some (.ins C dx [("size", .int sz), ("depth", .int 0)]) := upd_same
        generalize upd (upd H3 a (.ins C dx [("size", .int sz)])) a (.ins C dx [("size", .int sz), ("depth", .int 0)]) = H5 at *
        obtain ⟨ok1, _, ok3⟩ := runs_ok (s := sz) (by omega) ro
        refine ⟨_, rfl, _, rfl, R, xs, sz, rs, rfl, (hR.same s3).but ha3 but5, (ra.same s3).but ha3 but5, by omega, by omega, ro, fun L zs H6 s6 hL eL pz => ?_⟩
        have ha6 := s6 _ _ ha5
        refine ⟨_, rfl, a, C, dx, _, rfl, ha6, M.c, M.pieces, (by show 2 < 1000; decide), ?_⟩
        rw [putM3]
        have nLa : L ≠ a := ne_of eL ha6 (fun z => by cases z)
        have but6 : ∀ c o, H6 c = some o → c ≠ a → upd H6 a (.ins C dx [("size", .int sz), ("depth", .int 0), ("pieces", .ref L)]) c = some o := fun c o e ne => by
          rw [upd_ne ne]
          exact e
        have hLH : H L = none := by
          cases hh : H L with
          | none => rfl
          | some o =>
            by_cases z : L = a
            · rw [z, ha5] at hL; cases hL
            · rw [but5 _ _ (s3 _ _ hh) z] at hL; cases hL
        refine kQ _ L (fun c o e ne => but6 c o (s6 _ _ (but5 c o (s3 _ _ e) ne)) ne) hLH ⟨⟨dx, zs, upd_same, but6 _ _ eL nLa, ?_⟩, by omega, ok1.asc, ok1.masks, by omega, by omega⟩
        exact pz.keep ⟨fun c ys e => but6 c _ e (ne_of e ha6 (fun z => by cases z)), fun c o ys e => but6 c _ e (ne_of e ha6 (fun z => by cases z))⟩
end
end Aw

namespace Aw
open PySem PySem.Spec PyProof.Rows L2 NdefX
/-! ### making an instance with defaults, by the class's name or by a local name -/
def tMakeD (C : Addr) (sp : Sp) (dvs : List V) (E : Aw.St → XK) (t : TA) : TE := fun σ H Q => t σ H fun vs H1 => ∀ x dx, H1 x = none → H1 dx = none → dx ≠ x →
  sp (.ref x :: (vs ++ dvs)) (upd (upd H1 dx (.own x)) x (.ins C dx [])) (fun v H2 => v = .non ∧ Q (.ref x) H2) (E σ)
def tMakeL (i : Nat) (C : Addr) (sp : Sp) (dvs : List V) (E : Aw.St → XK) (t : TA) : TE := fun σ H Q => σ[i]? = some (some (.ref C)) ∧ tMakeD C sp dvs E t σ H Q
section
variable {X : Cx} {CX : CXT} {k i : Nat} {f C : Addr} {fd : FuncData} {ps : List Str} {sp : Sp} {dvs : List V} {ds : List Value} {E : Aw.St → XK} {x : Str} {p pos : Pos} {e : Expr} {es : List Expr} {t : TA}
theorem run_makeD {pins : List (Addr × Obj)} {σ : Aw.St} {H : Hp} {s : Shared} {Q : VK} {us : List Value} {vs : List V} (M : Mk X.K C f) (F : FnOk X.prog X.w X.K X.mg X.base CX k f fd ps sp) (hr : Room (k + 1) X.A) (hb : Binds X.K fd ps ds) (hd : Vals dvs ds)
    (hx : ∀ σ, PassesAt CX X σ (E σ)) (I : Inv X pins σ H s) (r : Vals vs us)
    (h : ∀ x dx, H x = none → H dx = none → dx ≠ x → sp (.ref x :: (vs ++ dvs)) (upd (upd H dx (.own x)) x (.ins C dx [])) (fun v H2 => v = .non ∧ Q (.ref x) H2) (E σ)) :
    wpAny (model X.prog X.w) X.A (call (.ref C) us) (EP X pins σ Q) X.xe s := by
  have hq := h (s.heap.objs.size + 1) s.heap.objs.size (I.hok.fresh (Nat.le_succ _)) (I.hok.fresh (Nat.le_refl _)) (Nat.ne_of_lt (Nat.lt_succ_self _))
  have I2 := Inv.made (C := C) I
  have r2 : Vals (V.ref (s.heap.objs.size + 1) :: (vs ++ dvs)) (Value.ref (s.heap.objs.size + 1) :: (us ++ ds)) := .cons rfl (r.append hd)
  have hl : (Value.ref (s.heap.objs.size + 1) :: us ++ ds).length = ps.length := by
    have e := r2.length
    rw [F.len _ _ _ _ hq] at e
    exact e.symm
  refine wpAny_call (make_map (f := f) I.kIn M.makes M.init (beq_iff_eq.mp M.fn) (codeAny_mono (F.run _ X.stack _ _ ⟨Value.ref (s.heap.objs.size + 1) :: us, []⟩ (Value.ref (s.heap.objs.size + 1) :: (us ++ ds)) _ _ (E σ) (hr.make C us [])
    (I2.env0.make C us []) (hb _ (Value.ref (s.heap.objs.size + 1) :: us) I2.kIn hl) r2 hq) fun r s' hq' => ?_))
  cases r with
  | error e => exact hx σ pins _ _ e s' I2 hq'
  | ok fl =>
    cases fl with
    | ret u =>
      obtain ⟨v, H', I3, rv, ev, q3⟩ := I2.after hq'
      subst ev
      exact ⟨rv, ⟨V.ref (s.heap.objs.size + 1), H', I3, rfl, q3⟩⟩
    | next => exact False.elim hq'
    | brk => exact False.elim hq'
    | cont => exact False.elim hq'
theorem pe_makeD (M : Mk X.K C f) (F : FnOk X.prog X.w X.K X.mg X.base CX k f fd ps sp) (hr : Room (k + 1) X.A) (hg : Gl X x) (hm : X.mg x = some (.ref C)) (hb : Binds X.K fd ps ds) (hd : Vals dvs ds) (hx : ∀ σ, PassesAt CX X σ (E σ))
    (ha : PA X (e :: es) t) (hdb : (x == ("__debug__" : Str)) = false := by decide) (he : starEach (e :: es) X.env = (false, eval e X.env) :: starEach es X.env := by rfl) (hpl : (backTo pos (starEach es X.env)).any (·.1) = false := by rfl) :
    PE X (.Call (.Name x p) (e :: es) [] pos) (tMakeD C sp dvs E t) := by
  refine ⟨fun pins s σ H Q I h => ?_⟩
  refine wpAny_Call_Name_kw (ld_glob I hg hm ?_ hdb)
  refine PySem.W.callWith_K (h₀ := X.base) I.ok.mod.kin M.kp (thn (ha.run pos pins s σ H _ I h) fun us s1 ⟨vs, H1, I1, r, q⟩ => ⟨I1.kIn, ?_⟩) he hpl
  exact run_makeD M F hr hb hd hx I1 r q
theorem pe_makeL (M : Mk X.K C f) (F : FnOk X.prog X.w X.K X.mg X.base CX k f fd ps sp) (hr : Room (k + 1) X.A) (hN : X.N[i]? = some x) (hv : Vis X.env.scope x) (hb : Binds X.K fd ps ds) (hd : Vals dvs ds) (hx : ∀ σ, PassesAt CX X σ (E σ))
    (ha : PA X (e :: es) t) (hdb : (x == ("__debug__" : Str)) = false := by decide) (hcd : (x == ("__classdict__" : Str)) = false := by decide)
    (he : starEach (e :: es) X.env = (false, eval e X.env) :: starEach es X.env := by rfl) (hpl : (backTo pos (starEach es X.env)).any (·.1) = false := by rfl) :
    PE X (.Call (.Name x p) (e :: es) [] pos) (tMakeL i C sp dvs E t) := by
  refine ⟨fun pins s σ H Q I h => ?_⟩
  obtain ⟨hs, ht⟩ := h
  refine wpAny_Call_Name_kw (thn ((pe_var (pos := p) hN hv hdb hcd).run pins s σ H (fun v H1 => v = .ref C ∧ H1 = H) I ⟨.ref C, hs, rfl, rfl⟩) fun u s1 ⟨v, H1, I1, r1, q1⟩ => ?_)
  obtain ⟨rfl, rfl⟩ := q1
  cases r1
  refine PySem.W.callWith_K (h₀ := X.base) I.ok.mod.kin M.kp (thn (ha.run pos pins s1 σ _ _ I1 ht) fun us s2 ⟨vs, H2, I2, r, q⟩ => ⟨I2.kIn, ?_⟩) he hpl
  exact run_makeD M F hr hb hd hx I2 r q
end
/-- Marks(k, runs) with good runs -/
theorem make_marks {K : PySem.W.Frag} {C CZ CT CN : Addr} {H : Hp} {R : Addr} {k : Int} {xs : List V} {rs : List (Int × Int × Int)} (k1 : 1 ≤ k) (k2 : k ≤ 10 ^ 30) (hR : SeqK K H R xs) (ra : RnA H xs rs) (ro : ∀ r ∈ rs, RunOk r k) (ln : rs.length ≤ 20) {G : Addr → Hp → Prop} {E : XK}
    (kQ : ∀ a L H', Same H H' → H a = none → H L = none → MkL C H' a L (runsP k rs) 0 k → G a H') : ∀ y dx, H y = none → H dx = none → dx ≠ y →
    spMInit K C CZ CT CN [.ref y, .int k, .ref R] (upd (upd H dx (.own y)) y (.ins C dx [])) (fun v H2 => v = .non ∧ G y H2) E := by
  intro y dx hy hdx ne
  have hy' : upd H dx (.own y) y = none := by rw [upd_ne (Ne.symm ne)]; exact hy
  have s2 := (same_upd (o := .own y) hdx).trans (same_upd (o := .ins C dx []) hy')
  have lx := ra.length
  refine ⟨y, dx, R, .int k, xs, rfl, upd_same, .int k, hR.same s2, fun z => ?_, fun s es h1 h2 => ⟨fun z => absurd z (by omega), fun _ => .inr ⟨rs, ra.same s2, ?_, fun H' L but hL ma => ?_⟩⟩⟩
  · have e : numB (.int k) 1 (10 ^ 30) = (decide (1 ≤ k) && decide (k ≤ 10 ^ 30)) := rfl
    rw [e, decide_eq_true k1, decide_eq_true k2] at z
    cases z
  · cases es
    exact ro
  · cases es
    exact ⟨rfl, kQ y L H' (fun c o e => but c o (s2 c o e) (fun z => by rw [z, hy] at e; cases e)) hy (s2.free hL) ma⟩
end Aw

namespace Aw
open PySem PySem.Spec PyProof.Rows L2 NdefX
/-! ### text[::-1], enumerate(text), comprehensions over an own kind of walk -/
def revS (x : Str) : Str := ⟨x.cps.toList.reverse.toArray⟩
theorem revS_pick (x : Str) : (Builtin.Str.strSliceIndices none none (-1) x.length).filterMap (x.cps[·]?) = x.cps.toList.reverse := by
  show (sliceRange (((x.cps.size : Nat) : Int) - 1) (-1) (-1)).filterMap (x.cps[·]?) = _
  rw [PySem.W.krv_sliceRange, PySem.W.krv_range, List.filterMap_reverse, PySem.W.krv_all]
def tRevS (te : TE) : TE := fun σ H Q => te σ H fun x H1 => ∃ z, x = .str z ∧ z.length ≤ sizeLine ∧ Q (.str (revS z)) H1
theorem pe_revS {X : Cx} {e : Expr} {te : TE} {k : Nat} {p1 p2 p3 pos : Pos} (he : PE X e te) : PE X (.Subscript e (.Slice none none (some (.UnaryOp .USub (.Constant (.int 1) k p1) p2)) p3) pos) (tRevS te) := by
  refine ⟨fun pins s σ H Q I h => ?_⟩
  refine Subscript_ (thn (he.run pins s σ H _ I h) fun v s1 ⟨x, H1, I1, r1, q1⟩ => ?_)
  obtain ⟨z, ex, hz, q⟩ := q1
  subst ex
  obtain ⟨t, rfl⟩ := r1
  have hst : PO X (some (.UnaryOp .USub (.Constant (.int 1) k p1) p2)) (tPart (tUn (rU fun i => .int (-i)) (tC (.int 1)))) := po_some (pe_un un_neg pe_int)
  refine wpAny_Slice (thn (po_none.run pins s1 σ H1 (fun o H2 => o = none ∧ H2 = H1) I1 ⟨rfl, rfl⟩) fun vl s2 ⟨l, H2, I2, pl, el, e2⟩ => ?_)
  subst el e2
  refine thn (po_none.run pins s2 σ H2 (fun o H3 => o = none ∧ H3 = H2) I2 ⟨rfl, rfl⟩) fun vu s3 ⟨u, H3, I3, pu, eu, e3⟩ => ?_
  subst eu e3
  refine thn (hst.run pins s3 σ H3 (fun o H4 => o = some (-1) ∧ H4 = H3) I3 ⟨1, rfl, -1, rfl, rfl, rfl⟩) fun vs s4 ⟨o, H4, I4, ps, eo, e4⟩ => ?_
  subst eo e4
  have I5 : Inv X pins σ H4 { s4 with heap := s4.heap.push { cls := .type "slice", data := .fields #[vl, vu, vs] } } := I4.kept (t' := s4.toks) fun b ob q => Heap.get?_push_of_some _ q
  obtain ⟨l, rfl, el⟩ := IsPart.raw pl
  obtain ⟨u, rfl, eu⟩ := IsPart.raw pu
  obtain ⟨st, rfl, es⟩ := IsPart.raw ps
  show wpAny (model X.prog X.w) X.A (subscriptTail e (.Slice none none (some (.UnaryOp .USub (.Constant (.int 1) k p1) p2)) p3) (.str z t) (.ref s4.heap.objs.size)) (EP X pins σ Q) X.xe { s4 with heap := s4.heap.push { cls := .type "slice", data := .fields #[partValue l, partValue u, partValue st] } }
  refine tail_any (ops := [.str z t, .ref s4.heap.objs.size]) (typeIs_str _ _ _) F.slot_str_getitem.lookup ?_ (by with_unfolding_all rfl)
  refine wpAny_getItem_str_slice (l := l) (u := u) (st := st) ⟨_, Heap.get?_push_size _ rfl, rfl, rfl⟩ (by rw [es]; decide) ?_
  have em : sliceMade z t l u st = .str (revS z) := by
    unfold sliceMade slicePicked
    rw [el, eu, es, if_neg (by intro q; rw [Bool.and_eq_true] at q; exact absurd q.1 (by decide))]
    show Made.str ⟨((Builtin.Str.strSliceIndices none none (-1) z.length).filterMap (z.cps[·]?)).toArray⟩ = _
    rw [revS_pick]
    rfl
  rw [em]
  refine ⟨?_, .str _, H4, I5.tok _, ⟨_, rfl⟩, q⟩
  show (z.cps.toList.reverse.toArray).size ≤ sizeLine
  rw [List.size_toArray, List.length_reverse, Array.length_toList]
  exact hz
/-! enumerate(text) -/
def Itx (x : Str) : It := ⟨fun i _ => i < x.cps.size, fun i H v H' => ∃ T c, v = .ref T ∧ H T = none ∧ x.cps[i]? = some c ∧ H' = upd H T (.tup [.int (i : Nat), .str ⟨#[c]⟩]), fun i _ => i = x.cps.size⟩
theorem turn_enumX {P : Program} {w : World} {K : PySem.W.Frag} {elts : List Expr} {kk : Nat} {tpos : Pos} (x : Str) (t : Tok) (e it : Addr) :
    Turn P w K (.Tuple elts kk tpos) (Itx x) [e, it] e (fun i h => (∃ old, IsEnum h e it ((i : Nat) : Int) old) ∧ h.IsStrIter it (PySem.strIterType x) x t i ∧ e ≠ it) where
  mem := by simp
  obj := fun i h st b hb => by
    obtain ⟨⟨old, he⟩, ⟨o, ho, hc, hd⟩, _⟩ := st
    have e' : b = e ∨ b = it := by simpa using hb
    rcases e' with z | z
    · rw [z]; exact ⟨_, he, fun v q => nomatch q⟩
    · rw [z]; exact ⟨o, ho, fun v q => by rw [hd] at q; cases q⟩
  keep := fun i h h' st k => let ⟨⟨old, he⟩, ⟨o, ho, r⟩, hne⟩ := st; ⟨⟨old, k e (by simp) _ he⟩, ⟨o, k it (by simp) o ho, r⟩, hne⟩
  item := by
    intro X hP hw hK hc i pins s σ H E I hf st hg
    subst hP hw hK
    obtain ⟨⟨old, he⟩, hit, hne⟩ := st
    have hel : e < s.heap.objs.size := Heap.lt_size he
    have hil : it < s.heap.objs.size := by obtain ⟨_, q, _⟩ := hit; exact Heap.lt_size q
    refine wpAny_pyNext_enum_itemD (Draws.text (show X.A.in1.handled = none from I.ok.hd hc) it x t) he hit hg hne (by simp [hne]) fun y h' tk hy ho hst' hT hsz hk => ?_
    obtain ⟨c, u, hcx, rfl⟩ := hy
    refine ⟨_, rfl, wpAny_letOwnedTupleGo_enum (s := { s with heap := h', toks := tk + 1 }) ho fun h'' he' sb => ?_⟩
    have hT2 : h''.get? s.heap.objs.size = some { cls := .type "tuple", data := .seq #[.int i tk, .str ⟨#[c]⟩ u] } := (sb.2 _ (Nat.ne_of_gt hel)).trans hT
    have new : ObjOk X.prog X.w (upd H s.heap.objs.size (.tup [.int (i : Nat), .str ⟨#[c]⟩])) h'' s.heap.objs.size (.tup [.int (i : Nat), .str ⟨#[c]⟩]) :=
      ⟨by show 2 ≤ sizeLine; decide, [.int i tk, .str ⟨#[c]⟩ u], .cons ⟨_, rfl⟩ (.cons ⟨_, rfl⟩ .nil), ⟨_, hT2, rfl, _, rfl⟩⟩
    have I1 : Inv X pins σ (upd H s.heap.objs.size (.tup [.int (i : Nat), .str ⟨#[c]⟩])) { s with heap := h'', toks := tk + 1 } :=
      I.turnedNew (ch := [e, it]) (fun b ob hb q => (sb.2 b (fun z => hb (by simp [z]))).trans (hk b ob (fun z => hb (by simp [z])) (fun z => hb (by simp [z])) q)) hf (Nat.le_refl _) new
    obtain ⟨oi, ho1, hr1⟩ := hst'
    refine ⟨.ref s.heap.objs.size, _, I1, rfl, ⟨_, c, rfl, I.hok.fresh (Nat.le_refl _), hcx, rfl⟩, ⟨⟨.str ⟨#[c]⟩ u, ?_⟩, ⟨oi, (sb.2 it (Ne.symm hne)).trans ho1, hr1⟩, hne⟩, fun b hb => ?_⟩
    · have e1 : ((i + 1 : Nat) : Int) = (i : Int) + 1 := by omega
      rw [e1]; exact he'
    · have hb' : b < s.heap.objs.size := by
        have e' : b = e ∨ b = it := by simpa using hb
        rcases e' with z | z
        · rw [z]; exact hel
        · rw [z]; exact hil
      rw [upd_ne (Nat.ne_of_lt hb')]
      exact (hf b hb).1
  done := by
    intro X hP hw hK hc i pins s σ H E I hf st hg
    subst hP hw hK
    obtain ⟨⟨old, he⟩, hit, hne⟩ := st
    have hg : i = x.cps.size := hg
    subst hg
    obtain ⟨f0, f1, f2, f3, f4, f5⟩ := hf it (by simp)
    exact wpAny_pyNext_enum_endD (Draws.text (show X.A.in1.handled = none from I.ok.hd hc) it x t) he hit fun h' eb => ⟨rfl, I.turned (t' := s.toks) (fun b o hb q => eb b o hb q) f0 f1 f3 f4 f5⟩
  self := fun A i s Q E st h => let ⟨⟨_, he⟩, _⟩ := st; wpAny_pyIter_enum he h
def iEnumX (ta : TA) : TI := fun σ H R => ta σ H fun vs H1 => ∃ x, vs = [.str x] ∧ R (Itx x) H1
theorem pi_enumX {X : Cx} {e : Expr} {ta : TA} {p pos tpos : Pos} {elts : List Expr} {kk : Nat} (hg : Gl X "enumerate") (hm : X.mg "enumerate" = none) (ha : PA X [e] ta) (hs : starEach [e] X.env = [(false, eval e X.env)] := by rfl) :
    PI X (.Tuple elts kk tpos) (.Call (.Name "enumerate" p) [e] [] pos) (iEnumX ta) := by
  refine ⟨fun pins s σ H R I h => ?_⟩
  refine Call_ (ld_blt I hg hm boot_enumerate (PyProof.Rows.callWith_type1 (thn (ha.run pos pins s σ H _ I h) fun us s1 ⟨vs, H1, I1, r1, q1⟩ => ?_) hs rfl))
  obtain ⟨x, ex, q⟩ := q1
  subst ex
  cases r1 with
  | cons r rr =>
    cases rr
    obtain ⟨t, rfl⟩ := r
    have fr : ∀ b ∈ [s1.heap.objs.size + 1, s1.heap.objs.size], s1.heap.objs.size ≤ b := fun b hb => by
      have e' : b = s1.heap.objs.size + 1 ∨ b = s1.heap.objs.size := by simpa using hb
      rcases e' with z | z
      · rw [z]; exact Nat.le_add_right _ _
      · rw [z]; exact Nat.le_refl _
    refine enum_begins1 (begins_text x t) trivial fun h' he hi hsz hk => wpAny_pyIter_enum he ?_
    have I2 : Inv X pins σ H1 { s1 with heap := h' } := I1.kept (t' := s1.toks) hk
    exact ⟨s1.heap.objs.size + 1, [s1.heap.objs.size + 1, s1.heap.objs.size], _, _, H1, rfl, I2, turn_enumX x t (s1.heap.objs.size + 1) s1.heap.objs.size, ⟨⟨.none, he⟩, ⟨_, hi, rfl, rfl⟩, Nat.succ_ne_self _⟩, fun b hb => I1.fpOk (fr b hb) (I1.hok.fresh (fr b hb)), q⟩
/-- a comprehension over any walk of n turns -/
theorem lc_it {It : It} {n : Nat} {g : TG} {tt : TT} {te : TE} {vs : List Nat} {σ : Aw.St} {H1 : Hp} {D : Addr} {Qd : Hp → Prop} (Pv : Nat → Hp → Prop) (h0 : Pv 0 (upd H1 D (.lst []))) (hgo : ∀ i H, i < n → Pv i H → It.go i H) (hstop : ∀ H, Pv n H → It.stop n H)
    (hs : ∀ i x H H', i < n → Pv i H → It.yld i H x H' → g x (wipe σ vs) H' fun σ2 H2 => wipe σ2 vs = wipe σ vs ∧ tt σ2 H2 fun b H3 =>
      if b = true then te σ2 H3 fun y H4 => ∃ acc, H4 D = some (.lst acc) ∧ acc.length < sizeLine ∧ Pv (i + 1) (upd H4 D (.lst (acc ++ [y]))) else Pv (i + 1) H3) (hd : ∀ H, Pv n H → Qd H) :
    ∃ W : Nat → Nat → Hp → Prop, (∃ m, W 0 m (upd H1 D (.lst []))) ∧ ∀ i m H, W i m H →
      (It.stop i H ∧ Qd H) ∨ (It.go i H ∧ ∃ Nx : Hp → Prop, (∀ H', Nx H' → ∃ m', m' < m ∧ W (i + 1) m' H') ∧ ∀ x H', It.yld i H x H' → g x (wipe σ vs) H' fun σ2 H2 => wipe σ2 vs = wipe σ vs ∧ tt σ2 H2 fun b H3 =>
        if b = true then te σ2 H3 fun y H4 => ∃ acc, H4 D = some (.lst acc) ∧ acc.length < sizeLine ∧ Nx (upd H4 D (.lst (acc ++ [y]))) else Nx H3) := by
  refine ⟨fun i m H => m = n - i ∧ i ≤ n ∧ Pv i H, ⟨n, by simp, Nat.zero_le _, h0⟩, ?_⟩
  rintro i m H ⟨rfl, hi, p⟩
  by_cases hlt : i < n
  · refine .inr ⟨hgo i H hlt p, Pv (i + 1), fun H' p' => ⟨n - (i + 1), by omega, rfl, hlt, p'⟩, fun x H' y => ?_⟩
    exact hs i x H H' hlt p y
  · have e : i = n := by omega
    subst e
    exact .inl ⟨hstop H p, hd H p⟩
end Aw

namespace Aw
open PySem PySem.Spec PyProof.Rows L2 NdefX
/-! ### range(a, b) of any whole numbers -/
theorem turn_long {P : Program} {w : World} {K : PySem.W.Frag} {tg : Expr} (it : Addr) (lo : Int) (n : Nat) : Turn P w K tg (Itr lo n) [it] it (fun i h => IsLongIter h it (lo + (i : Nat) * 1) ((n : Int) - (i : Nat)) 1) where
  mem := by simp
  obj := fun i h st b hb => by
    have e : b = it := by simpa using hb
    subst e
    exact ⟨_, st, fun v z => by
      have z' : Data.fields _ = Data.cell v := z
      cases z'⟩
  keep := fun i h h' st k => k it (by simp) _ st
  item := by
    intro X hP hw hK hc i pins s σ H E I hf st hg
    subst hP hw hK
    obtain ⟨f0, f1, f2, f3, f4, f5⟩ := hf it (by simp)
    have W := Walks.longrange (prog := X.prog) (w := X.w) (I.ok.hd hc) it lo 1 n
    refine W.item i s _ _ hg st fun v h' tk hv st' kk => ?_
    obtain ⟨t, rfl⟩ := hv
    have I1 : Inv X pins σ H { s with heap := h', toks := tk } := I.turned (fun b o hb e => kk b o (by simpa using hb) e) f0 f1 f3 f4 f5
    refine ⟨_, rfl, go_of (s := { s with heap := h', toks := tk }) (n := "longrange_iterator") st' rfl rfl (by decide) ⟨.int (lo + i), H, I1, ⟨t, ?_⟩, ⟨rfl, rfl⟩, st', fun b hb => (hf b hb).1⟩⟩
    rw [Int.mul_one]
  done := by
    intro X hP hw hK hc i pins s σ H E I hf st hg
    subst hP hw hK
    obtain ⟨f0, f1, f2, f3, f4, f5⟩ := hf it (by simp)
    exact wpAny_pyNext_long_end (I.ok.hd hc) st (by have : n ≤ i := hg; omega) fun h' eb => ⟨rfl, I.turned (t' := s.toks) (fun b o hb e => eb b o hb e) f0 f1 f3 f4 f5⟩
  self := fun _ _ _ _ _ st h => wpAny_pyIter_longiter st h
theorem size_oneA {lo hi : Int} : (((hi - lo).toNat : Nat) : Int) = Builtin.Range.rangeSize lo hi 1 := by
  unfold Builtin.Range.rangeSize
  rw [if_pos (by decide)]
  by_cases z : lo < hi
  · rw [if_pos z, Int.ediv_one]
    omega
  · rw [if_neg z]
    omega
theorem range_itA {X : Cx} {tg : Expr} {pins : List (Addr × Obj)} {σ : Aw.St} {H : Hp} {s : Shared} {R : It → Hp → Prop} {E : Value → Shared → Prop} {lo hi : Int} {t u v : Tok} {tk : Nat} (I : Inv X pins σ H s)
    (q : R (Itr lo (hi - lo).toNat) H) : wpAny (model X.prog X.w) X.A (pyIter (.ref s.heap.objs.size)) (PIE X pins σ tg R) E { s with heap := s.heap.push { cls := .type "range", data := .fields #[.int lo t, .int hi u, .int 1 v] }, toks := tk } := by
  have I1 : Inv X pins σ H { s with heap := s.heap.push { cls := .type "range", data := .fields #[.int lo t, .int hi u, .int 1 v] }, toks := tk } := I.kept fun b o e => Heap.get?_push_of_some _ e
  have e1 : lo + ((0 : Nat) : Int) * 1 = lo := by simp
  have e2 : (((hi - lo).toNat : Nat) : Int) - ((0 : Nat) : Int) = Builtin.Range.rangeSize lo hi 1 := by rw [← size_oneA]; omega
  have fr : ∀ b ∈ [(s.heap.push { cls := .type "range", data := .fields #[.int lo t, .int hi u, .int 1 v] }).objs.size], (s.heap.push { cls := .type "range", data := .fields #[.int lo t, .int hi u, .int 1 v] }).objs.size ≤ b := fun b hb => by
    have e : b = (s.heap.push { cls := .type "range", data := .fields #[.int lo t, .int hi u, .int 1 v] }).objs.size := by simpa using hb
    rw [e]
    exact Nat.le_refl _
  cases hs : Builtin.Range.small lo hi 1 with
  | true =>
    refine wpAny_pyIter_range (IsRange.new ..) hs ?_
    refine ⟨(s.heap.push { cls := .type "range", data := .fields #[.int lo t, .int hi u, .int 1 v] }).objs.size, [(s.heap.push { cls := .type "range", data := .fields #[.int lo t, .int hi u, .int 1 v] }).objs.size], _, _, H, rfl,
      I1.kept (t' := tk) fun b o e => Heap.get?_push_of_some _ e, turn_range _ lo (hi - lo).toNat, ?_, fun b hb => I1.fpOk (fr b hb) (I1.hok.fresh (fr b hb)), q⟩
    show IsRangeIter _ _ (lo + ((0 : Nat) : Int) * 1) ((((hi - lo).toNat : Nat) : Int) - ((0 : Nat) : Int)) 1
    rw [e1, e2]
    exact Heap.get?_push_size _ rfl
  | false =>
    refine wpAny_pyIter_longrange (IsRange.new ..) hs ?_
    refine ⟨(s.heap.push { cls := .type "range", data := .fields #[.int lo t, .int hi u, .int 1 v] }).objs.size, [(s.heap.push { cls := .type "range", data := .fields #[.int lo t, .int hi u, .int 1 v] }).objs.size], _, _, H, rfl,
      I1.kept (t' := tk) fun b o e => Heap.get?_push_of_some _ e, turn_long _ lo (hi - lo).toNat, ?_, fun b hb => I1.fpOk (fr b hb) (I1.hok.fresh (fr b hb)), q⟩
    show IsLongIter _ _ (lo + ((0 : Nat) : Int) * 1) ((((hi - lo).toNat : Nat) : Int) - ((0 : Nat) : Int)) 1
    rw [e1, e2]
    exact Heap.get?_push_size _ rfl
def iRngA (ta : TA) : TI := fun σ H R => ta σ H fun vs H1 => ∃ i j : Int, vs = [.int i, .int j] ∧ R (Itr i (j - i).toNat) H1
theorem pi_rangeA {X : Cx} {tg : Expr} {a b : Expr} {ta : TA} {p pos : Pos} (hg : Gl X "range") (hm : X.mg "range" = none) (ha : PA X [a, b] ta) (hs : starEach [a, b] X.env = [(false, eval a X.env), (false, eval b X.env)] := by rfl) (hs2 : starEach [b] X.env = [(false, eval b X.env)] := by rfl) :
    PI X tg (.Call (.Name "range" p) [a, b] [] pos) (iRngA ta) := by
  refine ⟨fun pins s σ H R I h => ?_⟩
  refine Call_ (ld_blt I hg hm boot_range (PyProof.Rows.callWith_type1 (thn (ha.run pos pins s σ H _ I h) fun us s1 ⟨vs, H1, I1, r1, q1⟩ => ?_) (by rw [hs, hs2]) (by rw [hs2]; rfl)))
  obtain ⟨i, j, e, q⟩ := q1
  subst e
  cases r1 with
  | cons r rr =>
    cases rr with
    | cons r' rr =>
      cases rr
      obtain ⟨t, rfl⟩ := r
      obtain ⟨t', rfl⟩ := r'
      exact call_range_2 (range_itA I1 q)
end Aw

namespace Aw
open PySem PySem.Spec PyProof.Rows L2 NdefX
/-- the places of the bits 1 -/
def bitsL (m w : Nat) : List Nat := (List.range w).filter fun i => m.testBit i
theorem bitsL_len {m w : Nat} : (bitsL m w).length = popW m w := rfl
theorem bitsL_add {m a : Nat} (h : m < 2 ^ a) (k : Nat) : bitsL m (a + k) = bitsL m a := by
  unfold bitsL
  rw [List.range_add, List.filter_append]
  have e : ((List.range k).map (a + ·)).filter (fun i => m.testBit i) = [] := by
    rw [List.filter_eq_nil_iff]
    intro i hi
    obtain ⟨j, _, rfl⟩ := List.mem_map.mp hi
    rw [Nat.testBit_lt_two_pow (Nat.lt_of_lt_of_le h (Nat.pow_le_pow_right (by decide) (Nat.le_add_right a j)))]
    exact Bool.noConfusion
  rw [e, List.append_nil]
theorem bitsL_eq {m a b : Nat} (ha : m < 2 ^ a) (hb : m < 2 ^ b) : bitsL m a = bitsL m b := by
  rcases Nat.le_total a b with h | h
  · rw [← bitsL_add ha (b - a), Nat.add_sub_cancel' h]
  · rw [← bitsL_add hb (a - b), Nat.add_sub_cancel' h]
theorem bin_lo : ∀ (w n : Nat), n < 2 ^ w → n < 2 ^ (binC n).length
  | 0, n, h => by
    have h : n < 1 := h
    rw [bin_lt (by omega)]
    show n < 2
    omega
  | w + 1, n, h => by
    by_cases z : n < 2
    · rw [bin_lt z]
      exact z
    · have hp : 2 ^ (w + 1) = 2 * 2 ^ w := by rw [Nat.pow_succ, Nat.mul_comm]
      have := bin_lo w (n / 2) (by omega)
      rw [bin_ge (by omega), List.length_append]
      show n < 2 ^ ((binC (n / 2)).length + 1)
      rw [Nat.pow_succ]
      omega
def spBitsOf : Sp := fun vs H Q _ => ∃ m w : Nat, vs = [.int (m : Nat)] ∧ m < 2 ^ w ∧ w ≤ 900 ∧ ∀ (L : Addr) (H' : Hp), Same H H' → H L = none → H' L = some (.lst ((bitsL m w).map fun i => V.int (i : Nat))) → Q (.ref L) H'
section
variable {P : Program} {w : World} {K : PySem.W.Frag} {mg : Str → Option Value} {base : Heap}
theorem scBitsOf : FnScope ["mask", "text", "place", "sign"] ["mask"] (defScope sBitsOf) := ⟨rfl, rfl, rfl, by decide +kernel, rfl, by decide +kernel, by decide +kernel⟩
theorem ok_bitsof {f : Addr} {fd : FuncData} (F : Fun K "bits_of" "bits_of" sBitsOf f fd) (gE : mg "enumerate" = none) : FnOk P w K mg base CX0 1 f fd ["mask"] spBitsOf := by
  refine F.ok scBitsOf (fun vs H Q E h => ?_) (fun cdv A outer s H vs Q E hr h => ?_)
  · obtain ⟨m, wd, rfl, _⟩ := h
    rfl
  · obtain ⟨m, wd, rfl, hm, hw, hQ⟩ := h
    have nd := scBitsOf.nd
    refine ⟨_, (pss_cons (ps_set (i := 1) nd rfl (Or.inl rfl) (pe_joined1 (pe_fmtB (pe_joined1 pe_str) (pv 0))))
      (pss_one (ps_ret (pe_lc (own := [("place", 2), ("sign", 3)]) (g := (gTup _ 2 (gCons (gName 2) (gCons (gName 3) gNil)))) rfl nd (pi_enumX (by rfl) gE (pa_cons (pe_revS (pv 1)) pa_nil)) (blkOk_by (own := [("place", 2), ("sign", 3)]) (N := ["mask", "text", "place", "sign"]) (sc := defScope sBitsOf) (by decide +kernel)) (fun _ _ _ _ _ => (pg_tup rfl (pgs_cons (pg_name (i := 2) nd rfl (Or.inl rfl)) (pgs_cons (pg_name (i := 3) nd rfl (Or.inl rfl)) pgs_nil)))) (fun _ _ _ _ _ => pts_one (pt_cmpR op_eq (pv 3) pe_str (nomark _))) (fun _ _ _ _ _ => (pv 2)))))), ?_⟩
    -- BODY
    have bl := bin_len wd m hm
    refine ⟨_, rfl, m, rfl, Nat.le_trans (show (binC m).length ≤ 1000 by omega) kz, ?_⟩
    have hz : (binT m).length ≤ sizeLine := Nat.le_trans (show (binC m).length ≤ 1000 by omega) kz
    have hlo := bin_lo wd m hm
    have hat : ∀ i : Nat, (revS (binT m)).cps[i]? = if i < (binC m).length then some (if m.testBit i then 49 else 48) else none := fun i => by
      by_cases w0 : 0 < wd
      · rw [← bin_at wd m hm w0 i]
        show ((binC m).toArray.toList.reverse.toArray)[i]? = _
        rw [List.getElem?_toArray]
      · have m0 : m = 0 := by
          rw [show wd = 0 by omega] at hm
          have hm : m < 1 := hm
          omega
        rw [← bin_at 1 m (by omega) (by decide) i]
        show ((binC m).toArray.toList.reverse.toArray)[i]? = _
        rw [List.getElem?_toArray]
    have hsz : (revS (binT m)).cps.size = (binC m).length := by
      show ((binC m).toArray.toList.reverse.toArray).size = _
      rw [List.size_toArray, List.length_reverse]
    refine ⟨_, rfl, binT m, rfl, hz, revS (binT m), rfl, fun D hD => ?_⟩
    refine lc_it (n := (binC m).length) (fun i H2 => Same H H2 ∧ H2 D = some (.lst ((bitsL m i).map fun i => V.int (i : Nat)))) ⟨same_upd hD, upd_same⟩ (fun i H2 hi _ => by show i < (revS (binT m)).cps.size; rw [hsz]; exact hi) (fun H2 _ => by show (binC m).length = (revS (binT m)).cps.size; rw [hsz]) ?_ ?_
    · rintro i x H2 H3 hi ⟨s2, e2⟩ ⟨T, c, rfl, hT, hc, rfl⟩
      have sT := same_upd (o := .tup [.int (i : Nat), .str ⟨#[c]⟩]) hT
      rw [hat, if_pos hi] at hc
      refine ⟨T, _, rfl, SqT.of upd_same, rfl, _, _, rfl, _, _, rfl, rfl, rfl, ?_⟩
      have es : bitsL m (i + 1) = bitsL m i ++ (if m.testBit i then [i] else []) := by
        unfold bitsL
        rw [List.range_succ, List.filter_append]
        congr 1
        cases hb : m.testBit i with
        | true => exact List.filter_cons_of_pos hb
        | false => exact List.filter_cons_of_neg (by rw [hb]; exact Bool.noConfusion)
      have ln : (bitsL m i).length < sizeLine := by
        have := popW_le (m := m) (w := i)
        rw [← bitsL_len] at this
        exact Nat.lt_of_lt_of_le (by omega : (bitsL m i).length < 1000) kz
      have s3 := s2.trans sT
      have e3 := sT _ _ e2
      cases hb : m.testBit i with
      | true =>
        rw [hb] at hc es
        obtain rfl : 49 = c := Option.some.inj hc
        have ed : decide (V.str ⟨#[49]⟩ = V.str "1") = true := by decide +kernel
        refine ⟨_, rfl, rfl, _, rfl, ?_⟩
        rw [ed]
        refine Eq.mpr (if_pos rfl) ?_
        refine ⟨_, rfl, _, e3, by rw [List.length_map]; exact ln, same_fresh hD s3, ?_⟩
        rw [upd_same, es, List.map_append]
        rfl
      | false =>
        rw [hb] at hc es
        obtain rfl : 48 = c := Option.some.inj hc
        have ed : decide (V.str ⟨#[48]⟩ = V.str "1") = false := by decide +kernel
        refine ⟨_, rfl, rfl, _, rfl, ?_⟩
        rw [ed]
        refine Eq.mpr (if_neg (by decide)) ?_
        refine ⟨s3, ?_⟩
        rw [e3, es]
        show _ = some (HO.lst ((bitsL m i ++ []).map _))
        rw [List.append_nil]
    · rintro H2 ⟨s2, e2⟩
      rw [bitsL_eq hlo hm] at e2
      exact hQ D H2 s2 hD e2
end
end Aw

namespace Aw
open PySem PySem.Spec PyProof.Rows L2 NdefX
/-! ### the marked places in their order -/
theorem bitsL_succ {m i : Nat} : bitsL m (i + 1) = bitsL m i ++ (if m.testBit i then [i] else []) := by
  unfold bitsL
  rw [List.range_succ, List.filter_append]
  congr 1
  cases hb : m.testBit i with
  | true => exact List.filter_cons_of_pos hb
  | false => exact List.filter_cons_of_neg (by rw [hb]; exact Bool.noConfusion)
theorem bitsL_at {m : Nat} : ∀ {w i r : Nat}, (bitsL m w)[i]? = some r → r < w ∧ m.testBit r = true ∧ popW m r = i
  | 0, i, r, h => by cases h
  | w + 1, i, r, h => by
    rw [bitsL_succ] at h
    by_cases q : i < (bitsL m w).length
    · rw [List.getElem?_append_left q] at h
      obtain ⟨a, b, c⟩ := bitsL_at h
      exact ⟨Nat.lt_succ_of_lt a, b, c⟩
    · rw [List.getElem?_append_right (Nat.le_of_not_lt q)] at h
      cases hb : m.testBit w with
      | false => rw [hb] at h; cases h
      | true =>
        rw [hb] at h
        cases hd : i - (bitsL m w).length with
        | zero =>
          rw [hd] at h
          obtain rfl : w = r := Option.some.inj h
          exact ⟨Nat.lt_succ_self _, hb, by rw [← bitsL_len]; omega⟩
        | succ k => rw [hd] at h; cases h
theorem bitsL_of {m : Nat} : ∀ {w r : Nat}, r < w → m.testBit r = true → (bitsL m w)[popW m r]? = some r
  | 0, _, h, _ => absurd h (Nat.not_lt_zero _)
  | w + 1, r, h, hb => by
    rw [bitsL_succ]
    rcases Nat.lt_or_ge r w with q | q
    · have ih := bitsL_of q hb
      have l := (List.getElem?_eq_some_iff.mp ih).1
      rw [List.getElem?_append_left l]
      exact ih
    · have e : r = w := by omega
      subst e
      rw [hb, List.getElem?_append_right (by rw [bitsL_len]; exact Nat.le_refl _), bitsL_len, Nat.sub_self]
      rfl
/-- the marked place number n of a mask that holds for all -/
def nthM (m w n : Nat) : Nat := n / popW m w * w + (bitsL m w)[n % popW m w]?.getD 0
theorem nthM_ok {m w n : Nat} (w0 : 0 < w) (h : 0 < popW m w) : m.testBit (nthM m w n % w) = true ∧ cntF m w (nthM m w n) = n := by
  have l : n % popW m w < (bitsL m w).length := Nat.mod_lt _ h
  obtain ⟨r, hr⟩ : ∃ r, (bitsL m w)[n % popW m w]? = some r := ⟨_, List.getElem?_eq_getElem l⟩
  obtain ⟨a, b, c⟩ := bitsL_at hr
  unfold nthM
  rw [hr, Option.getD_some]
  constructor
  · rw [Nat.mul_comm, Nat.mul_add_mod, Nat.mod_eq_of_lt a]
    exact b
  · rw [cntF_lap (Nat.le_of_lt a), c]
    exact Nat.div_add_mod' n (popW m w)
theorem nthM_of {m w j : Nat} (w0 : 0 < w) (h : m.testBit (j % w) = true) : 0 < popW m w ∧ nthM m w (cntF m w j) = j := by
  have a := Nat.mod_lt j w0
  have b := bitsL_of a h
  have l := (List.getElem?_eq_some_iff.mp b).1
  rw [bitsL_len] at l
  refine ⟨by omega, ?_⟩
  have e : j = j / w * w + j % w := (Nat.div_add_mod' j w).symm
  have c : cntF m w j = j / w * popW m w + popW m (j % w) := by
    rw [e, cntF_lap (Nat.le_of_lt a), ← e]
  unfold nthM
  have d1 : (j / w * popW m w + popW m (j % w)) / popW m w = j / w := by
    rw [Nat.mul_comm, Nat.mul_add_div (by omega), Nat.div_eq_of_lt l, Nat.add_zero]
  have d2 : (j / w * popW m w + popW m (j % w)) % popW m w = popW m (j % w) := by
    rw [Nat.mul_comm, Nat.mul_add_mod, Nat.mod_eq_of_lt l]
  rw [c, d1, d2, b, Option.getD_some]
  exact e.symm
theorem cntF_mono {m w a b : Nat} (h : a ≤ b) : cntF m w a ≤ cntF m w b := by
  obtain ⟨d, rfl⟩ : ∃ d, b = a + d := ⟨b - a, by omega⟩
  rw [cntF_add]
  exact Nat.le_add_right _ _
theorem cntF_next {m w j : Nat} (h : m.testBit (j % w) = true) : cntF m w (j + 1) = cntF m w j + 1 := by
  unfold cntF
  rw [List.range_succ, List.filter_append, List.length_append]
  congr 1
  rw [List.filter_cons_of_pos (p := fun j => m.testBit (j % w)) h]
  rfl
theorem popW_pos {m w b k : Nat} (w0 : 0 < w) (h : k < cntF m w b) : 0 < popW m w := by
  rcases Nat.eq_zero_or_pos (popW m w) with z | z
  · have e : b = b / w * w + b % w := (Nat.div_add_mod' b w).symm
    have c : cntF m w b = b / w * popW m w + popW m (b % w) := by
      have := cntF_lap (m := m) (Nat.le_of_lt (Nat.mod_lt b w0)) (b / w)
      rw [← e] at this
      exact this
    have pz : popW m (b % w) ≤ popW m w := by
      rw [← cntF_lt (w := w) (Nat.le_of_lt (Nat.mod_lt b w0)), ← cntF_lt (w := w) (Nat.le_refl w)]
      exact cntF_mono (Nat.le_of_lt (Nat.mod_lt b w0))
    rw [z, Nat.mul_zero, Nat.zero_add] at c
    omega
  · exact z
theorem cntF_le {m w p : Nat} : cntF m w p ≤ p := by
  unfold cntF
  exact Nat.le_trans (List.length_filter_le _ _) (by rw [List.length_range]; exact Nat.le_refl _)
/-- the marked places of a mask from a on, below b -/
def placesM (m w a b : Nat) : List Nat := (List.range (cntF m w b - cntF m w a)).map fun i => nthM m w (cntF m w a + i)
theorem mem_placesM {m w a b j : Nat} (w0 : 0 < w) (ab : a ≤ b) : j ∈ placesM m w a b ↔ a ≤ j ∧ j < b ∧ m.testBit (j % w) = true := by
  have mo := cntF_mono (m := m) (w := w) ab
  unfold placesM
  rw [List.mem_map]
  constructor
  · rintro ⟨i, hi, rfl⟩
    have hi := List.mem_range.mp hi
    have pos : 0 < popW m w := popW_pos w0 (b := b) (k := cntF m w a) (by omega)
    obtain ⟨h1, h2⟩ := nthM_ok (n := cntF m w a + i) w0 pos
    refine ⟨?_, ?_, h1⟩
    · rcases Nat.lt_or_ge (nthM m w (cntF m w a + i)) a with z | z
      · have n1 := cntF_next h1
        have n2 := cntF_mono (m := m) (w := w) z
        rw [show Nat.succ _ = nthM m w (cntF m w a + i) + 1 from rfl] at n2
        omega
      · exact z
    · rcases Nat.lt_or_ge (nthM m w (cntF m w a + i)) b with z | z
      · exact z
      · have n2 := cntF_mono (m := m) (w := w) z
        omega
  · rintro ⟨h1, h2, h3⟩
    obtain ⟨_, e⟩ := nthM_of w0 h3
    have n1 := cntF_next h3
    have n2 := cntF_mono (m := m) (w := w) h1
    have n3 := cntF_mono (m := m) (w := w) h2
    rw [show Nat.succ j = j + 1 from rfl] at n3
    exact ⟨cntF m w j - cntF m w a, List.mem_range.mpr (by omega), by rw [show cntF m w a + (cntF m w j - cntF m w a) = cntF m w j by omega]; exact e⟩
/-- .. of pieces, from the place a on -/
def placesF (w : Nat) : Nat → Pcs → List Nat
  | _, [] => []
  | a, (e, m) :: r => placesM m w a e.toNat ++ placesF w e.toNat r
theorem placesF_app {w : Nat} : ∀ {a : Nat} {P Q : Pcs}, placesF w a (P ++ Q) = placesF w a P ++ placesF w ((P.getLast?.map fun x => x.1.toNat).getD a) Q
  | _, [], _ => rfl
  | a, [(e, m)], Q => by
    show placesM m w a e.toNat ++ placesF w e.toNat Q = (placesM m w a e.toNat ++ []) ++ placesF w e.toNat Q
    rw [List.append_nil]
  | a, (e, m) :: (f, n) :: r, Q => by
    show placesM m w a e.toNat ++ placesF w e.toNat (((f, n) :: r) ++ Q) = (placesM m w a e.toNat ++ placesF w e.toNat ((f, n) :: r)) ++ _
    rw [placesF_app (P := (f, n) :: r), List.append_assoc]
    rfl
theorem mem_placesF {w : Nat} (w0 : 0 < w) : ∀ {a s : Int} {P : Pcs} {j : Nat}, Asc a P s → 0 ≤ a → (j ∈ placesF w a.toNat P ↔ a ≤ j ∧ (j : Int) < s ∧ markF P w j = true)
  | a, s, [], j, h, a0 => by
    have h : a = s := h
    constructor
    · intro z; cases z
    · rintro ⟨z1, z2, _⟩; omega
  | a, s, (e, m) :: r, j, h, a0 => by
    have ae : a < e := h.1
    have le := h.2.le
    have ih := mem_placesF w0 (j := j) h.2 (by omega)
    have em : (((j : Nat) : Int) % (w : Nat)).toNat = j % w := by rw [← Int.natCast_emod, Int.toNat_natCast]
    show j ∈ placesM m w a.toNat e.toNat ++ placesF w e.toNat r ↔ _
    rw [List.mem_append, mem_placesM w0 (by omega), ih]
    have mk : markF ((e, m) :: r) w (j : Nat) = Nat.testBit (if ((j : Nat) : Int) < e then m else maskAt r j) (((j : Nat) : Int) % (w : Nat)).toNat := rfl
    have mk2 : markF r w (j : Nat) = Nat.testBit (maskAt r j) (((j : Nat) : Int) % (w : Nat)).toNat := rfl
    rw [mk, mk2, em]
    by_cases z : ((j : Nat) : Int) < e
    · rw [if_pos z]
      constructor
      · rintro (⟨q1, q2, q3⟩ | ⟨q1, _⟩)
        · exact ⟨by omega, by omega, q3⟩
        · omega
      · rintro ⟨q1, q2, q3⟩
        exact .inl ⟨by omega, by omega, q3⟩
    · rw [if_neg z]
      constructor
      · rintro (⟨q1, q2, q3⟩ | ⟨q1, q2, q3⟩)
        · omega
        · exact ⟨by omega, q2, q3⟩
      · rintro ⟨q1, q2, q3⟩
        exact .inr ⟨by omega, q2, q3⟩
end Aw

namespace Aw
open PySem PySem.Spec PyProof.Rows L2 NdefX
def spMPl : Sp := fun vs H Q _ => ∃ (L : Addr) (xs : List V) (P : Pcs) (w : Nat) (s : Int), vs = [.ref L, .int (w : Nat)] ∧ H L = some (.lst xs) ∧ PcA H xs P ∧ P.length ≤ 900 ∧ Asc 0 P s ∧ (∀ x ∈ P, x.2 < 2 ^ w) ∧ 0 < w ∧ w ≤ 900 ∧
  (placesF w 0 P).length ≤ 5000 ∧ ∀ (R : Addr) (H' : Hp), Same H H' → H R = none → H' R = some (.lst ((placesF w 0 P).map fun j => V.int (j : Nat))) → Q (.ref R) H'
/-- where the pieces behind the first i ones start -/
def startF (P : Pcs) (i : Nat) : Nat := ((P.take i).getLast?.map fun x => x.1.toNat).getD 0
theorem startF_le {a s : Int} {P : Pcs} (h : Asc a P s) (a0 : 0 ≤ a) (i : Nat) : ((startF P i : Nat) : Int) ≤ s := by
  unfold startF
  cases hl : (P.take i).getLast? with
  | none =>
    have := h.le
    show ((0 : Nat) : Int) ≤ s
    omega
  | some x =>
    have m := List.mem_of_mem_take (List.mem_of_getLast? hl)
    obtain ⟨h1, h2⟩ := h.mem_le x m
    show ((x.1.toNat : Nat) : Int) ≤ s
    omega
theorem getLast_lt : ∀ {a s : Int} {P : Pcs} {i : Nat} {x : Int × Nat}, Asc a P s → P[i]? = some x → ((P.take i).getLast?.map fun y => y.1).getD a < x.1
  | _, _, [], _, _, _, e => by simp at e
  | a, s, (e, m) :: r, 0, x, h, q => by
    cases Option.some.inj q
    exact h.1
  | a, s, (e, m) :: r, i + 1, x, h, q => by
    have ih := getLast_lt (i := i) h.2 (by simpa using q)
    rw [List.take_succ_cons, List.getLast?_cons]
    cases hl : (r.take i).getLast? with
    | none =>
      rw [hl] at ih
      exact ih
    | some y =>
      rw [hl] at ih
      exact ih
theorem startF_next {s e : Int} {P : Pcs} {i m : Nat} (h : Asc 0 P s) (a0 : (0 : Int) ≤ 0) (q : P[i]? = some (e, m)) : startF P i ≤ e.toNat := by
  have l := getLast_lt h q
  unfold startF
  cases hl : (P.take i).getLast? with
  | none => exact Nat.zero_le _
  | some x =>
    rw [hl] at l
    have l : x.1 < e := l
    show x.1.toNat ≤ e.toNat
    omega
section
variable {P : Program} {w : World} {K : PySem.W.Frag} {mg : Str → Option Value} {base : Heap}
structure TxtMPl (K : PySem.W.Frag) (mg : Str → Option Value) (fU fB fF fO : Addr) (ud bd fd od : FuncData) : Prop where
  U : TxtUp K mg fB fF bd fd
  FU : Fun K "many_upto" "many_upto" sUpto fU ud
  bU : Binds K ud ["mask", "wide", "place"] []
  gU : mg "many_upto" = some (.ref fU)
  FO : Fun K "bits_of" "bits_of" sBitsOf fO od
  bO : Binds K od ["mask"] []
  gO : mg "bits_of" = some (.ref fO)
  len : mg "len" = none
  range : mg "range" = none
  enum : mg "enumerate" = none
theorem scMPl : FnScope ["pieces", "wide", "found", "start", "end", "mask", "spots", "number", "laps", "rest"] ["pieces", "wide"] (defScope sMPl) := ⟨rfl, rfl, rfl, by decide +kernel, rfl, by decide +kernel, by decide +kernel⟩
theorem ok_mpl {f fU fB fF fO : Addr} {fd ud bd ffd od : FuncData} (F : Fun K "marked_places" "marked_places" sMPl f fd) (W : TxtMPl K mg fU fB fF fO ud bd ffd od) : FnOk P w K mg base CX0 3 f fd ["pieces", "wide"] spMPl := by
  have GU : FnOk P w K mg base CX0 2 fU ud ["mask", "wide", "place"] spUpto := ok_upto W.FU W.U
  have GO : FnOk P w K mg base CX0 1 fO od ["mask"] spBitsOf := ok_bitsof W.FO W.enum
  refine F.ok scMPl (fun vs H Q E h => ?_) (fun cdv A outer s H vs Q E hr h => ?_)
  · obtain ⟨L, xs, P, wd, s, rfl, _⟩ := h
    rfl
  · obtain ⟨L, xs, P, wd, sz, rfl, hL, pa, lP, as, ms, w0, w9, lpl, hQ⟩ := h
    have nd := scMPl.nd
    refine ⟨_, (pss_cons (ps_set (i := 2) nd rfl (Or.inl rfl) (pe_lst pa_nil))
      (pss_cons (ps_set (i := 3) nd rfl (Or.inl rfl) pe_int)
      (pss_cons (ps_for PassesOwn.never rfl (pi_list (pv 0)) (pg_tup rfl (pgs_cons (pg_name (i := 4) nd rfl (Or.inl rfl)) (pgs_cons (pg_name (i := 5) nd rfl (Or.inl rfl)) pgs_nil)))
        (pss_cons (ps_set (i := 6) nd rfl (Or.inl rfl) (pe_call GO (hr.mono (by decide)) (by rfl) W.gO W.FO.kp W.bO .nil pass0 (pa_cons (pv 5) pa_nil)))
        (pss_cons (ps_for PassesOwn.never rfl (pi_rangeA (by rfl) W.range (pa_cons (pe_call GU (hr.mono (by decide)) (by rfl) W.gU W.FU.kp W.bU .nil pass0 (pa_cons (pv 5) (pa_cons (pv 1) (pa_cons (pv 3) pa_nil)))) (pa_cons (pe_call GU (hr.mono (by decide)) (by rfl) W.gU W.FU.kp W.bU .nil pass0 (pa_cons (pv 5) (pa_cons (pv 1) (pa_cons (pv 4) pa_nil)))) pa_nil))) (pg_name (i := 7) nd rfl (Or.inl rfl))
          (pss_cons (ps_asg (pe_callB call_divmod (by rfl) W.U.dm (by decide +kernel) (pa_cons (pv 7) (pa_cons (pe_callB call_len_seq (by rfl) W.len PySem.boot_len (pa_cons (pv 6) pa_nil)) pa_nil))) (pg_tup rfl (pgs_cons (pg_name (i := 8) nd rfl (Or.inl rfl)) (pgs_cons (pg_name (i := 9) nd rfl (Or.inl rfl)) pgs_nil))))
          (pss_one (ps_expr (pe_bm PySem.F.plainAttrs_list PySem.F.slot_list_append PySem.F.type_list_append mt_append (pv 2) (pa_cons (pe_op op_add (pe_op op_mul (pv 8) (pv 1)) (pe_ix ix_list (pv 6) (pv 9) (fun _ _ => rfl))) pa_nil))))))
        (pss_one (ps_set (i := 3) nd rfl (Or.inl rfl) (pv 4))))))
      (pss_one (ps_ret (pv 2)))))), ?_⟩
    -- BODY
    have lx := pa.length
    refine ⟨by show 0 ≤ sizeLine; decide, fun F hF => ?_⟩
    refine ⟨_, rfl, L, rfl, ⟨xs, SqL.of (same_upd hF _ _ hL)⟩, ?_⟩
    refine for_list (a := L) (xs := xs) (fun i σ H2 => ∃ (v4 v5 v6 v7 v8 v9 : Option V), σ = [some (.ref L), some (.int (wd : Nat)), some (.ref F), some (.int (startF P i : Nat)), v4, v5, v6, v7, v8, v9] ∧ Same H H2 ∧ H2 F = some (.lst ((placesF wd 0 (P.take i)).map fun j => V.int (j : Nat)))) ⟨none, none, none, none, none, none, rfl, same_upd hF, upd_same⟩ (fun i σ H2 _ z => by
      obtain ⟨_, _, _, _, _, _, _, s2, _⟩ := z
      exact SqL.of (s2 _ _ hL)) ?_ ?_
    · rintro i v σ H2 hv ⟨v4, v5, v6, v7, v8, v9, rfl, s2, e2⟩
      obtain ⟨t, ⟨e, m⟩, rfl, ix, et⟩ := (pa.same s2).get hv
      have etk : P.take (i + 1) = P.take i ++ [(e, m)] := by rw [List.take_succ, ix]; rfl
      have mem : (e, m) ∈ P := List.mem_of_getElem? ix
      have mm : m < 2 ^ wd := ms _ mem
      obtain ⟨e0, es⟩ := as.mem_le _ mem
      dsimp only at e0 es
      have ee : e = ((e.toNat : Nat) : Int) := by omega
      have sb := startF_le as (Int.le_refl 0) i
      obtain ⟨st, hst⟩ : ∃ st, startF P i = st := ⟨_, rfl⟩
      have epl : placesF wd 0 (P.take (i + 1)) = placesF wd 0 (P.take i) ++ placesM m wd st e.toNat := by
        rw [etk, placesF_app, ← hst]
        show _ ++ (placesM m wd (startF P i) e.toNat ++ []) = _
        rw [List.append_nil]
      have esf : startF P (i + 1) = e.toNat := by
        unfold startF
        rw [etk, List.getLast?_concat]
        rfl
      have lall : (placesF wd 0 (P.take (i + 1))).length ≤ 5000 := by
        have := congrArg List.length (placesF_app (w := wd) (a := 0) (P := P.take (i + 1)) (Q := P.drop (i + 1)))
        rw [List.take_append_drop, List.length_append] at this
        omega
      rw [hst]
      rw [hst] at sb
      refine ⟨t, _, rfl, SqT.of et, rfl, _, _, rfl, _, _, rfl, rfl, ?_⟩
      refine ⟨_, rfl, m, wd, rfl, mm, w9, fun S H3 s3 hS e3 => ?_⟩
      have nSF : S ≠ F := fun z => by rw [z, e2] at hS; cases hS
      have c1 := cntF_le (m := m) (w := wd) (p := st)
      have c2 := cntF_le (m := m) (w := wd) (p := e.toNat)
      refine ⟨_, rfl, _, rfl, _, rfl, m, wd, st, rfl, mm, w0, w9, fun H4 s4 => ⟨_, rfl, _, rfl, _, rfl, m, wd, e.toNat, by rw [← ee]; rfl, mm, w0, w9, fun H5 s5 => ?_⟩⟩
      refine ⟨_, _, rfl, ?_⟩
      have s25 := (s3.trans s4).trans s5
      have e25 := s25 _ _ e2
      have eS5 := s5 _ _ (s4 _ _ e3)
      refine for_range (fun k σ H6 => ∃ (v7 v8 v9 : Option V), σ = [some (.ref L), some (.int (wd : Nat)), some (.ref F), some (.int (st : Nat)), some (.int e), some (.int (m : Nat)), some (.ref S), v7, v8, v9] ∧ Same H H6 ∧ H6 S = some (.lst ((bitsL m wd).map fun i => V.int (i : Nat))) ∧ H6 F = some (.lst ((placesF wd 0 (P.take i) ++ (placesM m wd st e.toNat).take k).map fun j => V.int (j : Nat)))) ?_ ?_ ?_
      · refine ⟨v7, v8, v9, rfl, s2.trans s25, eS5, ?_⟩
        rw [List.take_zero, List.append_nil]
        exact e25
      · rintro k σ H6 hk ⟨v7, v8, v9, rfl, s6, eS, eF⟩
        have hk : k < cntF m wd e.toNat - cntF m wd st := by omega
        have pos : 0 < popW m wd := popW_pos w0 (b := e.toNat) (k := cntF m wd st) (by omega)
        have p9 := popW_le (m := m) (w := wd)
        refine ⟨_, rfl, _, rfl, S, _, rfl, .inl (SqL.of eS), _, _, rfl, ?_, fun T hT => ?_⟩
        · rw [List.length_map, bitsL_len]
          exact ⟨by omega, by omega⟩
        rw [List.length_map, bitsL_len]
        refine ⟨T, _, rfl, SqT.of upd_same, rfl, _, _, rfl, _, _, rfl, rfl, ?_⟩
        have n1 : (((cntF m wd st : Nat) : Int) + (k : Nat)) / (popW m wd : Nat) = (((cntF m wd st + k) / popW m wd : Nat) : Int) := by rw [← Int.natCast_add, Int.natCast_ediv]
        have n2 : (((cntF m wd st : Nat) : Int) + (k : Nat)) % (popW m wd : Nat) = (((cntF m wd st + k) % popW m wd : Nat) : Int) := by rw [← Int.natCast_add, Int.natCast_emod]
        rw [n1, n2]
        have sT := same_upd (o := .tup [.int (((cntF m wd st + k) / popW m wd : Nat) : Int), .int (((cntF m wd st + k) % popW m wd : Nat) : Int)]) hT
        have eF' := sT _ _ eF
        have eS' := sT _ _ eS
        have s7 := s6.trans sT
        generalize upd H6 T (.tup [.int (((cntF m wd st + k) / popW m wd : Nat) : Int), .int (((cntF m wd st + k) % popW m wd : Nat) : Int)]) = H7 at *
        have rl : (cntF m wd st + k) % popW m wd < (bitsL m wd).length := Nat.mod_lt _ pos
        obtain ⟨r, hr⟩ : ∃ r, (bitsL m wd)[(cntF m wd st + k) % popW m wd]? = some r := ⟨_, List.getElem?_eq_getElem rl⟩
        have hat : atI ((bitsL m wd).map fun i => V.int (i : Nat)) (((cntF m wd st + k) % popW m wd : Nat) : Int) = some (.int (r : Nat)) := atI_nat (by rw [List.getElem?_map, hr]; rfl)
        refine ⟨_, rfl, .inl ⟨rfl, _, SqL.of eF'⟩, _, rfl, _, rfl, _, _, rfl, rfl, .inr ⟨by omega, Int.lt_of_le_of_lt (by omega : ((wd : Nat) : Int) ≤ 900) (by decide)⟩, _, rfl, _, rfl, S, _, _, _, rfl, rfl, SqL.of eS', hat, _, _, rfl, rfl, F, _, _, rfl, rfl, eF', ?_, ?_⟩
        · have l1 := congrArg List.length epl
          have l2 : (placesM m wd st e.toNat).length = cntF m wd e.toNat - cntF m wd st := by
            unfold placesM
            rw [List.length_map, List.length_range]
          rw [List.length_append, l2] at l1
          rw [List.length_map, List.length_append, List.length_take, l2]
          exact Nat.lt_of_lt_of_le (by omega) (show 5001 ≤ sizeLine by decide)
        have ek : (placesM m wd st e.toNat)[k]? = some (nthM m wd (cntF m wd st + k)) := by
          unfold placesM
          rw [List.getElem?_map, List.getElem?_range hk]
          rfl
        have en : nthM m wd (cntF m wd st + k) = (cntF m wd st + k) / popW m wd * wd + r := by
          unfold nthM
          rw [hr, Option.getD_some]
        refine ⟨_, _, _, rfl, same_fresh hF s7, by rw [upd_ne nSF]; exact eS', ?_⟩
        rw [upd_same, List.take_succ, ek, en]
        show some (HO.lst (_ ++ [V.int (_ * _ + _)])) = some (HO.lst (List.map _ (_ ++ (_ ++ [_]))))
        rw [← List.append_assoc, List.map_append, List.map_append, List.map_append]
        rfl
      · rintro σ H6 ⟨v7, v8, v9, rfl, s6, eS, eF⟩
        have lk : (placesM m wd st e.toNat).length = cntF m wd e.toNat - cntF m wd st := by
          unfold placesM
          rw [List.length_map, List.length_range]
        rw [List.take_of_length_le (l := placesM m wd st e.toNat) (by rw [lk]; omega), ← epl] at eF
        refine ⟨_, rfl, some (.int e), some (.int (m : Nat)), some (.ref S), v7, v8, v9, ?_, s6, eF⟩
        rw [esf, ← ee]
        rfl
    · rintro σ H2 ⟨v4, v5, v6, v7, v8, v9, rfl, s2, e2⟩
      rw [List.take_of_length_le (by omega)] at e2
      exact ⟨_, rfl, hQ F H2 s2 hF e2⟩
end
end Aw

namespace Aw
open PySem PySem.Spec PyProof.Rows L2 NdefX
/-- the word of bits of marks -/
def wordF (P : Pcs) (w : Nat) (s : Int) : List Bool := (List.range s.toNat).map fun j => markF P w (j : Nat)
def spAsB (C CZ : Addr) : Sp := fun vs H Q E => ∃ (a : Addr) (P : Pcs) (d : Nat) (s : Int), vs = [.ref a] ∧ MkAt C H a P d s ∧ errOf (1000 < s) CZ "size" (.int s) H E ∧
  (s ≤ 1000 → ∀ (t : Addr) (H' : Hp), Same H H' → H t = none → H' t = some (.tup ((wordF P (12 * 2 ^ d) s).map bV)) → Q (.ref t) H')
/-- the word behind the first ones of the places -/
def setW (n : Nat) (S : List Nat) : List V := (List.range n).map fun j => V.int (if j ∈ S then 1 else 0)
theorem setW_nil {n : Nat} : setW n [] = List.replicate n (V.int 0) := by
  unfold setW
  rw [List.eq_replicate_iff]
  refine ⟨by rw [List.length_map, List.length_range], fun b hb => ?_⟩
  obtain ⟨j, _, rfl⟩ := List.mem_map.mp hb
  rw [if_neg List.not_mem_nil]
theorem setW_set {n p : Nat} {S : List Nat} (hp : p < n) : (setW n S).set p (.int 1) = setW n (S ++ [p]) := by
  unfold setW
  refine List.ext_getElem? fun i => ?_
  by_cases hi : i < n
  · rw [List.getElem?_map, List.getElem?_range hi]
    by_cases e : p = i
    · subst e
      rw [List.getElem?_set_self (by rw [List.length_map, List.length_range]; exact hi)]
      show some (V.int 1) = some (V.int (if p ∈ S ++ [p] then 1 else 0))
      rw [if_pos (List.mem_append_right _ List.mem_cons_self)]
    · rw [List.getElem?_set_ne e, List.getElem?_map, List.getElem?_range hi]
      show some (V.int (if i ∈ S then 1 else 0)) = some (V.int (if i ∈ S ++ [p] then 1 else 0))
      have z : (i ∈ S ++ [p]) = (i ∈ S) := by
        rw [List.mem_append, List.mem_singleton]
        exact propext ⟨fun h => h.resolve_right (fun z => e z.symm), .inl⟩
      simp only [z]
  · rw [List.getElem?_eq_none (by rw [List.length_set, List.length_map, List.length_range]; omega), List.getElem?_eq_none (by rw [List.length_map, List.length_range]; omega)]
theorem setW_word {P : Pcs} {w : Nat} {s : Int} (w0 : 0 < w) (h : Asc 0 P s) : setW s.toNat (placesF w 0 P) = (wordF P w s).map bV := by
  unfold setW wordF
  rw [List.map_map]
  refine List.map_congr_left fun j hj => ?_
  have hj := List.mem_range.mp hj
  have m : j ∈ placesF w 0 P ↔ _ := mem_placesF w0 (j := j) h (Int.le_refl 0)
  show V.int (if j ∈ placesF w 0 P then 1 else 0) = V.int (if markF P w j = true then 1 else 0)
  cases hb : markF P w (j : Nat) with
  | true => rw [if_pos (m.mpr ⟨by omega, by omega, hb⟩)]; rfl
  | false =>
    rw [if_neg fun z => by
      have := (m.mp z).2.2
      rw [hb] at this
      cases this]
    rfl
/-- the places ascend -/
theorem placesM_len {m w a b : Nat} : (placesM m w a b).length ≤ b - a := by
  unfold placesM
  rw [List.length_map, List.length_range]
  rcases Nat.le_total a b with h | h
  · obtain ⟨d, rfl⟩ : ∃ d, b = a + d := ⟨b - a, by omega⟩
    rw [cntF_add]
    have : ((List.range d).filter fun j => m.testBit ((a + j) % w)).length ≤ d := Nat.le_trans (List.length_filter_le _ _) (by rw [List.length_range]; exact Nat.le_refl _)
    omega
  · have := cntF_mono (m := m) (w := w) h
    omega
theorem placesF_len {w : Nat} : ∀ {a s : Int} {P : Pcs}, Asc a P s → 0 ≤ a → (placesF w a.toNat P).length ≤ (s - a).toNat
  | _, _, [], _, _ => Nat.zero_le _
  | a, s, (e, m) :: r, h, a0 => by
    have ae : a < e := h.1
    have ih := placesF_len (w := w) h.2 (by omega)
    have l := h.2.le
    have := placesM_len (m := m) (w := w) (a := a.toNat) (b := e.toNat)
    show (placesM m w a.toNat e.toNat ++ placesF w e.toNat r).length ≤ _
    rw [List.length_append]
    omega
theorem ixN_at {n j : Nat} (hj : j < n) : ixN n (j : Int) = some j := by
  unfold ixN
  rw [if_pos (by omega), if_pos (by omega), Int.toNat_natCast]
section
variable {P : Program} {w : World} {K : PySem.W.Frag} {mg : Str → Option Value} {base : Heap} {C CZ : Addr}
structure TxtAsB (P : Program) (K : PySem.W.Frag) (mg : Str → Option Value) (CZ fP fW : Addr) (pd wd' : FuncData) (t12 tL : Tok) : Prop where
  bz : Err P K mg "BadSize" "size" "size" CZ
  FP : Fun K "marked_places" "marked_places" sMPl fP pd
  bP : Binds K pd ["pieces", "wide"] []
  gP : mg "marked_places" = some (.ref fP)
  FW : Fun K "width" "width" sWidth fW wd'
  bW : Binds K wd' ["depth"] []
  gW : mg "width" = some (.ref fW)
  gB : mg "BASE" = some (.int 12 t12)
  gL : mg "MOST_LISTED" = some (.int 1000 tL)
  tup : mg "tuple" = none
theorem scAsB : FnScope ["self", "word", "place"] ["self"] (defScope sAsB) := ⟨rfl, rfl, rfl, by decide +kernel, rfl, by decide +kernel, by decide +kernel⟩
theorem ok_asb {f fP fW : Addr} {fd pd wd' : FuncData} {t12 tL : Tok} (F : Fun K "as_bits" "Marks.as_bits" sAsB f fd) (W : TxtAsB P K mg CZ fP fW pd wd' t12 tL) (GP : FnOk P w K mg base CX0 3 fP pd ["pieces", "wide"] spMPl) (M : MkCls K C) : FnOk P w K mg base (L2.CX P w) 4 f fd ["self"] (spAsB C CZ) := by
  have GW : FnOk P w K mg base CX0 1 fW wd' ["depth"] spWidth := ok_width W.FW W.gB
  refine F.okX scAsB (fun vs H Q E h => ?_) (fun cdv A outer s H vs Q E hr h => ?_)
  · obtain ⟨a, P, d, s, rfl, _⟩ := h
    rfl
  · obtain ⟨a, P, d, sz, rfl, S, kE, kQ⟩ := h
    have nd := scAsB.nd
    refine ⟨_, (pss_cons (ps_if (pt_cmpR op_gt (pe_fld (pv 0) rfl) (pe_glob (v := .int 1000) (by rfl) W.gL ⟨_, rfl⟩) (nomark _))
        (pss_one (ps_raise rfl (takes_of rfl rfl rfl rfl) (pmk_err W.bz (hr.mono (by decide)) (by rfl) (pa_cons (pe_fld (pv 0) rfl) pa_nil)))) pss_nil)
      (pss_cons (ps_set (i := 1) nd rfl (Or.inl rfl) (pe_op op_rep (pe_lst (pa_cons pe_int pa_nil)) (pe_fld (pv 0) rfl)))
      (pss_cons (ps_for (passes_of rfl) rfl (pi_list (pe_call GP (hr.mono (by decide)) (by rfl) W.gP W.FP.kp W.bP .nil pass0 (pa_cons (pe_fld (pv 0) rfl) (pa_cons (pe_call GW (hr.mono (by decide)) (by rfl) W.gW W.FW.kp W.bW .nil pass0 (pa_cons (pe_fld (pv 0) rfl) pa_nil)) pa_nil)))) (pg_name (i := 2) nd rfl (Or.inl rfl))
        (pss_one (ps_asg pe_int (pg_sub (pv 1) (pv 2) set_list))))
      (pss_one (ps_ret (pe_callTy call_tuple_of (by rfl) W.tup (by decide +kernel) (pa_cons (pv 1) pa_nil))))))), ?_⟩
    -- BODY
    obtain ⟨dx, L, xs, hA, hL, pa⟩ := S.ex
    obtain ⟨w0, w9⟩ := wide_le S.d6
    have fw := S.few
    have s0 := S.s0
    refine ⟨_, rfl, a, C, dx, _, .int sz, rfl, hA, M.c, M.size, rfl, sz, 1000, rfl, rfl, _, rfl, ?_⟩
    refine ite_dec (fun g => ?_) (fun g => ?_)
    · exact ⟨_, rfl, a, C, dx, _, .int sz, rfl, hA, M.c, M.size, rfl, mkS_ans fun e he => kE (by omega) e _ (same_upd he) he upd_same⟩
    refine nxt ?_
    dsimp only
    have le : sz ≤ 1000 := by omega
    refine ⟨by show 1 ≤ sizeLine; decide, fun Z hZ => ?_⟩
    have sZ := same_upd (o := .lst [.int 0]) hZ
    refine ⟨_, rfl, a, C, dx, _, .int sz, rfl, sZ _ _ hA, M.c, M.size, rfl, Z, sz, [.int 0], rfl, rfl, upd_same, by omega, Int.lt_of_le_of_lt le (by decide), ?_, fun W0 hW => ?_⟩
    · show 1 * sz.toNat ≤ sizeLine
      rw [Nat.one_mul]
      exact Nat.le_trans (by omega : sz.toNat ≤ 1000) kz
    have er : (List.replicate sz.toNat [V.int 0]).flatten = setW sz.toNat [] := by
      rw [setW_nil]
      generalize sz.toNat = n
      induction n with
      | zero => rfl
      | succ n ih => rw [List.replicate_succ, List.flatten_cons, ih]; rfl
    rw [er]
    have sW := sZ.trans (same_upd (o := .lst (setW sz.toNat [])) hW)
    have hW0 : H W0 = none := sZ.free hW
    have eW : upd (upd H Z (.lst [.int 0])) W0 (.lst (setW sz.toNat [])) W0 = some (.lst (setW sz.toNat [])) := upd_same
    generalize upd (upd H Z (.lst [.int 0])) W0 (.lst (setW sz.toNat [])) = H1 at *
    have hA1 := sW _ _ hA
    have pl := placesF_len (w := 12 * 2 ^ d) S.asc (Int.le_refl 0)
    have pl : (placesF (12 * 2 ^ d) 0 P).length ≤ (sz - 0).toNat := pl
    refine ⟨_, rfl, a, C, dx, _, .ref L, rfl, hA1, M.c, M.pieces, rfl, _, rfl, a, C, dx, _, .int (d : Nat), rfl, hA1, M.c, M.depth, rfl, d, rfl, by have := S.d6; omega, L, xs, P, 12 * 2 ^ d, sz, rfl, sW _ _ hL, pa.same sW, by omega, S.asc, S.masks, w0, w9, by omega, fun R H2 s2 hR e2 => ?_⟩
    have nRW : R ≠ W0 := fun z => by rw [z, eW] at hR; cases hR
    refine ⟨R, rfl, ⟨_, SqL.of e2⟩, ?_⟩
    refine for_list (a := R) (xs := (placesF (12 * 2 ^ d) 0 P).map fun j => V.int (j : Nat)) (fun i σ H3 => ∃ v2 : Option V, σ = [some (.ref a), some (.ref W0), v2] ∧ Same H H3 ∧ H3 R = some (.lst ((placesF (12 * 2 ^ d) 0 P).map fun j => V.int (j : Nat))) ∧ H3 W0 = some (.lst (setW sz.toNat ((placesF (12 * 2 ^ d) 0 P).take i)))) ⟨none, rfl, sW.trans s2, e2, by rw [List.take_zero]; exact s2 _ _ eW⟩ (fun i σ H3 _ z => by
      obtain ⟨_, _, _, e3, _⟩ := z
      exact SqL.of e3) ?_ ?_
    · rintro i v σ H3 hv ⟨v2, rfl, s3, e3, eW3⟩
      rw [List.getElem?_map] at hv
      obtain ⟨p, hp, rfl⟩ := Option.map_eq_some_iff.mp hv
      have mp : p ∈ placesF (12 * 2 ^ d) 0 P := List.mem_of_getElem? hp
      have mp2 : p ∈ placesF (12 * 2 ^ d) 0 P ↔ _ := mem_placesF w0 (j := p) S.asc (Int.le_refl 0)
      obtain ⟨_, ps, _⟩ := mp2.mp mp
      have pn : p < sz.toNat := by omega
      refine ⟨_, rfl, _, rfl, W0, _, _, p, rfl, rfl, eW3, ixN_at (by unfold setW; rw [List.length_map, List.length_range]; exact pn), ?_⟩
      refine ⟨_, rfl, same_fresh hW0 s3, by rw [upd_ne nRW]; exact e3, ?_⟩
      rw [upd_same, setW_set pn, List.take_succ, hp]
      rfl
    · rintro σ H3 ⟨v2, rfl, s3, e3, eW3⟩
      rw [List.length_map, List.take_of_length_le (Nat.le_refl _), setW_word w0 S.asc] at eW3
      refine ⟨_, rfl, W0, _, rfl, .inl ⟨SqL.of eW3, fun t ht => ?_⟩⟩
      exact kQ le t _ (s3.trans (same_upd ht)) (s3.free ht) upd_same
end
end Aw

namespace Aw
open PySem PySem.Spec PyProof.Rows L2 NdefX
/-- the pieces of a word of bits -/
def bitP (w : List Bool) : Pcs := (List.range w.length).map fun j : Nat => (((j + 1 : Nat) : Int), if w[j]?.getD false then 4095 else 0)
def ofP (w : List Bool) : Pcs := tidyF (bitP w)
theorem maskAt_rng {g : Nat → Nat} : ∀ {n a : Nat} {j : Int}, (a : Int) ≤ j → j < (a + n : Nat) → maskAt ((List.range n).map fun i : Nat => (((a + i + 1 : Nat) : Int), g (a + i))) j = g j.toNat
  | 0, a, j, h1, h2 => by omega
  | n + 1, a, j, h1, h2 => by
    rw [List.range_succ_eq_map, List.map_cons]
    show (if j < ((a + 0 + 1 : Nat) : Int) then g (a + 0) else maskAt ((List.map Nat.succ (List.range n)).map _) j) = _
    by_cases z : j < ((a + 0 + 1 : Nat) : Int)
    · rw [if_pos z]
      congr 1
      omega
    · rw [if_neg z, List.map_map]
      have ih := maskAt_rng (g := g) (n := n) (a := a + 1) (j := j) (by omega) (by omega)
      rw [← ih]
      congr 1
      refine List.map_congr_left fun i _ => ?_
      show ((((a + (i + 1) + 1 : Nat) : Int)), g (a + (i + 1))) = (((a + 1 + i + 1 : Nat) : Int), g (a + 1 + i))
      rw [show a + (i + 1) = a + 1 + i by omega]
theorem ofP_ok {w : List Bool} (h : 0 < w.length) : PcsOk (ofP w) 12 (w.length : Nat) ∧ (ofP w).length ≤ w.length ∧ ∀ j : Int, 0 ≤ j → j < (w.length : Nat) → markF (ofP w) 12 j = w[j.toNat]?.getD false := by
  have ends : ∀ x ∈ bitP w, x.1 ≤ (w.length : Nat) := fun x hx => by
    obtain ⟨j, hj, rfl⟩ := List.mem_map.mp hx
    have := List.mem_range.mp hj
    show ((j + 1 : Nat) : Int) ≤ _
    omega
  have last : ∃ x ∈ bitP w, x.1 = (w.length : Nat) := ⟨_, List.mem_map.mpr ⟨w.length - 1, List.mem_range.mpr (by omega), rfl⟩, by
    show ((w.length - 1 + 1 : Nat) : Int) = _
    omega⟩
  obtain ⟨t1, t2⟩ := tidy_good ends last (by omega)
  refine ⟨⟨t1, tidy_masks fun x hx => ?_⟩, ?_, fun j j0 j1 => ?_⟩
  · obtain ⟨j, hj, rfl⟩ := List.mem_map.mp hx
    show (if w[j]?.getD false = true then 4095 else 0) < 2 ^ 12
    split <;> decide
  · have := tidy_len (P := bitP w)
    unfold bitP at this
    rw [List.length_map, List.length_range] at this
    exact this
  · have e := t2 j j0 j1
    have e2 : maskAt (bitP w) j = if w[j.toNat]?.getD false then 4095 else 0 := by
      have := maskAt_rng (g := fun j => if w[j]?.getD false then 4095 else 0) (n := w.length) (a := 0) (j := j) (by omega) (by omega)
      rw [← this]
      unfold bitP
      congr 1
      refine List.map_congr_left fun i _ => ?_
      show (((i + 1 : Nat) : Int), _) = (((0 + i + 1 : Nat) : Int), _)
      rw [Nat.zero_add]
    unfold markF
    show Nat.testBit (maskAt (tidyF (bitP w)) j) _ = _
    rw [e, e2]
    have r : (j % ((12 : Nat) : Int)).toNat < 12 := by omega
    have tb : ∀ i, i < 12 → Nat.testBit 4095 i = true := by decide
    cases hb : w[j.toNat]?.getD false with
    | true => exact tb _ r
    | false => exact Nat.zero_testBit _
def spOfB (C CZ CB : Addr) : Sp := fun vs H Q E => ∃ (l : Addr) (xs : List V), vs = [.ref C, .ref l] ∧ BitsAt H l xs ∧
  (¬ sizeOk xs.length 60 → ∀ d H', Same H H' → H d = none → H' d = some (.xd [("size", .int (xs.length : Nat))]) → E (.ref CZ) (some d) H') ∧
  (sizeOk xs.length 60 → ∀ i, firstOdd xs i → ∀ d H', Same H H' → H d = none → H' d = some (.xd [("index", .int (i : Nat))]) → E (.ref CB) (some d) H') ∧
  (sizeOk xs.length 60 → ∀ w : List Bool, xs = w.map bV → ∀ (a L : Addr) (H' : Hp), Same H H' → H a = none → H L = none → MkL C H' a L (ofP w) 0 (w.length : Nat) → Q (.ref a) H')
theorem putM4 {a b c v : V} : putF "pieces" v ([("size", a), ("depth", b), ("pieces", c)] : List (Str × V)) = ([("size", a), ("depth", b), ("pieces", v)] : List (Str × V)) := by
  show (if ("size" : Str) = "pieces" then _ else (("size" : Str), a) :: (if ("depth" : Str) = "pieces" then _ else (("depth" : Str), b) :: (if ("pieces" : Str) = "pieces" then (("pieces" : Str), v) :: [] else _))) = _
  rw [if_neg ne_sp, if_neg ne_dp, if_pos rfl]
section
variable {P : Program} {w : World} {K : PySem.W.Frag} {mg : Str → Option Value} {base : Heap} {C CZ CT CN CB : Addr}
structure TxtOfB (K : PySem.W.Frag) (mg : Str → Option Value) (fW fT fF : Addr) (t12 t60 : Tok) (fd : FuncData) : Prop where
  len : mg "len" = none
  enum : mg "enumerate" = none
  gW : mg "word_of_bits" = some (.ref fW)
  gT : mg "tidied" = some (.ref fT)
  FF : Fun K "full" "full" sFull fF fd
  bF : Binds K fd ["many"] []
  gF : mg "full" = some (.ref fF)
  gB : mg "BASE" = some (.int 12 t12)
  g60 : mg "MOST_TOLD_BITS" = some (.int 60 t60)
theorem scOfB : FnScope ["cls", "bits", "word", "marks", "place", "bit"] ["cls", "bits"] (defScope sOfB) := ⟨rfl, rfl, rfl, by decide +kernel, rfl, by decide +kernel, by decide +kernel⟩
theorem ok_ofb {f fI fW fT fF E0a : Addr} {fd id wd td ffd : FuncData} {t12 t60 : Tok} {ds : List Value} (F : Fun K "of_bits" "Marks.of_bits" sOfB f fd) (W : TxtOfB K mg fW fT fF t12 t60 ffd)
    (MkM : Mk K C fI) (GI : FnOk P w K mg base (L2.CX P w) 4 fI id ["self", "size", "runs"] (spMInit K C CZ CT CN)) (bI : Binds K id ["self", "size", "runs"] ds) (dI : Vals [.ref E0a] ds) (hE : ∀ H, SeqK K H E0a [])
    (GW : FnOk P w K mg base (L2.CX P w) 3 fW wd ["bits", "most"] (spWob CZ CB)) (bW : Binds K wd ["bits", "most"] []) (kW : PySem.W.keepIn K (.ref fW) = true)
    (FT : Fun K "tidied" "tidied" sTidy fT td) (bT : Binds K td ["pieces"] []) (M : MkCls K C) : FnOk P w K mg base (L2.CX P w) 6 f fd ["cls", "bits"] (spOfB C CZ CB) := by
  have GT : FnOk P w K mg base CX0 1 fT td ["pieces"] spTidy := ok_tidy FT
  have GF : FnOk P w K mg base CX0 1 fF ffd ["many"] spFull := ok_full W.FF
  refine F.okX scOfB (fun vs H Q E h => ?_) (fun cdv A outer s H vs Q E hr h => ?_)
  · obtain ⟨l, xs, rfl, _⟩ := h
    rfl
  · obtain ⟨l, xs, rfl, B, kZ, kB, kQ⟩ := h
    have nd := scOfB.nd
    refine ⟨_, (pss_cons (ps_set (i := 2) nd rfl (Or.inl rfl) (pe_callS GW (hr.mono (by decide)) (by rfl) W.gW kW bW (fun σ => passAt (takes_of rfl rfl rfl rfl) σ) (pa_cons (pv 1) (pa_cons (pe_glob (v := .int 60) (by rfl) W.g60 ⟨_, rfl⟩) pa_nil))))
      (pss_cons (ps_set (i := 3) nd rfl (Or.inl rfl) (pe_makeL (i := 0) MkM GI (hr.mono (by decide)) rfl (Or.inl rfl) bI dI (fun σ => passAt (takes_of rfl rfl rfl rfl) σ) (pa_cons (pe_callB call_len_seq (by rfl) W.len PySem.boot_len (pa_cons (pv 2) pa_nil)) pa_nil)))
      (pss_cons (ps_fld (pv 3) (pe_call GT (hr.mono (by decide)) (by rfl) W.gT FT.kp bT .nil pass0 (pa_cons (pe_lc (own := [("place", 4), ("bit", 5)]) (g := (gTup _ 2 (gCons (gName 4) (gCons (gName 5) gNil)))) (tt := tYes) rfl nd (pi_enumT (by rfl) W.enum (pa_cons (pv 2) pa_nil)) (blkOk_by (own := [("place", 4), ("bit", 5)]) (N := ["cls", "bits", "word", "marks", "place", "bit"]) (sc := defScope sOfB) (by decide +kernel)) (fun _ _ _ _ _ => (pg_tup rfl (pgs_cons (pg_name (i := 4) nd rfl (Or.inl rfl)) (pgs_cons (pg_name (i := 5) nd rfl (Or.inl rfl)) pgs_nil)))) (fun _ _ _ _ _ => pts_nil) (fun _ _ _ _ _ => (pe_tup (pa_cons (pe_op op_add (pv 4) pe_int) (pa_cons (pe_op op_mul (pe_call GF (hr.mono (by decide)) (by rfl) W.gF W.FF.kp W.bF .nil pass0 (pa_cons (pe_glob (v := .int 12) (by rfl) W.gB ⟨_, rfl⟩) pa_nil)) (pv 5)) pa_nil))))) pa_nil)) rfl)
      (pss_one (ps_ret (pv 3)))))), ?_⟩
    -- BODY
    refine ⟨_, rfl, l, xs, 60, rfl, B, kZ, kB, fun so w0 hw t H1 s1 ht0 et => ?_⟩
    obtain ⟨n1, n60⟩ := so
    have n1 : 1 ≤ xs.length := n1
    have n60 : ((xs.length : Nat) : Int) ≤ 60 := n60
    have lw : xs.length = w0.length := by rw [hw, List.length_map]
    have lm : (w0.map bV).length = w0.length := List.length_map ..
    refine ⟨rfl, _, rfl, t, _, rfl, .inr (SqT.of et), ?_⟩
    rw [lm]
    refine make_marks (k := (w0.length : Nat)) (xs := []) (rs := []) (by omega) (Int.le_trans (by omega : ((w0.length : Nat) : Int) ≤ 60) (by decide)) (hE _) .nil (fun r h => absurd h List.not_mem_nil) (by show 0 ≤ 20; decide) fun a _ H2 s2 ha _ ma => ?_
    have et2 := s2 _ _ et
    refine ⟨_, rfl, t, _, rfl, SqT.of et2, fun D hD => ?_⟩
    refine lc_it (n := w0.length) (fun i H3 => ∃ zs : List V, Same H2 H3 ∧ H3 D = some (.lst zs) ∧ PcA H3 zs ((bitP w0).take i)) ⟨[], same_upd hD, upd_same, by rw [List.take_zero]; exact .nil⟩ ?_ ?_ ?_ ?_
    · rintro i H3 hi ⟨zs, s3, _⟩
      exact ⟨_, bV w0[i], SqT.of (s3 _ _ et2), by rw [List.getElem?_map, List.getElem?_eq_getElem hi]; rfl⟩
    · rintro H3 ⟨zs, s3, _⟩
      exact ⟨_, SqT.of (s3 _ _ et2), by rw [lm]; exact Nat.le_refl _⟩
    · rintro i x H3 H4 hi ⟨zs, s3, e3, p3⟩ ⟨T, y, rfl, hT, rfl, hy⟩
      have hy := hy _ (SqT.of (s3 _ _ et2))
      rw [List.getElem?_map, List.getElem?_eq_getElem hi] at hy
      obtain rfl : bV w0[i] = y := Option.some.inj hy
      have sT := same_upd (o := .tup [.int (i : Nat), bV w0[i]]) hT
      have s4 := s3.trans sT
      have e4 := sT _ _ e3
      have p4 := p3.same sT
      have eTT : upd H3 T (.tup [.int (i : Nat), bV w0[i]]) T = some (.tup [.int (i : Nat), bV w0[i]]) := upd_same
      generalize upd H3 T (.tup [.int (i : Nat), bV w0[i]]) = H4 at *
      have lz := p3.length
      rw [List.length_take] at lz
      refine ⟨T, _, rfl, SqT.of eTT, rfl, _, _, rfl, _, _, rfl, rfl, rfl, ?_⟩
      refine ⟨_, rfl, (i : Nat), 1, rfl, rfl, 12, rfl, by decide, _, rfl, _, Aw.bI w0[i], rfl, rfl, .inl (by decide), by show 2 ≤ sizeLine; decide, fun T2 hT2 => ?_⟩
      have eb : (((2 ^ 12 - 1 : Nat) : Int) * Aw.bI w0[i]) = (((if w0[i]?.getD false then 4095 else 0 : Nat)) : Int) := by
        rw [List.getElem?_eq_getElem hi]
        show _ = (((if w0[i] = true then 4095 else 0 : Nat)) : Int)
        cases w0[i] <;> rfl
      have ei : ((i : Nat) : Int) + 1 = ((i + 1 : Nat) : Int) := by omega
      have sT2 := same_upd (o := .tup [.int ((i : Nat) + 1), .int (((2 ^ 12 - 1 : Nat) : Int) * Aw.bI w0[i])]) hT2
      have eT2 : upd H4 T2 (.tup [.int ((i : Nat) + 1), .int (((2 ^ 12 - 1 : Nat) : Int) * Aw.bI w0[i])]) T2 = some (.tup [.int ((i + 1 : Nat) : Int), .int ((if w0[i]?.getD false then 4095 else 0 : Nat) : Int)]) := by rw [upd_same, eb, ei]
      refine ⟨zs, sT2 _ _ e4, Nat.lt_of_lt_of_le (by omega : zs.length < 1000) kz, zs ++ [.ref T2], same_fresh hD (s4.trans sT2), upd_same, ?_⟩
      have eq : (bitP w0)[i]? = some ((((i + 1 : Nat) : Int), (if w0[i]?.getD false then 4095 else 0 : Nat))) := by
        unfold bitP
        rw [List.getElem?_map, List.getElem?_range hi]
        rfl
      rw [List.take_succ, eq]
      exact ((p4.same sT2).app (.cons eT2 .nil)).keep (TK.lst (sT2 _ _ e4))
    · rintro H3 ⟨zs, s3, e3, p3⟩
      have lb : (bitP w0).length = w0.length := by
        unfold bitP
        rw [List.length_map, List.length_range]
      rw [List.take_of_length_le (by omega)] at p3
      obtain ⟨⟨as, ms⟩, lo, _⟩ := ofP_ok (w := w0) (by omega)
      refine ⟨D, zs, bitP w0, rfl, e3, p3, by omega, fun R ys H4 s4 hR e4 p4 => ?_⟩
      obtain ⟨dx, xs2, hA, _, _⟩ := ma.ex
      have hA4 := s4 _ _ (s3 _ _ hA)
      refine ⟨_, rfl, a, C, dx, _, rfl, hA4, M.c, M.pieces, by show 3 < 1000; decide, ?_⟩
      show tRet (tVar 3) _ _ (upd H4 a (.ins C dx (putF "pieces" (.ref R) [("size", .int (w0.length : Nat)), ("depth", .int ((0 : Nat) : Int)), ("pieces", .ref _)])))
      rw [putM4]
      have nRa : R ≠ a := ne_of e4 hA4 (fun z => by cases z)
      have but : ∀ c o, H4 c = some o → c ≠ a → upd H4 a (.ins C dx [("size", .int (w0.length : Nat)), ("depth", .int ((0 : Nat) : Int)), ("pieces", .ref R)]) c = some o := fun c o e ne => by
        rw [upd_ne ne]
        exact e
      have s14 : Same H H4 := ((s1.trans s2).trans s3).trans s4
      refine ⟨_, rfl, kQ ⟨n1, n60⟩ w0 hw a R _ (same_fresh (s1.free ha) s14) (s1.free ha) (((s1.trans s2).trans s3).free hR) ⟨⟨dx, ys, upd_same, but _ _ e4 nRa, p4.keep ⟨fun c ys e => but c _ e (ne_of e hA4 (fun z => by cases z)), fun c o ys e => but c _ e (ne_of e hA4 (fun z => by cases z))⟩⟩, ?_, as, ms, by omega, by omega⟩⟩
      omega
end
end Aw

namespace Aw
open PySem PySem.Spec PyProof.Rows L2 NdefX
theorem fil_succ {p : Nat → Bool} {n : Nat} : (List.range (n + 1)).filter p = (List.range n).filter p ++ (if p n then [n] else []) := by
  rw [List.range_succ, List.filter_append]
  congr 1
  cases hb : p n with
  | true => exact List.filter_cons_of_pos hb
  | false => exact List.filter_cons_of_neg (by rw [hb]; exact Bool.noConfusion)
end Aw

namespace Aw
open PySem PySem.Spec PyProof.Rows L2 NdefX
/-! ### the marked places as a filtered range -/
theorem fil_at {p : Nat → Bool} : ∀ {n i j : Nat}, ((List.range n).filter p)[i]? = some j → j < n ∧ p j = true ∧ ((List.range j).filter p).length = i
  | 0, i, j, h => by cases h
  | n + 1, i, j, h => by
    rw [fil_succ] at h
    by_cases q : i < ((List.range n).filter p).length
    · rw [List.getElem?_append_left q] at h
      obtain ⟨a, b, c⟩ := fil_at h
      exact ⟨Nat.lt_succ_of_lt a, b, c⟩
    · rw [List.getElem?_append_right (Nat.le_of_not_lt q)] at h
      cases hb : p n with
      | false => rw [hb] at h; cases h
      | true =>
        rw [hb] at h
        cases hd : i - ((List.range n).filter p).length with
        | zero =>
          rw [hd] at h
          obtain rfl : n = j := Option.some.inj h
          exact ⟨Nat.lt_succ_self _, hb, by omega⟩
        | succ k => rw [hd] at h; cases h
theorem fil_mono {p : Nat → Bool} {a b : Nat} (h : a ≤ b) : ((List.range a).filter p).length ≤ ((List.range b).filter p).length := by
  obtain ⟨d, rfl⟩ : ∃ d, b = a + d := ⟨b - a, by omega⟩
  rw [List.range_add, List.filter_append, List.length_append]
  exact Nat.le_add_right _ _
theorem fil_next {p : Nat → Bool} {j : Nat} (h : p j = true) : ((List.range (j + 1)).filter p).length = ((List.range j).filter p).length + 1 := by
  rw [fil_succ, h, List.length_append]
  rfl
theorem placesM_eq {m w a : Nat} (w0 : 0 < w) : ∀ d, placesM m w a (a + d) = ((List.range d).map (a + ·)).filter fun j => m.testBit (j % w)
  | 0 => by
    unfold placesM
    rw [Nat.add_zero, Nat.sub_self]
    rfl
  | d + 1 => by
    have ih := placesM_eq (m := m) (a := a) w0 d
    rw [List.range_succ, List.map_append, List.filter_append, ← ih]
    have mo := cntF_mono (m := m) (w := w) (show a ≤ a + d by omega)
    cases hb : m.testBit ((a + d) % w) with
    | true =>
      have n1 := cntF_next (m := m) (w := w) (j := a + d) hb
      obtain ⟨_, e⟩ := nthM_of w0 hb
      unfold placesM
      rw [show a + (d + 1) = a + d + 1 by omega, n1, show cntF m w (a + d) + 1 - cntF m w a = (cntF m w (a + d) - cntF m w a) + 1 by omega, List.range_succ, List.map_append]
      congr 1
      show [nthM m w (cntF m w a + (cntF m w (a + d) - cntF m w a))] = [a + d].filter fun j => m.testBit (j % w)
      rw [show cntF m w a + (cntF m w (a + d) - cntF m w a) = cntF m w (a + d) by omega, e, List.filter_cons_of_pos (p := fun j => m.testBit (j % w)) hb]
      rfl
    | false =>
      have n1 : cntF m w (a + d + 1) = cntF m w (a + d) := by
        unfold cntF
        rw [fil_succ, hb]
        show (_ ++ []).length = _
        rw [List.append_nil]
      unfold placesM
      rw [show a + (d + 1) = a + d + 1 by omega, n1]
      show _ = _ ++ [a + d].filter fun j => m.testBit (j % w)
      rw [List.filter_cons_of_neg (p := fun j => m.testBit (j % w)) (by rw [hb]; exact Bool.noConfusion), List.filter_nil, List.append_nil]
theorem placesF_go {w : Nat} (w0 : 0 < w) : ∀ {a s : Int} {P : Pcs}, Asc a P s → 0 ≤ a → placesF w a.toNat P = ((List.range (s - a).toNat).map (a.toNat + ·)).filter fun j : Nat => markF P w (j : Nat)
  | a, s, [], h, a0 => by
    have h : a = s := h
    subst h
    rw [Int.sub_self]
    rfl
  | a, s, (e, m) :: r, h, a0 => by
    have ae : a < e := h.1
    have le := h.2.le
    have ih := placesF_go w0 h.2 (by omega)
    have e1 : e.toNat = a.toNat + (e - a).toNat := by omega
    have e2 : (s - a).toNat = (e - a).toNat + (s - e).toNat := by omega
    have em : ∀ j : Nat, (((j : Nat) : Int) % (w : Nat)).toNat = j % w := fun j => by rw [← Int.natCast_emod, Int.toNat_natCast]
    show placesM m w a.toNat e.toNat ++ placesF w e.toNat r = _
    rw [ih, e2, List.range_add, List.map_append, List.filter_append]
    congr 1
    · rw [show placesM m w a.toNat e.toNat = placesM m w a.toNat (a.toNat + (e - a).toNat) by rw [← e1], placesM_eq w0]
      refine List.filter_congr fun j hj => ?_
      obtain ⟨i, hi, rfl⟩ := List.mem_map.mp hj
      have hi := List.mem_range.mp hi
      show m.testBit ((a.toNat + i) % w) = Nat.testBit (if (((a.toNat + i : Nat)) : Int) < e then m else maskAt r _) ((((a.toNat + i : Nat) : Nat) : Int) % (w : Nat)).toNat
      rw [if_pos (by omega), em]
    · rw [List.map_map]
      have eq : ((List.range (s - e).toNat).map (e.toNat + ·)) = (List.range (s - e).toNat).map ((a.toNat + ·) ∘ ((e - a).toNat + ·)) := by
        refine List.map_congr_left fun i _ => ?_
        show e.toNat + i = a.toNat + ((e - a).toNat + i)
        omega
      rw [eq]
      refine List.filter_congr fun j hj => ?_
      obtain ⟨i, hi, rfl⟩ := List.mem_map.mp hj
      show markF r w _ = Nat.testBit (if (((a.toNat + ((e - a).toNat + i) : Nat)) : Int) < e then m else maskAt r _) _
      rw [if_neg (by omega)]
      rfl
theorem placesF_eq {w : Nat} {s : Int} {P : Pcs} (w0 : 0 < w) (h : Asc 0 P s) : placesF w 0 P = (List.range s.toNat).filter fun j : Nat => markF P w (j : Nat) := by
  have e := placesF_go w0 h (Int.le_refl 0)
  have e : placesF w 0 P = _ := e
  rw [e, Int.sub_zero]
  have z : (List.range s.toNat).map ((0 : Int).toNat + ·) = List.range s.toNat := by
    rw [show ((0 : Int).toNat + ·) = (id : Nat → Nat) from funext fun i => by show 0 + i = i; omega, List.map_id]
  rw [z]
theorem placesF_all {w : Nat} {s : Int} {P : Pcs} (w0 : 0 < w) (h : Asc 0 P s) : (placesF w 0 P).length = nMk P w s.toNat := by rw [placesF_eq w0 h]; rfl
/-- the place number i has i marked ones below it -/
theorem placesF_at {w : Nat} {s : Int} {P : Pcs} {i j : Nat} (w0 : 0 < w) (h : Asc 0 P s) (e : (placesF w 0 P)[i]? = some j) : (j : Int) < s ∧ markF P w (j : Nat) = true ∧ nMk P w j = i := by
  rw [placesF_eq w0 h] at e
  obtain ⟨a, b, c⟩ := fil_at e
  exact ⟨by omega, b, c⟩
end Aw

namespace Aw
open PySem PySem.Spec PyProof.Rows L2 NdefX
def cntB : V → Bool
  | .int i => decide (0 ≤ i)
  | _ => false
def spChkC (CN : Addr) : Sp := fun vs H Q E => ∃ v, vs = [v] ∧ VOk H v ∧ errOf (cntB v = false) CN "number" v H E ∧ (cntB v = true → Q .non H)
section
variable {P : Program} {w : World} {K : PySem.W.Frag} {mg : Str → Option Value} {base : Heap} {CN : Addr}
theorem scChkC : FnScope ["value"] ["value"] (defScope sChkC) := ⟨rfl, rfl, rfl, by decide +kernel, rfl, by decide +kernel, by decide +kernel⟩
theorem ok_chkC {f : Addr} {fd : FuncData} (F : Fun K "check_count" "check_count" sChkC f fd) (En : Err P K mg "BadNumber" "number" "number" CN) (isi : mg "isinstance" = none) (gI : mg "int" = none) (gB : mg "bool" = none) : FnOk P w K mg base (L2.CX P w) 3 f fd ["value"] (spChkC CN) := by
  refine F.okX scChkC (fun vs H Q E h => ?_) (fun cdv A outer s H vs Q E hr h => ?_)
  · obtain ⟨v, rfl, _⟩ := h
    rfl
  · obtain ⟨v, rfl, hv, kE, kQ⟩ := h
    have nd := scChkC.nd
    refine ⟨_, (pss_one (ps_if (PW.pt (pw_or (pt_not (pt_val (pe_callB call_isi (by rfl) isi (by decide +kernel) (pa_cons (pv 0) (pa_cons (pe_bltn (v := .ty "int") (by rfl) gI (by decide +kernel) rfl) pa_nil))))) (pw_or (pt_val (pe_callB call_isi (by rfl) isi (by decide +kernel) (pa_cons (pv 0) (pa_cons (pe_bltn (v := .ty "bool") (by rfl) gB (by decide +kernel) rfl) pa_nil)))) (pw_or1 (pt_cmpR op_lt (pv 0) pe_int (nomark _))))))
        (pss_one (ps_raise rfl (takes_of rfl rfl rfl rfl) (pmk_err En hr (by rfl) (pa_cons (pv 0) pa_nil)))) pss_nil)), ?_⟩
    obtain ⟨t, ty, kI, kB⟩ := hv.ty (K := K)
    have raise : cntB v = false → ∀ d, H d = none → E (.ref CN) (some d) (upd H d (.xd [("number", v)])) := fun e d hd => kE e d _ (same_upd hd) hd upd_same
    refine ⟨_, rfl, v, .ty "int", t, .type "int", isIB v, rfl, .ty _, ty, kI, _, rfl, ?_⟩
    cases hv with
    | int i =>
      refine iteF ?_
      refine ⟨_, rfl, .int i, .ty "bool", t, .type "bool", false, rfl, .ty _, ty, kB, _, rfl, ?_⟩
      refine iteF ?_
      refine ⟨_, rfl, i, 0, rfl, rfl, _, rfl, ite_dec (fun g => ?_) (fun g => ?_)⟩
      · exact ⟨_, rfl, mkS_ans fun d hd => raise (decide_eq_false (by omega)) d hd⟩
      · exact nxt (kQ (decide_eq_true (by omega)))
    | bl b =>
      refine iteF ?_
      refine ⟨_, rfl, .bl b, .ty "bool", t, .type "bool", true, rfl, .ty _, ty, kB, _, rfl, ?_⟩
      exact iteT ⟨_, rfl, mkS_ans fun d hd => raise rfl d hd⟩
    | _ => exact iteT ⟨_, rfl, mkS_ans fun d hd => raise rfl d hd⟩
end
end Aw

namespace Aw
open PySem PySem.Spec PyProof.Rows L2 NdefX
/-- a place, or None -/
def optV : Option Nat → V
  | some j => .int (j : Nat)
  | none => .non
def spPlO : Sp := fun vs H Q _ => ∃ (L : Addr) (xs : List V) (P : Pcs) (w n : Nat) (s : Int), vs = [.ref L, .int (w : Nat), .int (n : Nat)] ∧ H L = some (.lst xs) ∧ PcA H xs P ∧ P.length ≤ 900 ∧ Asc 0 P s ∧ (∀ x ∈ P, x.2 < 2 ^ w) ∧ 0 < w ∧ w ≤ 900 ∧
  ∀ H' : Hp, Same H H' → Q (optV ((placesF w 0 P)[n]?)) H'
section
variable {P : Program} {w : World} {K : PySem.W.Frag} {mg : Str → Option Value} {base : Heap}
theorem scPlO : FnScope ["pieces", "wide", "number", "left", "start", "end", "mask", "ahead", "many", "spots", "laps", "rest"] ["pieces", "wide", "number"] (defScope sPlO) := ⟨rfl, rfl, rfl, by decide +kernel, rfl, by decide +kernel, by decide +kernel⟩
theorem ok_plo {f fU fB fF fO : Addr} {fd ud bd ffd od : FuncData} (F : Fun K "place_of" "place_of" sPlO f fd) (W : TxtMPl K mg fU fB fF fO ud bd ffd od) : FnOk P w K mg base CX0 3 f fd ["pieces", "wide", "number"] spPlO := by
  have GU : FnOk P w K mg base CX0 2 fU ud ["mask", "wide", "place"] spUpto := ok_upto W.FU W.U
  have GO : FnOk P w K mg base CX0 1 fO od ["mask"] spBitsOf := ok_bitsof W.FO W.enum
  refine F.ok scPlO (fun vs H Q E h => ?_) (fun cdv A outer s H vs Q E hr h => ?_)
  · obtain ⟨L, xs, P, wd, n, s, rfl, _⟩ := h
    rfl
  · obtain ⟨L, xs, P, wd, n, sz, rfl, hL, pa, lP, as, ms, w0, w9, hQ⟩ := h
    have nd := scPlO.nd
    refine ⟨_, (pss_cons (ps_set (i := 3) nd rfl (Or.inl rfl) (pv 2))
      (pss_cons (ps_set (i := 4) nd rfl (Or.inl rfl) pe_int)
      (pss_cons (ps_for PassesOwn.never rfl (pi_list (pv 0)) (pg_tup rfl (pgs_cons (pg_name (i := 5) nd rfl (Or.inl rfl)) (pgs_cons (pg_name (i := 6) nd rfl (Or.inl rfl)) pgs_nil)))
        (pss_cons (ps_set (i := 7) nd rfl (Or.inl rfl) (pe_call GU (hr.mono (by decide)) (by rfl) W.gU W.FU.kp W.bU .nil pass0 (pa_cons (pv 6) (pa_cons (pv 1) (pa_cons (pv 4) pa_nil)))))
        (pss_cons (ps_set (i := 8) nd rfl (Or.inl rfl) (pe_op op_sub (pe_call GU (hr.mono (by decide)) (by rfl) W.gU W.FU.kp W.bU .nil pass0 (pa_cons (pv 6) (pa_cons (pv 1) (pa_cons (pv 5) pa_nil)))) (pv 7)))
        (pss_cons (ps_if (pt_cmpR op_lt (pv 3) (pv 8) (nomark _))
          (pss_cons (ps_set (i := 9) nd rfl (Or.inl rfl) (pe_call GO (hr.mono (by decide)) (by rfl) W.gO W.FO.kp W.bO .nil pass0 (pa_cons (pv 6) pa_nil)))
          (pss_cons (ps_asg (pe_callB call_divmod (by rfl) W.U.dm (by decide +kernel) (pa_cons (pe_op op_add (pv 7) (pv 3)) (pa_cons (pe_callB call_len_seq (by rfl) W.len PySem.boot_len (pa_cons (pv 9) pa_nil)) pa_nil))) (pg_tup rfl (pgs_cons (pg_name (i := 10) nd rfl (Or.inl rfl)) (pgs_cons (pg_name (i := 11) nd rfl (Or.inl rfl)) pgs_nil))))
          (pss_one (ps_ret (pe_op op_add (pe_op op_mul (pv 10) (pv 1)) (pe_ix ix_list (pv 9) (pv 11) (fun _ _ => rfl))))))) pss_nil)
        (pss_cons (ps_set (i := 3) nd rfl (Or.inl rfl) (pe_op op_sub (pv 3) (pv 8)))
        (pss_one (ps_set (i := 4) nd rfl (Or.inl rfl) (pv 5))))))))
      (pss_one (ps_ret pe_non))))), ?_⟩
    -- BODY
    have lx := pa.length
    refine ⟨_, rfl, _, rfl, L, rfl, ⟨xs, SqL.of hL⟩, ?_⟩
    refine for_list (a := L) (xs := xs) (fun i σ H2 => ∃ (v5 v6 v7 v8 v9 v10 v11 : Option V) (left : Nat), σ = [some (.ref L), some (.int (wd : Nat)), some (.int (n : Nat)), some (.int (left : Nat)), some (.int (startF P i : Nat)), v5, v6, v7, v8, v9, v10, v11] ∧ Same H H2 ∧ (placesF wd 0 (P.take i)).length + left = n) ⟨none, none, none, none, none, none, none, n, rfl, fun _ _ e => e, by rw [List.take_zero]; exact Nat.zero_add n⟩ (fun i σ H2 _ z => by
      obtain ⟨_, _, _, _, _, _, _, _, _, s2, _⟩ := z
      exact SqL.of (s2 _ _ hL)) ?_ ?_
    · rintro i v σ H2 hv ⟨v5, v6, v7, v8, v9, v10, v11, left, rfl, s2, el⟩
      obtain ⟨t, ⟨e, m⟩, rfl, ix, et⟩ := (pa.same s2).get hv
      have etk : P.take (i + 1) = P.take i ++ [(e, m)] := by rw [List.take_succ, ix]; rfl
      have mem : (e, m) ∈ P := List.mem_of_getElem? ix
      have mm : m < 2 ^ wd := ms _ mem
      obtain ⟨e0, es⟩ := as.mem_le _ mem
      dsimp only at e0 es
      have ee : e = ((e.toNat : Nat) : Int) := by omega
      obtain ⟨st, hst⟩ : ∃ st, startF P i = st := ⟨_, rfl⟩
      have epl : placesF wd 0 (P.take (i + 1)) = placesF wd 0 (P.take i) ++ placesM m wd st e.toNat := by
        rw [etk, placesF_app, ← hst]
        show _ ++ (placesM m wd (startF P i) e.toNat ++ []) = _
        rw [List.append_nil]
      have esf : startF P (i + 1) = e.toNat := by
        unfold startF
        rw [etk, List.getLast?_concat]
        rfl
      have lm : (placesM m wd st e.toNat).length = cntF m wd e.toNat - cntF m wd st := by
        unfold placesM
        rw [List.length_map, List.length_range]
      have ste : st ≤ e.toNat := by
        rw [← hst]
        exact startF_next as (Int.le_refl 0) ix
      have mo := cntF_mono (m := m) (w := wd) ste
      rw [hst]
      refine ⟨t, _, rfl, SqT.of et, rfl, _, _, rfl, _, _, rfl, rfl, ?_⟩
      have c1 : (((cntF m wd e.toNat : Nat) : Int) - (cntF m wd st : Nat)) = ((cntF m wd e.toNat - cntF m wd st : Nat) : Int) := by omega
      refine ⟨_, rfl, _, rfl, _, rfl, m, wd, st, rfl, mm, w0, w9, fun H3 s3 => ?_⟩
      refine ⟨_, rfl, _, rfl, _, rfl, m, wd, e.toNat, by rw [← ee]; rfl, mm, w0, w9, fun H4 s4 => ⟨_, rfl, _, _, rfl, rfl, ?_⟩⟩
      refine ⟨_, rfl, _, rfl, _, _, rfl, rfl, _, rfl, ite_dec (fun g => ?_) (fun g => ?_)⟩
      · have pos : 0 < popW m wd := popW_pos w0 (b := e.toNat) (k := cntF m wd st) (by omega)
        have p9 := popW_le (m := m) (w := wd)
        refine ⟨_, rfl, m, wd, rfl, mm, w9, fun S H5 s5 hS e5 => ?_⟩
        refine ⟨_, rfl, _, rfl, _, _, rfl, rfl, _, rfl, S, _, rfl, .inl (SqL.of e5), _, _, rfl, ?_, fun T hT => ?_⟩
        · rw [List.length_map, bitsL_len]
          exact ⟨by omega, by omega⟩
        rw [List.length_map, bitsL_len]
        refine ⟨T, _, rfl, SqT.of upd_same, rfl, _, _, rfl, _, _, rfl, rfl, ?_⟩
        have n1 : (((cntF m wd st : Nat) : Int) + (left : Nat)) / (popW m wd : Nat) = (((cntF m wd st + left) / popW m wd : Nat) : Int) := by rw [← Int.natCast_add, Int.natCast_ediv]
        have n2 : (((cntF m wd st : Nat) : Int) + (left : Nat)) % (popW m wd : Nat) = (((cntF m wd st + left) % popW m wd : Nat) : Int) := by rw [← Int.natCast_add, Int.natCast_emod]
        rw [n1, n2]
        have sT := same_upd (o := .tup [.int (((cntF m wd st + left) / popW m wd : Nat) : Int), .int (((cntF m wd st + left) % popW m wd : Nat) : Int)]) hT
        have e6 := sT _ _ e5
        have s6 := (((s2.trans s3).trans s4).trans s5).trans sT
        generalize upd H5 T (.tup [.int (((cntF m wd st + left) / popW m wd : Nat) : Int), .int (((cntF m wd st + left) % popW m wd : Nat) : Int)]) = H6 at *
        have rl : (cntF m wd st + left) % popW m wd < (bitsL m wd).length := Nat.mod_lt _ pos
        obtain ⟨r, hr⟩ : ∃ r, (bitsL m wd)[(cntF m wd st + left) % popW m wd]? = some r := ⟨_, List.getElem?_eq_getElem rl⟩
        have hat : atI ((bitsL m wd).map fun i => V.int (i : Nat)) (((cntF m wd st + left) % popW m wd : Nat) : Int) = some (.int (r : Nat)) := atI_nat (by rw [List.getElem?_map, hr]; rfl)
        have en : nthM m wd (cntF m wd st + left) = (cntF m wd st + left) / popW m wd * wd + r := by
          unfold nthM
          rw [hr, Option.getD_some]
        have hat2 : (placesF wd 0 P)[n]? = some (nthM m wd (cntF m wd st + left)) := by
          have e1 := placesF_app (w := wd) (a := 0) (P := P.take (i + 1)) (Q := P.drop (i + 1))
          rw [List.take_append_drop] at e1
          rw [e1, List.getElem?_append_left (by rw [epl, List.length_append, lm]; omega), epl, List.getElem?_append_right (by omega), show n - (placesF wd 0 (P.take i)).length = left by omega]
          unfold placesM
          rw [List.getElem?_map, List.getElem?_range (by omega)]
          rfl
        have z := hQ H6 s6
        rw [hat2, en] at z
        refine ⟨_, rfl, _, rfl, _, _, rfl, rfl, .inr ⟨by omega, Int.lt_of_le_of_lt (by omega : ((wd : Nat) : Int) ≤ 900) (by decide)⟩, _, rfl, _, rfl, S, _, _, _, rfl, rfl, SqL.of e6, hat, _, _, rfl, rfl, ?_⟩
        exact z
      · refine nxt ?_
        dsimp only
        have g : cntF m wd e.toNat - cntF m wd st ≤ left := by omega
        have cl : ((left : Nat) : Int) - (((cntF m wd e.toNat : Nat) : Int) - (cntF m wd st : Nat)) = ((left - (cntF m wd e.toNat - cntF m wd st) : Nat) : Int) := by omega
        refine ⟨_, rfl, _, rfl, _, _, rfl, rfl, ?_⟩
        refine ⟨_, rfl, some (.int e), some (.int (m : Nat)), some (.int (cntF m wd st : Nat)), some (.int (((cntF m wd e.toNat : Nat) : Int) - (cntF m wd st : Nat))), v9, v10, v11, left - (cntF m wd e.toNat - cntF m wd st), ?_, (s2.trans s3).trans s4, ?_⟩
        · rw [esf, ← ee, ← cl]
          rfl
        · rw [epl, List.length_append, lm]
          omega
    · rintro σ H2 ⟨v5, v6, v7, v8, v9, v10, v11, left, rfl, s2, el⟩
      rw [List.take_of_length_le (by omega)] at el
      have z := hQ H2 s2
      rw [List.getElem?_eq_none (by omega)] at z
      exact z
end
end Aw

namespace Aw
open PySem PySem.Spec PyProof.Rows L2 NdefX
def spMBel (C CN : Addr) : Sp := fun vs H Q E => ∃ (a : Addr) (v : V) (P : Pcs) (d : Nat) (s : Int), vs = [.ref a, v] ∧ MkAt C H a P d s ∧ VOk H v ∧ errOf (numB v 0 s = false) CN "number" v H E ∧
  ∀ j : Nat, v = .int (j : Nat) → (j : Int) ≤ s → ∀ H', Same H H' → Q (.int (nMk P (12 * 2 ^ d) j : Nat)) H'
def spMNth (C CN : Addr) : Sp := fun vs H Q E => ∃ (a : Addr) (v : V) (P : Pcs) (d : Nat) (s : Int), vs = [.ref a, v] ∧ MkAt C H a P d s ∧ VOk H v ∧ errOf (cntB v = false) CN "number" v H E ∧
  ∀ n : Nat, v = .int (n : Nat) → ∀ H', Same H H' → Q (optV ((placesF (12 * 2 ^ d) 0 P)[n]?)) H'
def spMNext (C CN : Addr) : Sp := fun vs H Q E => ∃ (a : Addr) (v : V) (P : Pcs) (d : Nat) (s : Int), vs = [.ref a, v] ∧ MkAt C H a P d s ∧ VOk H v ∧ errOf (cntB v = false) CN "number" v H E ∧
  ∀ j : Nat, v = .int (j : Nat) → ∀ H', Same H H' → Q (optV ((placesF (12 * 2 ^ d) 0 P)[nMk P (12 * 2 ^ d) (min j s.toNat)]?)) H'
def spMLast (C CN : Addr) : Sp := fun vs H Q E => ∃ (a : Addr) (v : V) (P : Pcs) (d : Nat) (s : Int), vs = [.ref a, v] ∧ MkAt C H a P d s ∧ VOk H v ∧ errOf (cntB v = false) CN "number" v H E ∧
  ∀ j : Nat, v = .int (j : Nat) → ∀ H', Same H H' → Q (if nMk P (12 * 2 ^ d) (min (j + 1) s.toNat) = 0 then .non else optV ((placesF (12 * 2 ^ d) 0 P)[nMk P (12 * 2 ^ d) (min (j + 1) s.toNat) - 1]?)) H'
def spMLst (C CN CT : Addr) : Sp := fun vs H Q E => ∃ (a : Addr) (v : V) (P : Pcs) (d : Nat) (s : Int), vs = [.ref a, v] ∧ MkAt C H a P d s ∧ VOk H v ∧ errOf (numB v 0 1000 = false) CN "number" v H E ∧
  ∀ m : Nat, v = .int (m : Nat) → m ≤ 1000 → errOf (m < nMk P (12 * 2 ^ d) s.toNat) CT "most" v H E ∧
    (nMk P (12 * 2 ^ d) s.toNat ≤ m → ∀ (t : Addr) (H' : Hp), Same H H' → H t = none → H' t = some (.tup ((placesF (12 * 2 ^ d) 0 P).map fun j => V.int (j : Nat))) → Q (.ref t) H')
section
variable {P : Program} {w : World} {K : PySem.W.Frag} {mg : Str → Option Value} {base : Heap} {C CN CT : Addr}
structure TxtAsk (P : Program) (w : World) (K : PySem.W.Frag) (mg : Str → Option Value) (base : Heap) (C CN fN fC fL fP fM fW : Addr) (nd' cd ld pd md wd' : FuncData) (t12 tL : Tok) : Prop where
  GN : FnOk P w K mg base (L2.CX P w) 3 fN nd' ["value", "low", "high"] (spChkN CN)
  kN : PySem.W.keepIn K (.ref fN) = true
  bN : Binds K nd' ["value", "low", "high"] []
  gN : mg "check_number" = some (.ref fN)
  GC : FnOk P w K mg base (L2.CX P w) 3 fC cd ["value"] (spChkC CN)
  kC : PySem.W.keepIn K (.ref fC) = true
  bC : Binds K cd ["value"] []
  gC : mg "check_count" = some (.ref fC)
  GL : FnOk P w K mg base CX0 3 fL ld ["pieces", "wide", "place"] spLow
  kL : PySem.W.keepIn K (.ref fL) = true
  bL : Binds K ld ["pieces", "wide", "place"] []
  gL : mg "many_below" = some (.ref fL)
  GP : FnOk P w K mg base CX0 3 fP pd ["pieces", "wide", "number"] spPlO
  kP : PySem.W.keepIn K (.ref fP) = true
  bP : Binds K pd ["pieces", "wide", "number"] []
  gP : mg "place_of" = some (.ref fP)
  GM : FnOk P w K mg base CX0 3 fM md ["pieces", "wide"] spMPl
  kM : PySem.W.keepIn K (.ref fM) = true
  bM : Binds K md ["pieces", "wide"] []
  gM : mg "marked_places" = some (.ref fM)
  FW : Fun K "width" "width" sWidth fW wd'
  bW : Binds K wd' ["depth"] []
  gW : mg "width" = some (.ref fW)
  gB : mg "BASE" = some (.int 12 t12)
  gLi : mg "MOST_LISTED" = some (.int 1000 tL)
  min : mg "min" = none
  tup : mg "tuple" = none
theorem scMBel : FnScope ["self", "j"] ["self", "j"] (defScope sMBel) := ⟨rfl, rfl, rfl, by decide +kernel, rfl, by decide +kernel, by decide +kernel⟩
theorem scMNth : FnScope ["self", "n"] ["self", "n"] (defScope sMNth) := ⟨rfl, rfl, rfl, by decide +kernel, rfl, by decide +kernel, by decide +kernel⟩
theorem scMNext : FnScope ["self", "j"] ["self", "j"] (defScope sMNext) := ⟨rfl, rfl, rfl, by decide +kernel, rfl, by decide +kernel, by decide +kernel⟩
theorem scMLast : FnScope ["self", "j", "many"] ["self", "j"] (defScope sMLast) := ⟨rfl, rfl, rfl, by decide +kernel, rfl, by decide +kernel, by decide +kernel⟩
theorem scMLst : FnScope ["self", "most"] ["self", "most"] (defScope sMLst) := ⟨rfl, rfl, rfl, by decide +kernel, rfl, by decide +kernel, by decide +kernel⟩
theorem numB_nat {j : Nat} {s : Int} (h : (j : Int) ≤ s) : numB (.int (j : Nat)) 0 s = true := by
  show (decide ((0 : Int) ≤ (j : Nat)) && decide (((j : Nat) : Int) ≤ s)) = true
  rw [decide_eq_true (by omega), decide_eq_true h]
  rfl
theorem ok_mbel {f fN fC fL fP fM fW : Addr} {fd nd' cd ld pd md wd' : FuncData} {t12 tL : Tok} (F : Fun K "below" "Marks.below" sMBel f fd) (W : TxtAsk P w K mg base C CN fN fC fL fP fM fW nd' cd ld pd md wd' t12 tL) (M : MkCls K C) : FnOk P w K mg base (L2.CX P w) 4 f fd ["self", "j"] (spMBel C CN) := by
  have GW : FnOk P w K mg base CX0 1 fW wd' ["depth"] spWidth := ok_width W.FW W.gB
  refine F.okX scMBel (fun vs H Q E h => ?_) (fun cdv A outer s H vs Q E hr h => ?_)
  · obtain ⟨a, v, P, d, s, rfl, _⟩ := h
    rfl
  · obtain ⟨a, v, P, d, sz, rfl, S, hv, kE, kQ⟩ := h
    have nd := scMBel.nd
    refine ⟨_, (pss_cons (ps_expr (pe_callS W.GN (hr.mono (by decide)) (by rfl) W.gN W.kN W.bN (fun σ => passAt (takes_of rfl rfl rfl rfl) σ) (pa_cons (pv 1) (pa_cons pe_int (pa_cons (pe_fld (pv 0) rfl) pa_nil)))))
      (pss_one (ps_ret (pe_call W.GL (hr.mono (by decide)) (by rfl) W.gL W.kL W.bL .nil pass0 (pa_cons (pe_fld (pv 0) rfl) (pa_cons (pe_call GW (hr.mono (by decide)) (by rfl) W.gW W.FW.kp W.bW .nil pass0 (pa_cons (pe_fld (pv 0) rfl) pa_nil)) (pa_cons (pv 1) pa_nil))))))), ?_⟩
    obtain ⟨dx, L, xs, hA, hL, pa⟩ := S.ex
    obtain ⟨w0, w9⟩ := wide_le S.d6
    have fw := S.few
    have s0 := S.s0
    refine ⟨_, rfl, _, rfl, a, C, dx, _, .int sz, rfl, hA, M.c, M.size, rfl, v, 0, sz, rfl, hv, kE, fun hb => ?_⟩
    obtain ⟨j, rfl, j0, j1⟩ := numB_int hb
    obtain ⟨jn, rfl⟩ : ∃ jn : Nat, j = (jn : Nat) := ⟨j.toNat, by omega⟩
    refine ⟨_, rfl, a, C, dx, _, .ref L, rfl, hA, M.c, M.pieces, rfl, _, rfl, a, C, dx, _, .int (d : Nat), rfl, hA, M.c, M.depth, rfl, d, rfl, by have := S.d6; omega, _, rfl, ?_⟩
    exact ⟨L, P, 12 * 2 ^ d, sz, (jn : Nat), rfl, ⟨⟨xs, hL, pa⟩, by omega, S.asc.wsc, S.masks, w0, w9⟩, by omega, j1, fun H' s' => by rw [Int.toNat_natCast]; exact kQ jn rfl j1 H' s'⟩
theorem ok_mnth {f fN fC fL fP fM fW : Addr} {fd nd' cd ld pd md wd' : FuncData} {t12 tL : Tok} (F : Fun K "nth" "Marks.nth" sMNth f fd) (W : TxtAsk P w K mg base C CN fN fC fL fP fM fW nd' cd ld pd md wd' t12 tL) (M : MkCls K C) : FnOk P w K mg base (L2.CX P w) 4 f fd ["self", "n"] (spMNth C CN) := by
  have GW : FnOk P w K mg base CX0 1 fW wd' ["depth"] spWidth := ok_width W.FW W.gB
  refine F.okX scMNth (fun vs H Q E h => ?_) (fun cdv A outer s H vs Q E hr h => ?_)
  · obtain ⟨a, v, P, d, s, rfl, _⟩ := h
    rfl
  · obtain ⟨a, v, P, d, sz, rfl, S, hv, kE, kQ⟩ := h
    have nd := scMNth.nd
    refine ⟨_, (pss_cons (ps_expr (pe_callS W.GC (hr.mono (by decide)) (by rfl) W.gC W.kC W.bC (fun σ => passAt (takes_of rfl rfl rfl rfl) σ) (pa_cons (pv 1) pa_nil)))
      (pss_one (ps_ret (pe_call W.GP (hr.mono (by decide)) (by rfl) W.gP W.kP W.bP .nil pass0 (pa_cons (pe_fld (pv 0) rfl) (pa_cons (pe_call GW (hr.mono (by decide)) (by rfl) W.gW W.FW.kp W.bW .nil pass0 (pa_cons (pe_fld (pv 0) rfl) pa_nil)) (pa_cons (pv 1) pa_nil))))))), ?_⟩
    obtain ⟨dx, L, xs, hA, hL, pa⟩ := S.ex
    obtain ⟨w0, w9⟩ := wide_le S.d6
    have fw := S.few
    refine ⟨_, rfl, v, rfl, hv, kE, fun hb => ?_⟩
    cases v with
    | int j =>
      have j0 : 0 ≤ j := of_decide_eq_true hb
      obtain ⟨jn, rfl⟩ : ∃ jn : Nat, j = (jn : Nat) := ⟨j.toNat, by omega⟩
      refine ⟨_, rfl, a, C, dx, _, .ref L, rfl, hA, M.c, M.pieces, rfl, _, rfl, a, C, dx, _, .int (d : Nat), rfl, hA, M.c, M.depth, rfl, d, rfl, by have := S.d6; omega, _, rfl, ?_⟩
      exact ⟨L, xs, P, 12 * 2 ^ d, jn, sz, rfl, hL, pa, by omega, S.asc, S.masks, w0, w9, fun H' s' => kQ jn rfl H' s'⟩
    | _ => cases hb
end
end Aw

namespace Aw
open PySem PySem.Spec PyProof.Rows L2 NdefX
section
variable {P : Program} {w : World} {K : PySem.W.Frag} {mg : Str → Option Value} {base : Heap} {C CN CT : Addr}
theorem nMk_le {P : Pcs} {w p : Nat} : nMk P w p ≤ p := by
  unfold nMk
  exact Nat.le_trans (List.length_filter_le _ _) (by rw [List.length_range]; exact Nat.le_refl _)
theorem cntB_nat {n : Nat} : cntB (.int (n : Nat)) = true := by
  show decide ((0 : Int) ≤ (n : Nat)) = true
  exact decide_eq_true (by omega)
theorem ok_mnext {f fN fC fL fP fM fW fB fT : Addr} {fd nd' cd ld pd md wd' bd td : FuncData} {t12 tL : Tok} (F : Fun K "next_from" "Marks.next_from" sMNext f fd) (W : TxtAsk P w K mg base C CN fN fC fL fP fM fW nd' cd ld pd md wd' t12 tL) (M : MkCls K C)
    (GBel : FnOk P w K mg base (L2.CX P w) 4 fB bd ["self", "j"] (spMBel C CN)) (bBel : Binds K bd ["self", "j"] []) (mBel : Meth K C "below" fB) (GNth : FnOk P w K mg base (L2.CX P w) 4 fT td ["self", "n"] (spMNth C CN)) (bNth : Binds K td ["self", "n"] []) (mNth : Meth K C "nth" fT) :
    FnOk P w K mg base (L2.CX P w) 5 f fd ["self", "j"] (spMNext C CN) := by
  refine F.okX scMNext (fun vs H Q E h => ?_) (fun cdv A outer s H vs Q E hr h => ?_)
  · obtain ⟨a, v, P, d, s, rfl, _⟩ := h
    rfl
  · obtain ⟨a, v, P, d, sz, rfl, S, hv, kE, kQ⟩ := h
    have nd := scMNext.nd
    refine ⟨_, (pss_cons (ps_expr (pe_callS W.GC (hr.mono (by decide)) (by rfl) W.gC W.kC W.bC (fun σ => passAt (takes_of rfl rfl rfl rfl) σ) (pa_cons (pv 1) pa_nil)))
      (pss_one (ps_ret (pe_methSw (pv 0) M.c mNth GNth (hr.mono (by decide)) bNth (fun σ => passAt (takes_of rfl rfl rfl rfl) σ) (pa_cons (pe_methSw (pv 0) M.c mBel GBel (hr.mono (by decide)) bBel (fun σ => passAt (takes_of rfl rfl rfl rfl) σ) (pa_cons (pe_callB (call_min2 rfl) (by rfl) W.min (by decide +kernel) (pa_cons (pv 1) (pa_cons (pe_fld (pv 0) rfl) pa_nil))) pa_nil)) pa_nil))))), ?_⟩
    obtain ⟨dx, L, xs, hA, hL, pa⟩ := S.ex
    have s0 := S.s0
    refine ⟨_, rfl, v, rfl, hv, kE, fun hb => ?_⟩
    cases v with
    | int j =>
      have j0 : 0 ≤ j := of_decide_eq_true hb
      obtain ⟨jn, rfl⟩ : ∃ jn : Nat, j = (jn : Nat) := ⟨j.toNat, by omega⟩
      have em : (if sz < ((jn : Nat) : Int) then sz else ((jn : Nat) : Int)) = ((min jn sz.toNat : Nat) : Int) := by
        split <;> omega
      have kQ := kQ jn rfl
      refine ⟨_, rfl, a, dx, _, rfl, hA, rfl, _, rfl, a, dx, _, rfl, hA, rfl, _, rfl, _, rfl, a, C, dx, _, .int sz, rfl, hA, M.c, M.size, rfl, (jn : Nat), sz, rfl, ?_⟩
      rw [em]
      have le : ((min jn sz.toNat : Nat) : Int) ≤ sz := by omega
      refine ⟨a, _, P, d, sz, rfl, S, .int _, fun z => (by rw [numB_nat le] at z; cases z), fun j2 e2 _ H' s' => ?_⟩
      obtain rfl : min jn sz.toNat = j2 := Int.ofNat.inj (V.int.inj e2)
      exact ⟨a, _, P, d, sz, rfl, S.same s', .int _, fun z => (by rw [cntB_nat] at z; cases z), fun n e3 H'' s'' => by
        obtain rfl := Int.ofNat.inj (V.int.inj e3)
        exact kQ H'' (s'.trans s'')⟩
    | _ => cases hb
theorem ok_mlast {f fN fC fL fP fM fW fB fT : Addr} {fd nd' cd ld pd md wd' bd td : FuncData} {t12 tL : Tok} (F : Fun K "last_upto" "Marks.last_upto" sMLast f fd) (W : TxtAsk P w K mg base C CN fN fC fL fP fM fW nd' cd ld pd md wd' t12 tL) (M : MkCls K C)
    (GBel : FnOk P w K mg base (L2.CX P w) 4 fB bd ["self", "j"] (spMBel C CN)) (bBel : Binds K bd ["self", "j"] []) (mBel : Meth K C "below" fB) (GNth : FnOk P w K mg base (L2.CX P w) 4 fT td ["self", "n"] (spMNth C CN)) (bNth : Binds K td ["self", "n"] []) (mNth : Meth K C "nth" fT) :
    FnOk P w K mg base (L2.CX P w) 5 f fd ["self", "j"] (spMLast C CN) := by
  refine F.okX scMLast (fun vs H Q E h => ?_) (fun cdv A outer s H vs Q E hr h => ?_)
  · obtain ⟨a, v, P, d, s, rfl, _⟩ := h
    rfl
  · obtain ⟨a, v, P, d, sz, rfl, S, hv, kE, kQ⟩ := h
    have nd := scMLast.nd
    refine ⟨_, (pss_cons (ps_expr (pe_callS W.GC (hr.mono (by decide)) (by rfl) W.gC W.kC W.bC (fun σ => passAt (takes_of rfl rfl rfl rfl) σ) (pa_cons (pv 1) pa_nil)))
      (pss_cons (ps_set (i := 2) nd rfl (Or.inl rfl) (pe_methSw (pv 0) M.c mBel GBel (hr.mono (by decide)) bBel (fun σ => passAt (takes_of rfl rfl rfl rfl) σ) (pa_cons (pe_callB (call_min2 rfl) (by rfl) W.min (by decide +kernel) (pa_cons (pe_op op_add (pv 1) pe_int) (pa_cons (pe_fld (pv 0) rfl) pa_nil))) pa_nil)))
      (pss_one (ps_ret (pe_ifExp (pt_cmpR op_gt (pv 2) pe_int (nomark _)) (pe_methSw (pv 0) M.c mNth GNth (hr.mono (by decide)) bNth (fun σ => passAt (takes_of rfl rfl rfl rfl) σ) (pa_cons (pe_op op_sub (pv 2) pe_int) pa_nil)) pe_non))))), ?_⟩
    obtain ⟨dx, L, xs, hA, hL, pa⟩ := S.ex
    have s0 := S.s0
    refine ⟨_, rfl, v, rfl, hv, kE, fun hb => ?_⟩
    cases v with
    | int j =>
      have j0 : 0 ≤ j := of_decide_eq_true hb
      obtain ⟨jn, rfl⟩ : ∃ jn : Nat, j = (jn : Nat) := ⟨j.toNat, by omega⟩
      have em : (if sz < ((jn : Nat) : Int) + 1 then sz else ((jn : Nat) : Int) + 1) = ((min (jn + 1) sz.toNat : Nat) : Int) := by
        split <;> omega
      have kQ := kQ jn rfl
      refine ⟨_, rfl, a, dx, _, rfl, hA, rfl, _, rfl, _, 1, rfl, rfl, _, rfl, a, C, dx, _, .int sz, rfl, hA, M.c, M.size, rfl, _, sz, rfl, ?_⟩
      rw [em]
      have le : ((min (jn + 1) sz.toNat : Nat) : Int) ≤ sz := by omega
      refine ⟨a, _, P, d, sz, rfl, S, .int _, fun z => (by rw [numB_nat le] at z; cases z), fun j2 e2 _ H' s' => ?_⟩
      obtain rfl : min (jn + 1) sz.toNat = j2 := Int.ofNat.inj (V.int.inj e2)
      have kQ := fun H'' (s'' : Same H' H'') => kQ H'' (s'.trans s'')
      refine ⟨_, rfl, _, _, rfl, rfl, _, rfl, ite_dec (fun g => ?_) (fun g => ?_)⟩
      · refine ⟨_, rfl, a, dx, _, rfl, s' _ _ hA, rfl, _, rfl, _, 1, rfl, rfl, ?_⟩
        have e1 : ((nMk P (12 * 2 ^ d) (min (jn + 1) sz.toNat) : Nat) : Int) - 1 = ((nMk P (12 * 2 ^ d) (min (jn + 1) sz.toNat) - 1 : Nat) : Int) := by omega
        refine ⟨a, .int ((nMk P (12 * 2 ^ d) (min (jn + 1) sz.toNat) - 1 : Nat) : Int), P, d, sz, by rw [← e1], S.same s', .int _, fun z => (by rw [cntB_nat] at z; cases z), fun n e3 H'' s'' => ?_⟩
        obtain rfl := Int.ofNat.inj (V.int.inj e3)
        have z := kQ H'' s''
        rw [if_neg (by omega)] at z
        exact z
      · have z := kQ H' (fun _ _ e => e)
        rw [if_pos (by omega)] at z
        exact z
    | _ => cases hb
theorem ok_mlst {f fN fC fL fP fM fW fK : Addr} {fd nd' cd ld pd md wd' kd : FuncData} {t12 tL : Tok} (F : Fun K "listed" "Marks.listed" sMLst f fd) (W : TxtAsk P w K mg base C CN fN fC fL fP fM fW nd' cd ld pd md wd' t12 tL) (M : MkCls K C)
    (eT : Err P K mg "TooMany" "most" "most" CT) (GMany : FnOk P w K mg base CX0 4 fK kd ["self"] (spMany C)) (bMany : Binds K kd ["self"] []) (mMany : Meth K C "many" fK) : FnOk P w K mg base (L2.CX P w) 5 f fd ["self", "most"] (spMLst C CN CT) := by
  have GW : FnOk P w K mg base CX0 1 fW wd' ["depth"] spWidth := ok_width W.FW W.gB
  refine F.okX scMLst (fun vs H Q E h => ?_) (fun cdv A outer s H vs Q E hr h => ?_)
  · obtain ⟨a, v, P, d, s, rfl, _⟩ := h
    rfl
  · obtain ⟨a, v, P, d, sz, rfl, S, hv, kE, kQ⟩ := h
    have nd := scMLst.nd
    refine ⟨_, (pss_cons (ps_expr (pe_callS W.GN (hr.mono (by decide)) (by rfl) W.gN W.kN W.bN (fun σ => passAt (takes_of rfl rfl rfl rfl) σ) (pa_cons (pv 1) (pa_cons pe_int (pa_cons (pe_glob (v := .int 1000) (by rfl) W.gLi ⟨_, rfl⟩) pa_nil)))))
      (pss_cons (ps_if (pt_cmpR op_gt (pe_meth0 (pv 0) M.c mMany GMany (hr.mono (by decide)) bMany .nil pass0) (pv 1) (nomark _))
        (pss_one (ps_raise rfl (takes_of rfl rfl rfl rfl) (pmk_err eT (hr.mono (by decide)) (by rfl) (pa_cons (pv 1) pa_nil)))) pss_nil)
      (pss_one (ps_ret (pe_callTy call_tuple_of (by rfl) W.tup (by decide +kernel) (pa_cons (pe_call W.GM (hr.mono (by decide)) (by rfl) W.gM W.kM W.bM .nil pass0 (pa_cons (pe_fld (pv 0) rfl) (pa_cons (pe_call GW (hr.mono (by decide)) (by rfl) W.gW W.FW.kp W.bW .nil pass0 (pa_cons (pe_fld (pv 0) rfl) pa_nil)) pa_nil))) pa_nil)))))), ?_⟩
    obtain ⟨dx, L, xs, hA, hL, pa⟩ := S.ex
    obtain ⟨w0, w9⟩ := wide_le S.d6
    have fw := S.few
    have s0 := S.s0
    refine ⟨_, rfl, v, 0, 1000, rfl, hv, kE, fun hb => ?_⟩
    obtain ⟨m, rfl, m0, m1⟩ := numB_int hb
    obtain ⟨mn, rfl⟩ : ∃ mn : Nat, m = (mn : Nat) := ⟨m.toNat, by omega⟩
    obtain ⟨kT, kQ⟩ := kQ mn rfl (by omega)
    refine ⟨_, rfl, a, dx, _, rfl, hA, rfl, a, P, d, sz, rfl, S, fun H1 s1 => ⟨_, rfl, _, _, rfl, rfl, _, rfl, ite_dec (fun g => ?_) (fun g => ?_)⟩⟩
    · refine ⟨_, rfl, mkS_ans fun e he => ?_⟩
      exact kT (by omega) e _ (s1.trans (same_upd he)) (s1.free he) upd_same
    · refine nxt ?_
      dsimp only
      have le : nMk P (12 * 2 ^ d) sz.toNat ≤ mn := by omega
      have pl := placesF_all w0 S.asc
      have hA1 := s1 _ _ hA
      refine ⟨_, rfl, a, C, dx, _, .ref L, rfl, hA1, M.c, M.pieces, rfl, _, rfl, a, C, dx, _, .int (d : Nat), rfl, hA1, M.c, M.depth, rfl, d, rfl, by have := S.d6; omega, L, xs, P, 12 * 2 ^ d, sz, rfl, s1 _ _ hL, pa.same s1, by omega, S.asc, S.masks, w0, w9, by omega, fun R H2 s2 hR e2 => ?_⟩
      refine ⟨R, _, rfl, .inl ⟨SqL.of e2, fun t ht => ?_⟩⟩
      exact kQ le t _ ((s1.trans s2).trans (same_upd ht)) ((s1.trans s2).free ht) upd_same
end
end Aw

namespace Aw
open PySem PySem.Spec PyProof.Rows L2 NdefX
/-! ### several except clauses, some with 'as n' (one name n for all, at slot i) -/
def unE (i : Nat) (D : Ends) : Ends := { nx := fun σ' H' => D.nx (σ'.set i none) H', rt := D.rt, bk := fun σ' H' => D.bk (σ'.set i none) H', ct := fun σ' H' => D.ct (σ'.set i none) H' }
def wAsM (K : PySem.W.Frag) (i : Nat) (Wout : WX) (D : Ends) : List (Value × (Addr → Value → Option Addr → TS) × Bool) → WX
  | [] => Wout
  | (c, ts, true) :: r => fun cls d σ H => ∃ b, PySem.W.exmOne K cls c = some b ∧ (b = true → ∀ a, H a = none → ts a cls d (unE i D) (σ.set i (some (.ref a))) H) ∧ (b = false → wAsM K i Wout D r cls d σ H)
  | (c, ts, false) :: r => fun cls d σ H => ∃ b, PySem.W.exmOne K cls c = some b ∧ (b = true → ∀ a, H a = none → ts a cls d D σ H) ∧ (b = false → wAsM K i Wout D r cls d σ H)
inductive HdsA (X : Cx) (n : Str) : List ExceptHandler → List (Value × (Addr → Value → Option Addr → TS) × Bool) → Prop
  | nil : HdsA X n [] []
  | as_ {x : Str} {c : Value} {ts : Addr → Value → Option Addr → TS} {b₀ : Stmt} {suite : List Stmt} {np pos' : Pos} {hds : List ExceptHandler} {l : List (Value × (Addr → Value → Option Addr → TS) × Bool)} (hc : Names X x c)
      (hsu : ∀ (a : Addr) (oe : Obj) (cls : Value) (d : Option Addr) (pn : List (Addr × Obj)), Zc cls d oe → (∃ vs, oe.data = .fields vs) → PSs (X.suite a ((a, oe) :: pn)) (b₀ :: suite) (ts a cls d)) (r : HdsA X n hds l) :
      HdsA X n (.ExceptHandler (some (.Name x np)) (some n) (b₀ :: suite) pos' :: hds) ((c, ts, true) :: l)
  | no {x : Str} {c : Value} {ts : Addr → Value → Option Addr → TS} {b₀ : Stmt} {suite : List Stmt} {np pos' : Pos} {hds : List ExceptHandler} {l : List (Value × (Addr → Value → Option Addr → TS) × Bool)} (hc : Names X x c)
      (hsu : ∀ (a : Addr) (oe : Obj) (cls : Value) (d : Option Addr) (pn : List (Addr × Obj)), Zc cls d oe → (∃ vs, oe.data = .fields vs) → PSs (X.suite a ((a, oe) :: pn)) (b₀ :: suite) (ts a cls d)) (r : HdsA X n hds l) :
      HdsA X n (.ExceptHandler (some (.Name x np)) none (b₀ :: suite) pos' :: hds) ((c, ts, false) :: l)
section
variable {X : Cx} {n : Str} {i : Nat} {body : List Stmt} {h₀ : ExceptHandler} {hds : List ExceptHandler} {l : List (Value × (Addr → Value → Option Addr → TS) × Bool)} {pos : Pos} {tb : WX → TS} {Wout : WX}
theorem ps_try_asM (hs : X.stack = X.env :: X.outer) (hf : X.env.frame = some X.env.locals) (hN : X.N.Nodup) (hi : X.N[i]? = some n) (hln : X.env.kindOf n = some .local) (tk : Takes X Wout)
    (hb : ∀ (W : WX) (pn : List (Addr × Obj)) (xe : Value → Shared → Prop), Takes (X.tr pn xe) W → PassesOwn (model X.prog X.w) X.A X.env xe → PSs (X.tr pn xe) body (tb W))
    (hh : HdsA X n (h₀ :: hds) l) : PS X (.Try body (h₀ :: hds) [] [] pos) (fun D σ H => tb (wAsM X.K i Wout D l) D σ H) := by
  refine ⟨fun pins s σ H D I h => ?_⟩
  have ok := I.ok
  have hfr : X.A.frames = some (X.env :: X.outer) := by rw [ok.frames, hs]
  have hloc : Loc X.env.scope n := .inl hln
  refine wpAny_Try_except ?_
  refine wpAny_mono ((hb (wAsM X.K i Wout D l) (X.pn ++ pins) (fun e s₁ => wpAny (model X.prog X.w) X.A (noteFrame e X.env) (fun _ s₂ => wpAny (model X.prog X.w) X.A (setFlight e none) (fun _ s₃ =>
    wpAny (model X.prog X.w) X.A (handleBy e X.env (h₀ :: hds)) (SP X pins D) X.xe s₃) X.xe s₂) X.xe s₁) (fun u s' xx => ?_) PassesOwn.looking).run [] s σ H D (I.toTry _) h) (fun f s1 hsp => ?_) (fun e s1 he => he)
  · obtain ⟨a, B, sI, pins', σ', H', cls, d, rfl, J', nb, up, sky, na, os, ag, w⟩ := xx
    have J : Inv X pins σ' H' sI := J'.ofTry ok
    have sky' : Sky B (X.env :: X.outer) a (Zc cls d) X.env.locals s'.heap := by rw [← hs]; exact sky
    show wpAny (model X.prog X.w) X.A (noteFrame (.ref a) X.env) _ _ _
    refine Sky.land Zc.steady hfr hf sky' fun h3 fl3 up3 => ?_
    have J3 : Inv X pins σ' H' { s' with heap := h3 } := J.landed nb fl3.1 (up.trans up3) os ag
    obtain ⟨oe3, vs3, he3, hz3, hd3⟩ := fl3.there
    have notFr : ∀ {h : Heap} {o : Obj} {vs : Array Value}, h.FunFrames B (X.env :: X.outer) → h.get? a = some o → o.data = .fields vs → a ∉ frs (X.env :: X.outer) := fun {h o vs} ff e dd hm => by
      obtain ⟨_, o', e', hnf⟩ := ff.mem hm
      rw [e] at e'; cases e'
      exact hnf _ dd
    have nfr := notFr fl3.2.2.1 he3 hd3
    have nL : a ≠ X.env.locals := fun z => nfr (List.mem_filterMap.mpr ⟨X.env, List.mem_cons_self, by rw [hf, z]⟩)
    have nF : a ∉ X.fs := fun hm => by
      obtain ⟨e, he, q⟩ := List.mem_filterMap.mp hm
      exact nfr (List.mem_filterMap.mpr ⟨e, List.mem_cons_of_mem _ he, q⟩)
    have S3 := J3.suite he3 hd3 na nL nF
    have go : ∀ {hds' : List ExceptHandler} {l' : List (Value × (Addr → Value → Option Addr → TS) × Bool)}, HdsA X n hds' l' → wAsM X.K i Wout D l' cls d σ' H' →
        wpAny (model X.prog X.w) X.A (handleBy (.ref a) X.env hds') (SP X pins D) X.xe { s' with heap := h3 } := by
      intro hds' l' hk
      induction hk with
      | nil =>
        intro w
        refine wpAny_handleBy_nil ?_
        obtain ⟨k1, k2, k3, oe, vs, T, oT, ts', he, hz, hd, h1, hr⟩ := id fl3
        unfold PySem.passOn
        refine wpAny_bind (wpAny_field he hd h1 ?_)
        rw [if_neg (show ¬ ((Value.ref T == Value.none) = true) from by simp)]
        have fin : wpAny (model X.prog X.w) X.A (setFlight (.ref a) X.env.frame) (fun _ s4 => wpAny (model X.prog X.w) X.A (throw (.ref a) : Sem Flow) (SP X pins D) X.xe s4) X.xe { s' with heap := h3 } := by
          rw [hf]
          refine HandSPX.setFlight_upZ fl3 fun h4 hh4 up4 => wpAny_throw (tk _ _ ?_)
          exact ⟨a, B, sI, pins, σ', H', cls, d, rfl, J, nb, (up.trans up3).trans up4, .inr (.inr (by rw [hs]; exact hh4)), na, os, ag, w⟩
        first
          | exact wpAny_bind (wpAny_pure (wpAny_bind fin))
          | exact wpAny_bind fin
      | @as_ x c ts b₀ suite np pos' hds2 l2 hc hsu r ih =>
        intro w
        obtain ⟨b, hb1, hyes, hno⟩ := w
        refine wpAny_handleBy_cons (codeAny_handlers_test ?_) (by intro q; cases q)
        have LT : PySem.W.Looks (model X.prog X.w) h3 (typeOf (.ref a)) cls := fun A Q E s k q => wpAny_typeOf_ref (k _ _ he3) (by rw [hz3.1]; exact q)
        have LM := PySem.W.exm_one (M := model X.prog X.w) (J3.kIn) LT hb1
        have test : ∀ {Q : Value → Shared → Prop} {E : Value → Shared → Prop}, Q c { s' with heap := h3 } → wpAny (model X.prog X.w) (X.A.mark (some (.ref a))) (eval (.Name x np) X.env) Q E { s' with heap := h3 } := fun {Q E} q => by
          obtain ⟨hg, hdbg, hm | ⟨hm, hv, hnn⟩⟩ := hc
          · exact ld_glob (X := X.suite a ((a, oe3) :: (X.pn ++ pins))) S3 hg hm q hdbg
          · exact ld_blt (X := X.suite a ((a, oe3) :: (X.pn ++ pins))) S3 hg hm hv q hnn hdbg
        refine test (LM.here ?_)
        cases b with
        | true =>
          refine codeAny_handlers_suite_as ?_
          refine HandSPX.lands_againZ fl3 fun h4 fl4 up4 => ?_
          have J4 : Inv X pins σ' H' { s' with heap := h4 } := J.landed nb fl4.1 ((up.trans up3).trans up4) os ag
          obtain ⟨oe4, vs4, he4, hz4, hd4⟩ := fl4.there
          have S4 := J4.suite he4 hd4 na nL nF
          refine store_ok (X := X.suite a ((a, oe4) :: (X.pn ++ pins))) (v := .ref a) S4 hN hi hloc rfl (fun s5 S5 => ?_) (.inr hln)
          refine wpAny_mono ((hsu a oe4 cls d (X.pn ++ pins) hz4 ⟨_, hd4⟩).run [] s5 _ H' _ S5 (hyes rfl a na)) (fun f s6 hsp => ?_) (fun _ _ z => False.elim z)
          have end_ : ∀ {σ6 : Aw.St} {H6 : Hp} {Q : Shared → Prop}, Inv (X.suite a ((a, oe4) :: (X.pn ++ pins))) [] σ6 H6 s6 → (∀ s7, Inv X pins (σ6.set i none) H6 s7 → Q s7) →
              wpAny (model X.prog X.w) X.A (do bindName X.env n .none; unbindBehindTheSuite X.env n pos') (fun _ s7 => Q s7) X.xe s6 := fun {σ6 H6 Q} S6 hq => gone_ok (S6.unsuite ok) hN hi hln hq
          cases f with
          | next =>
            obtain ⟨σ6, H6, S6, q6⟩ := hsp
            exact end_ S6 fun s7 J7 => ⟨_, _, J7, q6⟩
          | brk =>
            obtain ⟨σ6, H6, S6, q6⟩ := hsp
            exact end_ S6 fun s7 J7 => ⟨_, _, J7, q6⟩
          | cont =>
            obtain ⟨σ6, H6, S6, q6⟩ := hsp
            exact end_ S6 fun s7 J7 => ⟨_, _, J7, q6⟩
          | ret u =>
            obtain ⟨v6, σ6, H6, S6, r6, q6⟩ := hsp
            exact end_ S6 fun s7 J7 => ⟨_, _, _, J7, r6, q6⟩
        | false =>
          show wpAny _ X.A (handleBy (.ref a) X.env hds2) _ _ _
          exact ih (hno rfl)
      | @no x c ts b₀ suite np pos' hds2 l2 hc hsu r ih =>
        intro w
        obtain ⟨b, hb1, hyes, hno⟩ := w
        refine wpAny_handleBy_cons (codeAny_handlers_test ?_) (by intro q; cases q)
        have LT : PySem.W.Looks (model X.prog X.w) h3 (typeOf (.ref a)) cls := fun A Q E s k q => wpAny_typeOf_ref (k _ _ he3) (by rw [hz3.1]; exact q)
        have LM := PySem.W.exm_one (M := model X.prog X.w) (J3.kIn) LT hb1
        have test : ∀ {Q : Value → Shared → Prop} {E : Value → Shared → Prop}, Q c { s' with heap := h3 } → wpAny (model X.prog X.w) (X.A.mark (some (.ref a))) (eval (.Name x np) X.env) Q E { s' with heap := h3 } := fun {Q E} q => by
          obtain ⟨hg, hdbg, hm | ⟨hm, hv, hnn⟩⟩ := hc
          · exact ld_glob (X := X.suite a ((a, oe3) :: (X.pn ++ pins))) S3 hg hm q hdbg
          · exact ld_blt (X := X.suite a ((a, oe3) :: (X.pn ++ pins))) S3 hg hm hv q hnn hdbg
        refine test (LM.here ?_)
        cases b with
        | true =>
          refine codeAny_handlers_suite ?_
          refine HandSPX.lands_againZ fl3 fun h4 fl4 up4 => ?_
          have J4 : Inv X pins σ' H' { s' with heap := h4 } := J.landed nb fl4.1 ((up.trans up3).trans up4) os ag
          obtain ⟨oe4, vs4, he4, hz4, hd4⟩ := fl4.there
          have S4 := J4.suite he4 hd4 na nL nF
          refine wpAny_mono ((hsu a oe4 cls d (X.pn ++ pins) hz4 ⟨_, hd4⟩).run [] _ _ H' _ S4 (hyes rfl a na)) (fun f s6 hsp => ?_) (fun _ _ z => False.elim z)
          cases f with
          | next =>
            obtain ⟨σ6, H6, S6, q6⟩ := hsp
            exact ⟨_, _, S6.unsuite ok, q6⟩
          | brk =>
            obtain ⟨σ6, H6, S6, q6⟩ := hsp
            exact ⟨_, _, S6.unsuite ok, q6⟩
          | cont =>
            obtain ⟨σ6, H6, S6, q6⟩ := hsp
            exact ⟨_, _, S6.unsuite ok, q6⟩
          | ret u =>
            obtain ⟨v6, σ6, H6, S6, r6, q6⟩ := hsp
            exact ⟨_, _, _, S6.unsuite ok, r6, q6⟩
        | false =>
          show wpAny _ X.A (handleBy (.ref a) X.env hds2) _ _ _
          exact ih (hno rfl)
    exact go hh w
  · cases f with
    | next =>
      obtain ⟨σ', H', J', q⟩ := hsp
      exact wpAny_execs_nil ⟨σ', H', J'.ofTry ok, q⟩
    | brk =>
      obtain ⟨σ', H', J', q⟩ := hsp
      exact ⟨σ', H', J'.ofTry ok, q⟩
    | cont =>
      obtain ⟨σ', H', J', q⟩ := hsp
      exact ⟨σ', H', J'.ofTry ok, q⟩
    | ret u =>
      obtain ⟨v, σ', H', J', r, q⟩ := hsp
      exact ⟨v, σ', H', J'.ofTry ok, r, q⟩
end
end Aw

namespace Aw
open PySem PySem.Spec PyProof.Rows L2 NdefX LamX
/-! ### a def of the top that makes lambdas: its code object and its table -/
theorem code_of {K : PySem.W.Frag} {x : Str} {f c P : Addr} {oc : Value} {od : Option Addr} {fd : FuncData} {osl : Array (Option Value)} (hn : PySem.W.nsIn K mainGlobals x = some (some (.ref f))) (lk : K.lookup f = some ⟨oc, od, .func fd, osl⟩) (ht : PySem.W.tabIn K x = some (c, P)) : fd.code = .ref c := by
  unfold PySem.W.tabIn at ht
  rw [hn] at ht
  dsimp only at ht
  rw [lk] at ht
  dsimp only at ht
  split at ht
  · rename_i c2 hc
    split at ht
    · split at ht
      · cases ht
        exact hc
      · cases ht
    · cases ht
  · cases ht
section
variable {P : Program} {w : World} {K : PySem.W.Frag} {mg : Str → Option Value} {base : Heap}
/-- as Fun.ok, with the code object told -/
theorem Fun_okC {x qual : Str} {st : Stmt} {f c : Addr} {fd : FuncData} {N ps : List Str} {k : Nat} {sp : Sp} (F : Fun K x qual st f fd) (hc : fd.code = .ref c) (S : FnScope N ps (defScope st)) (len : ∀ vs H Q E, sp vs H Q E → vs.length = ps.length)
    (hbody : ∀ (A : Around) (outer : List Env) (s : Shared) (H : Hp) (vs : List V) (Q : VK) (E : XK), Room k (A.deeper (envOfC qual (defScope st) s.heap.objs.size f (.ref c))) → sp vs H Q E →
      ∃ t, PSs (cxOf CX0 P w K mg base N qual (defScope st) f (.ref c) A outer s H E).nox (defBody st) t ∧ t { nx := fun _ H' => Q .non H', rt := Q } (start N vs) H) : FnOk P w K mg base CX0 (k + 1) f fd ps sp := by
  obtain ⟨oc, od, kV, doc, pm, an, cdv, ct, osl, rfl, lk, hcd⟩ := F.ex
  obtain rfl : cdv = .ref c := hc
  refine fn_of lk hcd S len fun A outer s H vs Q E hr hsp => ?_
  obtain ⟨t, h, q⟩ := hbody A outer s H vs Q E hr hsp
  exact ⟨t, h.nox, q⟩
end
theorem takes_len {X : Cx} {W : WX} (t : Takes X W) : Takes X (fun cls d σ H => σ.length = X.N.length → W cls d σ H) := fun u s' ⟨a, B, sI, pins, σ, H, cls, d, e, I, nb, up, sky, na, os, ag, w⟩ =>
  t u s' ⟨a, B, sI, pins, σ, H, cls, d, e, I, nb, up, sky, na, os, ag, w I.len⟩
theorem MkAt.extN {C : Addr} {H H' : Hp} {a : Addr} {P : Pcs} {d : Nat} {s : Int} (M : MkAt C H a P d s) (k : ExtN H H') : MkAt C H' a P d s := by
  obtain ⟨dx, L, xs, h1, h2, h3⟩ := M.ex
  have n1 : ∀ {b : Addr} {o : HO}, H b = some o → (∀ ps, o ≠ .tbl ps) → H' b = some o := fun e n => k _ _ e n
  exact ⟨⟨dx, L, xs, n1 h1 (fun ps z => by cases z), n1 h2 (fun ps z => by cases z), h3.keep ⟨fun c ys e => n1 e (fun ps z => by cases z), fun c o ys e => n1 e (fun ps z => by cases z)⟩⟩, M.few, M.asc, M.masks, M.s0, M.d6⟩
end Aw

namespace Aw
open PySem PySem.Spec PyProof.Rows L2 NdefX LamX
theorem scLRf : FnScope ["_law_ask", "e"] ["_law_ask"] (defScope sLRf) := ⟨rfl, rfl, rfl, by decide +kernel, rfl, by decide +kernel, by decide +kernel⟩
/-- number, size, bits, many: the names that the law tells, the fields, the classes' order -/
def fldR : Nat → Str
  | 0 => "number"
  | 1 => "size"
  | 2 => "index"
  | _ => "most"
def nmR : Nat → Str
  | 0 => "number"
  | 1 => "size"
  | 2 => "bits"
  | _ => "many"
structure Errs16 (P : Program) (K : PySem.W.Frag) (mg : Str → Option Value) (Ce : Nat → Addr) (CW : Addr) : Prop where
  e0 : Err P K mg "BadNumber" "number" "number" (Ce 0)
  e1 : Err P K mg "BadSize" "size" "size" (Ce 1)
  e2 : Err P K mg "BadBits" "index" "index" (Ce 2)
  e3 : Err P K mg "TooMany" "most" "most" (Ce 3)
  gW : mg "WordsError" = some (.ref CW)
  isi : mg "isinstance" = none
  ve : mg "ValueError" = none
  exm : ∀ i j, i < 4 → j < 4 → PySem.W.exmOne K (.ref (Ce i)) (.ref (Ce j)) = some (decide (i = j))
  kw : ∀ i, i < 4 → PySem.W.kitOne K (.ref (Ce i)) (.ref CW) = some true
  kv : ∀ i, i < 4 → PySem.W.kitOne K (.ref (Ce i)) (.type "ValueError") = some true
def isE (K : PySem.W.Frag) (a : Addr) (cls : Value) (d : Option Addr) (CW : Addr) : TE := tAndV (tCB (rIsP K a cls d) (tCons (tVar 1) (tCons (tC (.ref CW)) tNil))) (tCB (rIsP K a cls d) (tCons (tVar 1) (tCons (tC (.ty "ValueError")) tNil)))
def ts_rf (K : PySem.W.Frag) (CW : Addr) (i : Nat) (a : Addr) (cls : Value) (d : Option Addr) : TS := tRet (tTup (tCons (tC (.str (nmR i))) (tCons (tXp K a cls d (fldR i) (tVar 1)) (tCons (isE K a cls d CW) tNil))))
def tb_rf (f c' : Addr) (q : Str) (tl : XK → Hp → VK → Prop) (W : WX) : TS := fun D σ H => ∃ Ech : XK, (∀ cls d σ' H', Ech cls d H' → σ'.length = 2 → W cls d σ' H') ∧ σ[0]? = some (some (.ref f)) ∧ H c' = some (CodeO c' q) ∧ tl Ech H (fun _ H' => D.nx σ H')
/-- what is told of the lambda's body: nothing, or the error's name, its field, that it is of both kinds -/
def TTRf (Ce : Nat → Addr) : (XK → Hp → VK → Prop) → Hp → VK → Prop := fun tl H Q =>
  tl (fun cls d H' => ∃ (i : Nat) (dd : Addr) (v : V), i < 4 ∧ cls = .ref (Ce i) ∧ d = some dd ∧ H' dd = some (.xd [(fldR i, v)]) ∧ ∀ (t : Addr) (H2 : Hp), Same H' H2 → H' t = none → H2 t = some (.tup [.str (nmR i), v, .bl true]) → Q (.ref t) H2) H (fun _ H' => Q .non H')
theorem rf_gives {X : Cx} {g CW : Addr} {Ce : Nat → Addr} {cdg : Value} {q : Str} (R : Errs16 X.prog X.K X.mg Ce CW) : GivesTo X ["_law_ask", "e"] "_law_refusal" (defScope sLRf) g cdg (defBody sLRf) "_law_ask" q (TTRf Ce) := by
  intro f c' s H Q tl act hc h
  have nd := scLRf.nd
  refine ⟨_, pss_cons (ps_try_asM (X := (cxOf C8.CX0 X.prog X.w X.K X.mg X.base ["_law_ask", "e"] "_law_refusal" (defScope sLRf) g cdg X.A X.stack s H C8.E0).nox) (i := 1) (n := "e") (tb := tb_rf f c' q tl) (Wout := fun _ _ _ _ => False)
      (l := [(.ref (Ce 0), fun a cls d => ts_rf X.K CW 0 a cls d, true), (.ref (Ce 1), fun a cls d => ts_rf X.K CW 1 a cls d, true), (.ref (Ce 2), fun a cls d => ts_rf X.K CW 2 a cls d, true), (.ref (Ce 3), fun a cls d => ts_rf X.K CW 3 a cls d, true)])
      rfl rfl nd rfl rfl L2.takes0 (fun W pn xe tk _ => ?_)
      (.as_ ⟨rfl, by decide, .inl R.e0.g⟩ (fun a oe cls d pn hz hf => pss_one (ps_ret (pe_tup (pa_cons pe_str (pa_cons (pe_xp (List.mem_cons_self ..) hz hf (pv 1)) (pa_cons (pe_and (pe_callB (call_isP (List.mem_cons_self ..) hz hf) (by rfl) R.isi (by decide +kernel) (pa_cons (pv 1) (pa_cons (pe_glob (v := .ref CW) (by rfl) R.gW rfl) pa_nil))) (pe_one (pe_callB (call_isP (List.mem_cons_self ..) hz hf) (by rfl) R.isi (by decide +kernel) (pa_cons (pv 1) (pa_cons (pe_bltn (v := .ty "ValueError") (by rfl) R.ve (by decide +kernel) rfl) pa_nil))))) pa_nil))))))
      (.as_ ⟨rfl, by decide, .inl R.e1.g⟩ (fun a oe cls d pn hz hf => pss_one (ps_ret (pe_tup (pa_cons pe_str (pa_cons (pe_xp (List.mem_cons_self ..) hz hf (pv 1)) (pa_cons (pe_and (pe_callB (call_isP (List.mem_cons_self ..) hz hf) (by rfl) R.isi (by decide +kernel) (pa_cons (pv 1) (pa_cons (pe_glob (v := .ref CW) (by rfl) R.gW rfl) pa_nil))) (pe_one (pe_callB (call_isP (List.mem_cons_self ..) hz hf) (by rfl) R.isi (by decide +kernel) (pa_cons (pv 1) (pa_cons (pe_bltn (v := .ty "ValueError") (by rfl) R.ve (by decide +kernel) rfl) pa_nil))))) pa_nil))))))
      (.as_ ⟨rfl, by decide, .inl R.e2.g⟩ (fun a oe cls d pn hz hf => pss_one (ps_ret (pe_tup (pa_cons pe_str (pa_cons (pe_xp (List.mem_cons_self ..) hz hf (pv 1)) (pa_cons (pe_and (pe_callB (call_isP (List.mem_cons_self ..) hz hf) (by rfl) R.isi (by decide +kernel) (pa_cons (pv 1) (pa_cons (pe_glob (v := .ref CW) (by rfl) R.gW rfl) pa_nil))) (pe_one (pe_callB (call_isP (List.mem_cons_self ..) hz hf) (by rfl) R.isi (by decide +kernel) (pa_cons (pv 1) (pa_cons (pe_bltn (v := .ty "ValueError") (by rfl) R.ve (by decide +kernel) rfl) pa_nil))))) pa_nil))))))
      (.as_ ⟨rfl, by decide, .inl R.e3.g⟩ (fun a oe cls d pn hz hf => pss_one (ps_ret (pe_tup (pa_cons pe_str (pa_cons (pe_xp (List.mem_cons_self ..) hz hf (pv 1)) (pa_cons (pe_and (pe_callB (call_isP (List.mem_cons_self ..) hz hf) (by rfl) R.isi (by decide +kernel) (pa_cons (pv 1) (pa_cons (pe_glob (v := .ref CW) (by rfl) R.gW rfl) pa_nil))) (pe_one (pe_callB (call_isP (List.mem_cons_self ..) hz hf) (by rfl) R.isi (by decide +kernel) (pa_cons (pv 1) (pa_cons (pe_bltn (v := .ty "ValueError") (by rfl) R.ve (by decide +kernel) rfl) pa_nil))))) pa_nil))))))
      .nil))))) (pss_one (ps_ret pe_non)), ?_⟩
  · refine ⟨fun pins s' σ H' D I h' => ?_⟩
    obtain ⟨Ech, hW, h1, h2, h3⟩ := h'
    refine PSs.run (pss_one (ps_expr (act _ pn xe Ech _ _ (takes_len tk) (fun cls d σ' H' z len => hW cls d σ' H' z len)))) pins s' σ H' D I ⟨h1, h2, h3⟩
  · refine ⟨fun cls d H' => ∃ (i : Nat) (dd : Addr) (v : V), i < 4 ∧ cls = .ref (Ce i) ∧ d = some dd ∧ H' dd = some (.xd [(fldR i, v)]) ∧ ∀ (t : Addr) (H2 : Hp), Same H' H2 → H' t = none → H2 t = some (.tup [.str (nmR i), v, .bl true]) → Q (.ref t) H2, fun cls d σ' H' z len => ?_, rfl, hc, h⟩
    obtain ⟨i, dd, v, hi, rfl, rfl, hd, hq⟩ := z
    have D : ExcD X.K (Ce i) := by
      match i, hi with
      | 0, _ => exact R.e0.D
      | 1, _ => exact R.e1.D
      | 2, _ => exact R.e2.D
      | 3, _ => exact R.e3.D
    have hno : PySem.W.findIn X.K (.ref (Ce i)) (fldR i) = some none := by
      match i, hi with
      | 0, _ => exact R.e0.hno
      | 1, _ => exact R.e1.hno
      | 2, _ => exact R.e2.hno
      | 3, _ => exact R.e3.hno
    have hdd : ∀ dd', some dd = some dd' → ∃ fs, H' dd' = some (.xd fs) := fun dd' e => ⟨_, by cases e; exact hd⟩
    have fin : ∀ (D' : Ends) (a : Addr), D'.rt = Q → H' a = none → ts_rf X.K CW i a (.ref (Ce i)) (some dd) D' (σ'.set 1 (some (.ref a))) H' := fun D' a hD ha => by
      have h1 : (σ'.set 1 (some (V.ref a)))[1]? = some (some (.ref a)) := by
        match σ', len with
        | [_, _], _ => rfl
      refine ⟨_, h1, rfl, Ce i, dd, _, v, rfl, D, hno, rfl, hd, ?_, ?_⟩
      · show ([(fldR i, v)] : List (Str × V)).lookup (fldR i) = some v
        simp [List.lookup]
      refine ⟨_, h1, Ce i, _, _, true, rfl, rfl, D, hdd, .own _, R.kw i hi, true, rfl, iteT ?_⟩
      refine ⟨_, h1, Ce i, _, _, true, rfl, rfl, D, hdd, .ty _, R.kv i hi, by show 3 ≤ sizeLine; decide, fun t ht => ?_⟩
      rw [hD]
      exact hq t _ (same_upd ht) ht upd_same
    have no : ∀ {A : Prop} {b : Bool}, b = false → b = true → A := fun h1 h2 => by rw [h1] at h2; cases h2
    match i, hi, fin with
    | 0, hi, fin => exact ⟨true, R.exm 0 0 hi (by decide), fun _ a ha => fin _ a rfl ha, fun z => Bool.noConfusion z⟩
    | 1, hi, fin => exact ⟨false, R.exm 1 0 hi (by decide), fun z => Bool.noConfusion z, fun _ => ⟨true, R.exm 1 1 hi (by decide), fun _ a ha => fin _ a rfl ha, fun z => Bool.noConfusion z⟩⟩
    | 2, hi, fin => exact ⟨false, R.exm 2 0 hi (by decide), fun z => Bool.noConfusion z, fun _ => ⟨false, R.exm 2 1 hi (by decide), fun z => Bool.noConfusion z, fun _ => ⟨true, R.exm 2 2 hi (by decide), fun _ a ha => fin _ a rfl ha, fun z => Bool.noConfusion z⟩⟩⟩
    | 3, hi, fin => exact ⟨false, R.exm 3 0 hi (by decide), fun z => Bool.noConfusion z, fun _ => ⟨false, R.exm 3 1 hi (by decide), fun z => Bool.noConfusion z, fun _ => ⟨false, R.exm 3 2 hi (by decide), fun z => Bool.noConfusion z, fun _ => ⟨true, R.exm 3 3 hi (by decide), fun _ a ha => fin _ a rfl ha, fun z => Bool.noConfusion z⟩⟩⟩⟩
end Aw

namespace Aw
open PySem PySem.Spec PyProof.Rows L2 NdefX
/-- a value that is told and compared -/
structure TV (K : PySem.W.Frag) (H : Hp) (v : V) : Prop where
  dp : ∃ d, Dp K H v d ∧ SeqAt.shaped d = true ∧ PyData.eqv d d = true
  ty : ∃ t b, TyX K H v t ∧ PySem.W.kitOne K t (.type "bool") = some b
def spLSm (K : PySem.W.Frag) : Sp := fun vs H Q _ => ∃ (t : Addr) (nm : Str) (v : V), vs = [.ref t, .str nm, v] ∧ H t = some (.tup [.str nm, v, .bl true]) ∧ TV K H v ∧ Q (.bl true) H
section
variable {P : Program} {w : World} {K : PySem.W.Frag} {mg : Str → Option Value} {base : Heap}
theorem scLSm : FnScope ["_law_told", "_law_name", "_law_value"] ["_law_told", "_law_name", "_law_value"] (defScope sLSm) := ⟨rfl, rfl, rfl, by decide +kernel, rfl, by decide +kernel, by decide +kernel⟩
theorem ok_lsm {f : Addr} {fd : FuncData} (F : Fun K "_law_same" "_law_same" sLSm f fd) (isi : mg "isinstance" = none) (gB : mg "bool" = none) : FnOk P w K mg base CX0 1 f fd ["_law_told", "_law_name", "_law_value"] (spLSm K) := by
  refine F.ok scLSm (fun vs H Q E h => ?_) (fun cdv A outer s H vs Q E hr h => ?_)
  · obtain ⟨t, nm, v, rfl, _⟩ := h
    rfl
  · obtain ⟨t, nm, v, rfl, et, tv, hQ⟩ := h
    have nd := scLSm.nd
    refine ⟨_, (pss_cons (ps_if (PW.pt (pw_or (pt_cmpR op_isN (pv 0) pe_non (nomark _)) (pw_or (pt_cmpR op_ne (pe_ix ix_tup (pv 0) pe_int (fun _ _ => rfl)) (pv 1) (nomark _)) (pw_or1 (pt_not (pt_val (pe_ix ix_tup (pv 0) pe_int (fun _ _ => rfl))))))))
        (pss_one (ps_ret pe_bl)) pss_nil)
      (pss_one (ps_ret (pe_and (pe_cmpR (op_eqD hr.units) (pe_ix ix_tup (pv 0) pe_int (fun _ _ => rfl)) (pv 2) (nomark _)) (pe_one (pe_cmpR op_eq (pe_callB call_isi (by rfl) isi (by decide +kernel) (pa_cons (pe_ix ix_tup (pv 0) pe_int (fun _ _ => rfl)) (pa_cons (pe_bltn (v := .ty "bool") (by rfl) gB (by decide +kernel) rfl) pa_nil))) (pe_callB call_isi (by rfl) isi (by decide +kernel) (pa_cons (pv 2) (pa_cons (pe_bltn (v := .ty "bool") (by rfl) gB (by decide +kernel) rfl) pa_nil))) (nomark _))))))), ?_⟩
    -- BODY
    obtain ⟨d, hd, sd, ed⟩ := tv.dp
    obtain ⟨ty, b, hy, hb⟩ := tv.ty
    refine ⟨_, rfl, rfl, false, congrArg V.bl (decide_eq_false (fun z => by cases z)), iteF ?_⟩
    have e1 : (!decide (V.str nm = V.str nm)) = false := by rw [decide_eq_true rfl]; rfl
    refine ⟨_, rfl, t, _, 0, _, rfl, rfl, SqT.of et, rfl, _, rfl, rfl, false, congrArg V.bl e1, iteF ?_⟩
    refine ⟨_, rfl, t, _, 2, _, rfl, rfl, SqT.of et, rfl, _, rfl, iteF (nxt ?_)⟩
    refine ⟨_, rfl, t, _, 1, _, rfl, rfl, SqT.of et, rfl, _, rfl, d, d, hd, hd, sd, sd, true, congrArg V.bl ed, iteT ?_⟩
    refine ⟨_, rfl, t, _, 1, _, rfl, rfl, SqT.of et, rfl, v, .ty "bool", ty, .type "bool", b, rfl, .ty _, hy, hb, _, rfl, v, .ty "bool", ty, .type "bool", b, rfl, .ty _, hy, hb, rfl, ?_⟩
    rw [decide_eq_true rfl]
    exact hQ
end
end Aw

namespace Aw
open PySem PySem.Spec PyProof.Rows L2 NdefX
def spLOr : Sp := fun vs H Q _ => ∃ k : Int, vs = [.int k] ∧ 1 ≤ k ∧ ∀ (L : Addr) (H' : Hp) (xs : List V), Same H H' → H' L = some (.lst xs) → (∀ v ∈ xs, RunV H' k v false) → xs.length = 18 → Q (.ref L) H'
section
variable {P : Program} {w : World} {K : PySem.W.Frag} {mg : Str → Option Value} {base : Heap}
theorem scLOr : FnScope ["_law_k"] ["_law_k"] (defScope sLOr) := ⟨rfl, rfl, rfl, by decide +kernel, rfl, by decide +kernel, by decide +kernel⟩
theorem ok_lor {f : Addr} {fd : FuncData} (F : Fun K "_law_odd_runs" "_law_odd_runs" sLOr f fd) : FnOk P w K mg base CX0 1 f fd ["_law_k"] spLOr := by
  refine F.ok scLOr (fun vs H Q E h => ?_) (fun cdv A outer s H vs Q E hr h => ?_)
  · obtain ⟨k, rfl, _⟩ := h
    rfl
  · obtain ⟨k, rfl, k1, hQ⟩ := h
    have nd := scLOr.nd
    refine ⟨_, (pss_one (ps_ret (pe_lst (pa_cons (pe_tup (pa_cons (pe_un un_neg pe_int) (pa_cons pe_int (pa_cons pe_int pa_nil)))) (pa_cons (pe_tup (pa_cons pe_int (pa_cons (pv 0) (pa_cons pe_int pa_nil)))) (pa_cons (pe_tup (pa_cons (pv 0) (pa_cons (pv 0) (pa_cons pe_int pa_nil)))) (pa_cons (pe_tup (pa_cons (pv 0) (pa_cons (pe_op op_sub (pv 0) pe_int) (pa_cons pe_int pa_nil)))) (pa_cons (pe_tup (pa_cons pe_int (pa_cons pe_int (pa_cons pe_int pa_nil)))) (pa_cons (pe_tup (pa_cons pe_int (pa_cons pe_int (pa_cons pe_int pa_nil)))) (pa_cons (pe_tup (pa_cons pe_int (pa_cons pe_int (pa_cons (pe_un un_neg pe_int) pa_nil)))) (pa_cons (pe_tup (pa_cons pe_int (pa_cons pe_int pa_nil))) (pa_cons (pe_tup (pa_cons pe_int (pa_cons pe_int (pa_cons pe_int (pa_cons pe_int pa_nil))))) (pa_cons pe_non (pa_cons pe_int (pa_cons pe_str (pa_cons (pe_tup (pa_cons pe_int (pa_cons pe_str (pa_cons pe_int pa_nil)))) (pa_cons (pe_tup (pa_cons pe_int (pa_cons pe_int (pa_cons pe_non pa_nil)))) (pa_cons (pe_tup (pa_cons pe_int (pa_cons pe_int (pa_cons pe_bl pa_nil)))) (pa_cons (pe_tup (pa_cons pe_bl (pa_cons pe_int (pa_cons pe_int pa_nil)))) (pa_cons (pe_lst (pa_cons pe_int (pa_cons (pe_op op_sub (pv 0) pe_int) (pa_cons pe_int pa_nil)))) (pa_cons (pe_tup pa_nil) pa_nil))))))))))))))))))))), ?_⟩
    -- BODY
    refine ⟨1, rfl, by show 3 ≤ sizeLine; decide, fun T1 h1 => ?_⟩
    have s1 := same_upd (o := .tup [.int (-1), .int 0, .int 1]) h1
    have e1 : upd H T1 (.tup [.int (-1), .int 0, .int 1]) T1 = some (.tup [.int (-1), .int 0, .int 1]) := upd_same
    generalize upd H T1 (.tup [.int (-1), .int 0, .int 1]) = H1 at *
    refine ⟨_, rfl, by show 3 ≤ sizeLine; decide, fun T2 h2 => ?_⟩
    have s2 := same_upd (o := .tup [.int 0, .int k, .int 1]) h2
    have e2 : upd H1 T2 (.tup [.int 0, .int k, .int 1]) T2 = some (.tup [.int 0, .int k, .int 1]) := upd_same
    generalize upd H1 T2 (.tup [.int 0, .int k, .int 1]) = H2 at *
    refine ⟨_, rfl, _, rfl, by show 3 ≤ sizeLine; decide, fun T3 h3 => ?_⟩
    have s3 := same_upd (o := .tup [.int k, .int k, .int 1]) h3
    have e3 : upd H2 T3 (.tup [.int k, .int k, .int 1]) T3 = some (.tup [.int k, .int k, .int 1]) := upd_same
    generalize upd H2 T3 (.tup [.int k, .int k, .int 1]) = H3 at *
    refine ⟨_, rfl, _, rfl, k, 1, rfl, rfl, by show 3 ≤ sizeLine; decide, fun T4 h4 => ?_⟩
    have s4 := same_upd (o := .tup [.int k, .int (k - 1), .int 1]) h4
    have e4 : upd H3 T4 (.tup [.int k, .int (k - 1), .int 1]) T4 = some (.tup [.int k, .int (k - 1), .int 1]) := upd_same
    generalize upd H3 T4 (.tup [.int k, .int (k - 1), .int 1]) = H4 at *
    refine ⟨by show 3 ≤ sizeLine; decide, fun T5 h5 => ?_⟩
    have s5 := same_upd (o := .tup [.int 0, .int 0, .int 0]) h5
    have e5 : upd H4 T5 (.tup [.int 0, .int 0, .int 0]) T5 = some (.tup [.int 0, .int 0, .int 0]) := upd_same
    generalize upd H4 T5 (.tup [.int 0, .int 0, .int 0]) = H5 at *
    refine ⟨by show 3 ≤ sizeLine; decide, fun T6 h6 => ?_⟩
    have s6 := same_upd (o := .tup [.int 0, .int 0, .int 5]) h6
    have e6 : upd H5 T6 (.tup [.int 0, .int 0, .int 5]) T6 = some (.tup [.int 0, .int 0, .int 5]) := upd_same
    generalize upd H5 T6 (.tup [.int 0, .int 0, .int 5]) = H6 at *
    refine ⟨1, rfl, by show 3 ≤ sizeLine; decide, fun T7 h7 => ?_⟩
    have s7 := same_upd (o := .tup [.int 0, .int 0, .int (-1)]) h7
    have e7 : upd H6 T7 (.tup [.int 0, .int 0, .int (-1)]) T7 = some (.tup [.int 0, .int 0, .int (-1)]) := upd_same
    generalize upd H6 T7 (.tup [.int 0, .int 0, .int (-1)]) = H7 at *
    refine ⟨by show 2 ≤ sizeLine; decide, fun T8 h8 => ?_⟩
    have s8 := same_upd (o := .tup [.int 0, .int 0]) h8
    have e8 : upd H7 T8 (.tup [.int 0, .int 0]) T8 = some (.tup [.int 0, .int 0]) := upd_same
    generalize upd H7 T8 (.tup [.int 0, .int 0]) = H8 at *
    refine ⟨by show 4 ≤ sizeLine; decide, fun T9 h9 => ?_⟩
    have s9 := same_upd (o := .tup [.int 0, .int 0, .int 1, .int 1]) h9
    have e9 : upd H8 T9 (.tup [.int 0, .int 0, .int 1, .int 1]) T9 = some (.tup [.int 0, .int 0, .int 1, .int 1]) := upd_same
    generalize upd H8 T9 (.tup [.int 0, .int 0, .int 1, .int 1]) = H9 at *
    refine ⟨by show 3 ≤ sizeLine; decide, fun T10 h10 => ?_⟩
    have s10 := same_upd (o := .tup [.int 0, .str "0", .int 1]) h10
    have e10 : upd H9 T10 (.tup [.int 0, .str "0", .int 1]) T10 = some (.tup [.int 0, .str "0", .int 1]) := upd_same
    generalize upd H9 T10 (.tup [.int 0, .str "0", .int 1]) = H10 at *
    refine ⟨by show 3 ≤ sizeLine; decide, fun T11 h11 => ?_⟩
    have s11 := same_upd (o := .tup [.int 0, .int 0, .non]) h11
    have e11 : upd H10 T11 (.tup [.int 0, .int 0, .non]) T11 = some (.tup [.int 0, .int 0, .non]) := upd_same
    generalize upd H10 T11 (.tup [.int 0, .int 0, .non]) = H11 at *
    refine ⟨by show 3 ≤ sizeLine; decide, fun T12 h12 => ?_⟩
    have s12 := same_upd (o := .tup [.int 0, .int 0, .bl true]) h12
    have e12 : upd H11 T12 (.tup [.int 0, .int 0, .bl true]) T12 = some (.tup [.int 0, .int 0, .bl true]) := upd_same
    generalize upd H11 T12 (.tup [.int 0, .int 0, .bl true]) = H12 at *
    refine ⟨by show 3 ≤ sizeLine; decide, fun T13 h13 => ?_⟩
    have s13 := same_upd (o := .tup [.bl false, .int 0, .int 1]) h13
    have e13 : upd H12 T13 (.tup [.bl false, .int 0, .int 1]) T13 = some (.tup [.bl false, .int 0, .int 1]) := upd_same
    generalize upd H12 T13 (.tup [.bl false, .int 0, .int 1]) = H13 at *
    refine ⟨_, rfl, k, 1, rfl, rfl, by show 3 ≤ sizeLine; decide, fun T14 h14 => ?_⟩
    have s14 := same_upd (o := .lst [.int 0, .int (k - 1), .int 9]) h14
    have e14 : upd H13 T14 (.lst [.int 0, .int (k - 1), .int 9]) T14 = some (.lst [.int 0, .int (k - 1), .int 9]) := upd_same
    generalize upd H13 T14 (.lst [.int 0, .int (k - 1), .int 9]) = H14 at *
    refine ⟨by show 0 ≤ sizeLine; decide, fun T15 h15 => ?_⟩
    have s15 := same_upd (o := .tup []) h15
    have e15 : upd H14 T15 (.tup []) T15 = some (.tup []) := upd_same
    generalize upd H14 T15 (.tup []) = H15 at *
    refine ⟨by show 18 ≤ sizeLine; decide, fun L hL => ?_⟩
    have sL := same_upd (o := .lst [V.ref T1, V.ref T2, V.ref T3, V.ref T4, V.ref T5, V.ref T6, V.ref T7, V.ref T8, V.ref T9, V.non, V.int 3, V.str "001", V.ref T10, V.ref T11, V.ref T12, V.ref T13, V.ref T14, V.ref T15]) hL
    have eL : upd H15 L (.lst [V.ref T1, V.ref T2, V.ref T3, V.ref T4, V.ref T5, V.ref T6, V.ref T7, V.ref T8, V.ref T9, V.non, V.int 3, V.str "001", V.ref T10, V.ref T11, V.ref T12, V.ref T13, V.ref T14, V.ref T15]) L = some (.lst [V.ref T1, V.ref T2, V.ref T3, V.ref T4, V.ref T5, V.ref T6, V.ref T7, V.ref T8, V.ref T9, V.non, V.int 3, V.str "001", V.ref T10, V.ref T11, V.ref T12, V.ref T13, V.ref T14, V.ref T15]) := upd_same
    generalize upd H15 L (.lst [V.ref T1, V.ref T2, V.ref T3, V.ref T4, V.ref T5, V.ref T6, V.ref T7, V.ref T8, V.ref T9, V.non, V.int 3, V.str "001", V.ref T10, V.ref T11, V.ref T12, V.ref T13, V.ref T14, V.ref T15]) = H16 at *
    have t15 := sL
    have t14 := s15.trans t15
    have t13 := s14.trans t14
    have t12 := s13.trans t13
    have t11 := s12.trans t12
    have t10 := s11.trans t11
    have t9 := s10.trans t10
    have t8 := s9.trans t9
    have t7 := s8.trans t8
    have t6 := s7.trans t7
    have t5 := s6.trans t6
    have t4 := s5.trans t5
    have t3 := s4.trans t4
    have t2 := s3.trans t3
    have t1 := s2.trans t2
    have t0 := s1.trans t1
    have f1 : RunV H16 k (.ref T1) false := by
      have z : rB [.int (-1), .int 0, .int 1] k = false := by simp [rB, loB, numB] <;> omega
      rw [← z]
      exact .seq (.inr (t1 _ _ e1)) (by simp [VOk.int, VOk.str, VOk.non, VOk.bl])
    have f2 : RunV H16 k (.ref T2) false := by
      have z : rB [.int 0, .int k, .int 1] k = false := by simp [rB, loB, numB] <;> omega
      rw [← z]
      exact .seq (.inr (t2 _ _ e2)) (by simp [VOk.int, VOk.str, VOk.non, VOk.bl])
    have f3 : RunV H16 k (.ref T3) false := by
      have z : rB [.int k, .int k, .int 1] k = false := by simp [rB, loB, numB] <;> omega
      rw [← z]
      exact .seq (.inr (t3 _ _ e3)) (by simp [VOk.int, VOk.str, VOk.non, VOk.bl])
    have f4 : RunV H16 k (.ref T4) false := by
      have z : rB [.int k, .int (k - 1), .int 1] k = false := by simp [rB, loB, numB] <;> omega
      rw [← z]
      exact .seq (.inr (t4 _ _ e4)) (by simp [VOk.int, VOk.str, VOk.non, VOk.bl])
    have f5 : RunV H16 k (.ref T5) false := by
      have z : rB [.int 0, .int 0, .int 0] k = false := by simp [rB, loB, numB] <;> omega
      rw [← z]
      exact .seq (.inr (t5 _ _ e5)) (by simp [VOk.int, VOk.str, VOk.non, VOk.bl])
    have f6 : RunV H16 k (.ref T6) false := by
      have z : rB [.int 0, .int 0, .int 5] k = false := by simp [rB, loB, numB] <;> omega
      rw [← z]
      exact .seq (.inr (t6 _ _ e6)) (by simp [VOk.int, VOk.str, VOk.non, VOk.bl])
    have f7 : RunV H16 k (.ref T7) false := by
      have z : rB [.int 0, .int 0, .int (-1)] k = false := by simp [rB, loB, numB] <;> omega
      rw [← z]
      exact .seq (.inr (t7 _ _ e7)) (by simp [VOk.int, VOk.str, VOk.non, VOk.bl])
    have f8 : RunV H16 k (.ref T8) false := by
      have z : rB [.int 0, .int 0] k = false := by simp [rB, loB, numB] <;> omega
      rw [← z]
      exact .seq (.inr (t8 _ _ e8)) (by simp [VOk.int, VOk.str, VOk.non, VOk.bl])
    have f9 : RunV H16 k (.ref T9) false := by
      have z : rB [.int 0, .int 0, .int 1, .int 1] k = false := by simp [rB, loB, numB] <;> omega
      rw [← z]
      exact .seq (.inr (t9 _ _ e9)) (by simp [VOk.int, VOk.str, VOk.non, VOk.bl])
    have f10 : RunV H16 k (.ref T10) false := by
      have z : rB [.int 0, .str "0", .int 1] k = false := by simp [rB, loB, numB] <;> omega
      rw [← z]
      exact .seq (.inr (t10 _ _ e10)) (by simp [VOk.int, VOk.non, VOk.bl]; exact .str _ (by decide))
    have f11 : RunV H16 k (.ref T11) false := by
      have z : rB [.int 0, .int 0, .non] k = false := by simp [rB, loB, numB] <;> omega
      rw [← z]
      exact .seq (.inr (t11 _ _ e11)) (by simp [VOk.int, VOk.str, VOk.non, VOk.bl])
    have f12 : RunV H16 k (.ref T12) false := by
      have z : rB [.int 0, .int 0, .bl true] k = false := by simp [rB, loB, numB] <;> omega
      rw [← z]
      exact .seq (.inr (t12 _ _ e12)) (by simp [VOk.int, VOk.str, VOk.non, VOk.bl])
    have f13 : RunV H16 k (.ref T13) false := by
      have z : rB [.bl false, .int 0, .int 1] k = false := by simp [rB, loB, numB] <;> omega
      rw [← z]
      exact .seq (.inr (t13 _ _ e13)) (by simp [VOk.int, VOk.str, VOk.non, VOk.bl])
    have f14 : RunV H16 k (.ref T14) false := by
      have z : rB [.int 0, .int (k - 1), .int 9] k = false := by simp [rB, loB, numB] <;> omega
      rw [← z]
      exact .seq (.inl (t14 _ _ e14)) (by simp [VOk.int, VOk.str, VOk.non, VOk.bl])
    have f15 : RunV H16 k (.ref T15) false := by
      have z : rB [] k = false := by simp [rB, loB, numB] <;> omega
      rw [← z]
      exact .seq (.inr (t15 _ _ e15)) (by simp [VOk.int, VOk.str, VOk.non, VOk.bl])
    refine hQ L H16 [V.ref T1, V.ref T2, V.ref T3, V.ref T4, V.ref T5, V.ref T6, V.ref T7, V.ref T8, V.ref T9, V.non, V.int 3, V.str "001", V.ref T10, V.ref T11, V.ref T12, V.ref T13, V.ref T14, V.ref T15] t0 eL (fun v hv => ?_) rfl
    simp only [List.mem_cons, List.not_mem_nil, or_false] at hv
    rcases hv with rfl | rfl | rfl | rfl | rfl | rfl | rfl | rfl | rfl | rfl | rfl | rfl | rfl | rfl | rfl | rfl | rfl | rfl
    · exact f1
    · exact f2
    · exact f3
    · exact f4
    · exact f5
    · exact f6
    · exact f7
    · exact f8
    · exact f9
    · exact .non
    · exact .int 3
    · exact .str "001"
    · exact f10
    · exact f11
    · exact f12
    · exact f13
    · exact f14
    · exact f15
end
end Aw

namespace Aw
open PySem PySem.Spec PyProof.Rows L2 NdefX LamX
theorem Pen.extN {H H' : Hp} {p c : Addr} {n : Nat} (P : Pen H p c n) (k : ExtN H H') : Pen H' p c n := by
  obtain ⟨cells, i, l, h1, h2, h3⟩ := P.ex
  exact ⟨cells, i, l, k _ _ h1 (fun ps z => by cases z), k _ _ h2 (fun ps z => by cases z), h3⟩
theorem TK.extN {H H' : Hp} (k : ExtN H H') : TK H H' := ⟨fun c ys e => k _ _ e (fun ps z => by cases z), fun c o ys e => k _ _ e (fun ps z => by cases z)⟩
theorem ext_lst {H H' : Hp} {D : Addr} {ys : List V} (k : ExtN H H') (h : H D = some (.lst ys)) : H' D = some (.lst ys) := k _ _ h (fun ps z => by cases z)
theorem ext_tup {H H' : Hp} {D : Addr} {ys : List V} (k : ExtN H H') (h : H D = some (.tup ys)) : H' D = some (.tup ys) := k _ _ h (fun ps z => by cases z)
theorem tabs_upd {T : List (Addr × Str)} {H : Hp} {D : Addr} {o : HO} (t : Tabs T H) (hD : H D = none) : Tabs T (upd H D o) := t.ext (same_upd hD)
/-- a list is written: the tables stay -/
theorem tabs_wr {T : List (Addr × Str)} {H : Hp} {D : Addr} {ys zs : List V} (t : Tabs T H) (eD : H D = some (.lst ys)) : Tabs T (upd H D (.lst zs)) := fun p hp => by
  obtain ⟨ps, h1, h2, h3⟩ := t p hp
  have n1 : p.1 ≠ D := fun z => by rw [z, eD] at h1; cases h1
  refine ⟨ps, by rw [upd_ne n1]; exact h1, h2, fun pos cv hcv => ?_⟩
  obtain ⟨c0, e1, e2⟩ := h3 pos cv hcv
  have n2 : c0 ≠ D := fun z => by
    rw [z, eD] at e2
    cases e2
  exact ⟨c0, e1, by rw [upd_ne n2]; exact e2⟩
/-- the pen is written: the tables stay -/
theorem tabs_but {T : List (Addr × Str)} {H H' : Hp} {p c : Addr} {n : Nat} (t : Tabs T H) (b : But p H H') (P : Pen H p c n) : Tabs T H' := fun q hq => by
  obtain ⟨cells, i, l, e1, _⟩ := P.ex
  obtain ⟨ps, h1, h2, h3⟩ := t q hq
  refine ⟨ps, b _ _ h1 (ne_of h1 e1 (fun z => by cases z)), h2, fun pos cv hcv => ?_⟩
  obtain ⟨c0, f1, f2⟩ := h3 pos cv hcv
  exact ⟨c0, f1, b _ _ f2 (ne_of f2 e1 (fun z => by cases z))⟩
end Aw

namespace Aw
open PySem PySem.Spec PyProof.Rows L2 NdefX LamX
/-! ### all but the pen and the tables stay -/
def BN (p : Addr) (H H' : Hp) : Prop := ∀ b o, H b = some o → b ≠ p → (∀ ps, o ≠ .tbl ps) → H' b = some o
theorem BN.refl (p : Addr) (H : Hp) : BN p H H := fun _ _ e _ _ => e
theorem BN.trans {p : Addr} {H H1 H2 : Hp} (a : BN p H H1) (b : BN p H1 H2) : BN p H H2 := fun c o e n t => b c o (a c o e n t) n t
theorem BN.but {p : Addr} {H H1 : Hp} (a : But p H H1) : BN p H H1 := fun c o e n _ => a c o e n
theorem BN.same {p : Addr} {H H1 : Hp} (a : Same H H1) : BN p H H1 := fun c o e _ _ => a c o e
theorem BN.ext {p : Addr} {H H1 : Hp} (a : ExtN H H1) : BN p H H1 := fun c o e _ t => a c o e t
theorem BN.lst {p c a : Addr} {n : Nat} {H H1 : Hp} {xs : List V} (b : BN p H H1) (pn : Pen H p c n) (h : H a = some (.lst xs)) : H1 a = some (.lst xs) := by
  obtain ⟨cells, i, l, e1, _⟩ := pn.ex
  exact b _ _ h (ne_of h e1 (fun z => by cases z)) (fun ps z => by cases z)
theorem BN.tup {p c a : Addr} {n : Nat} {H H1 : Hp} {xs : List V} (b : BN p H H1) (pn : Pen H p c n) (h : H a = some (.tup xs)) : H1 a = some (.tup xs) := by
  obtain ⟨cells, i, l, e1, _⟩ := pn.ex
  exact b _ _ h (ne_of h e1 (fun z => by cases z)) (fun ps z => by cases z)
theorem BN.tk {p c : Addr} {n : Nat} {H H1 : Hp} (b : BN p H H1) (pn : Pen H p c n) : TK H H1 := by
  obtain ⟨cells, i, l, e1, _⟩ := pn.ex
  exact ⟨fun a ys e => b _ _ e (ne_of e e1 (fun z => by cases z)) (fun ps z => by cases z), fun a o ys e => b _ _ e (ne_of e e1 (fun z => by cases z)) (fun ps z => by cases z)⟩
theorem SeqH.extN {H H' : Hp} {a : Addr} {xs : List V} (h : SeqH H a xs) (s : ExtN H H') : SeqH H' a xs := h.imp (ext_lst s) (ext_tup s)
theorem VOk.extN {H H' : Hp} (s : ExtN H H') : ∀ {v : V}, VOk H v → VOk H' v
  | _, .str x h => .str x h
  | _, .non => .non
  | _, .bl b => .bl b
  | _, .int i => .int i
  | _, .lst h => .lst (ext_lst s h)
  | _, .tup h => .tup (ext_tup s h)
  | _, .dct h => .dct (s _ _ h (fun ps z => by cases z))
theorem RunV.extN {H H' : Hp} {s : Int} (k : ExtN H H') : ∀ {v : V} {b : Bool}, RunV H s v b → RunV H' s v b
  | _, _, .str x => .str x
  | _, _, .non => .non
  | _, _, .bl b => .bl b
  | _, _, .int i => .int i
  | _, _, .dct h => .dct (k _ _ h (fun ps z => by cases z))
  | _, _, .seq h hx => .seq (h.extN k) fun x m => (hx x m).extN k
theorem VOk.bn {p c : Addr} {n m : Nat} {H H' : Hp} (k : BN p H H') (pn : Pen H p c n) (pm : Pen H' p c m) {x : V} (h : VOk H x) : VOk H' x := by
  cases h with
  | str x h => exact .str x h
  | non => exact .non
  | bl b => exact .bl b
  | int i => exact .int i
  | lst h => exact .lst (k.lst pn h)
  | tup h => exact .tup (k.tup pn h)
  | @dct a kvs h =>
    by_cases e : a = p
    · subst e
      obtain ⟨cells, i, l, e1, _⟩ := pm.ex
      exact .dct e1
    · exact .dct (k _ _ h e (fun ps z => by cases z))
theorem SeqH.bn {p c : Addr} {n : Nat} {H H' : Hp} (k : BN p H H') (pn : Pen H p c n) {a : Addr} {xs : List V} (h : SeqH H a xs) : SeqH H' a xs := h.imp (k.lst pn) (k.tup pn)
theorem RunV.bn {p c : Addr} {n m : Nat} {H H' : Hp} {s : Int} (k : BN p H H') (pn : Pen H p c n) (pm : Pen H' p c m) {v : V} {b : Bool} (h : RunV H s v b) : RunV H' s v b := by
  cases h with
  | str x => exact .str x
  | non => exact .non
  | bl b => exact .bl b
  | int i => exact .int i
  | @dct a kvs h =>
    by_cases e : a = p
    · subst e
      obtain ⟨cells, i, l, e1, _⟩ := pm.ex
      exact .dct e1
    · exact .dct (k _ _ h e (fun ps z => by cases z))
  | seq h hx => exact .seq (h.bn k pn) fun x m => (hx x m).bn k pn pm
/-! ### values that are picked -/
inductive OV (H : Hp) : V → Prop
  | str (x : Str) (h : x.length ≤ 1000) (hs : SeqAt.shaped (.str x) = true) : OV H (.str x)
  | non : OV H .non
  | bl (b : Bool) : OV H (.bl b)
  | int (i : Int) : OV H (.int i)
  | tup {a : Addr} {i : Int} (h : H a = some (.tup [.int i])) : OV H (.ref a)
theorem OV.ok {H : Hp} {v : V} (h : OV H v) : VOk H v := by
  cases h with
  | str x h hs => exact .str x h
  | non => exact .non
  | bl b => exact .bl b
  | int i => exact .int i
  | tup h => exact .tup h
theorem OV.same {H H' : Hp} (s : Same H H') {v : V} (h : OV H v) : OV H' v := by
  cases h with
  | str x h hs => exact .str x h hs
  | non => exact .non
  | bl b => exact .bl b
  | int i => exact .int i
  | tup h => exact .tup (s _ _ h)
theorem OV.extN {H H' : Hp} (s : ExtN H H') {v : V} (h : OV H v) : OV H' v := by
  cases h with
  | str x h hs => exact .str x h hs
  | non => exact .non
  | bl b => exact .bl b
  | int i => exact .int i
  | tup h => exact .tup (ext_tup s h)
theorem OV.bn {p c : Addr} {n : Nat} {H H' : Hp} (k : BN p H H') (pn : Pen H p c n) {v : V} (h : OV H v) : OV H' v := by
  cases h with
  | str x h hs => exact .str x h hs
  | non => exact .non
  | bl b => exact .bl b
  | int i => exact .int i
  | tup h => exact .tup (k.tup pn h)
theorem TV.int {K : PySem.W.Frag} {H : Hp} (i : Int) : TV K H (.int i) := ⟨⟨_, .int i, rfl, by simp [PyData.eqv]⟩, ⟨_, _, .base (.int i), kit_ty (show kitB "int" "bool" = some false by decide +kernel)⟩⟩
theorem OV.tv {K : PySem.W.Frag} {H : Hp} {v : V} (h : OV H v) : TV K H v := by
  cases h with
  | str x h hs => exact ⟨⟨_, .str x, hs, by simp [PyData.eqv]⟩, ⟨_, _, .base (.str x), kit_ty (show kitB "str" "bool" = some false by decide +kernel)⟩⟩
  | non => exact ⟨⟨_, .non, rfl, by simp [PyData.eqv]⟩, ⟨_, _, .base .non, kit_ty (show kitB "NoneType" "bool" = some false by decide +kernel)⟩⟩
  | bl b => exact ⟨⟨_, .bl b, rfl, by cases b <;> rfl⟩, ⟨_, _, .base (.bl b), kit_ty (show kitB "bool" "bool" = some true by decide +kernel)⟩⟩
  | int i => exact TV.int i
  | tup h => exact ⟨⟨_, .tup (SqT.of h) (.cons (.int _) .nil), rfl, by simp [PyData.eqv, PyData.eqvAll]⟩, ⟨_, _, .base (.tup h), kit_ty (show kitB "tuple" "bool" = some false by decide +kernel)⟩⟩
/-! ### Marks(..) that is refused -/
section
variable {K : PySem.W.Frag} {C CZ CT CN : Addr} {H : Hp} {R : Addr} {k : Int} {v : V} {xs : List V} {G : Addr → Hp → Prop} {E : XK}
theorem mk_size (hv : VOk H v) (b : numB v 1 (10 ^ 30) = false) (hR : SeqK K H R xs) (hE : ∀ d H', Same H H' → H' d = some (.xd [("size", v)]) → E (.ref CZ) (some d) H') : ∀ y dx, H y = none → H dx = none → dx ≠ y →
    spMInit K C CZ CT CN [.ref y, v, .ref R] (upd (upd H dx (.own y)) y (.ins C dx [])) (fun v H2 => v = .non ∧ G y H2) E := by
  intro y dx hy hdx ne
  have hy' : upd H dx (.own y) y = none := by rw [upd_ne (Ne.symm ne)]; exact hy
  have s2 := (same_upd (o := .own y) hdx).trans (same_upd (o := .ins C dx []) hy')
  exact ⟨y, dx, R, v, xs, rfl, upd_same, hv.same s2, hR.same s2, fun _ d H' s' _ e => hE d H' (s2.trans s') e, fun s es h1 h2 => by
    subst es
    have e : numB (.int s) 1 (10 ^ 30) = (decide (1 ≤ s) && decide (s ≤ 10 ^ 30)) := rfl
    rw [e, decide_eq_true h1, decide_eq_true h2] at b
    cases b⟩
theorem mk_many (k1 : 1 ≤ k) (k2 : k ≤ 10 ^ 30) (hR : SeqK K H R xs) (lx : 20 < xs.length) (hE : ∀ d H', Same H H' → H' d = some (.xd [("most", .int 20)]) → E (.ref CT) (some d) H') : ∀ y dx, H y = none → H dx = none → dx ≠ y →
    spMInit K C CZ CT CN [.ref y, .int k, .ref R] (upd (upd H dx (.own y)) y (.ins C dx [])) (fun v H2 => v = .non ∧ G y H2) E := by
  intro y dx hy hdx ne
  have hy' : upd H dx (.own y) y = none := by rw [upd_ne (Ne.symm ne)]; exact hy
  have s2 := (same_upd (o := .own y) hdx).trans (same_upd (o := .ins C dx []) hy')
  refine ⟨y, dx, R, .int k, xs, rfl, upd_same, .int k, hR.same s2, fun z => ?_, fun s es h1 h2 => ⟨fun _ d H' s' _ e => hE d H' (s2.trans s') e, fun z => absurd z (by omega)⟩⟩
  have e : numB (.int k) 1 (10 ^ 30) = (decide (1 ≤ k) && decide (k ≤ 10 ^ 30)) := rfl
  rw [e, decide_eq_true k1, decide_eq_true k2] at z
  cases z
theorem NoRun.same {H H' : Hp} {k : Int} {xs : List V} {i : Nat} (n : NoRun H k xs i) (s : Same H H') : NoRun H' k xs i := ⟨fun j v h1 h2 => (n.1 j v h1 h2).same s, by
  obtain ⟨v, e, r⟩ := n.2
  exact ⟨v, e, r.same s⟩⟩
theorem NoRun.extN {H H' : Hp} {k : Int} {xs : List V} {i : Nat} (n : NoRun H k xs i) (s : ExtN H H') : NoRun H' k xs i := ⟨fun j v h1 h2 => (n.1 j v h1 h2).extN s, by
  obtain ⟨v, e, r⟩ := n.2
  exact ⟨v, e, r.extN s⟩⟩
theorem mk_number {i : Nat} (k1 : 1 ≤ k) (k2 : k ≤ 10 ^ 30) (hR : SeqK K H R xs) (lx : xs.length ≤ 20) (nr : NoRun H k xs i) (hE : ∀ d H', Same H H' → H' d = some (.xd [("number", .int (i : Nat))]) → E (.ref CN) (some d) H') : ∀ y dx, H y = none → H dx = none → dx ≠ y →
    spMInit K C CZ CT CN [.ref y, .int k, .ref R] (upd (upd H dx (.own y)) y (.ins C dx [])) (fun v H2 => v = .non ∧ G y H2) E := by
  intro y dx hy hdx ne
  have hy' : upd H dx (.own y) y = none := by rw [upd_ne (Ne.symm ne)]; exact hy
  have s2 := (same_upd (o := .own y) hdx).trans (same_upd (o := .ins C dx []) hy')
  refine ⟨y, dx, R, .int k, xs, rfl, upd_same, .int k, hR.same s2, fun z => ?_, fun s es h1 h2 => ⟨fun z => absurd z (by omega), fun _ => .inl ⟨i, ?_, fun _ d H' s' _ e => hE d H' (s2.trans s') e⟩⟩⟩
  · have e : numB (.int k) 1 (10 ^ 30) = (decide (1 ≤ k) && decide (k ≤ 10 ^ 30)) := rfl
    rw [e, decide_eq_true k1, decide_eq_true k2] at z
    cases z
  · cases es
    exact nr.same s2
/-- good runs ahead, then one that is none -/
theorem no_run {k : Int} {xs : List V} {v : V} {ys : List V} (h : ∀ x ∈ xs, RunV H k x true) (hv : RunV H k v false) : NoRun H k (xs ++ v :: ys) xs.length :=
  ⟨fun j x hj e => by
    rw [List.getElem?_append_left hj] at e
    exact h x (List.mem_of_getElem? e), v, by rw [List.getElem?_append_right (Nat.le_refl _), Nat.sub_self]; rfl, hv⟩
end
/-! ### what a refusal tells -/
section
variable {Ce : Nat → Addr} {T : List (Addr × Str)} {σ : Aw.St} {H : Hp} {Q : VK} {t : XK → TE}
/-- the error i with the value v -/
theorem lam_err {i : Nat} {v : V} (hi : i < 4) (hT : Tabs T H) (ht : ∀ (H1 : Hp) (E : XK), ExtN H H1 → Tabs T H1 → (∀ d H', Same H1 H' → H' d = some (.xd [(fldR i, v)]) → E (.ref (Ce i)) (some d) H') → ∀ Q', t E σ H1 Q')
    (hQ : ∀ (a : Addr) (H' : Hp), ExtN H H' → Tabs T H' → H' a = some (.tup [.str (nmR i), v, .bl true]) → Q (.ref a) H') : tLam T (TTRf Ce) t σ H Q := by
  refine ⟨hT, fun H1 eN T1 => ht H1 _ eN T1 (fun d H' s' e => ?_) _⟩
  exact ⟨i, d, v, hi, rfl, rfl, e, fun a H2 s2 ha e2 => hQ a H2 (eN.trans (ExtN.of (s'.trans s2))) (T1.ext (s'.trans s2)) e2⟩
/-- nothing is refused -/
theorem lam_non (hT : Tabs T H) (ht : ∀ (H1 : Hp) (E : XK) (Q' : VK), ExtN H H1 → Tabs T H1 → (∀ v H', Same H1 H' → Q' v H') → t E σ H1 Q') (hQ : ∀ H', ExtN H H' → Tabs T H' → Q .non H') : tLam T (TTRf Ce) t σ H Q :=
  ⟨hT, fun H1 eN T1 => ht H1 _ _ eN T1 fun _ H' s' => hQ H' (eN.trans (ExtN.of s')) (T1.ext s')⟩
end
/-! ### slices -/
theorem cut_pre {xs : List V} {i : Nat} (h : i ≤ xs.length) : cutV xs none (some (i : Int)) = xs.take i := by
  have e1 : HT.sIx xs.length 0 none = 0 := rfl
  have e2 : HT.sIx xs.length xs.length (some (i : Int)) = i := by rw [HT.sIx_nat]; omega
  unfold cutV
  rw [e1, e2, List.drop_zero, Nat.sub_zero]
theorem cut_post {xs : List V} {i : Nat} (h : i ≤ xs.length) : cutV xs (some (i : Int)) none = xs.drop i := by
  have e1 : HT.sIx xs.length 0 (some (i : Int)) = i := by rw [HT.sIx_nat]; omega
  have e2 : HT.sIx xs.length xs.length none = xs.length := rfl
  unfold cutV
  rw [e1, e2]
  exact List.take_of_length_le (by rw [List.length_drop]; exact Nat.le_refl _)
end Aw

namespace Aw
open PySem PySem.Spec PyProof.Rows L2 NdefX LamX
structure TxtL16 (P : Program) (w : World) (K : PySem.W.Frag) (mg : Str → Option Value) (base : Heap) (C CW : Addr) (Ce : Nat → Addr) (fR fS fI : Addr) (rd sd id : FuncData) : Prop where
  FR_ : Fun K "_law_refusal" "_law_refusal" sLRf fR rd
  bR : Binds K rd ["_law_ask"] []
  gR : mg "_law_refusal" = some (.ref fR)
  R : Errs16 P K mg Ce CW
  GS : FnOk P w K mg base CX0 1 fS sd ["_law_told", "_law_name", "_law_value"] (spLSm K)
  kS : PySem.W.keepIn K (.ref fS) = true
  bS : Binds K sd ["_law_told", "_law_name", "_law_value"] []
  gS : mg "_law_same" = some (.ref fS)
  M : MkCls K C
  gM : mg "Marks" = some (.ref C)
  mkc : Mk K C fI
  GI : FnOk P w K mg base (L2.CX P w) 4 fI id ["self", "size", "runs"] (spMInit K C (Ce 1) (Ce 3) (Ce 0))
  bI : Binds K id ["self", "size", "runs"] []
def rrQ (c : Addr) : Str := (envOfC "_law_runs_refused" (defScope sLRr) 0 0 (.ref c)).qual ++ "<lambda>"
def spLRr (T : List (Addr × Str)) : Sp := fun vs H Q _ => ∃ (p c : Addr) (k : Int) (n : Nat), vs = [.ref p, .int k] ∧ 1 ≤ k ∧ k ≤ T30 ∧ Pen H p c n ∧ n ≤ 500000 ∧ Tabs T H ∧ ∀ H', BN p H H' → Tabs T H' → Pen H' p c (n + 80) → Q (.bl true) H'
/-- what stands while the lambdas are made -/
structure Kr (T : List (Addr × Str)) (p c : Addr) (n : Nat) (k : Int) (R : Addr) (xs : List V) (rs : List (Int × Int × Int)) (odd : V) (H0 H : Hp) : Prop where
  bn : BN p H0 H
  pn : Pen H p c n
  tb : Tabs T H
  eR : H R = some (.lst xs)
  rt : RnT H xs rs
  ov : RunV H k odd false
section
variable {T : List (Addr × Str)} {p c : Addr} {n : Nat} {k : Int} {R : Addr} {xs : List V} {rs : List (Int × Int × Int)} {odd : V} {H0 H H' : Hp}
theorem Kr.same (g : Kr T p c n k R xs rs odd H0 H) (s : Same H H') : Kr T p c n k R xs rs odd H0 H' := ⟨g.bn.trans (BN.same s), g.pn.same s, g.tb.ext s, s _ _ g.eR, g.rt.keep (TK.same s), g.ov.same s⟩
theorem Kr.ext (g : Kr T p c n k R xs rs odd H0 H) (s : ExtN H H') (t : Tabs T H') : Kr T p c n k R xs rs odd H0 H' := ⟨g.bn.trans (BN.ext s), g.pn.extN s, t, ext_lst s g.eR, g.rt.keep (TK.extN s), g.ov.extN s⟩
end
theorem RnA.app {H : Hp} : ∀ {vs ws : List V} {P Q : List (Int × Int × Int)}, RnA H vs P → RnA H ws Q → RnA H (vs ++ ws) (P ++ Q)
  | _, _, _, _, .nil, s => s
  | _, _, _, _, .cons h r, s => .cons h (RnA.app r s)
theorem rn_rep {H : Hp} {b : Addr} {f l c : Int} (h : SeqH H b [.int f, .int l, .int c]) : ∀ n : Nat, RnA H (List.replicate n (V.ref b)) (List.replicate n (f, l, c))
  | 0 => .nil
  | n + 1 => by
    rw [List.replicate_succ, List.replicate_succ]
    exact .cons h (rn_rep h n)
section
variable {P : Program} {w : World} {K : PySem.W.Frag} {mg : Str → Option Value} {base : Heap} {C CW cc PT fR fS fI : Addr} {Ce : Nat → Addr} {rd sd id : FuncData} {T : List (Addr × Str)}
structure TxtRr (P : Program) (w : World) (K : PySem.W.Frag) (mg : Str → Option Value) (base : Heap) (C CW cc PT fR fS fI : Addr) (Ce : Nat → Addr) (rd sd id : FuncData) (T : List (Addr × Str)) (fD fU fK fO : Addr) (dD dU dK dO : FuncData) : Prop where
  L : TxtL16 P w K mg base C CW Ce fR fS fI rd sd id
  TB : TabB base mg cc PT
  hm : (PT, rrQ cc) ∈ T
  hu : ∀ p ∈ T, p.1 = PT → p.2 = rrQ cc
  len : mg "len" = none
  GD : FnOk P w K mg base CX0 1 fD dD ["_law_pen_here", "_law_many"] spDraw
  kD : PySem.W.keepIn K (.ref fD) = true
  bD : Binds K dD ["_law_pen_here", "_law_many"] []
  gD : mg "_law_draw" = some (.ref fD)
  GU : FnOk P w K mg base CX0 5 fU dU ["_law_pen_here", "_law_k", "_law_many"] spLRuns
  kU : PySem.W.keepIn K (.ref fU) = true
  bU : Binds K dU ["_law_pen_here", "_law_k", "_law_many"] []
  gU : mg "_law_runs" = some (.ref fU)
  GK : FnOk P w K mg base CX0 2 fK dK ["_law_pen_here", "_law_some"] (spPick K)
  kK : PySem.W.keepIn K (.ref fK) = true
  bK : Binds K dK ["_law_pen_here", "_law_some"] []
  gK : mg "_law_pick" = some (.ref fK)
  GO : FnOk P w K mg base CX0 1 fO dO ["_law_k"] spLOr
  kO : PySem.W.keepIn K (.ref fO) = true
  bO : Binds K dO ["_law_k"] []
  gO : mg "_law_odd_runs" = some (.ref fO)
theorem scLRr : FnScope ["_law_pen_here", "_law_k", "_law_runs_here", "_law_spot", "_law_many", "_law_odd", "_law_handed", "_law_short"] ["_law_pen_here", "_law_k"] (defScope sLRr) := ⟨rfl, rfl, rfl, by decide +kernel, rfl, by decide +kernel, by decide +kernel⟩
theorem ok_lrr {f fD fU fK fO : Addr} {fd dD dU dK dO : FuncData} (F : Fun K "_law_runs_refused" "_law_runs_refused" sLRr f fd) (hc : fd.code = .ref cc) (W : TxtRr P w K mg base C CW cc PT fR fS fI Ce rd sd id T fD fU fK fO dD dU dK dO) :
    FnOk P w K mg base CX0 9 f fd ["_law_pen_here", "_law_k"] (spLRr T) := by
  obtain ⟨ocR, odR, kVR, docR, pmR, anR, cdR, ctR, oslR, eR, lkR, hcR⟩ := W.L.FR_.ex
  subst eR
  have bR := W.L.bR
  refine Fun_okC F hc scLRr (fun vs H Q E h => ?_) (fun A outer s H vs Q E hr h => ?_)
  · obtain ⟨p, c, k, n, rfl, _⟩ := h
    rfl
  · obtain ⟨p, c, k, n, rfl, k1, k2, pn, hn, hT, hQ⟩ := h
    have nd := scLRr.nd
    refine ⟨_, (pss_cons (ps_set (i := 2) nd rfl (Or.inr rfl) (pe_call W.GU (hr.mono (by decide)) (by rfl) W.gU W.kU W.bU .nil pass0 (pa_cons (pv 0) (pa_cons (pv 1) (pa_cons (pe_call W.GD (hr.mono (by decide)) (by rfl) W.gD W.kD W.bD .nil pass0 (pa_cons (pv 0) (pa_cons pe_int pa_nil))) pa_nil)))))
      (pss_cons (ps_par (i := 3) (j := 4) rfl nd rfl rfl (by decide) rfl rfl (pa_cons (pe_call W.GD (hr.mono (by decide)) (by rfl) W.gD W.kD W.bD .nil pass0 (pa_cons (pv 0) (pa_cons (pe_op op_add (pe_callB call_len_seq (by rfl) W.len PySem.boot_len (pa_cons (pv 2) pa_nil)) pe_int) pa_nil))) (pa_cons (pe_call W.GD (hr.mono (by decide)) (by rfl) W.gD W.kD W.bD .nil pass0 (pa_cons (pv 0) (pa_cons pe_int pa_nil))) pa_nil)) (by rfl))
      (pss_cons (ps_set (i := 5) nd rfl (Or.inr rfl) (pe_call W.GK (hr.mono (by decide)) (by rfl) W.gK W.kK W.bK .nil pass0 (pa_cons (pv 0) (pa_cons (pe_call W.GO (hr.mono (by decide)) (by rfl) W.gO W.kO W.bO .nil pass0 (pa_cons (pv 1) pa_nil)) pa_nil))))
      (pss_cons (ps_set (i := 6) nd rfl (Or.inr rfl) (pe_op op_cat (pe_op op_cat (pe_op op_cat (pe_slice sl_list (pv 2) po_none (po_some (pv 3))) (pe_lst (pa_cons (pv 5) pa_nil))) (pe_slice sl_list (pv 2) (po_some (pv 3)) po_none)) (pe_op op_rep (pe_lst (pa_cons pe_non pa_nil)) (pv 4))))
      (pss_cons (ps_if (pt_not (pt_val (pe_call W.L.GS (hr.mono (by decide)) (by rfl) W.L.gS W.L.kS W.L.bS .nil pass0 (pa_cons (pe_lamcall (T := T) (TT := TTRf Ce) (k := 6) rfl W.L.gR W.L.FR_.kp lkR hcR bR scLRf rfl (.inl rfl) (rf_gives W.L.R) W.TB rfl W.hm W.hu hr (lamS_by (by show lamSB (defScope sLRr) _ = true; decide +kernel)) rfl (fun _ _ _ _ _ => rfl) (fun A outer s H E f c' hr2 => (pe_makeD W.L.mkc W.L.GI (hr2.mono (by decide)) (by rfl) W.L.gM W.L.bI .nil (fun σ => passAt (takes_of rfl rfl rfl rfl) σ) (pa_cons (pv 1) (pa_cons (pv 6) pa_nil))))) (pa_cons pe_str (pa_cons (pv 3) pa_nil))))))
        (pss_one (ps_ret pe_bl)) pss_nil)
      (pss_cons (ps_set (i := 7) nd rfl (Or.inr rfl) (pe_op op_rep (pe_lst (pa_cons (pe_tup (pa_cons pe_int (pa_cons pe_int (pa_cons pe_int pa_nil)))) pa_nil)) pe_int))
      (pss_cons (ps_if (pt_not (pt_val (pe_call W.L.GS (hr.mono (by decide)) (by rfl) W.L.gS W.L.kS W.L.bS .nil pass0 (pa_cons (pe_lamcall (T := T) (TT := TTRf Ce) (k := 6) rfl W.L.gR W.L.FR_.kp lkR hcR bR scLRf rfl (.inl rfl) (rf_gives W.L.R) W.TB rfl W.hm W.hu hr (lamS_by (by show lamSB (defScope sLRr) _ = true; decide +kernel)) rfl (fun _ _ _ _ _ => rfl) (fun A outer s H E f c' hr2 => (pe_makeD W.L.mkc W.L.GI (hr2.mono (by decide)) (by rfl) W.L.gM W.L.bI .nil (fun σ => passAt (takes_of rfl rfl rfl rfl) σ) (pa_cons (pv 1) (pa_cons (pe_op op_cat (pv 7) (pe_lst (pa_cons (pv 5) pa_nil))) pa_nil))))) (pa_cons pe_str (pa_cons pe_int pa_nil))))))
        (pss_one (ps_ret pe_bl)) pss_nil)
      (pss_cons (ps_if (pt_not (pt_val (pe_call W.L.GS (hr.mono (by decide)) (by rfl) W.L.gS W.L.kS W.L.bS .nil pass0 (pa_cons (pe_lamcall (T := T) (TT := TTRf Ce) (k := 6) rfl W.L.gR W.L.FR_.kp lkR hcR bR scLRf rfl (.inl rfl) (rf_gives W.L.R) W.TB rfl W.hm W.hu hr (lamS_by (by show lamSB (defScope sLRr) _ = true; decide +kernel)) rfl (fun _ _ _ _ _ => rfl) (fun A outer s H E f c' hr2 => (pe_makeD W.L.mkc W.L.GI (hr2.mono (by decide)) (by rfl) W.L.gM W.L.bI .nil (fun σ => passAt (takes_of rfl rfl rfl rfl) σ) (pa_cons (pv 1) (pa_cons (pe_op op_cat (pv 7) (pe_lst (pa_cons (pv 5) (pa_cons (pv 5) pa_nil)))) pa_nil))))) (pa_cons pe_str (pa_cons pe_int pa_nil))))))
        (pss_one (ps_ret pe_bl)) pss_nil)
      (pss_cons (ps_if (pt_cmpR op_notN (pe_lamcall (T := T) (TT := TTRf Ce) (k := 6) rfl W.L.gR W.L.FR_.kp lkR hcR bR scLRf rfl (.inl rfl) (rf_gives W.L.R) W.TB rfl W.hm W.hu hr (lamS_by (by show lamSB (defScope sLRr) _ = true; decide +kernel)) rfl (fun _ _ _ _ _ => rfl) (fun A outer s H E f c' hr2 => (pe_makeD W.L.mkc W.L.GI (hr2.mono (by decide)) (by rfl) W.L.gM W.L.bI .nil (fun σ => passAt (takes_of rfl rfl rfl rfl) σ) (pa_cons (pv 1) (pa_cons (pe_op op_cat (pv 7) (pe_lst (pa_cons (pe_tup (pa_cons pe_int (pa_cons (pe_op op_sub (pv 1) pe_int) (pa_cons pe_int pa_nil)))) pa_nil))) pa_nil))))) pe_non (nomark _))
        (pss_one (ps_ret pe_bl)) pss_nil)
      (pss_one (ps_ret (pe_cmpR op_isN (pe_lamcall (T := T) (TT := TTRf Ce) (k := 6) rfl W.L.gR W.L.FR_.kp lkR hcR bR scLRf rfl (.inl rfl) (rf_gives W.L.R) W.TB rfl W.hm W.hu hr (lamS_by (by show lamSB (defScope sLRr) _ = true; decide +kernel)) rfl (fun _ _ _ _ _ => rfl) (fun A outer s H E f c' hr2 => (pe_makeD W.L.mkc W.L.GI (hr2.mono (by decide)) (by rfl) W.L.gM W.L.bI .nil (fun σ => passAt (takes_of rfl rfl rfl rfl) σ) (pa_cons (pv 1) (pa_cons (pv 2) pa_nil))))) pe_non (nomark _))))))))))))), ?_⟩
    -- BODY
    refine ⟨_, rfl, _, rfl, _, rfl, p, c, 4, n, rfl, pn, by omega, by decide, by decide, fun r H1 r0 r1 b1 p1 => ?_⟩
    obtain ⟨m, rfl⟩ : ∃ m : Nat, r = (m : Nat) := ⟨r.toNat, by omega⟩
    refine ⟨p, c, k, m, n + 1, rfl, k1, k2, by omega, p1, by omega, fun R xs rs H2 lrs ro b2 hR eR rt p2 => ?_⟩
    have lx := rt.any.length
    refine ⟨_, rfl, _, rfl, R, xs, rfl, .inl (SqL.of eR), _, 1, rfl, rfl, p, c, _, _, rfl, p2, by omega, by omega, by omega, fun s1 H3 s10 s11 b3 p3 => ?_⟩
    refine ⟨_, rfl, p, c, 3, _, rfl, p3, by omega, by decide, by decide, fun m2 H4 m20 m21 b4 p4 => ?_⟩
    obtain ⟨sp, rfl⟩ : ∃ m : Nat, s1 = (m : Nat) := ⟨s1.toNat, by omega⟩
    obtain ⟨mn, rfl⟩ : ∃ m : Nat, m2 = (m : Nat) := ⟨m2.toNat, by omega⟩
    refine ⟨_, _, rfl, ?_⟩
    refine ⟨_, rfl, _, rfl, k, rfl, k1, fun O H5 os s5 eO oo lo => ?_⟩
    refine ⟨p, c, O, os, _, rfl, p4.same s5, by omega, SqL.of eO, by omega, by omega, fun r0 odd H6 ge b6 p6 => ?_⟩
    have P5 := p4.same s5
    have ov5 := oo odd (List.mem_of_getElem? ge)
    have ov6 : RunV H6 k odd false := ov5.bn (BN.but b6) P5 p6
    have k26 : But p H2 H6 := ((b3.trans b4).trans (But.same s5)).trans b6
    have b06 : But p H H6 := ((b1.trans b2).trans k26)
    have g : Kr T p c (n + 80) k R xs rs odd H H6 := ⟨BN.but b06, p6.mono (by omega), tabs_but hT b06 pn, but_lst k26 p2 eR, rt.keep (TK.but k26 p2), ov6⟩
    clear eR rt ov5 oo eO
    refine ⟨_, rfl, _, rfl, _, rfl, R, xs, rfl, SqL.of g.eR, fun a1 h1 => ?_⟩
    have g := g.same (same_upd (o := .lst (cutV xs none (some (sp : Int)))) h1)
    have q1 : upd H6 a1 (.lst (cutV xs none (some (sp : Int)))) a1 = some (.lst (xs.take sp)) := by rw [upd_same, cut_pre (by omega)]
    generalize upd H6 a1 (.lst (cutV xs none (some (sp : Int)))) = H7 at *
    refine ⟨_, rfl, by show 1 ≤ sizeLine; decide, fun a2 h2 => ?_⟩
    have s8 := same_upd (o := .lst [odd]) h2
    have g := g.same s8
    have q1 := s8 _ _ q1
    have q2 : upd H7 a2 (.lst [odd]) a2 = some (.lst [odd]) := upd_same
    generalize upd H7 a2 (.lst [odd]) = H8 at *
    have l1 : (xs.take sp).length = sp := by rw [List.length_take]; omega
    refine ⟨a1, a2, _, _, rfl, rfl, q1, q2, Nat.le_trans (show (xs.take sp).length + 1 ≤ 1000 by omega) kz, fun a3 h3 => ?_⟩
    have g := g.same (same_upd (o := .lst (xs.take sp ++ [odd])) h3)
    have q3 : upd H8 a3 (.lst (xs.take sp ++ [odd])) a3 = some (.lst (xs.take sp ++ [odd])) := upd_same
    generalize upd H8 a3 (.lst (xs.take sp ++ [odd])) = H9 at *
    refine ⟨_, rfl, _, rfl, _, rfl, R, xs, rfl, SqL.of g.eR, fun a4 h4 => ?_⟩
    have s10 := same_upd (o := .lst (cutV xs (some (sp : Int)) none)) h4
    have g := g.same s10
    have q3 := s10 _ _ q3
    have q4 : upd H9 a4 (.lst (cutV xs (some (sp : Int)) none)) a4 = some (.lst (xs.drop sp)) := by rw [upd_same, cut_post (by omega)]
    generalize upd H9 a4 (.lst (cutV xs (some (sp : Int)) none)) = H10 at *
    have l4 : (xs.drop sp).length ≤ xs.length := by rw [List.length_drop]; omega
    have l3 : (xs.take sp ++ [odd]).length = sp + 1 := by rw [List.length_append, l1]; rfl
    refine ⟨a3, a4, _, _, rfl, rfl, q3, q4, Nat.le_trans (show (xs.take sp ++ [odd]).length + (xs.drop sp).length ≤ 1000 by omega) kz, fun a5 h5 => ?_⟩
    have g := g.same (same_upd (o := .lst (xs.take sp ++ [odd] ++ xs.drop sp)) h5)
    have q5 : upd H10 a5 (.lst (xs.take sp ++ [odd] ++ xs.drop sp)) a5 = some (.lst (xs.take sp ++ [odd] ++ xs.drop sp)) := upd_same
    generalize upd H10 a5 (.lst (xs.take sp ++ [odd] ++ xs.drop sp)) = H11 at *
    refine ⟨by show 1 ≤ sizeLine; decide, fun a6 h6 => ?_⟩
    have s12 := same_upd (o := .lst [V.non]) h6
    have g := g.same s12
    have q5 := s12 _ _ q5
    have q6 : upd H11 a6 (.lst [V.non]) a6 = some (.lst [V.non]) := upd_same
    generalize upd H11 a6 (.lst [V.non]) = H12 at *
    refine ⟨_, rfl, a6, (mn : Int), _, rfl, rfl, q6, by omega, by omega, Nat.le_trans (show [V.non].length * (mn : Int).toNat ≤ 1000 by show 1 * (mn : Int).toNat ≤ 1000; omega) kz, fun a7 h7 => ?_⟩
    have s13 := same_upd (o := .lst (List.replicate (mn : Int).toNat [V.non]).flatten) h7
    have g := g.same s13
    have q5 := s13 _ _ q5
    obtain ⟨ws, ew, lw⟩ : ∃ ws : List V, (List.replicate (mn : Int).toNat [V.non]).flatten = ws ∧ ws.length = mn := ⟨_, rfl, by simp⟩
    rw [ew] at g q5 ⊢
    have q7 : upd H12 a7 (.lst ws) a7 = some (.lst ws) := upd_same
    generalize upd H12 a7 (.lst ws) = H13 at *
    have l5 : (xs.take sp ++ [odd] ++ xs.drop sp).length = xs.length + 1 := by rw [List.length_append, l3, List.length_drop]; omega
    refine ⟨a5, a7, _, _, rfl, rfl, q5, q7, Nat.le_trans (show (xs.take sp ++ [odd] ++ xs.drop sp).length + ws.length ≤ 1000 by omega) kz, fun a8 h8 => ?_⟩
    have g := g.same (same_upd (o := .lst (xs.take sp ++ [odd] ++ xs.drop sp ++ ws)) h8)
    obtain ⟨hs, eh⟩ : ∃ hs : List V, xs.take sp ++ [odd] ++ xs.drop sp ++ ws = hs := ⟨_, rfl⟩
    have lh : hs.length ≤ 20 := by rw [← eh, List.length_append, l5]; omega
    have eh2 : hs = xs.take sp ++ odd :: (xs.drop sp ++ ws) := by rw [← eh, List.append_assoc, List.append_assoc]; rfl
    rw [eh] at g ⊢
    have q8 : upd H13 a8 (.lst hs) a8 = some (.lst hs) := upd_same
    generalize upd H13 a8 (.lst hs) = H14 at *
    have goodX : ∀ {H' : Hp}, Kr T p c (n + 80) k R xs rs odd H H' → ∀ x ∈ xs, RunV H' k x true := fun g => g.rt.any.runV ro
    have nr : ∀ {H' : Hp}, Kr T p c (n + 80) k R xs rs odd H H' → NoRun H' k hs sp := fun g => by
      rw [eh2]
      have := no_run (xs := xs.take sp) (ys := xs.drop sp ++ ws) (fun x hx => goodX g x (List.mem_of_mem_take hx)) g.ov
      rw [l1] at this
      exact this
    refine lam_err (i := 0) (v := .int (sp : Nat)) (by decide) g.tb (fun H1 E eN T1 hE Q' => ?_) (fun t H15 eN T15 et => ?_)
    · have g1 := g.ext eN T1
      exact ⟨_, rfl, _, rfl, mk_number (i := sp) k1 k2 (.inl (SqL.of (ext_lst eN q8))) lh (nr g1) hE⟩
    have g := g.ext eN T15
    refine ⟨_, rfl, t, nmR 0, .int (sp : Nat), rfl, et, TV.int _, _, rfl, iteF (nxt ?_)⟩
    refine ⟨by show 3 ≤ sizeLine; decide, fun b1 hb1 => ?_⟩
    have g := g.same (same_upd (o := .tup [.int 0, .int 0, .int 1]) hb1)
    have w1 : upd H15 b1 (.tup [.int 0, .int 0, .int 1]) b1 = some (.tup [.int 0, .int 0, .int 1]) := upd_same
    generalize upd H15 b1 (.tup [.int 0, .int 0, .int 1]) = H16 at *
    refine ⟨by show 1 ≤ sizeLine; decide, fun b2 hb2 => ?_⟩
    have s17 := same_upd (o := .lst [.ref b1]) hb2
    have g := g.same s17
    have w1 := s17 _ _ w1
    have w2 : upd H16 b2 (.lst [.ref b1]) b2 = some (.lst [.ref b1]) := upd_same
    generalize upd H16 b2 (.lst [.ref b1]) = H17 at *
    refine ⟨b2, 19, _, rfl, rfl, w2, by decide, by decide, by show 1 * 19 ≤ sizeLine; decide, fun S hS => ?_⟩
    have s18 := same_upd (o := .lst (List.replicate (19 : Int).toNat [V.ref b1]).flatten) hS
    have g := g.same s18
    have w1 := s18 _ _ w1
    obtain ⟨ss, ess⟩ : ∃ ss : List V, (List.replicate (19 : Int).toNat [V.ref b1]).flatten = ss := ⟨_, rfl⟩
    have ess2 : ss = List.replicate 19 (V.ref b1) := by rw [← ess]; rfl
    have lss : ss.length = 19 := by rw [ess2, List.length_replicate]
    rw [ess] at g w1 ⊢
    have wS : upd H17 S (.lst ss) S = some (.lst ss) := upd_same
    generalize upd H17 S (.lst ss) = H18 at *
    have goodS : ∀ {H' : Hp}, H' b1 = some (.tup [.int 0, .int 0, .int 1]) → ∀ x ∈ ss, RunV H' k x true := fun {H'} e x hx => by
      rw [ess2] at hx
      rw [List.eq_of_mem_replicate hx]
      have z : rB [.int 0, .int 0, .int 1] k = true := rB_run.mpr ⟨Int.le_refl _, Int.le_refl _, by show (0 : Int) < k; omega, Int.le_refl _, by show (1 : Int) ≤ 4; decide⟩
      rw [← z]
      exact .seq (.inr e) (by simp [VOk.int])
    -- 19 good ones and the odd one
    refine lam_err (i := 0) (v := .int (19 : Nat)) (by decide) g.tb (fun H1 E eN T1 hE Q' => ?_) (fun t H19 eN T19 et => ?_)
    · have g1 := g.ext eN T1
      refine ⟨_, rfl, _, rfl, _, rfl, by show 1 ≤ sizeLine; decide, fun d1 hd1 => ?_⟩
      have t1 := same_upd (o := .lst [odd]) hd1
      have g1 := g1.same t1
      refine ⟨S, d1, _, _, rfl, rfl, t1 _ _ (ext_lst eN wS), upd_same, Nat.le_trans (show ss.length + 1 ≤ 1000 by omega) kz, fun d2 hd2 => ?_⟩
      have t2 := same_upd (o := .lst (ss ++ [odd])) hd2
      have g1 := g1.same t2
      have nr : NoRun _ k (ss ++ [odd]) ss.length := no_run (ys := []) (goodS (t2 _ _ (t1 _ _ (ext_tup eN w1)))) g1.ov
      rw [lss] at nr
      exact mk_number (i := 19) k1 k2 (.inl (SqL.of upd_same)) (by rw [List.length_append, lss]; show 19 + 1 ≤ 20; decide) nr fun d H' s' e => hE d H' ((t1.trans t2).trans s') e
    have g := g.ext eN T19
    have w1 := ext_tup eN w1
    have wS := ext_lst eN wS
    refine ⟨t, nmR 0, .int (19 : Nat), rfl, et, TV.int _, _, rfl, iteF (nxt ?_)⟩
    -- 19 good ones and two odd ones
    refine lam_err (i := 3) (v := .int 20) (by decide) g.tb (fun H1 E eN T1 hE Q' => ?_) (fun t H20 eN T20 et => ?_)
    · refine ⟨_, rfl, _, rfl, _, rfl, _, rfl, by show 2 ≤ sizeLine; decide, fun d1 hd1 => ?_⟩
      have t1 := same_upd (o := .lst [odd, odd]) hd1
      refine ⟨S, d1, _, _, rfl, rfl, t1 _ _ (ext_lst eN wS), upd_same, Nat.le_trans (show ss.length + 2 ≤ 1000 by omega) kz, fun d2 hd2 => ?_⟩
      have t2 := same_upd (o := .lst (ss ++ [odd, odd])) hd2
      exact mk_many k1 k2 (.inl (SqL.of upd_same)) (by rw [List.length_append, lss]; show 20 < 19 + 2; decide) fun d H' s' e => hE d H' ((t1.trans t2).trans s') e
    have g := g.ext eN T20
    have w1 := ext_tup eN w1
    have wS := ext_lst eN wS
    refine ⟨t, nmR 3, .int 20, rfl, et, TV.int _, _, rfl, iteF (nxt ?_)⟩
    refine lam_non g.tb (fun H1 E Q' eN T1 hQ' => ?_) (fun H21 eN T21 => ?_)
    · refine ⟨_, rfl, _, rfl, _, rfl, k, 1, rfl, rfl, by show 3 ≤ sizeLine; decide, fun d0 hd0 => ?_⟩
      have t0 := same_upd (o := .tup [.int 0, .int (k - 1), .int 4]) hd0
      have e0 : upd H1 d0 (.tup [.int 0, .int (k - 1), .int 4]) d0 = some (.tup [.int 0, .int (k - 1), .int 4]) := upd_same
      generalize upd H1 d0 (.tup [.int 0, .int (k - 1), .int 4]) = J1 at *
      refine ⟨by show 1 ≤ sizeLine; decide, fun d1 hd1 => ?_⟩
      have t1 := same_upd (o := .lst [.ref d0]) hd1
      refine ⟨S, d1, _, _, rfl, rfl, t1 _ _ (t0 _ _ (ext_lst eN wS)), upd_same, Nat.le_trans (show ss.length + 1 ≤ 1000 by omega) kz, fun d2 hd2 => ?_⟩
      have t2 := same_upd (o := .lst (ss ++ [.ref d0])) hd2
      have tt := (t0.trans t1).trans t2
      have ra : RnA (upd (upd J1 d1 (.lst [.ref d0])) d2 (.lst (ss ++ [.ref d0]))) (ss ++ [.ref d0]) (List.replicate 19 (0, 0, 1) ++ [(0, k - 1, 4)]) := by
        have e1 := tt _ _ (ext_tup eN w1)
        have z : RnA _ (List.replicate 19 (V.ref b1) ++ [V.ref d0]) _ := (rn_rep (.inr e1) 19).app (.cons (.inr (t2 _ _ (t1 _ _ e0))) .nil)
        rw [← ess2] at z
        exact z
      refine make_marks k1 k2 (.inl (SqL.of upd_same)) ra (fun r hr => ?_) (by rw [List.length_append, List.length_replicate]; show 19 + 1 ≤ 20; decide) fun a L H' s' _ _ _ => hQ' _ H' (tt.trans s')
      rcases List.mem_append.mp hr with hr | hr
      · rw [List.eq_of_mem_replicate hr]
        exact ⟨Int.le_refl _, Int.le_refl _, by show (0 : Int) < k; omega, Int.le_refl _, by show (1 : Int) ≤ 4; decide⟩
      · rw [List.mem_singleton.mp hr]
        exact ⟨Int.le_refl _, by show 0 ≤ k - 1; omega, by show k - 1 < k; omega, by show (1 : Int) ≤ 4; decide, Int.le_refl _⟩
    refine ⟨rfl, false, congrArg V.bl (by decide), iteF (nxt ?_)⟩
    have g := g.ext eN T21
    refine lam_non g.tb (fun H1 E Q' eN T1 hQ' => ?_) (fun H22 eN T22 => ?_)
    · have g1 := g.ext eN T1
      exact ⟨_, rfl, _, rfl, make_marks k1 k2 (.inl (SqL.of g1.eR)) g1.rt.any ro (by omega) fun a L H' s' _ _ _ => hQ' _ H' s'⟩
    have g := g.ext eN T22
    refine ⟨rfl, ?_⟩
    rw [decide_eq_true rfl]
    exact hQ H22 g.bn g.tb g.pn
end
end Aw

namespace Aw
open PySem PySem.Spec PyProof.Rows L2 NdefX LamX
def srQ (c : Addr) : Str := (envOfC "_law_sizes_refused" (defScope sLSr) 0 0 (.ref c)).qual ++ "<lambda>"
def spLSr (T : List (Addr × Str)) : Sp := fun vs H Q _ => ∃ (p c : Addr) (n : Nat), vs = [.ref p] ∧ Pen H p c n ∧ n ≤ 500000 ∧ Tabs T H ∧ ∀ H', BN p H H' → Tabs T H' → Pen H' p c (n + 1) → Q (.bl true) H'
/-- the values that are no sizes -/
def noSize (H : Hp) (v : V) : Prop := OV H v ∧ numB v 1 (10 ^ 30) = false
/-- a run of all places -/
theorem nMk_full {k : Int} (k0 : 0 < k) : nMk (runsP k [(0, k - 1, 1)]) 12 k.toNat = k.toNat := by
  have ro : ∀ r ∈ ([(0, k - 1, 1)] : List (Int × Int × Int)), RunOk r k := fun r hr => by
    rw [List.mem_singleton.mp hr]
    exact ⟨Int.le_refl _, by show 0 ≤ k - 1; omega, by show k - 1 < k; omega, Int.le_refl _, by show (1 : Int) ≤ 4; decide⟩
  obtain ⟨_, td, _⟩ := runs_ok k0 ro
  unfold nMk
  rw [List.filter_eq_self.mpr fun j hj => ?_, List.length_range]
  have := List.mem_range.mp hj
  rw [td (j : Nat) (by omega) (by omega)]
  show (false ^^ (decide ((0 : Int) ≤ (j : Nat)) && (decide (((j : Nat) : Int) ≤ k - 1) && decide ((((j : Nat) : Int) - 0) % 1 = 0)))) = true
  rw [decide_eq_true (by omega), decide_eq_true (by omega), decide_eq_true (by omega)]
  rfl
section
variable {P : Program} {w : World} {K : PySem.W.Frag} {mg : Str → Option Value} {base : Heap} {C CW cc PT fR fS fI E0a : Addr} {Ce : Nat → Addr} {rd sd id : FuncData} {T : List (Addr × Str)} {ds : List Value}
structure TxtSr (P : Program) (w : World) (K : PySem.W.Frag) (mg : Str → Option Value) (base : Heap) (C CW cc PT fR fS fI E0a : Addr) (Ce : Nat → Addr) (rd sd id : FuncData) (T : List (Addr × Str)) (ds : List Value) (fK fM : Addr) (dK dM : FuncData) : Prop where
  L : TxtL16 P w K mg base C CW Ce fR fS fI rd sd id
  TB : TabB base mg cc PT
  hm : (PT, srQ cc) ∈ T
  hu : ∀ p ∈ T, p.1 = PT → p.2 = srQ cc
  bD : Binds K id ["self", "size", "runs"] ds
  dD : Vals [.ref E0a] ds
  e0 : ∀ H, SeqK K H E0a []
  GK : FnOk P w K mg base CX0 2 fK dK ["_law_pen_here", "_law_some"] (spPick K)
  kK : PySem.W.keepIn K (.ref fK) = true
  bK : Binds K dK ["_law_pen_here", "_law_some"] []
  gK : mg "_law_pick" = some (.ref fK)
  mM : Meth K C "many" fM
  GM : FnOk P w K mg base CX0 4 fM dM ["self"] (spMany C)
  bM : Binds K dM ["self"] []
theorem scLSr : FnScope ["_law_pen_here", "_law_size_here", "_law_runs_here"] ["_law_pen_here"] (defScope sLSr) := ⟨rfl, rfl, rfl, by decide +kernel, rfl, by decide +kernel, by decide +kernel⟩
theorem ok_lsr {f fK fM : Addr} {fd dK dM : FuncData} (F : Fun K "_law_sizes_refused" "_law_sizes_refused" sLSr f fd) (hc : fd.code = .ref cc) (W : TxtSr P w K mg base C CW cc PT fR fS fI E0a Ce rd sd id T ds fK fM dK dM) :
    FnOk P w K mg base CX0 9 f fd ["_law_pen_here"] (spLSr T) := by
  have GI := quiet W.L.GI
  obtain ⟨ocR, odR, kVR, docR, pmR, anR, cdR, ctR, oslR, eR, lkR, hcR⟩ := W.L.FR_.ex
  subst eR
  have bR := W.L.bR
  refine Fun_okC F hc scLSr (fun vs H Q E h => ?_) (fun A outer s H vs Q E hr h => ?_)
  · obtain ⟨p, c, n, rfl, _⟩ := h
    rfl
  · obtain ⟨p, c, n, rfl, pn, hn, hT, hQ⟩ := h
    have nd := scLSr.nd
    refine ⟨_, (pss_cons (ps_set (i := 1) nd rfl (Or.inr rfl) (pe_call W.GK (hr.mono (by decide)) (by rfl) W.gK W.kK W.bK .nil pass0 (pa_cons (pv 0) (pa_cons (pe_lst (pa_cons pe_int (pa_cons (pe_un un_neg pe_int) (pa_cons (pe_op op_add (pe_op op_pow pe_int pe_int) pe_int) (pa_cons pe_bl (pa_cons pe_bl (pa_cons pe_non (pa_cons pe_str (pa_cons (pe_tup (pa_cons pe_int pa_nil)) (pa_cons (pe_un un_neg (pe_op op_pow pe_int pe_int)) pa_nil)))))))))) pa_nil))))
      (pss_cons (ps_for PassesOwn.never rfl (pi_tup (pe_tup (pa_cons (pe_lst pa_nil) (pa_cons (pe_lst (pa_cons pe_non pa_nil)) (pa_cons (pe_op op_rep (pe_lst (pa_cons pe_non pa_nil)) pe_int) pa_nil))))) (pg_name (i := 2) nd rfl (Or.inr rfl))
        (pss_one (ps_if (pt_not (pt_val (pe_call W.L.GS (hr.mono (by decide)) (by rfl) W.L.gS W.L.kS W.L.bS .nil pass0 (pa_cons (pe_lamcall (T := T) (TT := TTRf Ce) (k := 6) rfl W.L.gR W.L.FR_.kp lkR hcR bR scLRf rfl (.inl rfl) (rf_gives W.L.R) W.TB rfl W.hm W.hu hr (lamS_by (by show lamSB (defScope sLSr) _ = true; decide +kernel)) rfl (fun _ _ _ _ _ => rfl) (fun A outer s H E f c' hr2 => (pe_makeD W.L.mkc W.L.GI (hr2.mono (by decide)) (by rfl) W.L.gM W.L.bI .nil (fun σ => passAt (takes_of rfl rfl rfl rfl) σ) (pa_cons (pv 1) (pa_cons (pv 2) pa_nil))))) (pa_cons pe_str (pa_cons (pv 1) pa_nil))))))
          (pss_one (ps_ret pe_bl)) pss_nil)))
      (pss_one (ps_ret (pe_and (pe_cmpR op_eq (pe_fld (pe_makeD (E := fun _ => E0) W.L.mkc GI (hr.mono (by decide)) (by rfl) W.L.gM W.bD W.dD passA0 (pa_cons pe_int pa_nil)) rfl) pe_int (nomark _)) (pe_one (pe_cmpR op_eq (pe_meth0 (pe_makeD (E := fun _ => E0) W.L.mkc GI (hr.mono (by decide)) (by rfl) W.L.gM W.L.bI .nil passA0 (pa_cons (pe_op op_pow pe_int pe_int) (pa_cons (pe_lst (pa_cons (pe_tup (pa_cons pe_int (pa_cons (pe_op op_sub (pe_op op_pow pe_int pe_int) pe_int) (pa_cons pe_int pa_nil)))) pa_nil)) pa_nil))) W.L.M.c W.mM W.GM (hr.mono (by decide)) W.bM .nil pass0) (pe_op op_pow pe_int pe_int) (nomark _)))))))), ?_⟩
    -- BODY
    refine ⟨_, rfl, 1, rfl, 10, 30, rfl, rfl, ⟨by decide, by decide, by decide⟩, _, 1, rfl, rfl, by show 1 ≤ sizeLine; decide, fun t4 h4 => ?_⟩
    have s1 := same_upd (o := .tup [.int 4]) h4
    have e4 : upd H t4 (.tup [.int 4]) t4 = some (.tup [.int 4]) := upd_same
    generalize upd H t4 (.tup [.int 4]) = H1 at *
    refine ⟨10, 30, rfl, rfl, ⟨by decide, by decide, by decide⟩, _, rfl, by show 9 ≤ sizeLine; decide, fun L hL => ?_⟩
    have s2 := same_upd (o := .lst [V.int 0, V.int (-1), V.int (10 ^ (30 : Int).toNat + 1), V.bl true, V.bl false, V.non, V.str "9", V.ref t4, V.int (-(10 ^ (30 : Int).toNat))]) hL
    have eL : upd H1 L (.lst [V.int 0, V.int (-1), V.int (10 ^ (30 : Int).toNat + 1), V.bl true, V.bl false, V.non, V.str "9", V.ref t4, V.int (-(10 ^ (30 : Int).toNat))]) L = some (.lst [V.int 0, V.int (-1), V.int (10 ^ (30 : Int).toNat + 1), V.bl true, V.bl false, V.non, V.str "9", V.ref t4, V.int (-(10 ^ (30 : Int).toNat))]) := upd_same
    have e42 := s2 _ _ e4
    generalize upd H1 L (.lst [V.int 0, V.int (-1), V.int (10 ^ (30 : Int).toNat + 1), V.bl true, V.bl false, V.non, V.str "9", V.ref t4, V.int (-(10 ^ (30 : Int).toNat))]) = H2 at *
    have p2 := (pn.same s1).same s2
    refine ⟨p, c, L, _, _, rfl, p2, by omega, SqL.of eL, by show 0 < 9; decide, by show 9 ≤ 1000000; decide, fun r v H3 ge b3 p3 => ?_⟩
    have hv : OV H2 v ∧ numB v 1 (10 ^ 30) = false := by
      have hm := List.mem_of_getElem? ge
      have z : (10 : Int) ^ (30 : Int).toNat = 1000000000000000000000000000000 := by decide
      rw [z] at hm
      simp only [List.mem_cons, List.not_mem_nil, or_false] at hm
      rcases hm with rfl | rfl | rfl | rfl | rfl | rfl | rfl | rfl | rfl
      · exact ⟨.int _, by decide⟩
      · exact ⟨.int _, by decide⟩
      · exact ⟨.int _, by decide⟩
      · exact ⟨.bl _, rfl⟩
      · exact ⟨.bl _, rfl⟩
      · exact ⟨.non, rfl⟩
      · exact ⟨.str _ (by decide) (by decide +kernel), rfl⟩
      · exact ⟨.tup e42, rfl⟩
      · exact ⟨.int _, by decide⟩
    obtain ⟨ov, nb⟩ := hv
    have ov3 := ov.bn (BN.but b3) p2
    have b03 : But p H H3 := ((But.same s1).trans (But.same s2)).trans b3
    have T3 := tabs_but hT b03 pn
    have bn3 : BN p H H3 := BN.but b03
    clear ov eL e42 e4 s1 s2 b3 b03 ge
    refine ⟨by show 0 ≤ sizeLine; decide, fun l1 h1 => ?_⟩
    have s4 := same_upd (o := .lst []) h1
    have f1 : upd H3 l1 (.lst []) l1 = some (.lst []) := upd_same
    generalize upd H3 l1 (.lst []) = H4 at *
    refine ⟨by show 1 ≤ sizeLine; decide, fun l2 h2 => ?_⟩
    have s5 := same_upd (o := .lst [V.non]) h2
    have f1 := s5 _ _ f1
    have f2 : upd H4 l2 (.lst [V.non]) l2 = some (.lst [V.non]) := upd_same
    generalize upd H4 l2 (.lst [V.non]) = H5 at *
    refine ⟨by show 1 ≤ sizeLine; decide, fun l0 h0 => ?_⟩
    have s6 := same_upd (o := .lst [V.non]) h0
    have f1 := s6 _ _ f1
    have f2 := s6 _ _ f2
    have f0 : upd H5 l0 (.lst [V.non]) l0 = some (.lst [V.non]) := upd_same
    generalize upd H5 l0 (.lst [V.non]) = H6 at *
    refine ⟨l0, 21, _, rfl, rfl, f0, by decide, by decide, by show 1 * 21 ≤ sizeLine; decide, fun l3 h3 => ?_⟩
    have s7 := same_upd (o := .lst (List.replicate (21 : Int).toNat [V.non]).flatten) h3
    have f1 := s7 _ _ f1
    have f2 := s7 _ _ f2
    obtain ⟨ws, ew⟩ : ∃ ws : List V, (List.replicate (21 : Int).toNat [V.non]).flatten = ws := ⟨_, rfl⟩
    rw [ew] at s7 f1 f2 ⊢
    have f3 : upd H6 l3 (.lst ws) l3 = some (.lst ws) := upd_same
    generalize upd H6 l3 (.lst ws) = H7 at *
    refine ⟨by show 3 ≤ sizeLine; decide, fun tt htt => ?_⟩
    have s8 := same_upd (o := .tup [.ref l1, .ref l2, .ref l3]) htt
    have f1 := s8 _ _ f1
    have f2 := s8 _ _ f2
    have f3 := s8 _ _ f3
    have ft : upd H7 tt (.tup [.ref l1, .ref l2, .ref l3]) tt = some (.tup [.ref l1, .ref l2, .ref l3]) := upd_same
    generalize upd H7 tt (.tup [.ref l1, .ref l2, .ref l3]) = H8 at *
    have s38 := (((s4.trans s5).trans s6).trans s7).trans s8
    have p8 := p3.same s38
    have ov8 := ov3.same s38
    have T8 := T3.ext s38
    have bn8 : BN p H H8 := bn3.trans (BN.same s38)
    have lst : ∀ x ∈ [V.ref l1, V.ref l2, V.ref l3], ∃ l xs, x = .ref l ∧ H8 l = some (.lst xs) := fun x hx => by
      simp only [List.mem_cons, List.not_mem_nil, or_false] at hx
      rcases hx with rfl | rfl | rfl
      · exact ⟨_, _, rfl, f1⟩
      · exact ⟨_, _, rfl, f2⟩
      · exact ⟨_, _, rfl, f3⟩
    clear s4 s5 s6 s7 s8 h1 h2 h0 h3 htt s38
    refine ⟨tt, rfl, ⟨_, SqT.of ft⟩, ?_⟩
    refine for_tup (a := tt) (xs := [V.ref l1, V.ref l2, V.ref l3]) (fun i σ H9 => ∃ v2, σ = [some (.ref p), some v, v2] ∧ BN p H8 H9 ∧ Pen H9 p c (n + 1) ∧ Tabs T H9) ⟨none, rfl, BN.refl _ _, p8, T8⟩ (fun i σ H2 _ z => by
      obtain ⟨_, _, z, _⟩ := z
      exact SqT.of (z.tup p8 ft)) ?_ ?_
    · rintro i x σ H9 hx ⟨v2, rfl, b9, p9, T9⟩
      obtain ⟨l, xs, rfl, el⟩ := lst x (List.mem_of_getElem? hx)
      have el9 := b9.lst p8 el
      refine lam_err (i := 1) (v := v) (by decide) T9 (fun H10 E eN T1 hE Q' => ?_) (fun t H10 eN T10 et => ?_)
      · exact ⟨_, rfl, _, rfl, mk_size ((ov8.bn b9 p8).extN eN).ok nb (.inl (SqL.of (ext_lst eN el9))) hE⟩
      refine ⟨_, rfl, t, nmR 1, v, rfl, et, ((ov8.bn b9 p8).extN eN).tv, _, rfl, iteF (nxt ?_)⟩
      exact ⟨_, rfl, b9.trans (BN.ext eN), p9.extN eN, T10⟩
    · rintro σ H9 ⟨v2, rfl, b9, p9, T9⟩
      have hQ' : ∀ H', Same H9 H' → Q (.bl true) H' := fun H' s' => hQ H' ((bn8.trans b9).trans (BN.same s')) (T9.ext s') (p9.same s')
      clear hQ lst
      have q1 : ∀ H', Same H9 H' → Q (.bl true) H' := fun H' s' => hQ' H' s'
      refine make_marks (R := E0a) (k := 1) (by decide) (by decide) (W.e0 _) .nil (fun r hr => absurd hr List.not_mem_nil) (by decide) fun M L2 H10 s10 _ _ m1 => ?_
      obtain ⟨dx6, ps6, hA6, _, _⟩ := m1.ex
      refine ⟨M, C, dx6, _, .int 1, rfl, hA6, W.L.M.c, W.L.M.size, rfl, rfl, true, congrArg V.bl (decide_eq_true rfl), iteT ?_⟩
      refine ⟨10, 30, rfl, rfl, ⟨by decide, by decide, by decide⟩, 10, 30, rfl, rfl, ⟨by decide, by decide, by decide⟩, _, 1, rfl, rfl, by show 3 ≤ sizeLine; decide, fun d0 hd0 => ?_⟩
      have u1 := same_upd (o := .tup [.int 0, .int ((10 : Int) ^ (30 : Int).toNat - 1), .int 1]) hd0
      refine ⟨by show 1 ≤ sizeLine; decide, fun d1 hd1 => ?_⟩
      have u2 := same_upd (o := .lst [.ref d0]) hd1
      have k1 : 1 ≤ (10 : Int) ^ (30 : Int).toNat := by decide
      have k2 : (10 : Int) ^ (30 : Int).toNat ≤ 10 ^ 30 := by decide
      have ro : ∀ r ∈ ([(0, (10 : Int) ^ (30 : Int).toNat - 1, 1)] : List (Int × Int × Int)), RunOk r ((10 : Int) ^ (30 : Int).toNat) := fun r hr => by
        rw [List.mem_singleton.mp hr]
        exact ⟨Int.le_refl _, by show 0 ≤ (10 : Int) ^ (30 : Int).toNat - 1; omega, by show (10 : Int) ^ (30 : Int).toNat - 1 < _; omega, Int.le_refl _, by show (1 : Int) ≤ 4; decide⟩
      refine make_marks (k := (10 : Int) ^ (30 : Int).toNat) (rs := [(0, (10 : Int) ^ (30 : Int).toNat - 1, 1)]) k1 k2 (.inl (SqL.of upd_same)) (.cons (.inr (u2 _ _ upd_same)) .nil) ro (by show 1 ≤ 20; decide) fun M2 L3 H11 s11 _ _ m2 => ?_
      obtain ⟨dx7, ps7, hA7, _, _⟩ := m2.ex
      refine ⟨M2, dx7, _, rfl, hA7, rfl, M2, _, 0, _, rfl, m2.at_, fun H12 s12 => ?_⟩
      refine ⟨10, 30, rfl, rfl, ⟨by decide, by decide, by decide⟩, rfl, ?_⟩
      have z : V.int ((nMk (runsP ((10 : Int) ^ (30 : Int).toNat) [(0, (10 : Int) ^ (30 : Int).toNat - 1, 1)]) (12 * 2 ^ 0) ((10 : Int) ^ (30 : Int).toNat).toNat : Nat) : Int) = V.int ((10 : Int) ^ (30 : Int).toNat) := by
        refine congrArg V.int ?_
        rw [show 12 * 2 ^ 0 = 12 from rfl]
        generalize (10 : Int) ^ (30 : Int).toNat = kk at *
        rw [nMk_full (by omega)]
        omega
      rw [decide_eq_true z]
      exact hQ' _ ((((s10.trans u1).trans u2).trans s11).trans s12)
end
end Aw

namespace Aw
open PySem PySem.Spec PyProof.Rows L2 NdefX LamX
def brQ (c : Addr) : Str := (envOfC "_law_bits_refused" (defScope sLBr) 0 0 (.ref c)).qual ++ "<lambda>"
def spLBr (T : List (Addr × Str)) : Sp := fun vs H Q _ => ∃ (p c : Addr) (n : Nat), vs = [.ref p] ∧ Pen H p c n ∧ n ≤ 500000 ∧ Tabs T H ∧ ∀ H', BN p H H' → Tabs T H' → Pen H' p c (n + 20) → Q (.bl true) H'
/-- what stands while the lambdas are made -/
structure Kb (T : List (Addr × Str)) (p c : Addr) (n : Nat) (B : Addr) (ws : List Bool) (odd : V) (H0 H : Hp) : Prop where
  bn : BN p H0 H
  pn : Pen H p c n
  tb : Tabs T H
  eB : H B = some (.lst (ws.map bV))
  ov : OV H odd
section
variable {T : List (Addr × Str)} {p c : Addr} {n : Nat} {B : Addr} {ws : List Bool} {odd : V} {H0 H H' : Hp}
theorem Kb.same (g : Kb T p c n B ws odd H0 H) (s : Same H H') : Kb T p c n B ws odd H0 H' := ⟨g.bn.trans (BN.same s), g.pn.same s, g.tb.ext s, s _ _ g.eB, g.ov.same s⟩
theorem Kb.ext (g : Kb T p c n B ws odd H0 H) (s : ExtN H H') (t : Tabs T H') : Kb T p c n B ws odd H0 H' := ⟨g.bn.trans (BN.ext s), g.pn.extN s, t, ext_lst s g.eB, g.ov.extN s⟩
end
theorem bits_ok {H : Hp} {ws : List Bool} : ∀ x ∈ ws.map bV, VOk H x := fun x hx => by
  obtain ⟨b, _, rfl⟩ := List.mem_map.mp hx
  exact .int _
theorem bits_num {ws : List Bool} : ∀ x ∈ ws.map bV, numB x 0 1 = true := fun x hx => by
  obtain ⟨b, _, rfl⟩ := List.mem_map.mp hx
  cases b <;> rfl
section
variable {P : Program} {w : World} {K : PySem.W.Frag} {mg : Str → Option Value} {base : Heap} {C CW cc PT fR fS fI pF : Addr} {Ce : Nat → Addr} {rd sd id : FuncData} {T : List (Addr × Str)} {mc : Value}
structure TxtBr (P : Program) (w : World) (K : PySem.W.Frag) (mg : Str → Option Value) (base : Heap) (C CW cc PT fR fS fI pF : Addr) (Ce : Nat → Addr) (rd sd id : FuncData) (T : List (Addr × Str)) (mc : Value) (fD fB fK fF : Addr) (dD dB dK dF : FuncData) : Prop where
  L : TxtL16 P w K mg base C CW Ce fR fS fI rd sd id
  TB : TabB base mg cc PT
  hm : (PT, brQ cc) ∈ T
  hu : ∀ p ∈ T, p.1 = PT → p.2 = brQ cc
  len : mg "len" = none
  GD : FnOk P w K mg base CX0 1 fD dD ["_law_pen_here", "_law_many"] spDraw
  kD : PySem.W.keepIn K (.ref fD) = true
  bD : Binds K dD ["_law_pen_here", "_law_many"] []
  gD : mg "_law_draw" = some (.ref fD)
  GB : FnOk P w K mg base CX0 3 fB dB ["_law_pen_here", "_law_many"] spLBits
  kB : PySem.W.keepIn K (.ref fB) = true
  bB : Binds K dB ["_law_pen_here", "_law_many"] []
  gB : mg "_law_bits" = some (.ref fB)
  GK : FnOk P w K mg base CX0 2 fK dK ["_law_pen_here", "_law_some"] (spPick K)
  kK : PySem.W.keepIn K (.ref fK) = true
  bK : Binds K dK ["_law_pen_here", "_law_some"] []
  gK : mg "_law_pick" = some (.ref fK)
  cr : ClX.CRead K C mc
  cm : ClX.CMet K C mc "of_bits" pF fF
  GF : FnOk P w K mg base (L2.CX P w) 6 fF dF ["cls", "bits"] (spOfB C (Ce 1) (Ce 2))
  bF : Binds K dF ["cls", "bits"] []
theorem scLBr : FnScope ["_law_pen_here", "_law_bits_here", "_law_spot", "_law_odd", "_law_wrong", "_law_long", "_law_bit"] ["_law_pen_here"] (defScope sLBr) := ⟨rfl, rfl, rfl, by decide +kernel, rfl, by decide +kernel, by decide +kernel⟩
theorem ok_lbr {f fD fB fK fF : Addr} {fd dD dB dK dF : FuncData} (F : Fun K "_law_bits_refused" "_law_bits_refused" sLBr f fd) (hc : fd.code = .ref cc) (W : TxtBr P w K mg base C CW cc PT fR fS fI pF Ce rd sd id T mc fD fB fK fF dD dB dK dF) :
    FnOk P w K mg base CX0 9 f fd ["_law_pen_here"] (spLBr T) := by
  obtain ⟨ocR, odR, kVR, docR, pmR, anR, cdR, ctR, oslR, eR, lkR, hcR⟩ := W.L.FR_.ex
  subst eR
  have bR := W.L.bR
  refine Fun_okC F hc scLBr (fun vs H Q E h => ?_) (fun A outer s H vs Q E hr h => ?_)
  · obtain ⟨p, c, n, rfl, _⟩ := h
    rfl
  · obtain ⟨p, c, n, rfl, pn, hn, hT, hQ⟩ := h
    have nd := scLBr.nd
    refine ⟨_, (pss_cons (ps_set (i := 1) nd rfl (Or.inr rfl) (pe_call W.GB (hr.mono (by decide)) (by rfl) W.gB W.kB W.bB .nil pass0 (pa_cons (pv 0) (pa_cons (pe_op op_add pe_int (pe_call W.GD (hr.mono (by decide)) (by rfl) W.gD W.kD W.bD .nil pass0 (pa_cons (pv 0) (pa_cons pe_int pa_nil)))) pa_nil))))
      (pss_cons (ps_asg (pe_tup (pa_cons (pe_call W.GD (hr.mono (by decide)) (by rfl) W.gD W.kD W.bD .nil pass0 (pa_cons (pv 0) (pa_cons (pe_callB call_len_seq (by rfl) W.len PySem.boot_len (pa_cons (pv 1) pa_nil)) pa_nil))) (pa_cons (pe_call W.GK (hr.mono (by decide)) (by rfl) W.gK W.kK W.bK .nil pass0 (pa_cons (pv 0) (pa_cons (pe_lst (pa_cons pe_int (pa_cons (pe_un un_neg pe_int) (pa_cons pe_bl (pa_cons pe_bl (pa_cons pe_non (pa_cons pe_str (pa_cons (pe_tup (pa_cons pe_int pa_nil)) pa_nil)))))))) pa_nil))) pa_nil))) (pg_tup rfl (pgs_cons (pg_name (i := 2) nd rfl (Or.inl rfl)) (pgs_cons (pg_name (i := 3) nd rfl (Or.inr rfl)) pgs_nil))))
      (pss_cons (ps_set (i := 4) nd rfl (Or.inr rfl) (pe_op op_cat (pe_op op_cat (pe_slice sl_list (pv 1) po_none (po_some (pv 2))) (pe_lst (pa_cons (pv 3) pa_nil))) (pe_lc (own := [("_law_bit", 6)]) (g := (gName 6)) (tt := tYes) rfl nd (pi_list (pe_slice sl_list (pv 1) (po_some (pe_op op_add (pv 2) pe_int)) po_none)) (blkOk_by (own := [("_law_bit", 6)]) (N := ["_law_pen_here", "_law_bits_here", "_law_spot", "_law_odd", "_law_wrong", "_law_long", "_law_bit"]) (sc := defScope sLBr) (by decide +kernel)) (fun _ _ _ _ _ => (pg_name (i := 6) nd rfl (Or.inl rfl))) (fun _ _ _ _ _ => pts_nil) (fun _ _ _ _ _ => pe_non))))
      (pss_cons (ps_if (pt_not (pt_val (pe_call W.L.GS (hr.mono (by decide)) (by rfl) W.L.gS W.L.kS W.L.bS .nil pass0 (pa_cons (pe_lamcall (T := T) (TT := TTRf Ce) (k := 6) rfl W.L.gR W.L.FR_.kp lkR hcR bR scLRf rfl (.inl rfl) (rf_gives W.L.R) W.TB rfl W.hm W.hu hr (lamS_by (by show lamSB (defScope sLBr) _ = true; decide +kernel)) rfl (fun _ _ _ _ _ => rfl) (fun A outer s H E f c' hr2 => (pe_cmethS (pe_glob (v := .ref C) (by rfl) W.L.gM rfl) W.cr W.cm W.GF (hr2.mono (by decide)) W.bF (fun σ => passAt (takes_of rfl rfl rfl rfl) σ) (pa_cons (pv 4) pa_nil)))) (pa_cons pe_str (pa_cons (pv 2) pa_nil))))))
        (pss_one (ps_ret pe_bl)) pss_nil)
      (pss_cons (ps_set (i := 5) nd rfl (Or.inr rfl) (pe_op op_add pe_int (pe_call W.GD (hr.mono (by decide)) (by rfl) W.gD W.kD W.bD .nil pass0 (pa_cons (pv 0) (pa_cons pe_int pa_nil)))))
      (pss_cons (ps_if (pt_not (pt_val (pe_call W.L.GS (hr.mono (by decide)) (by rfl) W.L.gS W.L.kS W.L.bS .nil pass0 (pa_cons (pe_lamcall (T := T) (TT := TTRf Ce) (k := 6) rfl W.L.gR W.L.FR_.kp lkR hcR bR scLRf rfl (.inl rfl) (rf_gives W.L.R) W.TB rfl W.hm W.hu hr (lamS_by (by show lamSB (defScope sLBr) _ = true; decide +kernel)) rfl (fun _ _ _ _ _ => rfl) (fun A outer s H E f c' hr2 => (pe_cmethS (pe_glob (v := .ref C) (by rfl) W.L.gM rfl) W.cr W.cm W.GF (hr2.mono (by decide)) W.bF (fun σ => passAt (takes_of rfl rfl rfl rfl) σ) (pa_cons (pe_op op_rep (pe_lst (pa_cons (pv 3) pa_nil)) (pv 5)) pa_nil)))) (pa_cons pe_str (pa_cons (pv 5) pa_nil))))))
        (pss_one (ps_ret pe_bl)) pss_nil)
      (pss_cons (ps_if (pt_cmpR op_notN (pe_lamcall (T := T) (TT := TTRf Ce) (k := 6) rfl W.L.gR W.L.FR_.kp lkR hcR bR scLRf rfl (.inl rfl) (rf_gives W.L.R) W.TB rfl W.hm W.hu hr (lamS_by (by show lamSB (defScope sLBr) _ = true; decide +kernel)) rfl (fun _ _ _ _ _ => rfl) (fun A outer s H E f c' hr2 => (pe_cmethS (pe_glob (v := .ref C) (by rfl) W.L.gM rfl) W.cr W.cm W.GF (hr2.mono (by decide)) W.bF (fun σ => passAt (takes_of rfl rfl rfl rfl) σ) (pa_cons (pv 1) pa_nil)))) pe_non (nomark _))
        (pss_one (ps_ret pe_bl)) pss_nil)
      (pss_one (ps_ret (pe_call W.L.GS (hr.mono (by decide)) (by rfl) W.L.gS W.L.kS W.L.bS .nil pass0 (pa_cons (pe_lamcall (T := T) (TT := TTRf Ce) (k := 6) rfl W.L.gR W.L.FR_.kp lkR hcR bR scLRf rfl (.inl rfl) (rf_gives W.L.R) W.TB rfl W.hm W.hu hr (lamS_by (by show lamSB (defScope sLBr) _ = true; decide +kernel)) rfl (fun _ _ _ _ _ => rfl) (fun A outer s H E f c' hr2 => (pe_cmethS (pe_glob (v := .ref C) (by rfl) W.L.gM rfl) W.cr W.cm W.GF (hr2.mono (by decide)) W.bF (fun σ => passAt (takes_of rfl rfl rfl rfl) σ) (pa_cons (pe_lst pa_nil) pa_nil)))) (pa_cons pe_str (pa_cons pe_int pa_nil))))))))))))), ?_⟩
    -- BODY
    refine ⟨_, rfl, _, rfl, p, c, 60, n, rfl, pn, by omega, by decide, by decide, fun r H1 r0 r1 b1 p1 => ?_⟩
    refine ⟨1, r, rfl, rfl, ?_⟩
    obtain ⟨m, em⟩ : ∃ m : Nat, 1 + r = (m : Nat) := ⟨(1 + r).toNat, by omega⟩
    refine ⟨p, c, m, _, by rw [← em]; rfl, by omega, by omega, p1, by omega, fun ws B H2 lw b2 hB eB p2 => ?_⟩
    have lx : (ws.map bV).length = m := by rw [List.length_map, lw]
    refine ⟨_, rfl, _, rfl, B, _, rfl, .inl (SqL.of eB), p, c, _, _, rfl, p2, by omega, by omega, by omega, fun sp H3 q0 q1 b3 p3 => ?_⟩
    obtain ⟨sp, rfl⟩ : ∃ m : Nat, sp = (m : Nat) := ⟨sp.toNat, by omega⟩
    refine ⟨_, rfl, 1, rfl, by show 1 ≤ sizeLine; decide, fun t4 h4 => ?_⟩
    have s1 := same_upd (o := .tup [.int 0]) h4
    have e4 : upd H3 t4 (.tup [.int 0]) t4 = some (.tup [.int 0]) := upd_same
    generalize upd H3 t4 (.tup [.int 0]) = H4 at *
    refine ⟨by show 7 ≤ sizeLine; decide, fun L hL => ?_⟩
    have s2 := same_upd (o := .lst [V.int 2, V.int (-1), V.bl true, V.bl false, V.non, V.str "1", V.ref t4]) hL
    have eL : upd H4 L (.lst [V.int 2, V.int (-1), V.bl true, V.bl false, V.non, V.str "1", V.ref t4]) L = some (.lst [V.int 2, V.int (-1), V.bl true, V.bl false, V.non, V.str "1", V.ref t4]) := upd_same
    have e42 := s2 _ _ e4
    generalize upd H4 L (.lst [V.int 2, V.int (-1), V.bl true, V.bl false, V.non, V.str "1", V.ref t4]) = H5 at *
    have p5 := (p3.same s1).same s2
    refine ⟨p, c, L, _, _, rfl, p5, by omega, SqL.of eL, by show 0 < 7; decide, by show 7 ≤ 1000000; decide, fun r1 odd H6 ge b6 p6 => ?_⟩
    have hv : OV H5 odd ∧ numB odd 0 1 = false := by
      have hm := List.mem_of_getElem? ge
      simp only [List.mem_cons, List.not_mem_nil, or_false] at hm
      rcases hm with rfl | rfl | rfl | rfl | rfl | rfl | rfl
      · exact ⟨.int _, by decide⟩
      · exact ⟨.int _, by decide⟩
      · exact ⟨.bl _, rfl⟩
      · exact ⟨.bl _, rfl⟩
      · exact ⟨.non, rfl⟩
      · exact ⟨.str _ (by decide) (by decide +kernel), rfl⟩
      · exact ⟨.tup e42, rfl⟩
    obtain ⟨ov, nb⟩ := hv
    have ov6 := ov.bn (BN.but b6) p5
    have b26 : But p H2 H6 := ((b3.trans (But.same s1)).trans (But.same s2)).trans b6
    have b06 : But p H H6 := (b1.trans b2).trans b26
    have eB6 := but_lst b26 p2 eB
    have T6 := tabs_but hT b06 pn
    have bn6 : BN p H H6 := BN.but b06
    have g : Kb T p c (n + 19) B ws odd H H6 := ⟨bn6, p6.mono (by omega), T6, eB6, ov6⟩
    clear ov eL e42 e4 s1 s2 b6 b3 b26 b06 ge eB eB6 ov6 T6 bn6 p6
    refine ⟨by show 2 ≤ sizeLine; decide, fun tp htp => ?_⟩
    have g := g.same (same_upd (o := .tup [.int (sp : Nat), odd]) htp)
    have etp : upd H6 tp (.tup [.int (sp : Nat), odd]) tp = some (.tup [.int (sp : Nat), odd]) := upd_same
    generalize upd H6 tp (.tup [.int (sp : Nat), odd]) = H7 at *
    refine ⟨tp, _, rfl, SqT.of etp, rfl, _, _, rfl, _, _, rfl, rfl, ?_⟩
    refine ⟨_, rfl, _, rfl, _, rfl, B, _, rfl, SqL.of g.eB, fun a1 h1 => ?_⟩
    have g := g.same (same_upd (o := .lst (cutV (ws.map bV) none (some (sp : Int)))) h1)
    have q1 : upd H7 a1 (.lst (cutV (ws.map bV) none (some (sp : Int)))) a1 = some (.lst ((ws.map bV).take sp)) := by rw [upd_same, cut_pre (by omega)]
    generalize upd H7 a1 (.lst (cutV (ws.map bV) none (some (sp : Int)))) = H8 at *
    refine ⟨_, rfl, by show 1 ≤ sizeLine; decide, fun a2 h2 => ?_⟩
    have s9 := same_upd (o := .lst [odd]) h2
    have g := g.same s9
    have q1 := s9 _ _ q1
    have q2 : upd H8 a2 (.lst [odd]) a2 = some (.lst [odd]) := upd_same
    generalize upd H8 a2 (.lst [odd]) = H9 at *
    have l1 : ((ws.map bV).take sp).length = sp := by rw [List.length_take]; omega
    refine ⟨a1, a2, _, _, rfl, rfl, q1, q2, Nat.le_trans (show ((ws.map bV).take sp).length + 1 ≤ 1000 by omega) kz, fun a3 h3 => ?_⟩
    have g := g.same (same_upd (o := .lst ((ws.map bV).take sp ++ [odd])) h3)
    have q3 : upd H9 a3 (.lst ((ws.map bV).take sp ++ [odd])) a3 = some (.lst ((ws.map bV).take sp ++ [odd])) := upd_same
    generalize upd H9 a3 (.lst ((ws.map bV).take sp ++ [odd])) = H10 at *
    have ec : (sp : Int) + 1 = ((sp + 1 : Nat) : Int) := by omega
    refine ⟨_, rfl, _, rfl, _, 1, rfl, rfl, _, rfl, B, _, rfl, SqL.of g.eB, fun a4 h4 => ?_⟩
    have s11 := same_upd (o := .lst (cutV (ws.map bV) (some ((sp : Int) + 1)) none)) h4
    have g := g.same s11
    have q3 := s11 _ _ q3
    obtain ⟨us, eu, lu⟩ : ∃ us : List V, cutV (ws.map bV) (some ((sp : Int) + 1)) none = us ∧ us.length ≤ m := ⟨_, rfl, by rw [ec, cut_post (by omega), List.length_drop]; omega⟩
    rw [eu] at g q3 s11 ⊢
    have q4 : upd H10 a4 (.lst us) a4 = some (.lst us) := upd_same
    generalize upd H10 a4 (.lst us) = H11 at *
    refine ⟨a4, rfl, ⟨_, SqL.of q4⟩, fun a5 h5 => ?_⟩
    refine lc_list (a := a4) (xs := us) (fun i H12 => Same H11 H12 ∧ H12 a5 = some (.lst (List.replicate i V.non))) ⟨same_upd h5, upd_same⟩ (fun i H9 _ z => SqL.of (z.1 _ _ q4)) ?_ ?_
    · rintro i v H12 hv ⟨s12, e5⟩
      have hi : i < us.length := (List.getElem?_eq_some_iff.mp hv).1
      refine ⟨rfl, _, e5, by rw [List.length_replicate]; exact Nat.lt_of_lt_of_le (show i < 1000 by omega) kz, same_fresh h5 s12, ?_⟩
      rw [upd_same, List.replicate_succ']
    rintro H12 ⟨s12, e5⟩
    have g := g.same s12
    have q3 := s12 _ _ q3
    have l3 : ((ws.map bV).take sp ++ [odd]).length = sp + 1 := by rw [List.length_append, l1]; rfl
    refine ⟨a3, a5, _, _, rfl, rfl, q3, e5, by rw [l3, List.length_replicate]; exact Nat.le_trans (show sp + 1 + us.length ≤ 1000 by omega) kz, fun a6 h6 => ?_⟩
    have g := g.same (same_upd (o := .lst ((ws.map bV).take sp ++ [odd] ++ List.replicate us.length V.non)) h6)
    obtain ⟨hs, eh⟩ : ∃ hs : List V, (ws.map bV).take sp ++ [odd] ++ List.replicate us.length V.non = hs := ⟨_, rfl⟩
    have lh : hs.length = sp + 1 + us.length := by rw [← eh, List.length_append, l3, List.length_replicate]
    have lh2 : hs.length ≤ 60 := by
      rw [lh]
      have : us.length ≤ m - (sp + 1) := by rw [← eu, ec, cut_post (by omega), List.length_drop, lx]; exact Nat.le_refl _
      omega
    have eh2 : hs = (ws.map bV).take sp ++ odd :: List.replicate us.length V.non := by rw [← eh, List.append_assoc]; rfl
    rw [eh] at g ⊢
    have q6 : upd H12 a6 (.lst hs) a6 = some (.lst hs) := upd_same
    generalize upd H12 a6 (.lst hs) = H13 at *
    have fo : firstOdd hs sp := ⟨fun j y hj e => by
      rw [eh2, List.getElem?_append_left (by omega)] at e
      exact bits_num y (List.mem_of_mem_take (List.mem_of_getElem? e)), odd, by rw [eh2, List.getElem?_append_right (by omega), l1, Nat.sub_self]; rfl, nb⟩
    have okH : ∀ {H' : Hp}, OV H' odd → ∀ x ∈ hs, VOk H' x := fun {H'} o x hx => by
      rw [eh2] at hx
      rcases List.mem_append.mp hx with hx | hx
      · exact bits_ok x (List.mem_of_mem_take hx)
      rcases List.mem_cons.mp hx with rfl | hx
      · exact o.ok
      · rw [List.eq_of_mem_replicate hx]
        exact .non
    -- the odd bit
    refine lam_err (i := 2) (v := .int (sp : Nat)) (by decide) g.tb (fun H1 E eN T1 hE Q' => ?_) (fun t H14 eN T14 et => ?_)
    · have g1 := g.ext eN T1
      have so : sizeOk hs.length 60 := ⟨by omega, by omega⟩
      refine ⟨rfl, _, rfl, a6, hs, rfl, ⟨.inl (ext_lst eN q6), okH g1.ov, by omega⟩, fun z => absurd so z, fun _ i hi d H' s' _ e => ?_, fun _ w' ew => ?_⟩
      · have ei : i = sp := by
          rcases Nat.lt_trichotomy i sp with z | z | z
          · obtain ⟨x, ex, nx⟩ := hi.2
            rw [fo.1 i x z ex] at nx
            cases nx
          · exact z
          · obtain ⟨x, ex, nx⟩ := fo.2
            rw [hi.1 sp x z ex] at nx
            cases nx
        rw [ei] at e
        exact hE d H' s' e
      · obtain ⟨x, ex, nx⟩ := fo.2
        rw [ew] at ex
        rw [bits_num x (List.mem_of_getElem? ex)] at nx
        cases nx
    have g := g.ext eN T14
    refine ⟨_, rfl, t, nmR 2, .int (sp : Nat), rfl, et, TV.int _, _, rfl, iteF (nxt ?_)⟩
    -- too long
    refine ⟨_, rfl, p, c, 5, _, rfl, g.pn, by omega, by decide, by decide, fun r2 H15 r20 r21 b15 p15 => ?_⟩
    refine ⟨61, r2, rfl, rfl, ?_⟩
    have g : Kb T p c (n + 20) B ws odd H H15 := ⟨g.bn.trans (BN.but b15), p15.mono (by omega), tabs_but g.tb b15 g.pn, but_lst b15 g.pn g.eB, g.ov.bn (BN.but b15) g.pn⟩
    refine lam_err (i := 1) (v := .int (61 + r2)) (by decide) g.tb (fun H1 E eN T1 hE Q' => ?_) (fun t H16 eN T16 et => ?_)
    · have g1 := g.ext eN T1
      refine ⟨rfl, _, rfl, by show 1 ≤ sizeLine; decide, fun d1 hd1 => ⟨_, rfl, d1, 61 + r2, _, rfl, rfl, upd_same, by omega, by omega, Nat.le_trans (show 1 * (61 + r2).toNat ≤ 1000 by omega) kz, fun d2 hd2 => ?_⟩⟩
      have t1 := same_upd (o := .lst [odd]) hd1
      have t2 := same_upd (o := .lst (List.replicate (61 + r2).toNat [odd]).flatten) hd2
      have lf : (List.replicate (61 + r2).toNat [odd]).flatten.length = (61 + r2).toNat := by simp
      have ns : ¬ sizeOk (List.replicate (61 + r2).toNat [odd]).flatten.length 60 := fun z => by
        rw [lf] at z
        have := z.2
        omega
      refine ⟨d2, _, rfl, ⟨.inl upd_same, fun x hx => ?_, by rw [lf]; omega⟩, fun _ d H' s' _ e => ?_, fun z => absurd z ns, fun z => absurd z ns⟩
      · obtain ⟨l, hl, hx⟩ := List.mem_flatten.mp hx
        rw [List.eq_of_mem_replicate hl] at hx
        rw [List.mem_singleton.mp hx]
        exact ((g1.ov.same t1).same t2).ok
      · rw [lf, show (((61 + r2).toNat : Nat) : Int) = 61 + r2 by omega] at e
        exact hE d H' ((t1.trans t2).trans s') e
    have g := g.ext eN T16
    refine ⟨_, rfl, t, nmR 1, .int (61 + r2), rfl, et, TV.int _, _, rfl, iteF (nxt ?_)⟩
    -- the good bits
    refine lam_non g.tb (fun H1 E Q' eN T1 hQ' => ?_) (fun H17 eN T17 => ?_)
    · have g1 := g.ext eN T1
      refine ⟨rfl, _, rfl, B, _, rfl, ⟨.inl g1.eB, bits_ok, by omega⟩, fun z => absurd (⟨by omega, by omega⟩ : sizeOk (ws.map bV).length 60) z, fun _ i hi => ?_, fun _ w' _ a L' H' s' _ _ _ => hQ' _ H' s'⟩
      obtain ⟨x, ex, nx⟩ := hi.2
      rw [bits_num x (List.mem_of_getElem? ex)] at nx
      cases nx
    have g := g.ext eN T17
    refine ⟨rfl, false, congrArg V.bl (by decide), iteF (nxt ?_)⟩
    -- no bits
    refine lam_err (i := 1) (v := .int ((0 : Nat) : Int)) (by decide) g.tb (fun H1 E eN T1 hE Q' => ?_) (fun t H18 eN T18 et => ?_)
    · have ns : ¬ sizeOk ([] : List V).length 60 := fun z => absurd z.1 (by decide)
      refine ⟨rfl, by show 0 ≤ sizeLine; decide, fun d1 hd1 => ⟨d1, [], rfl, ⟨.inl upd_same, fun x hx => absurd hx List.not_mem_nil, Nat.zero_le _⟩, fun _ d H' s' _ e => hE d H' ((same_upd hd1).trans s') e, fun z => absurd z ns, fun z => absurd z ns⟩⟩
    have g := g.ext eN T18
    exact ⟨t, nmR 1, .int ((0 : Nat) : Int), rfl, et, TV.int _, hQ H18 g.bn g.tb g.pn⟩
end
end Aw

namespace Aw
open PySem PySem.Spec PyProof.Rows L2 NdefX
section
variable {X : Cx} {CX : CXT} {k : Nat} {C f : Addr} {sp : Sp} {o : Expr} {m : Str} {pos apos : Pos} {ta : TE} {pl : Sem Bool} {fd : FuncData} {ps : List Str} {E : Aw.St → XK}
def tMeth0w (C : Addr) (m : Str) (sp : Sp) (E : Aw.St → XK) (ta : TE) : TE := fun σ H Q => ta σ H fun x H1 => ∃ a dx fs, x = .ref a ∧ H1 a = some (.ins C dx fs) ∧ fs.lookup m = none ∧ sp [x] H1 Q (E σ)
/-- o.m(), an own method that may raise within a try -/
theorem pe_meth0w (he : PE X o ta) (c : Cls X.K C) (hm : Meth X.K C m f) (F : FnOk X.prog X.w X.K X.mg X.base CX k f fd ps sp) (hr : Room k X.A) (hb : Binds X.K fd ps []) (hx : ∀ σ, PassesAt CX X σ (E σ))
    (ht : eval (.Call (.Attribute o m apos) [] [] pos) X.env = (do
      let ov ← eval o X.env
      standAt apos.atName
      let (f, first) ← holding [ov] (getMethod ov m pl)
      callWith pos f first (backTo pos (starEach [] X.env)) (backToKw pos (keywordEach [] X.env))) := by rfl) :
    PE X (.Call (.Attribute o m apos) [] [] pos) (tMeth0w C m sp E ta) := by
  refine ⟨fun pins s σ H Q I h => ?_⟩
  refine PySem.W.methodCall_KW (pl := pl) (thn (he.run pins s σ H _ I h) fun u s1 ⟨x, H1, I1, rx, a, dx, fs, ex, ea, l, q⟩ => ?_) ht
  subst ex
  obtain rfl : u = Value.ref a := rx
  refine getmeth_ok I1 ea c hm l ?_
  exact PySem.W.callWith_K0 (first := [.ref a]) I1.kIn hm.kp (run_fnS (us := [.ref a]) (vs := [.ref a]) F hr hb (hx σ) I1 (.cons rfl .nil) q)
end
end Aw

namespace Aw
open PySem PySem.Spec PyProof.Rows L2 NdefX LamX
def arQ (c : Addr) : Str := (envOfC "_law_asked_refused" (defScope sLAr) 0 0 (.ref c)).qual ++ "<lambda>"
def spLAr (T : List (Addr × Str)) (C : Addr) : Sp := fun vs H Q _ => ∃ (p c M : Addr) (k : Int) (n d : Nat) (Pm : Pcs), vs = [.ref p, .int k, .ref M] ∧ 1 ≤ k ∧ k ≤ T30 ∧ Pen H p c n ∧ n ≤ 500000 ∧ Tabs T H ∧ MkAt C H M Pm d k ∧
  ∀ H', BN p H H' → Tabs T H' → Pen H' p c (n + 3) → Q (.bl true) H'
/-- what stands while the lambdas are made -/
structure Ka (C : Addr) (T : List (Addr × Str)) (p c : Addr) (n : Nat) (M : Addr) (Pm : Pcs) (d : Nat) (k : Int) (odd : V) (H0 H : Hp) : Prop where
  bn : BN p H0 H
  pn : Pen H p c n
  tb : Tabs T H
  mA : MkAt C H M Pm d k
  ov : OV H odd
section
variable {C : Addr} {T : List (Addr × Str)} {p c : Addr} {n m : Nat} {M : Addr} {Pm : Pcs} {d : Nat} {k : Int} {odd : V} {H0 H H' : Hp}
theorem Ka.same (g : Ka C T p c n M Pm d k odd H0 H) (s : Same H H') : Ka C T p c n M Pm d k odd H0 H' := ⟨g.bn.trans (BN.same s), g.pn.same s, g.tb.ext s, g.mA.same s, g.ov.same s⟩
theorem Ka.ext (g : Ka C T p c n M Pm d k odd H0 H) (s : ExtN H H') (t : Tabs T H') : Ka C T p c n M Pm d k odd H0 H' := ⟨g.bn.trans (BN.ext s), g.pn.extN s, t, g.mA.extN s, g.ov.extN s⟩
theorem Ka.but (g : Ka C T p c n M Pm d k odd H0 H) (b : But p H H') (pn : Pen H' p c m) : Ka C T p c m M Pm d k odd H0 H' := ⟨g.bn.trans (BN.but b), pn, tabs_but g.tb b g.pn, g.mA.but b g.pn, g.ov.bn (BN.but b) g.pn⟩
theorem MkAt.bn {m : Nat} {P : Pcs} (g : MkAt C H M P d k) (b : BN p H H') (pn : Pen H p c m) : MkAt C H' M P d k := by
  obtain ⟨dx, L, xs, h1, h2, h3⟩ := g.ex
  obtain ⟨cells, i, l, e1, _⟩ := pn.ex
  exact ⟨⟨dx, L, xs, b _ _ h1 (ne_of h1 e1 (fun z => by cases z)) (fun ps z => by cases z), b.lst pn h2, h3.keep (b.tk pn)⟩, g.few, g.asc, g.masks, g.s0, g.d6⟩
theorem Ka.bnd (g : Ka C T p c n M Pm d k odd H0 H) (b : BN p H H') (pn : Pen H' p c m) (tb : Tabs T H') : Ka C T p c m M Pm d k odd H0 H' := ⟨g.bn.trans b, pn, tb, g.mA.bn b g.pn, g.ov.bn b g.pn⟩
/-- the list at D, new since H, is written -/
theorem pen_wr {D : Addr} {ys zs : List V} (pn : Pen H p c n) (eD : H D = some (.lst ys)) (hc : D ≠ c) : Pen (upd H D (.lst zs)) p c n := by
  obtain ⟨cells, i, l, h1, h2, h3⟩ := pn.ex
  exact ⟨cells, i, l, by rw [upd_ne (ne_of h1 eD (fun z => by cases z))]; exact h1, by rw [upd_ne (Ne.symm hc)]; exact h2, h3⟩
theorem BN.wr {D : Addr} {o : HO} (b : BN p H H') (hD : H D = none) : BN p H (upd H' D o) := fun q u e n t => by
  rw [upd_ne (ne_of_none e hD)]
  exact b q u e n t
end
section
variable {P : Program} {w : World} {K : PySem.W.Frag} {mg : Str → Option Value} {base : Heap} {C CW cc PT fR fS fI : Addr} {Ce : Nat → Addr} {rd sd id : FuncData} {T : List (Addr × Str)}
structure TxtAr (P : Program) (w : World) (K : PySem.W.Frag) (mg : Str → Option Value) (base : Heap) (C CW cc PT fR fS fI : Addr) (Ce : Nat → Addr) (rd sd id : FuncData) (T : List (Addr × Str)) (fD fK f1 f2 f3 f4 f5 f6 : Addr) (dD dK d1 d2 d3 d4 d5 d6 : FuncData) : Prop where
  L : TxtL16 P w K mg base C CW Ce fR fS fI rd sd id
  TB : TabB base mg cc PT
  hm : (PT, arQ cc) ∈ T
  hu : ∀ p ∈ T, p.1 = PT → p.2 = arQ cc
  GD : FnOk P w K mg base CX0 1 fD dD ["_law_pen_here", "_law_many"] spDraw
  kD : PySem.W.keepIn K (.ref fD) = true
  bD : Binds K dD ["_law_pen_here", "_law_many"] []
  gD : mg "_law_draw" = some (.ref fD)
  GK : FnOk P w K mg base CX0 2 fK dK ["_law_pen_here", "_law_some"] (spPick K)
  kK : PySem.W.keepIn K (.ref fK) = true
  bK : Binds K dK ["_law_pen_here", "_law_some"] []
  gK : mg "_law_pick" = some (.ref fK)
  m1 : Meth K C "below" f1
  G1 : FnOk P w K mg base (L2.CX P w) 4 f1 d1 ["self", "j"] (spMBel C (Ce 0))
  b1 : Binds K d1 ["self", "j"] []
  m2 : Meth K C "next_from" f2
  G2 : FnOk P w K mg base (L2.CX P w) 5 f2 d2 ["self", "j"] (spMNext C (Ce 0))
  b2 : Binds K d2 ["self", "j"] []
  m3 : Meth K C "last_upto" f3
  G3 : FnOk P w K mg base (L2.CX P w) 5 f3 d3 ["self", "j"] (spMLast C (Ce 0))
  b3 : Binds K d3 ["self", "j"] []
  m4 : Meth K C "nth" f4
  G4 : FnOk P w K mg base (L2.CX P w) 4 f4 d4 ["self", "n"] (spMNth C (Ce 0))
  b4 : Binds K d4 ["self", "n"] []
  m5 : Meth K C "listed" f5
  G5 : FnOk P w K mg base (L2.CX P w) 5 f5 d5 ["self", "most"] (spMLst C (Ce 0) (Ce 3))
  b5 : Binds K d5 ["self", "most"] []
  m6 : Meth K C "as_bits" f6
  G6 : FnOk P w K mg base (L2.CX P w) 4 f6 d6 ["self"] (spAsB C (Ce 1))
  b6 : Binds K d6 ["self"] []
theorem scLAr : FnScope ["_law_pen_here", "_law_k", "_law_marks", "_law_odd", "_law_told", "_law_refusal_here", "_law_past", "_law_most"] ["_law_pen_here", "_law_k", "_law_marks"] (defScope sLAr) := ⟨rfl, rfl, rfl, by decide +kernel, rfl, by decide +kernel, by decide +kernel⟩
theorem ok_lar {f fD fK f1 f2 f3 f4 f5 f6 : Addr} {fd dD dK d1 d2 d3 d4 d5 d6 : FuncData} (F : Fun K "_law_asked_refused" "_law_asked_refused" sLAr f fd) (hc : fd.code = .ref cc) (W : TxtAr P w K mg base C CW cc PT fR fS fI Ce rd sd id T fD fK f1 f2 f3 f4 f5 f6 dD dK d1 d2 d3 d4 d5 d6) :
    FnOk P w K mg base CX0 9 f fd ["_law_pen_here", "_law_k", "_law_marks"] (spLAr T C) := by
  obtain ⟨ocR, odR, kVR, docR, pmR, anR, cdR, ctR, oslR, eR, lkR, hcR⟩ := W.L.FR_.ex
  subst eR
  have bR := W.L.bR
  refine Fun_okC F hc scLAr (fun vs H Q E h => ?_) (fun A outer s H vs Q E hr h => ?_)
  · obtain ⟨p, c, M, k, n, d, Pm, rfl, _⟩ := h
    rfl
  · obtain ⟨p, c, M, k, n, d, Pm, rfl, k1, k2, pn, hn, hT, mk, hQ⟩ := h
    have nd := scLAr.nd
    refine ⟨_, (pss_cons (ps_set (i := 3) nd rfl (Or.inr rfl) (pe_call W.GK (hr.mono (by decide)) (by rfl) W.gK W.kK W.bK .nil pass0 (pa_cons (pv 0) (pa_cons (pe_lst (pa_cons (pe_un un_neg pe_int) (pa_cons (pe_un un_neg (pe_op op_pow pe_int pe_int)) (pa_cons pe_bl (pa_cons pe_bl (pa_cons pe_non (pa_cons pe_str (pa_cons (pe_tup (pa_cons pe_int pa_nil)) pa_nil)))))))) pa_nil))))
      (pss_cons (ps_set (i := 4) nd rfl (Or.inl rfl) (pe_lst (pa_cons (pe_lamcall (T := T) (TT := TTRf Ce) (k := 6) rfl W.L.gR W.L.FR_.kp lkR hcR bR scLRf rfl (.inl rfl) (rf_gives W.L.R) W.TB rfl W.hm W.hu hr (lamS_by (by show lamSB (defScope sLAr) _ = true; decide +kernel)) rfl (fun _ _ _ _ _ => rfl) (fun A outer s H E f c' hr2 => (pe_methSw (pv 2) W.L.M.c W.m1 W.G1 (hr2.mono (by decide)) W.b1 (fun σ => passAt (takes_of rfl rfl rfl rfl) σ) (pa_cons (pv 3) pa_nil)))) pa_nil)))
      (pss_cons (ps_expr (pe_bm PySem.F.plainAttrs_list PySem.F.slot_list_append PySem.F.type_list_append mt_append (pv 4) (pa_cons (pe_lamcall (T := T) (TT := TTRf Ce) (k := 6) rfl W.L.gR W.L.FR_.kp lkR hcR bR scLRf rfl (.inl rfl) (rf_gives W.L.R) W.TB rfl W.hm W.hu hr (lamS_by (by show lamSB (defScope sLAr) _ = true; decide +kernel)) rfl (fun _ _ _ _ _ => rfl) (fun A outer s H E f c' hr2 => (pe_methSw (pv 2) W.L.M.c W.m2 W.G2 (hr2.mono (by decide)) W.b2 (fun σ => passAt (takes_of rfl rfl rfl rfl) σ) (pa_cons (pv 3) pa_nil)))) pa_nil)))
      (pss_cons (ps_expr (pe_bm PySem.F.plainAttrs_list PySem.F.slot_list_append PySem.F.type_list_append mt_append (pv 4) (pa_cons (pe_lamcall (T := T) (TT := TTRf Ce) (k := 6) rfl W.L.gR W.L.FR_.kp lkR hcR bR scLRf rfl (.inl rfl) (rf_gives W.L.R) W.TB rfl W.hm W.hu hr (lamS_by (by show lamSB (defScope sLAr) _ = true; decide +kernel)) rfl (fun _ _ _ _ _ => rfl) (fun A outer s H E f c' hr2 => (pe_methSw (pv 2) W.L.M.c W.m3 W.G3 (hr2.mono (by decide)) W.b3 (fun σ => passAt (takes_of rfl rfl rfl rfl) σ) (pa_cons (pv 3) pa_nil)))) pa_nil)))
      (pss_cons (ps_expr (pe_bm PySem.F.plainAttrs_list PySem.F.slot_list_append PySem.F.type_list_append mt_append (pv 4) (pa_cons (pe_lamcall (T := T) (TT := TTRf Ce) (k := 6) rfl W.L.gR W.L.FR_.kp lkR hcR bR scLRf rfl (.inl rfl) (rf_gives W.L.R) W.TB rfl W.hm W.hu hr (lamS_by (by show lamSB (defScope sLAr) _ = true; decide +kernel)) rfl (fun _ _ _ _ _ => rfl) (fun A outer s H E f c' hr2 => (pe_methSw (pv 2) W.L.M.c W.m4 W.G4 (hr2.mono (by decide)) W.b4 (fun σ => passAt (takes_of rfl rfl rfl rfl) σ) (pa_cons (pv 3) pa_nil)))) pa_nil)))
      (pss_cons (ps_for PassesOwn.never rfl (pi_list (pv 4)) (pg_name (i := 5) nd rfl (Or.inl rfl))
        (pss_one (ps_if (pt_not (pt_val (pe_call W.L.GS (hr.mono (by decide)) (by rfl) W.L.gS W.L.kS W.L.bS .nil pass0 (pa_cons (pv 5) (pa_cons pe_str (pa_cons (pv 3) pa_nil))))))
          (pss_one (ps_ret pe_bl)) pss_nil)))
      (pss_cons (ps_set (i := 6) nd rfl (Or.inr rfl) (pe_op op_add (pe_op op_add (pv 1) pe_int) (pe_call W.GD (hr.mono (by decide)) (by rfl) W.gD W.kD W.bD .nil pass0 (pa_cons (pv 0) (pa_cons pe_int pa_nil)))))
      (pss_cons (ps_if (pt_not (pt_val (pe_call W.L.GS (hr.mono (by decide)) (by rfl) W.L.gS W.L.kS W.L.bS .nil pass0 (pa_cons (pe_lamcall (T := T) (TT := TTRf Ce) (k := 6) rfl W.L.gR W.L.FR_.kp lkR hcR bR scLRf rfl (.inl rfl) (rf_gives W.L.R) W.TB rfl W.hm W.hu hr (lamS_by (by show lamSB (defScope sLAr) _ = true; decide +kernel)) rfl (fun _ _ _ _ _ => rfl) (fun A outer s H E f c' hr2 => (pe_methSw (pv 2) W.L.M.c W.m1 W.G1 (hr2.mono (by decide)) W.b1 (fun σ => passAt (takes_of rfl rfl rfl rfl) σ) (pa_cons (pv 6) pa_nil)))) (pa_cons pe_str (pa_cons (pv 6) pa_nil))))))
        (pss_one (ps_ret pe_bl)) pss_nil)
      (pss_cons (ps_set (i := 7) nd rfl (Or.inr rfl) (pe_call W.GK (hr.mono (by decide)) (by rfl) W.gK W.kK W.bK .nil pass0 (pa_cons (pv 0) (pa_cons (pe_lst (pa_cons (pe_un un_neg pe_int) (pa_cons pe_int (pa_cons (pe_op op_pow pe_int pe_int) (pa_cons pe_bl (pa_cons pe_non (pa_cons pe_str pa_nil))))))) pa_nil))))
      (pss_cons (ps_if (pt_not (pt_val (pe_call W.L.GS (hr.mono (by decide)) (by rfl) W.L.gS W.L.kS W.L.bS .nil pass0 (pa_cons (pe_lamcall (T := T) (TT := TTRf Ce) (k := 6) rfl W.L.gR W.L.FR_.kp lkR hcR bR scLRf rfl (.inl rfl) (rf_gives W.L.R) W.TB rfl W.hm W.hu hr (lamS_by (by show lamSB (defScope sLAr) _ = true; decide +kernel)) rfl (fun _ _ _ _ _ => rfl) (fun A outer s H E f c' hr2 => (pe_methSw (pv 2) W.L.M.c W.m5 W.G5 (hr2.mono (by decide)) W.b5 (fun σ => passAt (takes_of rfl rfl rfl rfl) σ) (pa_cons (pv 7) pa_nil)))) (pa_cons pe_str (pa_cons (pv 7) pa_nil))))))
        (pss_one (ps_ret pe_bl)) pss_nil)
      (pss_cons (ps_set (i := 5) nd rfl (Or.inl rfl) (pe_lamcall (T := T) (TT := TTRf Ce) (k := 6) rfl W.L.gR W.L.FR_.kp lkR hcR bR scLRf rfl (.inl rfl) (rf_gives W.L.R) W.TB rfl W.hm W.hu hr (lamS_by (by show lamSB (defScope sLAr) _ = true; decide +kernel)) rfl (fun _ _ _ _ _ => rfl) (fun A outer s H E f c' hr2 => (pe_meth0w (pv 2) W.L.M.c W.m6 W.G6 (hr2.mono (by decide)) W.b6 (fun σ => passAt (takes_of rfl rfl rfl rfl) σ)))))
      (pss_cons (ps_if (pt_cmpR op_le (pv 1) pe_int (nomark _))
        (pss_one (ps_ret (pe_cmpR op_isN (pv 5) pe_non (nomark _)))) pss_nil)
      (pss_one (ps_ret (pe_call W.L.GS (hr.mono (by decide)) (by rfl) W.L.gS W.L.kS W.L.bS .nil pass0 (pa_cons (pv 5) (pa_cons pe_str (pa_cons (pv 1) pa_nil)))))))))))))))))), ?_⟩
    -- BODY
    refine ⟨_, rfl, 1, rfl, 10, 30, rfl, rfl, ⟨by decide, by decide, by decide⟩, _, rfl, by show 1 ≤ sizeLine; decide, fun t4 h4 => ?_⟩
    have s1 := same_upd (o := .tup [.int 0]) h4
    have e4 : upd H t4 (.tup [.int 0]) t4 = some (.tup [.int 0]) := upd_same
    generalize upd H t4 (.tup [.int 0]) = H1 at *
    refine ⟨by show 7 ≤ sizeLine; decide, fun L hL => ?_⟩
    have s2 := same_upd (o := .lst [V.int (-1), V.int (-(10 ^ (30 : Int).toNat)), V.bl true, V.bl false, V.non, V.str "0", V.ref t4]) hL
    have eL : upd H1 L (.lst [V.int (-1), V.int (-(10 ^ (30 : Int).toNat)), V.bl true, V.bl false, V.non, V.str "0", V.ref t4]) L = some (.lst [V.int (-1), V.int (-(10 ^ (30 : Int).toNat)), V.bl true, V.bl false, V.non, V.str "0", V.ref t4]) := upd_same
    have e42 := s2 _ _ e4
    generalize upd H1 L (.lst [V.int (-1), V.int (-(10 ^ (30 : Int).toNat)), V.bl true, V.bl false, V.non, V.str "0", V.ref t4]) = H2 at *
    have p2 := (pn.same s1).same s2
    refine ⟨p, c, L, _, _, rfl, p2, by omega, SqL.of eL, by show 0 < 7; decide, by show 7 ≤ 1000000; decide, fun r odd H3 ge b3 p3 => ?_⟩
    have hv : OV H2 odd ∧ cntB odd = false := by
      have hm := List.mem_of_getElem? ge
      simp only [List.mem_cons, List.not_mem_nil, or_false] at hm
      rcases hm with rfl | rfl | rfl | rfl | rfl | rfl | rfl
      · exact ⟨.int _, by decide⟩
      · exact ⟨.int _, by decide⟩
      · exact ⟨.bl _, rfl⟩
      · exact ⟨.bl _, rfl⟩
      · exact ⟨.non, rfl⟩
      · exact ⟨.str _ (by decide) (by decide +kernel), rfl⟩
      · exact ⟨.tup e42, rfl⟩
    obtain ⟨ov, nb⟩ := hv
    have nb0 : numB odd 0 k = false := by
      cases odd with
      | int i =>
        show (decide (0 ≤ i) && decide (i ≤ k)) = false
        rw [show decide (0 ≤ i) = false from nb, Bool.false_and]
      | _ => rfl
    have nn : ∀ j : Nat, odd ≠ .int (j : Nat) := fun j z => by
      rw [z, cntB_nat] at nb
      cases nb
    have b03 : But p H H3 := ((But.same s1).trans (But.same s2)).trans b3
    have g : Ka C T p c (n + 1) M Pm d k odd H H3 := ⟨BN.but b03, p3, tabs_but hT b03 pn, mk.but b03 pn, ov.bn (BN.but b3) p2⟩
    clear ov eL e42 e4 s1 s2 b3 b03 ge mk
    have ins : ∀ {H' : Hp}, Ka C T p c (n + 1) M Pm d k odd H H' → ∃ dx L, H' M = some (.ins C dx (mkF k (d : Nat) L)) := fun g => by
      obtain ⟨dx, L, _, e, _⟩ := g.mA.ex
      exact ⟨dx, L, e⟩
    -- below
    refine lam_err (i := 0) (v := odd) (by decide) g.tb (fun H1 E eN T1 hE Q' => ?_) (fun t1 H4 eN T4 et1 => ?_)
    · have g1 := g.ext eN T1
      obtain ⟨dx, L, hA⟩ := ins g1
      exact ⟨_, rfl, M, dx, _, rfl, hA, rfl, _, rfl, M, odd, Pm, d, k, rfl, g1.mA, g1.ov.ok, fun _ d H' s' _ e => hE d H' s' e, fun j z => absurd z (nn j)⟩
    have g := g.ext eN T4
    refine ⟨by show 1 ≤ sizeLine; decide, fun D hD => ?_⟩
    have hDc : D ≠ c := fun z => by
      obtain ⟨o, eo⟩ := g.pn.some2
      rw [← z, hD] at eo
      cases eo
    have ins4 := fun {H' : Hp} (b : BN p H4 H') (pn' : Pen H' p c (n + 1)) (tb' : Tabs T H') => g.bnd b pn' tb'
    have b5 : BN p H4 (upd H4 D (.lst [.ref t1])) := (BN.refl p H4).wr hD
    have p5 := g.pn.new (o := .lst [.ref t1]) hD
    have T5 := tabs_upd (o := .lst [.ref t1]) g.tb hD
    have f1 := same_upd (o := .lst [.ref t1]) hD _ _ et1
    have eD : upd H4 D (.lst [.ref t1]) D = some (.lst [.ref t1]) := upd_same
    generalize upd H4 D (.lst [.ref t1]) = H5 at *
    -- next_from
    refine ⟨_, rfl, .inl ⟨rfl, _, SqL.of eD⟩, lam_err (i := 0) (v := odd) (by decide) T5 (fun H1 E eN T1 hE Q' => ?_) (fun t2 H6 eN T6 et2 => ?_)⟩
    · have g1 := (ins4 b5 p5 T5).ext eN T1
      obtain ⟨dx, L, hA⟩ := ins g1
      exact ⟨_, rfl, M, dx, _, rfl, hA, rfl, _, rfl, M, odd, Pm, d, k, rfl, g1.mA, g1.ov.ok, fun _ d H' s' _ e => hE d H' s' e, fun j z => absurd z (nn j)⟩
    refine ⟨D, _, _, rfl, rfl, ext_lst eN eD, Nat.lt_of_lt_of_le (by show 1 < 1000; decide) kz, ?_⟩
    have b7 := (b5.trans (BN.ext eN)).wr (o := .lst ([.ref t1] ++ [.ref t2])) hD
    have p7 := pen_wr (zs := [.ref t1] ++ [.ref t2]) (p5.extN eN) (ext_lst eN eD) hDc
    have T7 := tabs_wr (zs := [.ref t1] ++ [.ref t2]) T6 (ext_lst eN eD)
    have k7 := TK.lst (o := .lst ([.ref t1] ++ [.ref t2])) (ext_lst eN eD)
    have f1 := k7.1 _ _ (ext_tup eN f1)
    have f2 := k7.1 _ _ et2
    have eD : upd H6 D (.lst ([.ref t1] ++ [.ref t2])) D = some (.lst [.ref t1, .ref t2]) := upd_same
    generalize upd H6 D (.lst ([.ref t1] ++ [.ref t2])) = H7 at *
    clear k7 et1 et2
    -- last_upto
    refine ⟨_, rfl, .inl ⟨rfl, _, SqL.of eD⟩, lam_err (i := 0) (v := odd) (by decide) T7 (fun H1 E eN T1 hE Q' => ?_) (fun t3 H8 eN T8 et3 => ?_)⟩
    · have g1 := (ins4 b7 p7 T7).ext eN T1
      obtain ⟨dx, L, hA⟩ := ins g1
      exact ⟨_, rfl, M, dx, _, rfl, hA, rfl, _, rfl, M, odd, Pm, d, k, rfl, g1.mA, g1.ov.ok, fun _ d H' s' _ e => hE d H' s' e, fun j z => absurd z (nn j)⟩
    refine ⟨D, _, _, rfl, rfl, ext_lst eN eD, Nat.lt_of_lt_of_le (by show 2 < 1000; decide) kz, ?_⟩
    have b9 := (b7.trans (BN.ext eN)).wr (o := .lst ([.ref t1, .ref t2] ++ [.ref t3])) hD
    have p9 := pen_wr (zs := [.ref t1, .ref t2] ++ [.ref t3]) (p7.extN eN) (ext_lst eN eD) hDc
    have T9 := tabs_wr (zs := [.ref t1, .ref t2] ++ [.ref t3]) T8 (ext_lst eN eD)
    have k9 := TK.lst (o := .lst ([.ref t1, .ref t2] ++ [.ref t3])) (ext_lst eN eD)
    have f1 := k9.1 _ _ (ext_tup eN f1)
    have f2 := k9.1 _ _ (ext_tup eN f2)
    have f3 := k9.1 _ _ et3
    have eD : upd H8 D (.lst ([.ref t1, .ref t2] ++ [.ref t3])) D = some (.lst [.ref t1, .ref t2, .ref t3]) := upd_same
    generalize upd H8 D (.lst ([.ref t1, .ref t2] ++ [.ref t3])) = H9 at *
    clear k9 et3
    -- nth
    refine ⟨_, rfl, .inl ⟨rfl, _, SqL.of eD⟩, lam_err (i := 0) (v := odd) (by decide) T9 (fun H1 E eN T1 hE Q' => ?_) (fun t4 H10 eN T10 et4 => ?_)⟩
    · have g1 := (ins4 b9 p9 T9).ext eN T1
      obtain ⟨dx, L, hA⟩ := ins g1
      exact ⟨_, rfl, M, dx, _, rfl, hA, rfl, _, rfl, M, odd, Pm, d, k, rfl, g1.mA, g1.ov.ok, fun _ d H' s' _ e => hE d H' s' e, fun j z => absurd z (nn j)⟩
    refine ⟨D, _, _, rfl, rfl, ext_lst eN eD, Nat.lt_of_lt_of_le (by show 3 < 1000; decide) kz, ?_⟩
    have b11 := (b9.trans (BN.ext eN)).wr (o := .lst ([.ref t1, .ref t2, .ref t3] ++ [.ref t4])) hD
    have p11 := pen_wr (zs := [.ref t1, .ref t2, .ref t3] ++ [.ref t4]) (p9.extN eN) (ext_lst eN eD) hDc
    have T11 := tabs_wr (zs := [.ref t1, .ref t2, .ref t3] ++ [.ref t4]) T10 (ext_lst eN eD)
    have k11 := TK.lst (o := .lst ([.ref t1, .ref t2, .ref t3] ++ [.ref t4])) (ext_lst eN eD)
    have f1 := k11.1 _ _ (ext_tup eN f1)
    have f2 := k11.1 _ _ (ext_tup eN f2)
    have f3 := k11.1 _ _ (ext_tup eN f3)
    have f4 := k11.1 _ _ et4
    have eD : upd H10 D (.lst ([.ref t1, .ref t2, .ref t3] ++ [.ref t4])) D = some (.lst [.ref t1, .ref t2, .ref t3, .ref t4]) := upd_same
    generalize upd H10 D (.lst ([.ref t1, .ref t2, .ref t3] ++ [.ref t4])) = H11 at *
    have g := ins4 b11 p11 T11
    clear ins4 b5 p5 T5 b7 p7 T7 b9 p9 T9 b11 p11 T11 k11 et4 T6 T8 T10 hD
    have all : ∀ x ∈ [V.ref t1, V.ref t2, V.ref t3, V.ref t4], ∃ t, x = .ref t ∧ H11 t = some (.tup [.str (nmR 0), odd, .bl true]) := fun x hx => by
      simp only [List.mem_cons, List.not_mem_nil, or_false] at hx
      rcases hx with rfl | rfl | rfl | rfl
      · exact ⟨_, rfl, f1⟩
      · exact ⟨_, rfl, f2⟩
      · exact ⟨_, rfl, f3⟩
      · exact ⟨_, rfl, f4⟩
    refine ⟨_, rfl, D, rfl, ⟨_, SqL.of eD⟩, ?_⟩
    refine for_list (a := D) (xs := [V.ref t1, V.ref t2, V.ref t3, V.ref t4]) (fun i σ H' => ∃ v5, σ = [some (.ref p), some (.int k), some (.ref M), some odd, some (.ref D), v5, none, none] ∧ H' = H11) ⟨none, rfl, rfl⟩ (fun i σ H2 _ z => by
      obtain ⟨_, _, rfl⟩ := z
      exact SqL.of eD) ?_ ?_
    · rintro i x σ H' hx ⟨v5, rfl, rfl⟩
      obtain ⟨t, rfl, et⟩ := all x (List.mem_of_getElem? hx)
      exact ⟨_, rfl, _, rfl, t, nmR 0, odd, rfl, et, g.ov.tv, _, rfl, iteF (nxt ⟨_, rfl, rfl⟩)⟩
    rintro σ H' ⟨v5, rfl, rfl⟩
    -- past the end
    refine ⟨_, rfl, k, 1, rfl, rfl, _, rfl, p, c, 4, _, rfl, g.pn, by omega, by decide, by decide, fun r2 H12 r20 r21 b12 p12 => ?_⟩
    have g := g.but b12 p12
    have ins2 : ∀ {m : Nat} {H' : Hp}, Ka C T p c m M Pm d k odd H H' → ∃ dx L, H' M = some (.ins C dx (mkF k (d : Nat) L)) := fun g => by
      obtain ⟨dx, L, _, e, _⟩ := g.mA.ex
      exact ⟨dx, L, e⟩
    clear all ins f1 f2 f3 f4 eD
    refine ⟨_, r2, rfl, rfl, ?_⟩
    refine lam_err (i := 0) (v := .int (k + 1 + r2)) (by decide) g.tb (fun H1 E eN T1 hE Q' => ?_) (fun t H13 eN T13 et => ?_)
    · have g1 := g.ext eN T1
      obtain ⟨dx, L, hA⟩ := ins2 g1
      refine ⟨_, rfl, M, dx, _, rfl, hA, rfl, _, rfl, M, _, Pm, d, k, rfl, g1.mA, .int _, fun _ d H' s' _ e => hE d H' s' e, fun j z jk => ?_⟩
      have := V.int.inj z
      omega
    have g := g.ext eN T13
    refine ⟨_, rfl, t, nmR 0, .int (k + 1 + r2), rfl, et, TV.int _, _, rfl, iteF (nxt ?_)⟩
    -- listed
    refine ⟨_, rfl, 1, rfl, 10, 30, rfl, rfl, ⟨by decide, by decide, by decide⟩, by show 6 ≤ sizeLine; decide, fun L2 hL2 => ?_⟩
    have g := g.same (same_upd (o := .lst [V.int (-1), V.int 1001, V.int (10 ^ (30 : Int).toNat), V.bl true, V.non, V.str "5"]) hL2)
    have eL2 : upd H13 L2 (.lst [V.int (-1), V.int 1001, V.int (10 ^ (30 : Int).toNat), V.bl true, V.non, V.str "5"]) L2 = some (.lst [V.int (-1), V.int 1001, V.int (10 ^ (30 : Int).toNat), V.bl true, V.non, V.str "5"]) := upd_same
    generalize upd H13 L2 (.lst [V.int (-1), V.int 1001, V.int (10 ^ (30 : Int).toNat), V.bl true, V.non, V.str "5"]) = H14 at *
    refine ⟨p, c, L2, _, _, rfl, g.pn, by omega, SqL.of eL2, by show 0 < 6; decide, by show 6 ≤ 1000000; decide, fun r3 most H15 ge b15 p15 => ?_⟩
    have hm : (∀ H, OV H most) ∧ numB most 0 1000 = false := by
      have hm := List.mem_of_getElem? ge
      simp only [List.mem_cons, List.not_mem_nil, or_false] at hm
      rcases hm with rfl | rfl | rfl | rfl | rfl | rfl
      · exact ⟨fun _ => .int _, by decide⟩
      · exact ⟨fun _ => .int _, by decide⟩
      · exact ⟨fun _ => .int _, by decide⟩
      · exact ⟨fun _ => .bl _, rfl⟩
      · exact ⟨fun _ => .non, rfl⟩
      · exact ⟨fun _ => .str _ (by decide) (by decide +kernel), rfl⟩
    obtain ⟨om, nm⟩ := hm
    have g := g.but b15 p15
    clear eL2 ge
    refine lam_err (i := 0) (v := most) (by decide) g.tb (fun H1 E eN T1 hE Q' => ?_) (fun t H16 eN T16 et => ?_)
    · have g1 := g.ext eN T1
      obtain ⟨dx, L, hA⟩ := ins2 g1
      refine ⟨_, rfl, M, dx, _, rfl, hA, rfl, _, rfl, M, _, Pm, d, k, rfl, g1.mA, (om _).ok, fun _ d H' s' _ e => hE d H' s' e, fun m z jk => ?_⟩
      rw [z] at nm
      have e : numB (.int (m : Nat)) 0 1000 = (decide (0 ≤ (m : Int)) && decide ((m : Int) ≤ 1000)) := rfl
      rw [e, decide_eq_true (by omega), decide_eq_true (by omega)] at nm
      cases nm
    have g := g.ext eN T16
    refine ⟨_, rfl, t, nmR 0, most, rfl, et, (om _).tv, _, rfl, iteF (nxt ?_)⟩
    -- as_bits
    by_cases kb : k ≤ 1000
    · refine lam_non g.tb (fun H1 E Q' eN T1 hQ' => ?_) (fun H17 eN T17 => ?_)
      · have g1 := g.ext eN T1
        obtain ⟨dx, L, hA⟩ := ins2 g1
        exact ⟨_, rfl, M, dx, _, rfl, hA, rfl, M, Pm, d, k, rfl, g1.mA, fun z => absurd z (by omega), fun _ t H' s' _ _ => hQ' _ H' s'⟩
      have g := g.ext eN T17
      refine ⟨_, rfl, k, 1000, rfl, rfl, true, congrArg V.bl (decide_eq_true kb), iteT ?_⟩
      refine ⟨_, rfl, rfl, ?_⟩
      rw [decide_eq_true rfl]
      exact hQ H17 g.bn g.tb (g.pn.mono (by omega))
    · refine lam_err (i := 1) (v := .int k) (by decide) g.tb (fun H1 E eN T1 hE Q' => ?_) (fun t H17 eN T17 et => ?_)
      · have g1 := g.ext eN T1
        obtain ⟨dx, L, hA⟩ := ins2 g1
        exact ⟨_, rfl, M, dx, _, rfl, hA, rfl, M, Pm, d, k, rfl, g1.mA, fun _ d H' s' _ e => hE d H' s' e, fun z => absurd z kb⟩
      have g := g.ext eN T17
      refine ⟨_, rfl, k, 1000, rfl, rfl, false, congrArg V.bl (decide_eq_false kb), iteF (nxt ?_)⟩
      exact ⟨_, rfl, _, rfl, t, nmR 1, .int k, rfl, et, TV.int _, hQ H17 g.bn g.tb (g.pn.mono (by omega))⟩
end
end Aw

namespace Aw
open PySem PySem.Spec PyProof.Rows L2 NdefX LamX
def spLaw (K : PySem.W.Frag) (T : List (Addr × Str)) : Sp := fun vs H Q _ => ∃ (a : Addr) (ns : List Int), vs = [.ref a] ∧ SqL K H a (ns.map V.int) ∧ ns.length ≤ 63 ∧ Tabs T H ∧ ∀ H', Q (.bl true) H'
section
variable {P : Program} {w : World} {K : PySem.W.Frag} {mg : Str → Option Value} {base : Heap} {C CW fR fS fI E0a : Addr} {Ce : Nat → Addr} {rd sd id : FuncData} {T : List (Addr × Str)} {ds : List Value}
structure TxtLw (P : Program) (w : World) (K : PySem.W.Frag) (mg : Str → Option Value) (base : Heap) (C CW fR fS fI E0a : Addr) (Ce : Nat → Addr) (rd sd id : FuncData) (T : List (Addr × Str)) (ds : List Value) (fPen fSz fRu fRr fSr fBr fAr : Addr) (dPen dSz dRu dRr dSr dBr dAr : FuncData) : Prop where
  L : TxtL16 P w K mg base C CW Ce fR fS fI rd sd id
  range : mg "range" = none
  bD : Binds K id ["self", "size", "runs"] ds
  dD : Vals [.ref E0a] ds
  e0 : ∀ H, SeqK K H E0a []
  GPen : FnOk P w K mg base CX0 1 fPen dPen ["_law_script"] (spPen K)
  kPen : PySem.W.keepIn K (.ref fPen) = true
  bPen : Binds K dPen ["_law_script"] []
  gPen : mg "_law_pen" = some (.ref fPen)
  GSz : FnOk P w K mg base CX0 3 fSz dSz ["_law_pen_here"] (spLSize)
  kSz : PySem.W.keepIn K (.ref fSz) = true
  bSz : Binds K dSz ["_law_pen_here"] []
  gSz : mg "_law_size" = some (.ref fSz)
  GRu : FnOk P w K mg base CX0 5 fRu dRu ["_law_pen_here", "_law_k", "_law_many"] (spLRuns)
  kRu : PySem.W.keepIn K (.ref fRu) = true
  bRu : Binds K dRu ["_law_pen_here", "_law_k", "_law_many"] []
  gRu : mg "_law_runs" = some (.ref fRu)
  GRr : FnOk P w K mg base CX0 9 fRr dRr ["_law_pen_here", "_law_k"] (spLRr T)
  kRr : PySem.W.keepIn K (.ref fRr) = true
  bRr : Binds K dRr ["_law_pen_here", "_law_k"] []
  gRr : mg "_law_runs_refused" = some (.ref fRr)
  GSr : FnOk P w K mg base CX0 9 fSr dSr ["_law_pen_here"] (spLSr T)
  kSr : PySem.W.keepIn K (.ref fSr) = true
  bSr : Binds K dSr ["_law_pen_here"] []
  gSr : mg "_law_sizes_refused" = some (.ref fSr)
  GBr : FnOk P w K mg base CX0 9 fBr dBr ["_law_pen_here"] (spLBr T)
  kBr : PySem.W.keepIn K (.ref fBr) = true
  bBr : Binds K dBr ["_law_pen_here"] []
  gBr : mg "_law_bits_refused" = some (.ref fBr)
  GAr : FnOk P w K mg base CX0 9 fAr dAr ["_law_pen_here", "_law_k", "_law_marks"] (spLAr T C)
  kAr : PySem.W.keepIn K (.ref fAr) = true
  bAr : Binds K dAr ["_law_pen_here", "_law_k", "_law_marks"] []
  gAr : mg "_law_asked_refused" = some (.ref fAr)
theorem scLaw : FnScope ["_law_script", "_law_pen_here", "_law_lap", "_law_k", "_law_marks"] ["_law_script"] (defScope sLaw) := ⟨rfl, rfl, rfl, by decide +kernel, rfl, by decide +kernel, by decide +kernel⟩
theorem ok_law {f fPen fSz fRu fRr fSr fBr fAr : Addr} {fd dPen dSz dRu dRr dSr dBr dAr : FuncData} (F : Fun K "law" "law" sLaw f fd) (W : TxtLw P w K mg base C CW fR fS fI E0a Ce rd sd id T ds fPen fSz fRu fRr fSr fBr fAr dPen dSz dRu dRr dSr dBr dAr) : FnOk P w K mg base CX0 10 f fd ["_law_script"] (spLaw K T) := by
  have GI := quiet W.L.GI
  refine F.ok scLaw (fun vs H Q E h => ?_) (fun cdv A outer s H vs Q E hr h => ?_)
  · obtain ⟨a, ns, rfl, _⟩ := h
    rfl
  · obtain ⟨a0, ns, rfl, ha, hn, hT, hQ⟩ := h
    have nd := scLaw.nd
    refine ⟨_, (pss_cons (ps_set (i := 1) nd rfl (Or.inl rfl) (pe_call W.GPen (hr.mono (by decide)) (by rfl) W.gPen W.kPen W.bPen .nil pass0 (pa_cons (pv 0) pa_nil)))
      (pss_cons (ps_for PassesOwn.never rfl (pi_range1 rfl W.range (pa_cons pe_int pa_nil)) (pg_name (i := 2) nd rfl (Or.inl rfl))
        (pss_cons (ps_set (i := 3) nd rfl (Or.inl rfl) (pe_call W.GSz (hr.mono (by decide)) (by rfl) W.gSz W.kSz W.bSz .nil pass0 (pa_cons (pv 1) pa_nil)))
        (pss_cons (ps_set (i := 4) nd rfl (Or.inl rfl) (pe_makeD (E := fun _ => E0) W.L.mkc GI (hr.mono (by decide)) (by rfl) W.L.gM W.L.bI .nil passA0 (pa_cons (pv 3) (pa_cons (pe_call W.GRu (hr.mono (by decide)) (by rfl) W.gRu W.kRu W.bRu .nil pass0 (pa_cons (pv 1) (pa_cons (pv 3) (pa_cons pe_int pa_nil)))) pa_nil))))
        (pss_cons (ps_if (PW.pt (pw_or (pt_not (pt_val (pe_call W.GRr (hr.mono (by decide)) (by rfl) W.gRr W.kRr W.bRr .nil pass0 (pa_cons (pv 1) (pa_cons (pv 3) pa_nil))))) (pw_or (pt_not (pt_val (pe_call W.GSr (hr.mono (by decide)) (by rfl) W.gSr W.kSr W.bSr .nil pass0 (pa_cons (pv 1) pa_nil)))) (pw_or1 (pt_not (pt_val (pe_call W.GBr (hr.mono (by decide)) (by rfl) W.gBr W.kBr W.bBr .nil pass0 (pa_cons (pv 1) pa_nil))))))))
          (pss_one (ps_ret pe_bl)) pss_nil)
        (pss_one (ps_if (PW.pt (pw_or (pt_not (pt_val (pe_call W.GAr (hr.mono (by decide)) (by rfl) W.gAr W.kAr W.bAr .nil pass0 (pa_cons (pv 1) (pa_cons (pv 3) (pa_cons (pv 4) pa_nil)))))) (pw_or1 (pt_not (pt_val (pe_call W.GAr (hr.mono (by decide)) (by rfl) W.gAr W.kAr W.bAr .nil pass0 (pa_cons (pv 1) (pa_cons (pe_op op_add pe_int (pv 2)) (pa_cons (pe_makeD (E := fun _ => E0) W.L.mkc GI (hr.mono (by decide)) (by rfl) W.L.gM W.bD W.dD passA0 (pa_cons (pe_op op_add pe_int (pv 2)) pa_nil)) pa_nil)))))))))
          (pss_one (ps_ret pe_bl)) pss_nil))))))
      (pss_one (ps_ret pe_bl)))), ?_⟩
    -- BODY
    refine ⟨_, rfl, a0, ns, rfl, ha, hn, fun p c H1 s01 hp0 hc0 p1 => ?_⟩
    have T1 := hT.ext s01
    refine ⟨_, rfl, by decide, by decide, ?_⟩
    refine for_range (n := (2 : Int).toNat) (fun i σ H2 => ∃ (v2 v3 v4 : Option V), σ = [some (.ref a0), some (.ref p), v2, v3, v4] ∧ Pen H2 p c (200 * i) ∧ Tabs T H2) ⟨none, none, none, rfl, p1, T1⟩ ?_ ?_
    · rintro i σ H2 hi ⟨v2, v3, v4, rfl, p2, T2⟩
      refine ⟨_, rfl, p, c, _, rfl, p2, by omega, fun k H3 k1 k2 b3 p3 => ?_⟩
      refine ⟨_, rfl, _, rfl, _, rfl, p, c, k, 2, _, rfl, k1, k2, by decide, p3, by omega, fun R xs rs H4 lrs ro b4 hR eR rt p4 => ?_⟩
      have T4 := tabs_but (tabs_but T2 b3 p2) b4 p3
      refine make_marks k1 k2 (.inl (SqL.of eR)) rt.any ro (by omega) fun M L H5 s5 _ _ mM => ?_
      have mA := mM.at_
      have p5 := p4.same s5
      have T5 := T4.ext s5
      clear mM eR rt T4 p4 T2 b3 b4 p2 p3 s5 hR
      refine ⟨_, rfl, _, rfl, p, c, k, _, rfl, k1, k2, p5, by omega, T5, fun H6 b6 T6 p6 => ⟨_, rfl, iteF ?_⟩⟩
      have m6 := mA.bn b6 p5
      refine ⟨_, rfl, p, c, _, rfl, p6, by omega, T6, fun H7 b7 T7 p7 => ⟨_, rfl, iteF ?_⟩⟩
      have m7 := m6.bn b7 p6
      refine ⟨_, rfl, p, c, _, rfl, p7, by omega, T7, fun H8 b8 T8 p8 => ⟨_, rfl, iteF (nxt ?_)⟩⟩
      have m8 := m7.bn b8 p7
      refine ⟨_, rfl, _, rfl, _, rfl, p, c, M, k, _, _, _, rfl, k1, k2, p8, by omega, T8, m8, fun H9 b9 T9 p9 => ⟨_, rfl, iteF ?_⟩⟩
      have i2 : ((2 : Int).toNat) = 2 := rfl
      have k10 : 1 ≤ 1000 + (0 + (i : Int)) := by omega
      have k20 : 1000 + (0 + (i : Int)) ≤ 10 ^ 30 := Int.le_trans (show 1000 + (0 + (i : Int)) ≤ 2000 by omega) (by decide)
      refine ⟨_, rfl, _, rfl, _, _, rfl, rfl, _, rfl, _, _, rfl, rfl, ?_⟩
      refine make_marks (R := E0a) k10 k20 (W.e0 _) .nil (fun r hr => absurd hr List.not_mem_nil) (by decide) fun M2 L2 H10 s10 _ _ m10 => ?_
      refine ⟨p, c, M2, _, _, _, _, rfl, k10, k20, p9.same s10, by omega, T9.ext s10, m10.at_, fun H11 b11 T11 p11 => ⟨_, rfl, iteF (nxt ?_)⟩⟩
      exact ⟨_, _, _, rfl, p11.mono (by omega), T11⟩
    · rintro σ H2 ⟨v2, v3, v4, rfl, p2, T2⟩
      exact hQ H2
end
end Aw

namespace Aw
open PySem PySem.Spec PyProof.Rows L2 LamX
/-- the end of a law with tables, the top's facts told -/
theorem walk_T {l : PySem.W.OpenLaw} {n k : Nat} {q : Program} {loose : List Str} {XP : (Str → Option Value) → Heap → Prop} {YP : World → Heap → Prop} {d : DefRec} {CX : World → CXT} {x : Str}
    (hn : l.most = some n) (hn2 : n ≤ sizeLine) (hdf : d.params.defaults = []) (hr : Room k callerA)
    (F : ∀ (w : World) (mg mb : Str → Option Value) (fa : Addr) (h : Heap) (mean : ExcName → Option Value), YP w h → Top q (PySem.W.looseW q loose) mean mg mb h → mg d.name = some (.ref fa) → ∃ K : PySem.W.Frag, K.In h ∧ LawAtS l w K (CX w) k n x mg fa h)
    (hCX : ∀ (w : World) (H : Hp) (s : Shared) (e : Value) (s' : Shared), CX w [] H s (fun _ _ _ => False) e s' → False) :
    PySem.W.WalkO q loose XP YP l.row.toRowW d [] (fun f vs => PySem.call f vs) := by
  refine Att.attach_callB hn hdf fun w s₀ s₁ mg mb fa o pm cd doc a vs ns G Y ho hd hcd hmg hobj hints hlen hbits hg => ?_
  obtain ⟨K, KX, fd, cs, sp, hT, nT, C, hb, hsp, hF⟩ := F w mg mb fa _ _ Y G.T hmg
  exact law_callTs KX G.T.g G.T.b G.T.builtins G.T.nolimit hg hT nT C G.T.bmain hobj hints (Nat.le_trans hlen hn2) hr hF hb (fun H hH hS => hsp H a ns hlen hbits hH hS) fun H e s' => hCX w H s₁ e s'
end Aw

namespace Aw
open PySem PySem.Spec PyProof.Rows L2 NdefX He5
open He (eqO eqO_ok ga ma Fa cls_ok noat_ok meth_ok mkr_ok exm_ok int_ok tupB tupB_ok valsB valsB_ok Dv relAll relAll_ok)
-- LATE
theorem tabB_ok {K : PySem.W.Frag} {x : Str} (h : tabB K x = true) : PySem.W.nsIn K mainGlobals x = some (some (.ref (ga K x))) ∧ PySem.W.tabIn K x = some (tabP K x) ∧ K.lookup (tabP K x).2 = none := by
  obtain ⟨h1, h⟩ := bo h
  obtain ⟨h2, h3⟩ := bo h
  exact ⟨eqO_ok h1, of_decide_eq_true h2, Option.isNone_iff_eq_none.mp h3⟩
def tabsT (K : PySem.W.Frag) : List (Addr × Str) := [((tabP K "_law_runs_refused").2, rrQ (tabP K "_law_runs_refused").1), ((tabP K "_law_sizes_refused").2, srQ (tabP K "_law_sizes_refused").1), ((tabP K "_law_bits_refused").2, brQ (tabP K "_law_bits_refused").1), ((tabP K "_law_asked_refused").2, arQ (tabP K "_law_asked_refused").1)]
theorem facts {w : World} {K : PySem.W.Frag} {h : Heap} {mg : Str → Option Value} {f : Addr} (X : K.In h) (G : h.Ns mainGlobals mg) (hfa : mg ("law" : Str) = some (.ref f)) (c : SaysZ fns sus tabs exB w K) :
    (∀ x ∈ lams, PySem.W.tabIn K x = some (tabP K x) ∧ K.lookup (tabP K x).2 = none) ∧ ∃ fd : FuncData, (∀ (s : Shared) (v : Value), BindsTo s fd ⟨[v], []⟩ [("_law_script", v)]) ∧ ∀ base : Heap, K.In base → base.Ns mainGlobals mg → (∀ x ∈ lams, LamX.TabB base mg (tabP K x).1 (tabP K x).2) → FnOk (PySem.Challenge.rw_allwordlengths_k16_marks_that_are_refuse).prog w K mg base CX0 11 f fd ["_law_script"] (spLaw K (tabsT K)) := by
  obtain ⟨c1, m⟩ := bo c.more
  obtain ⟨c2, m⟩ := bo m
  obtain ⟨c3, m⟩ := bo m
  obtain ⟨c4, c5⟩ := bo m
  have gl : ∀ x ∈ globs, mg x = some (.ref (ga K x)) := fun x hx => glo_of X G (List.all_eq_true.mp c1 x hx)
  have fr : ∀ x ∈ frees, mg x = none := fun x hx => fre_of X G (List.all_eq_true.mp c2 x hx)
  have so : ∀ d ∈ sus, d.ok PySem.Challenge.pw_allwordlengths_k16_marks_that_are_refuse.main.file K = true := fun d hd => List.all_eq_true.mp c3 d hd
  have fa : ∀ x ∈ fas, x.ok K = true := fun x hx => List.all_eq_true.mp c4 x hx
  have exk : ∀ f ∈ exs, f K = true := fun f hf => List.all_eq_true.mp c5 f hf
  have htop : ((PySem.Challenge.rw_allwordlengths_k16_marks_that_are_refuse).prog.main.scope.names.lookup ("super" : Str)).isSome = false := by decide +kernel
  have E0 : Err (PySem.Challenge.rw_allwordlengths_k16_marks_that_are_refuse).prog K mg "BadNumber" "number" "number" (ga K "BadNumber") := sup_err X G ss0 htop (c.sup 0) (so su0 (by simp [sus]))
  have E1 : Err (PySem.Challenge.rw_allwordlengths_k16_marks_that_are_refuse).prog K mg "BadSize" "size" "size" (ga K "BadSize") := sup_err X G ss1 htop (c.sup 1) (so su1 (by simp [sus]))
  have E2 : Err (PySem.Challenge.rw_allwordlengths_k16_marks_that_are_refuse).prog K mg "BadBits" "index" "index" (ga K "BadBits") := sup_err X G ss2 htop (c.sup 2) (so su2 (by simp [sus]))
  have E3 : Err (PySem.Challenge.rw_allwordlengths_k16_marks_that_are_refuse).prog K mg "TooMany" "most" "most" (ga K "TooMany") := sup_err X G ss3 htop (c.sup 3) (so su3 (by simp [sus]))
  have T : TxtP mg (ga K "_law_draw") := ⟨fr _ (by simp [frees]), fr _ (by simp [frees]), fr _ (by simp [frees]), gl _ (by simp [globs])⟩
  have h_xCr : xCr K = true := exk _ (by simp [exs])
  have h_xCm : xCm K = true := exk _ (by simp [exs])
  have h_xMt : xMt K = true := exk _ (by simp [exs])
  have h_xTab : xTab K = true := exk _ (by simp [exs])
  have h_xDis : xDis K = true := exk _ (by simp [exs])
  have h_xKw : xKw K = true := exk _ (by simp [exs])
  have h_xEx : xEx K = true := exk _ (by simp [exs])
  obtain ⟨dPen, DPen⟩ := c.def_ 0 (d := defG "_law_pen" sPen) rfl
  have FPen : Fun K "_law_pen" "_law_pen" sPen (ga K "_law_pen") dPen := fun_of (kws := []) DPen
  have bPen := FPen.binds (ps := ["_law_script"]) fun _ _ _ _ _ _ us hl => match us, hl with | [_], _ => rfl
  obtain ⟨dDraw, DDraw⟩ := c.def_ 1 (d := defG "_law_draw" sDraw) rfl
  have FDraw : Fun K "_law_draw" "_law_draw" sDraw (ga K "_law_draw") dDraw := fun_of (kws := []) DDraw
  have bDraw := FDraw.binds (ps := ["_law_pen_here", "_law_many"]) fun _ _ _ _ _ _ us hl => match us, hl with | [_, _], _ => rfl
  obtain ⟨dPick, DPick⟩ := c.def_ 2 (d := defG "_law_pick" sPick) rfl
  have FPick : Fun K "_law_pick" "_law_pick" sPick (ga K "_law_pick") dPick := fun_of (kws := []) DPick
  have bPick := FPick.binds (ps := ["_law_pen_here", "_law_some"]) fun _ _ _ _ _ _ us hl => match us, hl with | [_, _], _ => rfl
  obtain ⟨dBig, DBig⟩ := c.def_ 3 (d := defG "_law_big" sLBig) rfl
  have FBig : Fun K "_law_big" "_law_big" sLBig (ga K "_law_big") dBig := fun_of (kws := []) DBig
  have bBig := FBig.binds (ps := ["_law_pen_here", "_law_many"]) fun _ _ _ _ _ _ us hl => match us, hl with | [_, _], _ => rfl
  obtain ⟨dBits, DBits⟩ := c.def_ 4 (d := defG "_law_bits" sLBits) rfl
  have FBits : Fun K "_law_bits" "_law_bits" sLBits (ga K "_law_bits") dBits := fun_of (kws := []) DBits
  have bBits := FBits.binds (ps := ["_law_pen_here", "_law_many"]) fun _ _ _ _ _ _ us hl => match us, hl with | [_, _], _ => rfl
  obtain ⟨dLSize, DLSize⟩ := c.def_ 5 (d := defG "_law_size" sLSize) rfl
  have FLSize : Fun K "_law_size" "_law_size" sLSize (ga K "_law_size") dLSize := fun_of (kws := []) DLSize
  have bLSize := FLSize.binds (ps := ["_law_pen_here"]) fun _ _ _ _ _ _ us hl => match us, hl with | [_], _ => rfl
  obtain ⟨dLPlace, DLPlace⟩ := c.def_ 6 (d := defG "_law_place" sLPlace) rfl
  have FLPlace : Fun K "_law_place" "_law_place" sLPlace (ga K "_law_place") dLPlace := fun_of (kws := []) DLPlace
  have bLPlace := FLPlace.binds (ps := ["_law_pen_here", "_law_k"]) fun _ _ _ _ _ _ us hl => match us, hl with | [_, _], _ => rfl
  obtain ⟨dLRun, DLRun⟩ := c.def_ 7 (d := defG "_law_run" sLRun) rfl
  have FLRun : Fun K "_law_run" "_law_run" sLRun (ga K "_law_run") dLRun := fun_of (kws := []) DLRun
  have bLRun := FLRun.binds (ps := ["_law_pen_here", "_law_k"]) fun _ _ _ _ _ _ us hl => match us, hl with | [_, _], _ => rfl
  obtain ⟨dLRuns, DLRuns⟩ := c.def_ 8 (d := defG "_law_runs" sLRuns) rfl
  have FLRuns : Fun K "_law_runs" "_law_runs" sLRuns (ga K "_law_runs") dLRuns := fun_of (kws := []) DLRuns
  have bLRuns := FLRuns.binds (ps := ["_law_pen_here", "_law_k", "_law_many"]) fun _ _ _ _ _ _ us hl => match us, hl with | [_, _, _], _ => rfl
  obtain ⟨dLRf, DLRf⟩ := c.def_ 9 (d := defG "_law_refusal" sLRf) rfl
  have FLRf : Fun K "_law_refusal" "_law_refusal" sLRf (ga K "_law_refusal") dLRf := fun_of (kws := []) DLRf
  have bLRf := FLRf.binds (ps := ["_law_ask"]) fun _ _ _ _ _ _ us hl => match us, hl with | [_], _ => rfl
  obtain ⟨dLSm, DLSm⟩ := c.def_ 10 (d := defG "_law_same" sLSm) rfl
  have FLSm : Fun K "_law_same" "_law_same" sLSm (ga K "_law_same") dLSm := fun_of (kws := []) DLSm
  have bLSm := FLSm.binds (ps := ["_law_told", "_law_name", "_law_value"]) fun _ _ _ _ _ _ us hl => match us, hl with | [_, _, _], _ => rfl
  obtain ⟨dLOr, DLOr⟩ := c.def_ 11 (d := defG "_law_odd_runs" sLOr) rfl
  have FLOr : Fun K "_law_odd_runs" "_law_odd_runs" sLOr (ga K "_law_odd_runs") dLOr := fun_of (kws := []) DLOr
  have bLOr := FLOr.binds (ps := ["_law_k"]) fun _ _ _ _ _ _ us hl => match us, hl with | [_], _ => rfl
  obtain ⟨dLRr, DLRr⟩ := c.def_ 12 (d := defG "_law_runs_refused" sLRr) rfl
  have FLRr : Fun K "_law_runs_refused" "_law_runs_refused" sLRr (ga K "_law_runs_refused") dLRr := fun_of (kws := []) DLRr
  have bLRr := FLRr.binds (ps := ["_law_pen_here", "_law_k"]) fun _ _ _ _ _ _ us hl => match us, hl with | [_, _], _ => rfl
  obtain ⟨dLSr, DLSr⟩ := c.def_ 13 (d := defG "_law_sizes_refused" sLSr) rfl
  have FLSr : Fun K "_law_sizes_refused" "_law_sizes_refused" sLSr (ga K "_law_sizes_refused") dLSr := fun_of (kws := []) DLSr
  have bLSr := FLSr.binds (ps := ["_law_pen_here"]) fun _ _ _ _ _ _ us hl => match us, hl with | [_], _ => rfl
  obtain ⟨dLBr, DLBr⟩ := c.def_ 14 (d := defG "_law_bits_refused" sLBr) rfl
  have FLBr : Fun K "_law_bits_refused" "_law_bits_refused" sLBr (ga K "_law_bits_refused") dLBr := fun_of (kws := []) DLBr
  have bLBr := FLBr.binds (ps := ["_law_pen_here"]) fun _ _ _ _ _ _ us hl => match us, hl with | [_], _ => rfl
  obtain ⟨dLAr, DLAr⟩ := c.def_ 15 (d := defG "_law_asked_refused" sLAr) rfl
  have FLAr : Fun K "_law_asked_refused" "_law_asked_refused" sLAr (ga K "_law_asked_refused") dLAr := fun_of (kws := []) DLAr
  have bLAr := FLAr.binds (ps := ["_law_pen_here", "_law_k", "_law_marks"]) fun _ _ _ _ _ _ us hl => match us, hl with | [_, _, _], _ => rfl
  obtain ⟨dLaw, DLaw⟩ := c.def_ 16 (d := defG "law" sLaw) rfl
  have FLaw : Fun K "law" "law" sLaw (ga K "law") dLaw := fun_of (kws := []) DLaw
  have bLaw := FLaw.binds (ps := ["_law_script"]) fun _ _ _ _ _ _ us hl => match us, hl with | [_], _ => rfl
  obtain ⟨dBitsOf, DBitsOf⟩ := c.def_ 17 (d := defG "bits_of" sBitsOf) rfl
  have FBitsOf : Fun K "bits_of" "bits_of" sBitsOf (ga K "bits_of") dBitsOf := fun_of (kws := []) DBitsOf
  have bBitsOf := FBitsOf.binds (ps := ["mask"]) fun _ _ _ _ _ _ us hl => match us, hl with | [_], _ => rfl
  obtain ⟨dFull, DFull⟩ := c.def_ 18 (d := defG "full" sFull) rfl
  have FFull : Fun K "full" "full" sFull (ga K "full") dFull := fun_of (kws := []) DFull
  have bFull := FFull.binds (ps := ["many"]) fun _ _ _ _ _ _ us hl => match us, hl with | [_], _ => rfl
  obtain ⟨dManyB, DManyB⟩ := c.def_ 19 (d := defG "many_bits" sManyB) rfl
  have FManyB : Fun K "many_bits" "many_bits" sManyB (ga K "many_bits") dManyB := fun_of (kws := []) DManyB
  have bManyB := FManyB.binds (ps := ["mask"]) fun _ _ _ _ _ _ us hl => match us, hl with | [_], _ => rfl
  obtain ⟨dNum, DNum⟩ := c.def_ 20 (d := defG "is_number" sNum) rfl
  have FNum : Fun K "is_number" "is_number" sNum (ga K "is_number") dNum := fun_of (kws := []) DNum
  have bNum := FNum.binds (ps := ["value", "low", "high"]) fun _ _ _ _ _ _ us hl => match us, hl with | [_, _, _], _ => rfl
  obtain ⟨dChkN, DChkN⟩ := c.def_ 21 (d := defG "check_number" sChkN) rfl
  have FChkN : Fun K "check_number" "check_number" sChkN (ga K "check_number") dChkN := fun_of (kws := []) DChkN
  have bChkN := FChkN.binds (ps := ["value", "low", "high"]) fun _ _ _ _ _ _ us hl => match us, hl with | [_, _, _], _ => rfl
  obtain ⟨dChkC, DChkC⟩ := c.def_ 22 (d := defG "check_count" sChkC) rfl
  have FChkC : Fun K "check_count" "check_count" sChkC (ga K "check_count") dChkC := fun_of (kws := []) DChkC
  have bChkC := FChkC.binds (ps := ["value"]) fun _ _ _ _ _ _ us hl => match us, hl with | [_], _ => rfl
  obtain ⟨dChkS, DChkS⟩ := c.def_ 23 (d := defG "check_size" sChkS) rfl
  have FChkS : Fun K "check_size" "check_size" sChkS (ga K "check_size") dChkS := fun_of (kws := []) DChkS
  have bChkS := FChkS.binds (ps := ["size"]) fun _ _ _ _ _ _ us hl => match us, hl with | [_], _ => rfl
  obtain ⟨dWidth, DWidth⟩ := c.def_ 24 (d := defG "width" sWidth) rfl
  have FWidth : Fun K "width" "width" sWidth (ga K "width") dWidth := fun_of (kws := []) DWidth
  have bWidth := FWidth.binds (ps := ["depth"]) fun _ _ _ _ _ _ us hl => match us, hl with | [_], _ => rfl
  obtain ⟨dClassm, DClassm⟩ := c.def_ 25 (d := defG "class_mask" sClassm) rfl
  have FClassm : Fun K "class_mask" "class_mask" sClassm (ga K "class_mask") dClassm := fun_of (kws := []) DClassm
  have bClassm := FClassm.binds (ps := ["wide", "at", "of"]) fun _ _ _ _ _ _ us hl => match us, hl with | [_, _, _], _ => rfl
  obtain ⟨dTidy, DTidy⟩ := c.def_ 26 (d := defG "tidied" sTidy) rfl
  have FTidy : Fun K "tidied" "tidied" sTidy (ga K "tidied") dTidy := fun_of (kws := []) DTidy
  have bTidy := FTidy.binds (ps := ["pieces"]) fun _ _ _ _ _ _ us hl => match us, hl with | [_], _ => rfl
  obtain ⟨dMerge, DMerge⟩ := c.def_ 27 (d := defG "merged" sMerge) rfl
  have FMerge : Fun K "merged" "merged" sMerge (ga K "merged") dMerge := fun_of (kws := []) DMerge
  have bMerge := FMerge.binds (ps := ["one", "other"]) fun _ _ _ _ _ _ us hl => match us, hl with | [_, _], _ => rfl
  obtain ⟨dAdded, DAdded⟩ := c.def_ 28 (d := defG "added" sAdded) rfl
  have FAdded : Fun K "added" "added" sAdded (ga K "added") dAdded := fun_of (kws := []) DAdded
  have bAdded := FAdded.binds (ps := ["one", "other"]) fun _ _ _ _ _ _ us hl => match us, hl with | [_, _], _ => rfl
  obtain ⟨dUpto, DUpto⟩ := c.def_ 29 (d := defG "many_upto" sUpto) rfl
  have FUpto : Fun K "many_upto" "many_upto" sUpto (ga K "many_upto") dUpto := fun_of (kws := []) DUpto
  have bUpto := FUpto.binds (ps := ["mask", "wide", "place"]) fun _ _ _ _ _ _ us hl => match us, hl with | [_, _, _], _ => rfl
  obtain ⟨dLow, DLow⟩ := c.def_ 30 (d := defG "many_below" sLow) rfl
  have FLow : Fun K "many_below" "many_below" sLow (ga K "many_below") dLow := fun_of (kws := []) DLow
  have bLow := FLow.binds (ps := ["pieces", "wide", "place"]) fun _ _ _ _ _ _ us hl => match us, hl with | [_, _, _], _ => rfl
  obtain ⟨dPlO, DPlO⟩ := c.def_ 31 (d := defG "place_of" sPlO) rfl
  have FPlO : Fun K "place_of" "place_of" sPlO (ga K "place_of") dPlO := fun_of (kws := []) DPlO
  have bPlO := FPlO.binds (ps := ["pieces", "wide", "number"]) fun _ _ _ _ _ _ us hl => match us, hl with | [_, _, _], _ => rfl
  obtain ⟨dMPl, DMPl⟩ := c.def_ 32 (d := defG "marked_places" sMPl) rfl
  have FMPl : Fun K "marked_places" "marked_places" sMPl (ga K "marked_places") dMPl := fun_of (kws := []) DMPl
  have bMPl := FMPl.binds (ps := ["pieces", "wide"]) fun _ _ _ _ _ _ us hl => match us, hl with | [_, _], _ => rfl
  obtain ⟨dIsRun, DIsRun⟩ := c.def_ 33 (d := defG "is_run" sIsRun) rfl
  have FIsRun : Fun K "is_run" "is_run" sIsRun (ga K "is_run") dIsRun := fun_of (kws := []) DIsRun
  have bIsRun := FIsRun.binds (ps := ["run", "size"]) fun _ _ _ _ _ _ us hl => match us, hl with | [_, _], _ => rfl
  obtain ⟨dPor, DPor⟩ := c.def_ 34 (d := defG "pieces_of_runs" sPor) rfl
  have FPor : Fun K "pieces_of_runs" "pieces_of_runs" sPor (ga K "pieces_of_runs") dPor := fun_of (kws := []) DPor
  have bPor := FPor.binds (ps := ["size", "runs"]) fun _ _ _ _ _ _ us hl => match us, hl with | [_, _], _ => rfl
  obtain ⟨dMany, DMany⟩ := c.def_ 35 (d := defM "Marks" "many" "Marks.many" sMany) rfl
  have FMany : Fun K "many" "Marks.many" sMany (ma K (ga K "Marks") "many") dMany := fun_of (kws := []) DMany
  have bMany := FMany.binds (ps := ["self"]) fun _ _ _ _ _ _ us hl => match us, hl with | [_], _ => rfl
  obtain ⟨dMBel, DMBel⟩ := c.def_ 36 (d := defM "Marks" "below" "Marks.below" sMBel) rfl
  have FMBel : Fun K "below" "Marks.below" sMBel (ma K (ga K "Marks") "below") dMBel := fun_of (kws := []) DMBel
  have bMBel := FMBel.binds (ps := ["self", "j"]) fun _ _ _ _ _ _ us hl => match us, hl with | [_, _], _ => rfl
  obtain ⟨dMNth, DMNth⟩ := c.def_ 37 (d := defM "Marks" "nth" "Marks.nth" sMNth) rfl
  have FMNth : Fun K "nth" "Marks.nth" sMNth (ma K (ga K "Marks") "nth") dMNth := fun_of (kws := []) DMNth
  have bMNth := FMNth.binds (ps := ["self", "n"]) fun _ _ _ _ _ _ us hl => match us, hl with | [_, _], _ => rfl
  obtain ⟨dMNext, DMNext⟩ := c.def_ 38 (d := defM "Marks" "next_from" "Marks.next_from" sMNext) rfl
  have FMNext : Fun K "next_from" "Marks.next_from" sMNext (ma K (ga K "Marks") "next_from") dMNext := fun_of (kws := []) DMNext
  have bMNext := FMNext.binds (ps := ["self", "j"]) fun _ _ _ _ _ _ us hl => match us, hl with | [_, _], _ => rfl
  obtain ⟨dMLast, DMLast⟩ := c.def_ 39 (d := defM "Marks" "last_upto" "Marks.last_upto" sMLast) rfl
  have FMLast : Fun K "last_upto" "Marks.last_upto" sMLast (ma K (ga K "Marks") "last_upto") dMLast := fun_of (kws := []) DMLast
  have bMLast := FMLast.binds (ps := ["self", "j"]) fun _ _ _ _ _ _ us hl => match us, hl with | [_, _], _ => rfl
  obtain ⟨dMLst, DMLst⟩ := c.def_ 40 (d := defM "Marks" "listed" "Marks.listed" sMLst) rfl
  have FMLst : Fun K "listed" "Marks.listed" sMLst (ma K (ga K "Marks") "listed") dMLst := fun_of (kws := []) DMLst
  have bMLst := FMLst.binds (ps := ["self", "most"]) fun _ _ _ _ _ _ us hl => match us, hl with | [_, _], _ => rfl
  obtain ⟨dAsB, DAsB⟩ := c.def_ 41 (d := defM "Marks" "as_bits" "Marks.as_bits" sAsB) rfl
  have FAsB : Fun K "as_bits" "Marks.as_bits" sAsB (ma K (ga K "Marks") "as_bits") dAsB := fun_of (kws := []) DAsB
  have bAsB := FAsB.binds (ps := ["self"]) fun _ _ _ _ _ _ us hl => match us, hl with | [_], _ => rfl
  obtain ⟨dOfB, DOfB⟩ := c.def_ 42 (d := defC "Marks" "of_bits" "Marks.of_bits" sOfB) rfl
  have FOfB : Fun K "of_bits" "Marks.of_bits" sOfB (wf K (ga K "Marks") "classmethod" "of_bits") dOfB := fun_of (kws := []) DOfB
  have bOfB := FOfB.binds (ps := ["cls", "bits"]) fun _ _ _ _ _ _ us hl => match us, hl with | [_, _], _ => rfl
  obtain ⟨dWob, DWob0⟩ := c.def_ 43 (d := ddWob) rfl
  have FWob : L2.FunD K "word_of_bits" "word_of_bits" (defArgs sWob) (defBody sWob) (defScope sWob) [V.int 1000] [] (ga K "word_of_bits") dWob := DWob0
  obtain ⟨dMInit, DMInit0⟩ := c.def_ 44 (d := ddMInit) rfl
  have FMInit : L2.FunD K "__init__" "Marks.__init__" (defArgs sMInit) (defBody sMInit) (defScope sMInit) [V.ref (He.dflAt ("Marks", some "__init__") 0 K)] [] (ma K (ga K "Marks") "__init__") dMInit := DMInit0
  have e := hfa.symm.trans (gl "law" (by simp [globs]))
  cases e
  have tabA : ∀ x ∈ lams, PySem.W.nsIn K mainGlobals x = some (some (.ref (ga K x))) ∧ PySem.W.tabIn K x = some (tabP K x) ∧ K.lookup (tabP K x).2 = none := fun x hx => tabB_ok (List.all_eq_true.mp h_xTab x hx)
  refine ⟨fun x hx => (tabA x hx).2, dLaw, fun s v => by
      have hb := FunD.bindsA (ps := ["_law_script"]) DLaw fun _ _ _ _ _ _ us hl => match us, hl with | [_], _ => rfl
      exact hb s [v] rfl, fun base _ _ TB => ?_⟩
  have MC : MkCls K (ga K "Marks") := { c := cls_ok (fa (.cls "Marks") (by simp [fas])), size := noat_ok (fa (.noat "Marks" "size") (by simp [fas])), depth := noat_ok (fa (.noat "Marks" "depth") (by simp [fas])), pieces := noat_ok (fa (.noat "Marks" "pieces") (by simp [fas])) }
  have mMany : Meth K (ga K "Marks") "many" (ma K (ga K "Marks") "many") := meth_ok (fa (.meth "Marks" "many") (by simp [fas]))
  have mBel : Meth K (ga K "Marks") "below" (ma K (ga K "Marks") "below") := meth_ok (fa (.meth "Marks" "below") (by simp [fas]))
  have mNth : Meth K (ga K "Marks") "nth" (ma K (ga K "Marks") "nth") := meth_ok (fa (.meth "Marks" "nth") (by simp [fas]))
  have mNext : Meth K (ga K "Marks") "next_from" (ma K (ga K "Marks") "next_from") := meth_ok (fa (.meth "Marks" "next_from") (by simp [fas]))
  have mLast : Meth K (ga K "Marks") "last_upto" (ma K (ga K "Marks") "last_upto") := meth_ok (fa (.meth "Marks" "last_upto") (by simp [fas]))
  have mLst : Meth K (ga K "Marks") "listed" (ma K (ga K "Marks") "listed") := meth_ok (fa (.meth "Marks" "listed") (by simp [fas]))
  have mAsB : Meth K (ga K "Marks") "as_bits" (ma K (ga K "Marks") "as_bits") := meth_ok (fa (.meth "Marks" "as_bits") (by simp [fas]))
  obtain ⟨t30, g30⟩ := int_ok X G (fa (.int "MOST_SIZE" (10 ^ 30)) (by simp [fas]))
  obtain ⟨t12, g12⟩ := int_ok X G (fa (.int "BASE" 12) (by simp [fas]))
  obtain ⟨t20, g20⟩ := int_ok X G (fa (.int "MOST_RUNS" 20) (by simp [fas]))
  obtain ⟨t4, g4⟩ := int_ok X G (fa (.int "MOST_STEP" 4) (by simp [fas]))
  obtain ⟨t60, g60⟩ := int_ok X G (fa (.int "MOST_TOLD_BITS" 60) (by simp [fas]))
  obtain ⟨tL, gLst⟩ := int_ok X G (fa (.int "MOST_LISTED" 1000) (by simp [fas]))
  have Cr := creadB_ok h_xCr
  have Cm := clsmB_ok h_xCm
  have mkM : Mk K (ga K "Marks") (ma K (ga K "Marks") "__init__") := mkr_ok (fa (.mkr "Marks") (by simp [fas]))
  obtain ⟨dsA, dA, bA⟩ := FunD.binds1 (ps := ["self", "size", "runs"]) FMInit 3 1 (fun z => by cases z) rfl (fun T kV doc pm an cdv ct us its hu hi => match us, hu, its, hi with | [_, _, _], _, [_], _ => ⟨_, rfl, rfl⟩)
  cases dA
  obtain ⟨dsD, dD, bD⟩ := FunD.binds1 (ps := ["self", "size", "runs"]) FMInit 2 0 (fun z => by cases z) rfl (fun T kV doc pm an cdv ct us its hu hi => match us, hu, its, hi with | [_, _], _, [_], _ => ⟨_, rfl, rfl⟩)
  obtain ⟨dsW, dW, bW⟩ := FunD.binds1 (ps := ["bits", "most"]) FWob 2 1 (fun z => by cases z) rfl (fun T kV doc pm an cdv ct us its hu hi => match us, hu, its, hi with | [_, _], _, [_], _ => ⟨_, rfl, rfl⟩)
  cases dW
  have hE : ∀ H, SeqK K H (He.dflAt ("Marks", some "__init__") 0 K) [] := fun H => .inr (mtB_ok h_xMt H)
  have GNum := ok_num (P := (PySem.Challenge.rw_allwordlengths_k16_marks_that_are_refuse).prog) (w := w) (base := base) FNum (fr _ (by simp [frees])) (fr _ (by simp [frees])) (fr _ (by simp [frees]))
  have GChkS := ok_chkS (w := w) (base := base) FChkS E1 g30 GNum FNum bNum (gl _ (by simp [globs]))
  have W : TxtW (PySem.Challenge.rw_allwordlengths_k16_marks_that_are_refuse).prog K mg (ga K "BadSize") (ga K "BadBits") (ga K "is_number") := { isi := (fr _ (by simp [frees])), int := (fr _ (by simp [frees])), bool := (fr _ (by simp [frees])), len := (fr _ (by simp [frees])), tup := (fr _ (by simp [frees])), list := (fr _ (by simp [frees])), enum := (fr _ (by simp [frees])), num := (gl _ (by simp [globs])), bz := E1, bb := E2 }
  have GW := ok_wob (w := w) (base := base) FWob W FNum bNum
  have WUp : TxtUp K mg (ga K "many_bits") (ga K "full") dManyB dFull := { dm := (fr _ (by simp [frees])), FB := FManyB, bB := bManyB, gB := (gl _ (by simp [globs])), FF := FFull, bF := bFull, gF := (gl _ (by simp [globs])) }
  have WLow : TxtLow K mg (ga K "many_upto") (ga K "many_bits") (ga K "full") dUpto dManyB dFull := { U := WUp, FU := FUpto, bU := bUpto, gU := (gl _ (by simp [globs])), min := (fr _ (by simp [frees])) }
  have WMany : TxtMany K mg (ga K "many_below") (ga K "many_upto") (ga K "many_bits") (ga K "full") (ga K "width") dLow dUpto dManyB dFull dWidth t12 := { L := WLow, FL := FLow, bL := bLow, gL := (gl _ (by simp [globs])), FW := FWidth, bW := bWidth, gW := (gl _ (by simp [globs])), gB := g12 }
  have WPor : TxtPor K mg (ga K "class_mask") (ga K "added") (ga K "tidied") (ga K "merged") dClassm dAdded dTidy dMerge t12 := ⟨⟨(fr _ (by simp [frees])), (fr _ (by simp [frees]))⟩, FClassm, bClassm, (gl _ (by simp [globs])), FAdded, bAdded, (gl _ (by simp [globs])), FTidy, bTidy, (gl _ (by simp [globs])), FMerge, bMerge, (gl _ (by simp [globs])), g12⟩
  have GPor := ok_por (P := (PySem.Challenge.rw_allwordlengths_k16_marks_that_are_refuse).prog) (w := w) (base := base) FPor WPor
  have WRun : TxtRun K mg (ga K "is_number") dNum t4 := { isi := (fr _ (by simp [frees])), list := (fr _ (by simp [frees])), tup := (fr _ (by simp [frees])), len := (fr _ (by simp [frees])), int := (fr _ (by simp [frees])), bool := (fr _ (by simp [frees])), FN := FNum, bN := bNum, gN := (gl _ (by simp [globs])), g4 := g4 }
  have GRun := ok_isrun (P := (PySem.Challenge.rw_allwordlengths_k16_marks_that_are_refuse).prog) (w := w) (base := base) FIsRun WRun
  have WMI : TxtMI (PySem.Challenge.rw_allwordlengths_k16_marks_that_are_refuse).prog K mg (ga K "TooMany") (ga K "BadNumber") (ga K "check_size") (ga K "is_run") (ga K "pieces_of_runs") dChkS dIsRun dPor t20 := ⟨E3, E0, (fr _ (by simp [frees])), (fr _ (by simp [frees])), FChkS, bChkS, (gl _ (by simp [globs])), FIsRun, bIsRun, (gl _ (by simp [globs])), FPor, bPor, (gl _ (by simp [globs])), g20⟩
  have GI := ok_minit (w := w) (base := base) FMInit WMI GChkS GRun GPor MC
  have WMPl : TxtMPl K mg (ga K "many_upto") (ga K "many_bits") (ga K "full") (ga K "bits_of") dUpto dManyB dFull dBitsOf := { U := WUp, FU := FUpto, bU := bUpto, gU := (gl _ (by simp [globs])), FO := FBitsOf, bO := bBitsOf, gO := (gl _ (by simp [globs])), len := (fr _ (by simp [frees])), range := (fr _ (by simp [frees])), enum := (fr _ (by simp [frees])) }
  have GMPl := ok_mpl (P := (PySem.Challenge.rw_allwordlengths_k16_marks_that_are_refuse).prog) (w := w) (base := base) FMPl WMPl
  have WAsB : TxtAsB (PySem.Challenge.rw_allwordlengths_k16_marks_that_are_refuse).prog K mg (ga K "BadSize") (ga K "marked_places") (ga K "width") dMPl dWidth t12 tL := { bz := E1, FP := FMPl, bP := bMPl, gP := (gl _ (by simp [globs])), FW := FWidth, bW := bWidth, gW := (gl _ (by simp [globs])), gB := g12, gL := gLst, tup := (fr _ (by simp [frees])) }
  have GAs := ok_asb (w := w) (base := base) FAsB WAsB GMPl MC
  have WOfB : TxtOfB K mg (ga K "word_of_bits") (ga K "tidied") (ga K "full") t12 t60 dFull := { len := (fr _ (by simp [frees])), enum := (fr _ (by simp [frees])), gW := (gl _ (by simp [globs])), gT := (gl _ (by simp [globs])), FF := FFull, bF := bFull, gF := (gl _ (by simp [globs])), gB := g12, g60 := g60 }
  have GOf := ok_ofb (w := w) (base := base) FOfB WOfB mkM GI bD dD hE GW bW FWob.kp FTidy bTidy MC
  have GChkN := ok_chkN (w := w) (base := base) FChkN E0 GNum FNum bNum (gl _ (by simp [globs]))
  have GChkC := ok_chkC (w := w) (base := base) FChkC E0 (fr _ (by simp [frees])) (fr _ (by simp [frees])) (fr _ (by simp [frees]))
  have GLow := ok_low (P := (PySem.Challenge.rw_allwordlengths_k16_marks_that_are_refuse).prog) (w := w) (base := base) FLow WLow
  have GMa := ok_many (P := (PySem.Challenge.rw_allwordlengths_k16_marks_that_are_refuse).prog) (w := w) (base := base) FMany WMany MC
  have GPlO := ok_plo (P := (PySem.Challenge.rw_allwordlengths_k16_marks_that_are_refuse).prog) (w := w) (base := base) FPlO WMPl
  have WAsk : TxtAsk (PySem.Challenge.rw_allwordlengths_k16_marks_that_are_refuse).prog w K mg base (ga K "Marks") (ga K "BadNumber") (ga K "check_number") (ga K "check_count") (ga K "many_below") (ga K "place_of") (ga K "marked_places") (ga K "width") dChkN dChkC dLow dPlO dMPl dWidth t12 tL :=
    ⟨GChkN, FChkN.kp, bChkN, (gl _ (by simp [globs])), GChkC, FChkC.kp, bChkC, (gl _ (by simp [globs])), GLow, FLow.kp, bLow, (gl _ (by simp [globs])), GPlO, FPlO.kp, bPlO, (gl _ (by simp [globs])), GMPl, FMPl.kp, bMPl, (gl _ (by simp [globs])), FWidth, bWidth, (gl _ (by simp [globs])), g12, gLst, (fr _ (by simp [frees])), (fr _ (by simp [frees]))⟩
  have GBe := ok_mbel FMBel WAsk MC
  have GNt := ok_mnth FMNth WAsk MC
  have GNe := ok_mnext FMNext WAsk MC GBe bMBel mBel GNt bMNth mNth
  have GLas := ok_mlast FMLast WAsk MC GBe bMBel mBel GNt bMNth mNth
  have GLis := ok_mlst FMLst WAsk MC E3 GMa bMany mMany
  have GD := ok_draw (P := (PySem.Challenge.rw_allwordlengths_k16_marks_that_are_refuse).prog) (w := w) (base := base) FDraw T
  have GPk := ok_pick (P := (PySem.Challenge.rw_allwordlengths_k16_marks_that_are_refuse).prog) (w := w) (base := base) FPick T FDraw bDraw
  have GPen := ok_pen (P := (PySem.Challenge.rw_allwordlengths_k16_marks_that_are_refuse).prog) (w := w) (base := base) FPen T
  have B : TxtL mg := { str := (fr _ (by simp [frees])), len := (fr _ (by simp [frees])), int := (fr _ (by simp [frees])), range := (fr _ (by simp [frees])) }
  have GBi := ok_lbits (P := (PySem.Challenge.rw_allwordlengths_k16_marks_that_are_refuse).prog) (w := w) (base := base) FBits B GD (gl _ (by simp [globs])) FDraw bDraw FBig bBig (gl _ (by simp [globs]))
  have GBig := ok_lbigN (P := (PySem.Challenge.rw_allwordlengths_k16_marks_that_are_refuse).prog) (w := w) (base := base) FBig B GD (gl _ (by simp [globs])) FDraw bDraw
  have N : TxtN (PySem.Challenge.rw_allwordlengths_k16_marks_that_are_refuse).prog w K mg base (ga K "_law_draw") (ga K "_law_big") dDraw dBig := { GD := GD, gD := (gl _ (by simp [globs])), FD := FDraw, bD := bDraw, GB := GBig, gB := (gl _ (by simp [globs])), FB := FBig, bB := bBig, max := (fr _ (by simp [frees])), min := (fr _ (by simp [frees])) }
  have GSz := ok_lsize FLSize N
  have GPl := ok_lplace FLPlace N
  have GRu1 := ok_lrun FLRun N FLPlace bLPlace (gl _ (by simp [globs]))
  have GRus := ok_lruns FLRuns GRu1 FLRun bLRun (gl _ (by simp [globs])) (fr _ (by simp [frees]))
  have kw2 : ∀ i, i < 4 → PySem.W.kitOne K (.ref (ceK K i)) (.ref (ga K "WordsError")) = some true ∧ PySem.W.kitOne K (.ref (ceK K i)) (.type "ValueError") = some true := fun i hi => by
    obtain ⟨h1, h2⟩ := bo (List.all_eq_true.mp h_xKw i (List.mem_range.mpr hi))
    exact ⟨of_decide_eq_true h1, of_decide_eq_true h2⟩
  have R : Errs16 (PySem.Challenge.rw_allwordlengths_k16_marks_that_are_refuse).prog K mg (ceK K) (ga K "WordsError") := { e0 := E0, e1 := E1, e2 := E2, e3 := E3, gW := (gl _ (by simp [globs])), isi := (fr _ (by simp [frees])), ve := (fr _ (by simp [frees])), exm := fun i j hi hj => of_decide_eq_true (List.all_eq_true.mp (List.all_eq_true.mp h_xEx i (List.mem_range.mpr hi)) j (List.mem_range.mpr hj)), kw := fun i hi => (kw2 i hi).1, kv := fun i hi => (kw2 i hi).2 }
  have GSm := ok_lsm (P := (PySem.Challenge.rw_allwordlengths_k16_marks_that_are_refuse).prog) (w := w) (base := base) FLSm (fr _ (by simp [frees])) (fr _ (by simp [frees]))
  have L16 : TxtL16 (PySem.Challenge.rw_allwordlengths_k16_marks_that_are_refuse).prog w K mg base (ga K "Marks") (ga K "WordsError") (ceK K) (ga K "_law_refusal") (ga K "_law_same") (ma K (ga K "Marks") "__init__") dLRf dLSm dMInit := { FR_ := FLRf, bR := bLRf, gR := (gl _ (by simp [globs])), R := R, GS := GSm, kS := FLSm.kp, bS := bLSm, gS := (gl _ (by simp [globs])), M := MC, gM := (gl _ (by simp [globs])), mkc := mkM, GI := GI, bI := bA }
  have GOr := ok_lor (P := (PySem.Challenge.rw_allwordlengths_k16_marks_that_are_refuse).prog) (w := w) (base := base) (mg := mg) FLOr
  have nodup : (lams.map fun x => (tabP K x).2).Nodup := of_decide_eq_true h_xDis
  have nd2 : ([(tabP K "_law_runs_refused").2, (tabP K "_law_sizes_refused").2, (tabP K "_law_bits_refused").2, (tabP K "_law_asked_refused").2] : List Addr).Nodup := nodup
  simp only [List.nodup_cons, List.mem_cons, List.not_mem_nil, or_false, not_or] at nd2
  obtain ⟨⟨n12, n13, n14⟩, ⟨n23, n24⟩, n34, _⟩ := nd2
  obtain ⟨_, _, _, _, _, _, _, _, _, _, lk1, _⟩ := FLRr.ex
  obtain ⟨_, _, _, _, _, _, _, _, _, _, lk2, _⟩ := FLSr.ex
  obtain ⟨_, _, _, _, _, _, _, _, _, _, lk3, _⟩ := FLBr.ex
  obtain ⟨_, _, _, _, _, _, _, _, _, _, lk4, _⟩ := FLAr.ex
  have hl1 : ("_law_runs_refused" : Str) ∈ lams := by simp [lams]
  have hl2 : ("_law_sizes_refused" : Str) ∈ lams := by simp [lams]
  have hl3 : ("_law_bits_refused" : Str) ∈ lams := by simp [lams]
  have hl4 : ("_law_asked_refused" : Str) ∈ lams := by simp [lams]
  have hc1 := code_of (tabA _ hl1).1 lk1 (tabA _ hl1).2.1
  have hc2 := code_of (tabA _ hl2).1 lk2 (tabA _ hl2).2.1
  have hc3 := code_of (tabA _ hl3).1 lk3 (tabA _ hl3).2.1
  have hc4 := code_of (tabA _ hl4).1 lk4 (tabA _ hl4).2.1
  have hu : ∀ p ∈ tabsT K, (p.1 = (tabP K "_law_runs_refused").2 → p.2 = rrQ (tabP K "_law_runs_refused").1) ∧ (p.1 = (tabP K "_law_sizes_refused").2 → p.2 = srQ (tabP K "_law_sizes_refused").1) ∧ (p.1 = (tabP K "_law_bits_refused").2 → p.2 = brQ (tabP K "_law_bits_refused").1) ∧ (p.1 = (tabP K "_law_asked_refused").2 → p.2 = arQ (tabP K "_law_asked_refused").1) := fun p hp => by
    simp only [tabsT, List.mem_cons, List.not_mem_nil, or_false] at hp
    rcases hp with rfl | rfl | rfl | rfl
    · exact ⟨fun _ => rfl, fun z => absurd z n12, fun z => absurd z n13, fun z => absurd z n14⟩
    · exact ⟨fun z => absurd z.symm n12, fun _ => rfl, fun z => absurd z n23, fun z => absurd z n24⟩
    · exact ⟨fun z => absurd z.symm n13, fun z => absurd z.symm n23, fun _ => rfl, fun z => absurd z n34⟩
    · exact ⟨fun z => absurd z.symm n14, fun z => absurd z.symm n24, fun z => absurd z.symm n34, fun _ => rfl⟩
  have GRr := ok_lrr (T := tabsT K) FLRr hc1 { L := L16, TB := TB _ hl1, hm := by unfold tabsT; exact List.mem_cons_self, hu := fun p hp => (hu p hp).1, len := (fr _ (by simp [frees])), GD := GD, kD := FDraw.kp, bD := bDraw, gD := (gl _ (by simp [globs])), GU := GRus, kU := FLRuns.kp, bU := bLRuns, gU := (gl _ (by simp [globs])), GK := GPk, kK := FPick.kp, bK := bPick, gK := (gl _ (by simp [globs])), GO := GOr, kO := FLOr.kp, bO := bLOr, gO := (gl _ (by simp [globs])) }
  have GSr := ok_lsr (T := tabsT K) FLSr hc2 { L := L16, TB := TB _ hl2, hm := by unfold tabsT; exact List.mem_cons_of_mem _ List.mem_cons_self, hu := fun p hp => (hu p hp).2.1, bD := bD, dD := dD, e0 := hE, GK := GPk, kK := FPick.kp, bK := bPick, gK := (gl _ (by simp [globs])), mM := mMany, GM := GMa, bM := bMany }
  have GBr := ok_lbr (T := tabsT K) FLBr hc3 { L := L16, TB := TB _ hl3, hm := by unfold tabsT; exact List.mem_cons_of_mem _ (List.mem_cons_of_mem _ List.mem_cons_self), hu := fun p hp => (hu p hp).2.2.1, len := (fr _ (by simp [frees])), GD := GD, kD := FDraw.kp, bD := bDraw, gD := (gl _ (by simp [globs])), GB := GBi, kB := FBits.kp, bB := bBits, gB := (gl _ (by simp [globs])), GK := GPk, kK := FPick.kp, bK := bPick, gK := (gl _ (by simp [globs])), cr := Cr, cm := Cm, GF := GOf, bF := bOfB }
  have GAr := ok_lar (T := tabsT K) FLAr hc4 { L := L16, TB := TB _ hl4, hm := by unfold tabsT; exact List.mem_cons_of_mem _ (List.mem_cons_of_mem _ (List.mem_cons_of_mem _ List.mem_cons_self)), hu := fun p hp => (hu p hp).2.2.2, GD := GD, kD := FDraw.kp, bD := bDraw, gD := (gl _ (by simp [globs])), GK := GPk, kK := FPick.kp, bK := bPick, gK := (gl _ (by simp [globs])), m1 := mBel, G1 := GBe, b1 := bMBel, m2 := mNext, G2 := GNe, b2 := bMNext, m3 := mLast, G3 := GLas, b3 := bMLast, m4 := mNth, G4 := GNt, b4 := bMNth, m5 := mLst, G5 := GLis, b5 := bMLst, m6 := mAsB, G6 := GAs, b6 := bAsB }
  exact (ok_law FLaw { L := L16, range := (fr _ (by simp [frees])), bD := bD, dD := dD, e0 := hE, GPen := GPen, kPen := FPen.kp, bPen := bPen, gPen := (gl _ (by simp [globs])), GSz := GSz, kSz := FLSize.kp, bSz := bLSize, gSz := (gl _ (by simp [globs])), GRu := GRus, kRu := FLRuns.kp, bRu := bLRuns, gRu := (gl _ (by simp [globs])), GRr := GRr, kRr := FLRr.kp, bRr := bLRr, gRr := (gl _ (by simp [globs])), GSr := GSr, kSr := FLSr.kp, bSr := bLSr, gSr := (gl _ (by simp [globs])), GBr := GBr, kBr := FLBr.kp, bBr := bLBr, gBr := (gl _ (by simp [globs])), GAr := GAr, kAr := FLAr.kp, bAr := bLAr, gAr := (gl _ (by simp [globs])) }).mono (by decide)
end Aw

open PySem PySem.W PySem.Calls PyProof.Rows
set_option maxRecDepth 100000 in
set_option maxHeartbeats 0 in
theorem PySem.Challenge.cw_allwordlengths_k16_marks_that_are_refuse_holds : PySem.Challenge.rw_allwordlengths_k16_marks_that_are_refuse.Holds := by
  w_on; o_law
  refine HandSHeadRun.head_any (r := OpenLaw.row PySem.Challenge.rw_allwordlengths_k16_marks_that_are_refuse) (q := view (OpenLaw.row PySem.Challenge.rw_allwordlengths_k16_marks_that_are_refuse).prog [57, 58, 59, 60, 61]) (H := Aw.hk) (ob := Aw.ob) (M := 12000) (loose := Aw.loose) (d := HandSHeadRun.topDef (OpenLaw.row PySem.Challenge.rw_allwordlengths_k16_marks_that_are_refuse).prog 61) (kwd := []) Aw.ob_eq
    (by kernel_rfl) (fun s => by kernel_rfl) Aw.run (by kernel_rfl) (by kernel_rfl) (by kernel_rfl) (by rfl) (by first | assumption | decide +kernel) (by decide +kernel) ⟨rfl, rfl, rfl, rfl, rfl, by decide +kernel⟩ ?hw ?hc
  case hw => w_witness2
  case hc =>
    refine Aw.walk_T (l := PySem.Challenge.rw_allwordlengths_k16_marks_that_are_refuse) (n := 63) (k := 11) (x := "_law_script") (CX := fun _ => L2.CX0) rfl (by decide) (by kernel_rfl) ⟨rfl, by decide, by decide⟩ ?F (fun _ _ _ _ _ z => z)
    intro w mg mb fa h mean Y T hmg0
    obtain ⟨K, KX, c⟩ := Y
    have hmg : mg ("law" : PySem.Str) = some (.ref fa) := by
      have e : (HandSHeadRun.topDef (OpenLaw.row PySem.Challenge.rw_allwordlengths_k16_marks_that_are_refuse).prog 61).name = ("law" : PySem.Str) := by kernel_rfl
      rw [← e]
      exact hmg0
    obtain ⟨ta, fd, hb, hF⟩ := Aw.facts (w := w) KX T.g hmg c
    have hd : ∀ x ∈ Aw.lams, ∃ d, (recsOf (view (OpenLaw.row PySem.Challenge.rw_allwordlengths_k16_marks_that_are_refuse).prog [57, 58, 59, 60, 61])).find? (fun e => e.name == x) = some d := fun x hx => by
      simp only [Aw.lams, List.mem_cons, List.not_mem_nil, or_false] at hx
      rcases hx with rfl | rfl | rfl | rfl
      · exact ⟨HandSHeadRun.topDef (OpenLaw.row PySem.Challenge.rw_allwordlengths_k16_marks_that_are_refuse).prog 57, by kernel_rfl⟩
      · exact ⟨HandSHeadRun.topDef (OpenLaw.row PySem.Challenge.rw_allwordlengths_k16_marks_that_are_refuse).prog 58, by kernel_rfl⟩
      · exact ⟨HandSHeadRun.topDef (OpenLaw.row PySem.Challenge.rw_allwordlengths_k16_marks_that_are_refuse).prog 59, by kernel_rfl⟩
      · exact ⟨HandSHeadRun.topDef (OpenLaw.row PySem.Challenge.rw_allwordlengths_k16_marks_that_are_refuse).prog 60, by kernel_rfl⟩
    have tb := fun x hx => (hd x hx).elim fun d hd => tab_of T KX hd (ta x hx).1
    refine ⟨K, KX, fd, Aw.lams.map (Aw.tabP K), Aw.spLaw K (Aw.tabsT K), fun p hp => ?_, fun p hp => ?_, fun p hp => ?_, hb, fun H a ns hl _ hT hS => ⟨a, ns, rfl, hS, hl, fun p hp => ?_, fun _ => rfl⟩, fun base b1 b2 b3 => hF base b1 b2 fun x hx => b3 _ (List.mem_map_of_mem hx)⟩
    · obtain ⟨x, hx, rfl⟩ := List.mem_map.mp hp
      exact (tb x hx).2
    · obtain ⟨x, hx, rfl⟩ := List.mem_map.mp hp
      exact (ta x hx).2
    · obtain ⟨x, hx, rfl⟩ := List.mem_map.mp hp
      exact (tb x hx).1
    · simp only [Aw.tabsT, List.mem_cons, List.not_mem_nil, or_false] at hp
      rcases hp with rfl | rfl | rfl | rfl
      · exact LamX.TabS.nil (hT _ (List.mem_map_of_mem (a := ("_law_runs_refused" : PySem.Str)) (by simp [Aw.lams])))
      · exact LamX.TabS.nil (hT _ (List.mem_map_of_mem (a := ("_law_sizes_refused" : PySem.Str)) (by simp [Aw.lams])))
      · exact LamX.TabS.nil (hT _ (List.mem_map_of_mem (a := ("_law_bits_refused" : PySem.Str)) (by simp [Aw.lams])))
      · exact LamX.TabS.nil (hT _ (List.mem_map_of_mem (a := ("_law_asked_refused" : PySem.Str)) (by simp [Aw.lams])))
#print axioms PySem.Challenge.cw_allwordlengths_k16_marks_that_are_refuse_holds

