import PyProof.Rows.All
import Wide.All
import OpenK.AllK
import Wide.FinOn
import KE.KExcSuper
import KE.KExcIs
import HandS.ForMost
import HandS.ForSpec
import HandS.ExcInit
import HandS.Nested
import HandS.IsInst
import HandS.HotCalls
import HandS.ExcValue
import HandS.ExcIs
import HandS.ExcField
import HandS.Head0
import HandS.Head1
import HandS.Head2
import HandS.HeadNt
import HandS.HeadEnd
import HandS.HeadHook4
import HandS.WrittenGet
import HandS.Style
import HandS.FStr
import HandS.Conv
import HandS.OwnEq
import HandS.Defaults
import HandS.MakeKw
import KE.GoesMore
import HandS.ClsMeth
import HandS.IterVal
import HandS.CallSlots
import HandS.Star
import HandS.More
import HandS.WideBits
import HandS.TupAny
import HandS.Codes
import HandS.StrMore
import KE.KxField
import HandS.Wide
import HandS.Remove
import HandS.Flow
import HandS.Rev
import HandS.MakeKw
import HandS.Defaults
import HandS.Lambda
import HandS.EndTab
import HandS.HeadWalk
import PySem.Challenge.RW_allwordlengths_k15_whole_marks_from_mark
set_option Elab.async false
set_option linter.all false
set_option maxRecDepth 100000
set_option maxHeartbeats 4000000
namespace Aw
open PySem PySem.Spec PyProof.Rows L2 NdefX

def supBody (z y fld : Str) (j : Nat) (p0 p1 p2 p3 p4 p5 p6 p7 p8 p9 : Pos) : List Stmt :=
  [.Expr (.Call (.Attribute (.Call (.Name "super" p0) [] [] p1) "__init__" p2) [.Constant (.str z) j p3] [] p4) p5,
   .Assign [.Attribute (.Name "self" p6) fld p7] (.Name y p8) p9]

/-- the promise of such an __init__ -/
def spSup (C : Addr) (fld : Str) : Sp := fun vs H Q _ => ∃ (a : Addr) (v : V), vs = [.ref a, v] ∧ H a = some (exo a C none) ∧
  ∀ dx, H dx = none → dx ≠ a → Q .non (upd (upd H dx (exd dx [(fld, v)])) a (exo a C (some dx)))

/-- what the written part says of the class's __init__ -/
structure SupTxt (P : Program) (K : PySem.W.Frag) (mg : Str → Option Value) (C f cc cda : Addr) (qual y fld : Str) (args : Arguments) (body : List Stmt) (scope : Scope) (fd : FuncData) : Prop where
  T : OexC K C
  fdE : ∃ dV kV doc pm an ct, fd = PySem.W.fnX "__init__" qual args body scope [("__class__", cc)] dV kV doc pm an (.ref cda) ct
  lk : ∃ oc od osl, K.lookup f = some ⟨oc, od, .func fd, osl⟩
  cd : PySem.W.codeIn K (.ref cda) qual = true
  file : ∃ ccl cdd vs ccs fl tf, K.lookup cda = some ⟨ccl, cdd, .fields vs, ccs⟩ ∧ vs[2]? = some (.str fl tf) ∧ ((P.main.file : Str) == fl) = true
  cell : ∃ cl cld csl, K.lookup cc = some ⟨cl, cld, .cell (some (.ref C)), csl⟩
  hm : PySem.W.ks_superIn K C C "__init__" = some (some (.builtin "ValueError.__init__"))
  hB : PySem.W.subIn K (.ref C) (.type "ValueError") = some true
  hself : PySem.W.mroIn K C (.ref C) = some true
  ho : PySem.W.nsIn K cStatics "thirdparty.any" = some none
  hno : PySem.W.findIn K (.ref C) fld = some none
  hsup : mg "super" = none
  htop : (P.main.scope.names.lookup ("super" : Str)).isSome = false
  bd : ∃ z j p0 p1 p2 p3 p4 p5 p6 p7 p8 p9, body = supBody z y fld j p0 p1 p2 p3 p4 p5 p6 p7 p8 p9 ∧ (p2.endLine == p4.line) = true
  ar : (args.posonlyargs ++ args.args).head?.map (·.arg) = some "self"
  sc : NScope ["self", y, "__class__"] ["self", y] ["__class__"] scope
  scs : scope.names.lookup ("super" : Str) = some .globalImplicit
  ny : (y == ("__debug__" : Str)) = false ∧ (y == ("__classdict__" : Str)) = false

section
variable {X : Cx} {C f cc cda a : Addr} {v : V} {y fld z : Str} {j : Nat} {p0 p1 p2 p3 p4 p5 p6 p7 p8 p9 : Pos} {H : Hp} {s : Shared} {fd : FuncData} {body : List Stmt} {D : Ends} {Q : Flow → Shared → Prop}
/-- what the body's context is -/
structure SupCx (X : Cx) (C f cc cda : Addr) (y : Str) (fd : FuncData) : Prop where
  n0 : X.N[0]? = some ("self" : Str)
  n1 : X.N[1]? = some y
  ks : X.env.kindOf "super" = some .globalImplicit
  kc : X.env.kindOf "__class__" = some .free
  k0 : X.env.kindOf "self" = some .local
  k1 : X.env.kindOf y = some .local
  fn : X.env.func = some f
  co : X.env.code = .ref cda
  ce : X.env.cells = ([("__class__", cc)] : List (Str × Addr))
  lk : ∃ oc od osl, X.K.lookup f = some ⟨oc, od, .func fd, osl⟩
  ar : (fd.params.posonlyargs ++ fd.params.args).head?.map (·.arg) = some "self"
  file : ∃ ccl cdd vs ccs fl tf, X.K.lookup cda = some ⟨ccl, cdd, .fields vs, ccs⟩ ∧ vs[2]? = some (.str fl tf) ∧ ((X.prog.main.file : Str) == fl) = true
  cell : ∃ cl cld csl, X.K.lookup cc = some ⟨cl, cld, .cell (some (.ref C)), csl⟩
  hm : PySem.W.ks_superIn X.K C C "__init__" = some (some (.builtin "ValueError.__init__"))
  hB : PySem.W.subIn X.K (.ref C) (.type "ValueError") = some true
  hself : PySem.W.mroIn X.K C (.ref C) = some true
  ho : PySem.W.nsIn X.K cStatics "thirdparty.any" = some none
  hsup : X.mg "super" = none
  htop : (X.prog.main.scope.names.lookup ("super" : Str)).isSome = false
  T : OexC X.K C

theorem sup_eval {env : Env} (hp : (p2.endLine == p4.line) = true) : eval (.Call (.Attribute (.Call (.Name "super" p0) [] [] p1) "__init__" p2) [.Constant (.str z) j p3] [] p4) env = (do
      let ov ← attributeBase (.Call (.Name "super" p0) [] [] p1) "__init__" env (eval (.Call (.Name "super" p0) [] [] p1) env)
      standAt p2.atName
      let (f, first) ← holding [ov] (getMethod ov "__init__" (do return (← importBound (.Call (.Name "super" p0) [] [] p1) env).getD true))
      callWith p4 f first (backTo p4 (starEach [.Constant (.str z) j p3] env)) []) := by
  have e : ∀ few, methodCallPos few (.Call (.Name "super" p0) [] [] p1) env p2 p4 = pure p4 := fun few => by
    unfold methodCallPos
    rw [hp, Bool.or_true]
    rfl
  rw [eval]
  unfold methodCall
  simp only [e]
  rfl
theorem sup_first (hp4 : (p2.endLine == p4.line) = true) (S : SupCx X C f cc cda y fd) (I : Inv X [] [some (V.ref a), some v, some (V.ref C)] H s) (ha : H a = some (exo a C none))
    (h : ∀ s', Inv X [] [some (V.ref a), some v, some (V.ref C)] H s' → Q .next s') : 
    PySem.wpAt (model X.prog X.w) X.A (.func body X.env) (exec (.Expr (.Call (.Attribute (.Call (.Name "super" p0) [] [] p1) "__init__" p2) [.Constant (.str z) j p3] [] p4) p5) X.env) Q X.xe s := by
  obtain ⟨oc, od, osl, lk⟩ := S.lk
  obtain ⟨ccl, cdd, fvs, ccs, fl, tf, lkc, hvs, hfile⟩ := S.file
  obtain ⟨cl, cld, csl, lkcc⟩ := S.cell
  obtain ⟨ar, har, harg⟩ : ∃ ar : Arg, (fd.params.posonlyargs ++ fd.params.args).head? = some ar ∧ ar.arg = "self" := by
    have h := S.ar
    cases e : (fd.params.posonlyargs ++ fd.params.args).head? with
    | none => rw [e] at h; cases h
    | some ar => rw [e] at h; exact ⟨ar, rfl, Option.some.inj h⟩
  obtain ⟨nm, q, N, bs, bm, sn, sub, ab, col, dd, k0, k1, k2, k3, k5, hC, hbm⟩ := S.T.cls
  have hcl : PySem.W.clsIn X.K C = some { name := nm, bases := bs, mro := .ref C :: bm, ns := N, qualname := q, hasDict := true, slotNames := sn, subclasses := sub, abstract := ab, collection := col, hasDel := false } := by unfold PySem.W.clsIn; rw [hC] <;> rfl
  have KX := I.kIn
  have hCs := KX _ _ hC
  obtain ⟨t1, hoa⟩ := exo_at I.hok ha
  refine PySem.ks_wpAt_Expr_any (PySem.ks_wpAt_MethodCall (PySem.ks_wpAt_super_base S.ks S.kc (by decide) S.fn (KX _ _ lk) rfl har S.co (KX _ _ lkc) rfl hvs hfile S.htop ?_) (sup_eval hp4)) I.quiet (by rfl)
  obtain ⟨mb, hb1, hb2⟩ := I.mod.blt
  refine PySem.W.ks_loadName_global I.ok.kind S.ks (Calls.loadGlobal_builtin (by rw [I.ok.glob]; exact I.mod.glob.keeps I.bk) S.hsup (by rw [I.ok.blt]; exact hb1.keeps I.bk) ((hb2 _ (by decide)).trans (by decide +kernel : bootBuiltins "super" = some (.type "super"))) ⟨rfl, ?_⟩)
  refine wpAny_loadName_free I.ok.kind S.kc (by rw [S.ce]; rfl) ⟨_, KX _ _ lkcc, rfl⟩ ?_
  rw [harg]
  obtain ⟨m, hm, hl⟩ := I.loc
  obtain ⟨u0, ru0, lu0⟩ := hl 0 "self" (V.ref a) S.n0 rfl (.inl S.k0)
  obtain rfl : u0 = Value.ref a := ru0
  have hms : m "self" = some (.ref a) := by
    rcases lu0 with ⟨_, h⟩ | ⟨h, _⟩
    · exact h
    · rw [S.k0] at h
      rcases h with h | h <;> cases h
  refine wpAny_loadName_local I.ok.kind S.k0 hm hms ?_
  refine PySem.ks_wpAny_isType_cls hCs rfl ⟨rfl, ?_⟩
  obtain ⟨hp, g, dr, tk, os⟩ := s
  refine PySem.ks_wpAny_call_super hCs rfl hoa rfl (fun c e => by cases e) (PySem.W.looks_mroIn KX S.hself) (fun h' e k => ?_)
  have I1 := I.kept (t' := tk) k
  have hoa' := k _ _ hoa
  have KX' := I1.kIn
  have hnaC : a ≠ C := fun z => by
    have q1 := (I.bs C _ (I.ok.mod.kin _ _ hC)).2
    rw [← z, ha] at q1
    cases q1
  have J : PySem.W.InstAt h' a { cls := .ref C, dict := none, data := .fields #[.ref t1, .none, .none, .none, .bool false, .none] } C none := ⟨hoa', rfl, rfl, trivial⟩
  have hsup := S.hm
  unfold PySem.W.ks_superIn at hsup
  rw [hcl] at hsup
  refine PySem.W.kxs_getMethod PySem.W.kxs_ValueError e (PySem.W.looks_opaque KX' S.ho) (fun A Q E s k q => wpAny_bind ((PySem.W.looks_clsIn KX' hcl) A _ E s k (wpAny_pure q))) rfl KX' hsup (J.type.andThen (PySem.W.looks_subIn KX' S.hB)) hnaC (by decide) ?_
  have k2 : ∀ b o, h'.get? b = some o → (h'.push (PySem.W.kxs_mw "ValueError.__init__" a)).get? b = some o := fun b o e => Heap.get?_push_of_some _ e
  have hu : (h'.push (PySem.W.kxs_mw "ValueError.__init__" a)).get? h'.objs.size = some (PySem.W.kxs_mw "ValueError.__init__" a) := Heap.get?_push_at rfl rfl
  have I2 := I1.kept (t' := tk + 1) k2
  have I3 : Inv X [(h'.objs.size, PySem.W.kxs_mw "ValueError.__init__" a)] [some (V.ref a), some v, some (V.ref C)] H ⟨h'.push (PySem.W.kxs_mw "ValueError.__init__" a), g, dr, tk + 1, os⟩ := I2.pins_of fun p hp => by
    have ep : p = (h'.objs.size, PySem.W.kxs_mw "ValueError.__init__" a) := by simpa using hp
    subst ep
    exact ⟨hu, I1.hok.fresh (Nat.le_refl _), Nat.ne_of_gt I1.lt, I1.nofs (Nat.le_refl _), fun v => by simp [PySem.W.kxs_mw]⟩
  refine PySem.W.kxs_callWith (i := "ValueError.__init__") (x := a) rfl (PySem.Calls.evalArgs_plain (thn ((pa_cons pe_str pa_nil).run p4 [(h'.objs.size, PySem.W.kxs_mw "ValueError.__init__" a)] _ _ H (fun vs H1 => H1 = H ∧ vs = [V.str z]) I3 ⟨rfl, rfl⟩) fun us s1 hq => ?_))
  obtain ⟨vs, H1, I4, rv, rfl, rfl⟩ := hq
  have hu4 := (I4.pin (h'.objs.size, PySem.W.kxs_mw "ValueError.__init__" a) (List.mem_append_right _ List.mem_cons_self)).1
  refine ⟨hu4, ?_⟩
  have I5 : Inv X [] [some (V.ref a), some v, some (V.ref C)] H1 s1 := I4.pins_of fun p hp => by cases hp
  obtain ⟨t5, hoa5⟩ := exo_at I5.hok ha
  have hC5 := I5.kIn _ _ hC
  have hlen : us.length ≤ sizeLine := by
    rw [← Paired.length rv, sizeLine_eq]
    show 1 ≤ 16777216
    decide
  obtain ⟨hp5, g5, dr5, tk5, os5⟩ := s1
  show wpAny (model X.prog X.w) X.A (call (Value.ref h'.objs.size) us) _ _ _
  refine wpAny_call (codeAny_of_tree ?_)
  show wpAny _ X.A.in1 (callAny (.ref h'.objs.size) ⟨us, []⟩) _ _ _
  simp only [callAny]
  refine wpAny_bind (wpAny_load hu4 ?_)
  simp only [PySem.W.kxs_mw, show (Value.type "method-wrapper" == Value.type "method" || Value.type "method-wrapper" == Value.type "builtin_function_or_method" || Value.type "method-wrapper" == Value.type "method-wrapper") = true by decide, if_true]
  refine PySem.W.KFB.if_so (by decide) ?_
  refine wpAny_bind (PySem.W.check_bound_init F.excBase_ValueError.toExcCallFacts hC5 hoa5 rfl ?_)
  refine wpAny_bind (wpAny_pure (wpAny_pure ?_))
  refine ⟨plainId_quiet F.excBase_ValueError.init.plain _, codeAny_builtin F.excBase_ValueError.initEntry ?_⟩
  refine PySem.W.exc_init_tree (cls := .ref C) (t0 := t5) (dv := none) (c2 := .none) (c3 := .none) (b4 := .bool false) hoa5 hlen fun h6 k6 e6 _ => ?_
  have J6 := I5.write (t' := tk5) (x := a) (e := a) (o := exo a C none) (by rw [ha]; exact True.intro) (.inl rfl) k6 ⟨_, e6⟩ (exo_ok e6)
  have eu : upd H1 a (exo a C none) = H1 := by
    funext b
    by_cases hb : b = a
    · rw [hb, upd_same, ha]
    · rw [upd_ne hb]
  rw [eu] at J6
  exact h _ J6
end

section
variable {P : Program} {w : World} {K : PySem.W.Frag} {mg : Str → Option Value} {base : Heap} {C f cc cda : Addr} {qual y fld : Str} {args : Arguments} {body : List Stmt} {scope : Scope} {fd : FuncData}
theorem ok_sup (S : SupTxt P K mg C f cc cda qual y fld args body scope fd) : FnOk P w K mg base CX0 1 f fd ["self", y] (spSup C fld) := by
  refine ⟨fun vs H Q E h => ?_, fun A outer s H as us vs Q E hr e0 hb r hsp => ?_⟩
  · obtain ⟨a, v, rfl, _⟩ := h
    rfl
  obtain ⟨a, v, rfl, ha, q⟩ := hsp
  obtain ⟨dV, kV, doc, pm, an, ct, rfl⟩ := S.fdE
  obtain ⟨oc, od, osl, lk⟩ := S.lk
  obtain ⟨ccl, cdd, fvs, ccs, fl, tf, lkc, hvs, hfile⟩ := S.file
  obtain ⟨cl, cld, csl, lkcc⟩ := S.cell
  obtain ⟨z, j, p0, p1, p2, p3, p4, p5, p6, p7, p8, p9, rfl, hp4⟩ := S.bd
  obtain ⟨ar, har, harg⟩ : ∃ ar : Arg, (args.posonlyargs ++ args.args).head? = some ar ∧ ar.arg = "self" := by
    have h := S.ar
    cases e : (args.posonlyargs ++ args.args).head? with
    | none => rw [e] at h; cases h
    | some ar => rw [e] at h; exact ⟨ar, rfl, Option.some.inj h⟩
  have KX : K.In s.heap := e0.mod.kin.keeps fun b o e => (e0.bs b o e).1
  have lim : s.heap.NoLimit := e0.mod.nolimit.keeps fun b o e => (e0.bs b o e).1
  have hcc : H cc = none := (e0.bs cc _ (e0.mod.kin _ _ lkcc)).2
  have hC0 : H C = none := by
    obtain ⟨nm, q, N, bs, bm, sn, sub, ab, col, dd, k0, k1, k2, k3, k5, hC, hbm⟩ := S.T.cls
    exact (e0.bs C _ (e0.mod.kin _ _ hC)).2
  have r' := r
  let F : NF := ⟨"__init__", qual, args, supBody z y fld j p0 p1 p2 p3 p4 p5 p6 p7 p8 p9, scope, [("__class__", cc)], cda⟩
  have Ce : CellsAt F.cl ["__class__"] [some (V.ref C)] s.heap H := by
    have one : ∀ (x : Str) (c : Addr), ([("__class__", cc)] : List (Str × Addr)).lookup x = some c → x = "__class__" ∧ c = cc := fun x c e => by
      have h := PySem.mem_of_lookup e
      simp at h
      exact h
    refine ⟨rfl, fun x c e => ?_, fun x1 x2 c e1 e2 => ?_, fun i x e => ?_⟩
    · obtain ⟨_, rfl⟩ := one x c e
      exact ⟨hcc, _, _, KX _ _ lkcc, rfl⟩
    · rw [(one _ _ e1).1, (one _ _ e2).1]
    · cases i with
      | zero =>
        have e' : ("__class__" : Str) = x := Option.some.inj e
        subst e'
        refine ⟨cc, by simp [F, List.lookup], fun v e => ?_⟩
        have e'' : V.ref C = v := Option.some.inj (Option.some.inj e)
        subst e''
        exact ⟨.ref C, rfl, _, KX _ _ lkcc, rfl⟩
      | succ i => simp at e
  refine PySem.ks_codeAny_call_defAt (fd := PySem.W.fnX "__init__" qual args (supBody z y fld j p0 p1 p2 p3 p4 p5 p6 p7 p8 p9) scope [("__class__", cc)] dV kV doc pm an (.ref cda) ct) (body := supBody z y fld j p0 p1 p2 p3 p4 p5 p6 p7 p8 p9) (binds := (["self", y] : List Str).zip us)
    hr.depth (KX _ _ lk) rfl lim (PySem.W.codeRec_of KX S.cd) rfl hb S.sc.nocell (fun ⟨n, _⟩ hy => S.sc.par n (List.of_mem_zip hy).1) (fun h₁ hns kp => ?_) S.sc.co S.sc.gen S.sc.kind
  have I : Inv (ncx CX0 P w K mg base ["self", y, "__class__"] F f A outer s H E) [] (startF ["self", y, "__class__"] [V.ref a, v] [some (V.ref C)]) H { s with heap := h₁, toks := s.toks + ((["self", y] : List Str).zip us).length } := inv_startN S.sc hr.hd e0 rfl r Ce hns kp
  show PySem.wpAt (model P w) (A.deeper (envF F f s.heap.objs.size)) (.func F.body (envF F f s.heap.objs.size)) (execs F.body (envF F f s.heap.objs.size)) _ (ncx CX0 P w K mg base ["self", y, "__class__"] F f A outer s H E).xe _
  have SC : SupCx (ncx CX0 P w K mg base ["self", y, "__class__"] F f A outer s H E) C f cc cda y (PySem.W.fnX "__init__" qual args (supBody z y fld j p0 p1 p2 p3 p4 p5 p6 p7 p8 p9) scope [("__class__", cc)] dV kV doc pm an (.ref cda) ct) := {
    n0 := rfl, n1 := rfl, ks := S.scs, kc := S.sc.frk _ List.mem_cons_self, k0 := S.sc.par _ List.mem_cons_self, k1 := S.sc.par _ (List.mem_cons_of_mem _ List.mem_cons_self), fn := rfl, co := rfl, ce := rfl,
    lk := ⟨oc, od, osl, lk⟩, ar := S.ar, file := ⟨ccl, cdd, fvs, ccs, fl, tf, lkc, hvs, hfile⟩, cell := ⟨cl, cld, csl, lkcc⟩, hm := S.hm, hB := S.hB, hself := S.hself, ho := S.ho, hsup := S.hsup, htop := S.htop, T := S.T }
  refine PySem.ks_wpAt_execs_cons (sup_first hp4 SC I ha fun s' I' => ?_)
  refine PySem.ks_wpAt_execs_cons (wpAt_of_wpAny (wpAny_mono ((ps_ost (f := fld) (pe_var (i := 0) rfl (.inl SC.k0)) (pe_var (i := 1) rfl (.inl SC.k1) S.ny.1 S.ny.2)).run [] s' _ H { nx := fun _ H' => Q .non H', rt := fun _ _ => False } I' ?_) (fun fl s2 hs => ?_) fun _ _ z => z))
  · exact ⟨v, rfl, V.ref a, rfl, a, C, rfl, S.T, S.hno, .inl ⟨ha, fun dx hd hne => q dx hd hne⟩⟩
  · cases fl with
    | next =>
      obtain ⟨σ', H', J, hq⟩ := hs
      refine wpAt_of_wpAny (wpAny_pure ?_)
      exact ⟨V.non, H', J.os, J.bare, J.base, J.hok, rfl, hq⟩
    | ret u => obtain ⟨_, _, _, _, _, q⟩ := hs; exact False.elim q
    | brk => obtain ⟨_, _, _, q⟩ := hs; exact False.elim q
    | cont => obtain ⟨_, _, _, q⟩ := hs; exact False.elim q
end
end Aw

namespace Aw
open PySem PySem.Spec PyProof.Rows L2 NdefX
abbrev St := L2.St

/-! ### X(v) made: raised, or held as a value -/
/-- what pmk_oex asks behind the argument, answered -/
theorem mkS_ans {C : Addr} {fld : Str} {v : V} {H1 : Hp} {Q : XK} (q : ∀ d, H1 d = none → Q (.ref C) (some d) (upd H1 d (.xd [(fld, v)]))) :
    ([v] : List V).length ≤ 1000 ∧ ∀ a, H1 a = none → spSup C fld (.ref a :: ([v] ++ [])) (upd H1 a (exo a C none))
      (fun v H2 => v = .non ∧ ∃ (d : Addr) (fs : List (Str × V)), H2 a = some (exo a C (some d)) ∧ H2 d = some (exd d fs) ∧ H1 d = none ∧ Q (.ref C) (some d) (upd (del H2 a) d (.xd fs))) (fun _ _ _ => False) := by
  refine ⟨by show 1 ≤ 1000; decide, fun a hn => ⟨a, v, rfl, upd_same, fun dx hd hne => ⟨rfl, dx, [(fld, v)], upd_same, ?_, ?_, ?_⟩⟩⟩
  · rw [upd_ne hne, upd_same]
  · have := hd
    rw [upd_ne hne] at this
    exact this
  · have hd' : H1 dx = none := by
      have := hd
      rw [upd_ne hne] at this
      exact this
    have eh : upd (del (upd (upd (upd H1 a (exo a C none)) dx (exd dx [(fld, v)])) a (exo a C (some dx))) a) dx (.xd [(fld, v)]) = upd H1 dx (.xd [(fld, v)]) := by
      funext b
      by_cases hb : b = dx
      · rw [hb, upd_same, upd_same]
      · rw [upd_ne hb, upd_ne hb]
        by_cases hba : b = a
        · rw [hba, del_same, hn]
        · rw [del_ne hba, upd_ne hba, upd_ne hb, upd_ne hba]
    rw [eh]
    exact q dx hd'
section
variable {X : Cx} {C f cc cda : Addr} {qual y fld x : Str} {args : Arguments} {body : List Stmt} {scope : Scope} {fd : FuncData} {e : Expr} {es : List Expr} {ta : TA} {p pos : Pos}
/-- X(v), to be raised: the reading is tMkO C (spSup C fld) [] ta; behind the argument: mkS_ans -/
theorem pmk_sup (S : SupTxt X.prog X.K X.mg C f cc cda qual y fld args body scope fd) (iC : PySem.W.findIn X.K (.ref C) "__init__" = some (some (.ref f))) (tI : PySem.W.typeIn X.K (.ref f) = some (.type "function"))
    (hb : Binds X.K fd ["self", y] []) (hr : Room 2 X.A) (hg : Gl X x) (hm : X.mg x = some (.ref C)) (ha : PA X (e :: es) ta)
    (hdb : (x == ("__debug__" : Str)) = false := by decide) (he : starEach (e :: es) X.env = (false, eval e X.env) :: starEach es X.env := by rfl) (hpl : (backTo pos (starEach es X.env)).any (·.1) = false := by rfl) :
    PMk X (.Call (.Name x p) (e :: es) [] pos) (tMkO C (spSup C fld) [] ta) :=
  pmk_oex (ds := []) (dvs := []) (CX := CX0) S.T iC tI (ok_sup S) hr hb .nil pass0 hg hm ha hdb he hpl

/-- X(v) as a value -/
def tVaS (C : Addr) (fld : Str) (ta : TA) : TE := fun σ H Q => ta σ H fun vs H1 => ∃ v, vs = [v] ∧ ∀ a d, H1 a = none → H1 d = none → d ≠ a → Q (.ref a) (upd (upd H1 d (exd d [(fld, v)])) a (exo a C (some d)))
theorem pe_sup (S : SupTxt X.prog X.K X.mg C f cc cda qual y fld args body scope fd) (iC : PySem.W.findIn X.K (.ref C) "__init__" = some (some (.ref f))) (tI : PySem.W.typeIn X.K (.ref f) = some (.type "function"))
    (hb : Binds X.K fd ["self", y] []) (hr : Room 2 X.A) (hg : Gl X x) (hm : X.mg x = some (.ref C)) (ha : PA X (e :: es) ta)
    (hdb : (x == ("__debug__" : Str)) = false := by decide) (he : starEach (e :: es) X.env = (false, eval e X.env) :: starEach es X.env := by rfl) (hpl : (backTo pos (starEach es X.env)).any (·.1) = false := by rfl) :
    PE X (.Call (.Name x p) (e :: es) [] pos) (tVaS C fld ta) := by
  have T := S.T
  have F1 : FnOk X.prog X.w X.K X.mg X.base CX0 1 f fd ["self", y] (spSup C fld) := ok_sup S
  refine ⟨fun pins s σ H Q I h => ?_⟩
  obtain ⟨nm, q, N, bs, bm, sn, sub, ab, col, dd, k0, k1, k2, k3, k5, hC, hbm⟩ := T.cls
  refine wpAny_Call_Name_kw (ld_glob I hg hm ?_ hdb)
  refine PySem.W.callWith_K (h₀ := X.base) I.ok.mod.kin T.kC (thn (ha.run pos pins s σ H _ I h) fun us s1 ⟨vs, H1, I1, r1, v, ev, q1⟩ => ⟨I1.kIn, ?_⟩) he hpl
  subst ev
  show wpAny _ _ (call (.ref C) us) _ _ _
  obtain ⟨hp, g, dr, tk, os⟩ := s1
  have hsz : hp.objs.size ≤ hp.objs.size + 1 := Nat.le_succ _
  have hn : H1 (hp.objs.size + 1) = none := I1.hok.fresh hsz
  have kk : ∀ b o, hp.get? b = some o → ((hp.push (PySem.W.kdv_tup us)).push (PySem.HandSPX.excO C hp.objs.size)).get? b = some o := fun b o e => Heap.get?_push_of_some _ (Heap.get?_push_of_some _ e)
  have hget : ((hp.push (PySem.W.kdv_tup us)).push (PySem.HandSPX.excO C hp.objs.size)).get? (hp.objs.size + 1) = some (PySem.HandSPX.excO C hp.objs.size) := by heap_get
  have I2 : Inv X pins σ (upd H1 (hp.objs.size + 1) (exo (hp.objs.size + 1) C none)) ⟨(hp.push (PySem.W.kdv_tup us)).push (PySem.HandSPX.excO C hp.objs.size), g, dr, tk, os⟩ :=
    I1.laid (t' := tk) (a := hp.objs.size + 1) (o := exo (hp.objs.size + 1) C none) (h' := (hp.push (PySem.W.kdv_tup us)).push (PySem.HandSPX.excO C hp.objs.size)) kk hsz (exo_ok hget)
  have r2 : Vals (V.ref (hp.objs.size + 1) :: [v]) (Value.ref (hp.objs.size + 1) :: us) := .cons rfl r1
  have hus : us.length ≤ sizeLine := by
    rw [← Paired.length r1, sizeLine_eq]
    show 1 ≤ 16777216
    decide
  have hq : spSup C fld (V.ref (hp.objs.size + 1) :: [v]) (upd H1 (hp.objs.size + 1) (exo (hp.objs.size + 1) C none)) (fun w H2 => w = .non ∧ Q (.ref (hp.objs.size + 1)) H2) (fun _ _ _ => False) := by
    refine ⟨hp.objs.size + 1, v, rfl, upd_same, fun dx hd hne => ⟨rfl, ?_⟩⟩
    have hd' : H1 dx = none := by
      have := hd
      rw [upd_ne hne] at this
      exact this
    have eh : upd (upd (upd H1 (hp.objs.size + 1) (exo (hp.objs.size + 1) C none)) dx (exd dx [(fld, v)])) (hp.objs.size + 1) (exo (hp.objs.size + 1) C (some dx)) = upd (upd H1 dx (exd dx [(fld, v)])) (hp.objs.size + 1) (exo (hp.objs.size + 1) C (some dx)) := by
      funext b
      by_cases hb : b = hp.objs.size + 1
      · rw [hb, upd_same, upd_same]
      · rw [upd_ne hb, upd_ne hb]
        by_cases hbd : b = dx
        · rw [hbd, upd_same, upd_same]
        · rw [upd_ne hbd, upd_ne hbd, upd_ne hb]
    rw [eh]
    exact q1 _ dx hn hd' hne
  have hl : (Value.ref (hp.objs.size + 1) :: us ++ []).length = (["self", y] : List Str).length := by
    have e := r2.length
    rw [List.append_nil]
    rw [← e]
    rfl
  have bb := hb _ (Value.ref (hp.objs.size + 1) :: us) I2.kIn hl
  rw [List.append_nil] at bb
  refine wpAny_call (PySem.HandSPX.call_own F.excBase_ValueError (fun Y => PySem.HandSPX.refsVE_contains Y bm hbm) (I1.kIn _ _ hC) (PySem.W.looks_findIn I1.kIn iC) (fun self => PySem.W.bind_fn I1.kIn self tI) hus
    (codeAny_mono (F1.run _ X.stack _ _ ⟨Value.ref (hp.objs.size + 1) :: us, []⟩ (Value.ref (hp.objs.size + 1) :: us) _ _ (fun _ _ _ => False) (hr.make C us []) (I2.env0.make C us []) bb r2 hq) fun r s' hq' => ?_))
  cases r with
  | error er => exact pass0 pins σ _ _ er s' I2 hq'
  | ok fl =>
    cases fl with
    | ret u =>
      have ea := I2.after hq'
      obtain ⟨w', H2, I3, rv, ew, q2⟩ := ea
      subst ew
      exact ⟨rv, .ref (hp.objs.size + 1), H2, I3, rfl, q2⟩
    | next => exact False.elim hq'
    | brk => exact False.elim hq'
    | cont => exact False.elim hq'
end
end Aw

namespace Aw
open PySem PySem.Spec PyProof.Rows L2 NdefX

/-! ### what an exception class says, for isinstance and for its fields -/
structure ExcD (K : PySem.W.Frag) (C : Addr) : Prop where
  ga : PySem.W.findIn K (.ref C) "__getattribute__" = some (some (.builtin "BaseException.__getattribute__"))
  gg : PySem.W.findIn K (.ref C) "__getattr__" = some none
  exC : PySem.W.subIn K (.ref C) (.type "BaseException") = some true
  hdC : PySem.W.hasDictIn K C = true
  ha : PySem.W.findIn K (.ref C) "__class__" = some (some (.builtin "object.__class__"))
  hn : PySem.W.specialIn K (.builtin "object.__class__") "__get__" = some (some (.builtin "getset_descriptor.__get__"))
  ht : PySem.W.takesIn K (.builtin "object.__class__") = some true
  hm : PySem.W.mroIn K C (.type "object") = some true
theorem ExcD.cl {K : PySem.W.Frag} {C : Addr} (E : ExcD K C) : (PySem.W.clsIn K C).isSome = true := by
  obtain ⟨cd, hc, _⟩ := PySem.W.any_some E.hdC
  rw [hc]
  rfl
section
variable {K : PySem.W.Frag} {X : Cx} {a C d : Addr} {fs : List (Str × V)} {f : Str} {v : V} {oe : Obj} {H : Hp} {pins : List (Addr × Obj)} {σ : Aw.St} {s : Shared} {A : Around} {E : Value → Shared → Prop}
/-- isinstance(e, c) of an exception in hand, at a -/
def rIsV (K : PySem.W.Frag) : List V → Hp → VK → Prop := fun xs H Q => ∃ (a C : Addr) (d : Option Addr) (c : V) (cv : Value) (b : Bool), xs = [.ref a, c] ∧ ExcD K C ∧ H a = some (exo a C d) ∧ (∀ dd, d = some dd → ∃ fs, H dd = some (exd dd fs)) ∧ ClsV c cv ∧ PySem.W.kitOne K (.ref C) cv = some b ∧ Q (.bl b) H
theorem inst_exo (I : Inv X pins σ H s) {d : Option Addr} (ha : H a = some (exo a C d)) (hd : ∀ dd, d = some dd → ∃ fs, H dd = some (exd dd fs)) : ∃ oe od, PySem.W.InstAt s.heap a oe C od := by
  obtain ⟨t1, ho⟩ := exo_at I.hok ha
  cases d with
  | none => exact ⟨_, none, ho, rfl, rfl, trivial⟩
  | some dd =>
    obtain ⟨fs, hf⟩ := hd dd rfl
    obtain ⟨mA, hns, rel⟩ := exd_at I.hok hf
    obtain ⟨o, es, ep, ho', _⟩ := hns
    exact ⟨_, some o, ho, rfl, rfl, ho'⟩
theorem call_isV : CallR X (.builtin "isinstance") (rIsV X.K) := by
  intro pins s σ H xs us Q I r h
  obtain ⟨a, C, d, c, cv, b, rfl, D, ha, hd, hc, e, q⟩ := h
  cases r with
  | cons rx rr =>
    cases rr with
    | cons rt rr =>
      cases rr
      cases rx
      have ec := hc.eq rt
      subst ec
      obtain ⟨oe, od, J⟩ := inst_exo I ha hd
      exact PySem.W.kia_one (PySem.W.kitx_exc D.cl D.ga D.gg D.exC D.ha D.hn D.ht D.hm) I.kIn J e (fun z => nomatch z) fun tk => ⟨.bl b, H, I.kept (t' := tk) fun _ _ z => z, rfl, q⟩
/-- e.f of an exception in hand -/
def tXv (K : PySem.W.Frag) (f : Str) (te : TE) : TE := fun σ H Q => te σ H fun x H1 => ∃ (a C d : Addr) (fs : List (Str × V)) (v : V), x = .ref a ∧ ExcD K C ∧ PySem.W.findIn K (.ref C) f = some none ∧ H1 a = some (exo a C (some d)) ∧ H1 d = some (exd d fs) ∧ fs.lookup f = some v ∧ Q v H1
theorem pe_xv {e : Expr} {te : TE} {pos : Pos} {n : Str} (he : PE X e te) (hb : attributeBase e n X.env (eval e X.env) = eval e X.env := by rfl) : PE X (.Attribute e n pos) (tXv X.K n te) := by
  refine ⟨fun pins s σ H Q I h => ?_⟩
  refine attr_of hb (thn (he.run pins s σ H _ I h) fun u s1 hh => ?_)
  obtain ⟨x, H1, I1, rx, a, C, d, fs, v, ex, D, hno, ha, hd, l, q⟩ := hh
  subst ex
  obtain rfl : u = Value.ref a := rx
  obtain ⟨t1, ho⟩ := exo_at I1.hok ha
  obtain ⟨mA, hns, hr⟩ := exd_at I1.hok hd
  obtain ⟨od, hod, hl⟩ := lookIn_ns hns
  obtain ⟨u, hu, ru⟩ := RelO.some_of (v := v) (o := mA n) (by rw [← l]; exact hr n)
  have J : PySem.W.InstAt s1.heap a _ C (some od) := ⟨ho, rfl, rfl, hod⟩
  exact HandSPX.exc_get I1.kIn J D.ga D.gg D.exC (PySem.W.findObj_own D.hdC hno rfl (by rw [hl, hu])) (handed_of ru) ⟨v, H1, I1.tok _, ru, q⟩

/-! ### the same of an exception that is handled (pinned) -/
theorem inst_pin (I : Inv X pins σ H s) (hp : (a, oe) ∈ X.pn) {cls : Value} {d : Option Addr} (hz : Zc cls d oe) (hf : ∃ vs, oe.data = .fields vs) (ec : cls = .ref C) (hd : ∀ dd, d = some dd → ∃ fs, H dd = some (.xd fs)) : ∃ od, PySem.W.InstAt s.heap a oe C od := by
  obtain ⟨ha, _⟩ := I.pin (a, oe) (List.mem_append_left _ hp)
  obtain ⟨vs, hv⟩ := hf
  obtain ⟨z1, z2⟩ := hz
  have hn : PySem.W.notCls oe = true := by unfold PySem.W.notCls; rw [hv] <;> rfl
  cases d with
  | none => exact ⟨none, ha, z1.trans ec, hn, by rw [z2]; exact trivial⟩
  | some dd =>
    obtain ⟨fs, h⟩ := hd dd rfl
    have hx : ObjOk X.prog X.w H s.heap dd (.xd fs) := I.hok dd _ h
    obtain ⟨mA, ⟨o, es, ep, ho, _⟩, _⟩ := hx
    exact ⟨some o, ha, z1.trans ec, hn, by rw [z2]; exact ho⟩
def rIsP (K : PySem.W.Frag) (a : Addr) (cls : Value) (d : Option Addr) : List V → Hp → VK → Prop := fun xs H Q => ∃ (C : Addr) (c : V) (cv : Value) (b : Bool), xs = [.ref a, c] ∧ cls = .ref C ∧ ExcD K C ∧ (∀ dd, d = some dd → ∃ fs, H dd = some (.xd fs)) ∧ ClsV c cv ∧ PySem.W.kitOne K (.ref C) cv = some b ∧ Q (.bl b) H
theorem call_isP {cls : Value} {d : Option Addr} (hp : (a, oe) ∈ X.pn) (hz : Zc cls d oe) (hf : ∃ vs, oe.data = .fields vs) : CallR X (.builtin "isinstance") (rIsP X.K a cls d) := by
  intro pins s σ H xs us Q I r h
  obtain ⟨C, c, cv, b, rfl, ec, D, hd, hc, e, q⟩ := h
  cases r with
  | cons rx rr =>
    cases rr with
    | cons rt rr =>
      cases rr
      cases rx
      have eq := hc.eq rt
      subst eq
      obtain ⟨od, J⟩ := inst_pin I hp hz hf ec hd
      exact PySem.W.kia_one (PySem.W.kitx_exc D.cl D.ga D.gg D.exC D.ha D.hn D.ht D.hm) I.kIn J e (fun z => nomatch z) fun tk => ⟨.bl b, H, I.kept (t' := tk) fun _ _ z => z, rfl, q⟩
def tXp (K : PySem.W.Frag) (a : Addr) (cls : Value) (d : Option Addr) (f : Str) (te : TE) : TE := fun σ H Q => te σ H fun x H1 => x = .ref a ∧ ∃ (C dd : Addr) (fs : List (Str × V)) (v : V), cls = .ref C ∧ ExcD K C ∧ PySem.W.findIn K (.ref C) f = some none ∧ d = some dd ∧ H1 dd = some (.xd fs) ∧ fs.lookup f = some v ∧ Q v H1
theorem pe_xp {cls : Value} {d : Option Addr} {e : Expr} {te : TE} {pos : Pos} {n : Str} (hp : (a, oe) ∈ X.pn) (hz : Zc cls d oe) (hf : ∃ vs, oe.data = .fields vs) (he : PE X e te) (hb : attributeBase e n X.env (eval e X.env) = eval e X.env := by rfl) : PE X (.Attribute e n pos) (tXp X.K a cls d n te) := by
  refine ⟨fun pins s σ H Q I h => ?_⟩
  refine attr_of hb (thn (he.run pins s σ H _ I h) fun u s1 hh => ?_)
  obtain ⟨x, H1, I1, rx, ex, C, dd, fs, v, ec, D, hno, ed, ea, l, q⟩ := hh
  subst ex
  obtain rfl : u = Value.ref a := rx
  subst ec ed
  obtain ⟨ha, _⟩ := I1.pin (a, oe) (List.mem_append_left _ hp)
  obtain ⟨vs, hd⟩ := hf
  have hx : ObjOk X.prog X.w H1 s1.heap dd (.xd fs) := I1.hok dd _ ea
  obtain ⟨mA, hns, hr⟩ := hx
  obtain ⟨od, ho, hl⟩ := lookIn_ns hns
  obtain ⟨u, hu, ru⟩ := RelO.some_of (v := v) (o := mA n) (by rw [← l]; exact hr n)
  have J : PySem.W.InstAt s1.heap a oe C (some od) := ⟨ha, hz.1, by unfold PySem.W.notCls; rw [hd] <;> rfl, by rw [hz.2]; exact ho⟩
  exact HandSPX.exc_get I1.kIn J D.ga D.gg D.exC (PySem.W.findObj_own D.hdC hno rfl (by rw [hl, hu])) (handed_of ru) ⟨v, H1, I1.tok _, ru, q⟩
end
/-! ### a def that is called within an except suite, with the exception handled as argument -/
structure FnE (P : Program) (w : World) (K : PySem.W.Frag) (mg : Str → Option Value) (base : Heap) (k : Nat) (f : Addr) (fd : FuncData) (ps : List Str) (sp : Addr → Value → Option Addr → Sp) : Prop where
  len : ∀ a c d vs H Q E, sp a c d vs H Q E → vs.length = ps.length
  run : ∀ (A : Around) (outer : List Env) (s : Shared) (H : Hp) (args : Args) (us : List Value) (vs : List V) (Q : VK) (E : XK) (p : Addr × Obj) (cls : Value) (d : Option Addr), L2H.RoomH k A → L2H.PinOk outer H s p → Zc cls d p.2 → (∃ vs, p.2.data = .fields vs) → Env0 P w K mg base A outer s H → BindsTo s fd args (ps.zip us) → Vals vs us → sp p.1 cls d vs H Q E →
    codeAny (model P w) A (.call (.ref f) args) (CR CX0 outer P w H s Q E) s
theorem fn_ofE {P : Program} {w : World} {K : PySem.W.Frag} {mg : Str → Option Value} {base : Heap} {k : Nat} {f : Addr} {name qual : Str} {params : Arguments} {body : List Stmt} {scope : Scope} {dV kV doc pm cdv ct oc : Value} {an od : Option Addr}
    {osl : Array (Option Value)} {N ps : List Str} {sp : Addr → Value → Option Addr → Sp} (lk : K.lookup f = some ⟨oc, od, .func (PySem.W.fnOf name qual params body scope dV kV doc pm an cdv ct), osl⟩) (hcd : PySem.W.codeIn K cdv qual = true) (S : FnScope N ps scope)
    (len : ∀ a c d vs H Q E, sp a c d vs H Q E → vs.length = ps.length)
    (hbody : ∀ (A : Around) (outer : List Env) (s : Shared) (H : Hp) (vs : List V) (Q : VK) (E : XK) (p : Addr × Obj) (cls : Value) (d : Option Addr), Zc cls d p.2 → (∃ vs, p.2.data = .fields vs) → L2H.RoomH k (A.deeper (envOfC qual scope s.heap.objs.size f cdv)) → sp p.1 cls d vs H Q E →
      ∃ t, PSs (L2H.cxH CX0 P w K mg base N qual scope f cdv A outer s H E p) body t ∧ t { nx := fun _ H' => Q .non H', rt := Q } (L2.start N vs) H) :
    FnE P w K mg base (k + 1) f (PySem.W.fnOf name qual params body scope dV kV doc pm an cdv ct) ps sp := by
  refine ⟨len, fun A outer s H args us vs Q E p cls d hr hpin hz hf e0 hb r hsp => ?_⟩
  have hl := len _ _ _ _ _ _ _ hsp
  have KX : K.In s.heap := e0.mod.kin.keeps fun b o e => (e0.bs b o e).1
  have lim : s.heap.NoLimit := e0.mod.nolimit.keeps fun b o e => (e0.bs b o e).1
  have hkind : ∀ y ∈ ps.zip us, scope.names.lookup y.1 = some .local ∨ (scope.names.lookup y.1 = some .cell ∧ ((cellsFrom (s.heap.objs.size + 1) scope.names []).lookup y.1).isSome = true) := fun ⟨n, v⟩ hy => by
    rcases S.par n (List.of_mem_zip hy).1 with q | q
    · exact .inl q
    · exact .inr ⟨q, PySem.W.cellsFrom_some _ _ _ (.inl q)⟩
  refine codeAny_call_function hr.depth (KX _ _ lk) rfl S.co S.gen rfl (PySem.W.codeRec_of KX hcd) (hb _ _ _ _ ?_)
  refine wpAny_newFunctionEnv_cells S.kind hkind fun env he s1 x => ?_
  subst he
  refine ⟨lim.keeps x.toInCall.keep, codeAny_func ?_⟩
  obtain ⟨t, ht, hq⟩ := hbody A outer s H vs Q E p cls d hz hf (hr.deeper _) hsp
  have I : Inv (L2H.cxH CX0 P w K mg base N qual scope f cdv A outer s H E p) [] (L2.start N vs) H s1 := L2H.inv_startH S hpin e0 hl r x
  refine wpAny_mono (ht.run [] s1 (L2.start N vs) H _ I hq) (fun fl s' hs => ?_) fun e s' hs => hs
  have fin : ∀ {σ' : Aw.St} {H' : Hp} {v : V} {u : Value}, Inv (L2H.cxH CX0 P w K mg base N qual scope f cdv A outer s H E p) [] σ' H' s' → RelV v u → Q v H' → CE outer P w H s Q u s' :=
    fun {σ' H' v u} J rv q => ⟨v, H', J.os, J.bare, J.base, J.hok, rv, q⟩
  cases fl with
  | ret u =>
    obtain ⟨v, σ', H', J, rv, q⟩ := hs
    exact fin J rv q
  | next =>
    obtain ⟨σ', H', J, q⟩ := hs
    exact fin (v := V.non) (u := Value.none) J rfl q
  | brk =>
    obtain ⟨_, _, _, q⟩ := hs
    exact False.elim q
  | cont =>
    obtain ⟨_, _, _, q⟩ := hs
    exact False.elim q
section
variable {X : Cx} {k : Nat} {f : Addr} {fd : FuncData} {ps : List Str} {sp : Addr → Value → Option Addr → Sp} {x : Str} {q pos : Pos} {e : Expr} {es : List Expr} {t : TA} {a : Addr} {oe : Obj}
/-- f(.., e, ..) in the suite -/
theorem pe_callE {cls : Value} {d : Option Addr} (F : FnE X.prog X.w X.K X.mg X.base k f fd ps sp) (hr : L2H.RoomH k X.A) (hp : (a, oe) ∈ X.pn) (hz : Zc cls d oe) (hf : ∃ vs, oe.data = .fields vs) (hg : Gl X x) (hm : X.mg x = some (.ref f)) (hk : PySem.W.keepIn X.K (.ref f) = true) (hb : Binds X.K fd ps [])
    (ha : PA X (e :: es) t) (hdb : (x == ("__debug__" : Str)) = false := by decide) (he : starEach (e :: es) X.env = (false, eval e X.env) :: starEach es X.env := by rfl) (hpl : (backTo pos (starEach es X.env)).any (·.1) = false := by rfl) :
    PE X (.Call (.Name x q) (e :: es) [] pos) (fun σ H Q => t σ H fun vs H1 => sp a cls d vs H1 Q E0) := by
  refine ⟨fun pins s σ H Q I h => ?_⟩
  refine wpAny_Call_Name_kw (ld_glob I hg hm ?_ hdb)
  refine PySem.W.callWith_K (h₀ := X.base) I.ok.mod.kin hk (thn (ha.run pos pins s σ H _ I h) fun us s1 ⟨vs, H1, I1, r, q⟩ => ⟨I1.kIn, ?_⟩) he hpl
  have hl : us.length = ps.length := by rw [← r.length]; exact F.len _ _ _ _ _ _ _ q
  have b := hb s1 us I1.kIn (by rw [List.append_nil]; exact hl)
  rw [List.append_nil] at b
  have P1 := I1.pin (a, oe) (List.mem_append_left _ hp)
  have hpin : L2H.PinOk X.stack H1 s1 (a, oe) := ⟨P1.1, P1.2.1, fun hm => (List.mem_cons.mp (I1.stkSub a hm)).elim P1.2.2.1 P1.2.2.2.1, P1.2.2.2.2⟩
  refine wpAny_call (codeAny_mono (F.run X.A X.stack s1 H1 ⟨us, []⟩ us vs Q E0 (a, oe) cls d hr hpin hz hf I1.env0 b r q) fun r s' hq => ?_)
  cases r with
  | error e => exact False.elim hq
  | ok fl =>
    cases fl with
    | ret u => exact I1.after hq
    | next => exact False.elim hq
    | brk => exact False.elim hq
    | cont => exact False.elim hq
end
/-- room within the suite -/
theorem roomH_suite {X : Cx} {k : Nat} (r : Room k X.A) {a : Addr} {pn : List (Addr × Obj)} : L2H.RoomH k (X.suite a pn).A := ⟨r.dp, r.un⟩
end Aw

namespace Aw
open PySem PySem.Spec PyProof.Rows L2 NdefX
def top (i : Nat) : Stmt := PySem.Challenge.pw_allwordlengths_k15_whole_marks_from_mark.main.body.getD i (.Pass ⟨0, 0, 0, 0⟩)
end Aw

namespace Aw
open PySem PySem.Spec PyProof.Rows L2 NdefX
abbrev sPen : Stmt := (top 42)
abbrev sDraw : Stmt := (top 43)
/-! ### the pen of a law -/
def penL (c : Addr) (i l : Int) : List (Key × V) := [(.inr "cells", .ref c), (.inr "at", .int i), (.inr "left", .int l)]
theorem ne_ca : ¬ ((Sum.inr "cells" : Key) = .inr "at") := by decide +kernel
theorem ne_cl : ¬ ((Sum.inr "cells" : Key) = .inr "left") := by decide +kernel
theorem ne_al : ¬ ((Sum.inr "at" : Key) = .inr "left") := by decide +kernel
theorem pen_cells {c : Addr} {i l : Int} : valV (penL c i l) (.inr "cells") = some (.ref c) := valV_pos rfl
theorem pen_at {c : Addr} {i l : Int} : valV (penL c i l) (.inr "at") = some (.int i) := (valV_neg ne_ca).trans (valV_pos rfl)
theorem pen_left {c : Addr} {i l : Int} : valV (penL c i l) (.inr "left") = some (.int l) := (valV_neg ne_cl).trans ((valV_neg ne_al).trans (valV_pos rfl))
theorem pen_putat {c : Addr} {i l j : Int} : putK (penL c i l) (.inr "at") (.int j) = penL c j l := by
  unfold putK
  rw [if_pos (by rw [valV_any, pen_at]; rfl)]
  simp only [penL, List.map_cons, List.map_nil, if_neg ne_ca, if_neg (fun z : (Sum.inr "left" : Key) = .inr "at" => ne_al z.symm), if_pos]
theorem pen_putleft {c : Addr} {i l j : Int} : putK (penL c i l) (.inr "left") (.int j) = penL c i j := by
  unfold putK
  rw [if_pos (by rw [valV_any, pen_left]; rfl)]
  simp only [penL, List.map_cons, List.map_nil, if_neg ne_cl, if_neg ne_al, if_pos]
/-- a pen stands at p, its cells at c; it has been drawn from at most n times -/
structure Pen (H : Hp) (p c : Addr) (n : Nat) : Prop where
  ex : ∃ (cells : List Int) (i l : Int), H p = some (.dK (penL c i l)) ∧ H c = some (.lst (cells.map V.int)) ∧ cells.length ≤ 63 ∧ 0 ≤ i ∧ i ≤ n ∧ 0 ≤ l
theorem Pen.pc {H : Hp} {p c : Addr} {n : Nat} (P : Pen H p c n) : p ≠ c := by
  obtain ⟨cells, i, l, h1, h2, _⟩ := P.ex
  exact ne_of h1 h2 (fun z => by cases z)
theorem Pen.mono {H : Hp} {p c : Addr} {n m : Nat} (P : Pen H p c n) (h : n ≤ m) : Pen H p c m := by
  obtain ⟨cells, i, l, h1, h2, h3, h4, h5, h6⟩ := P.ex
  exact ⟨cells, i, l, h1, h2, h3, h4, by omega, h6⟩
theorem Pen.same {H H' : Hp} {p c : Addr} {n : Nat} (P : Pen H p c n) (s : Same H H') : Pen H' p c n := by
  obtain ⟨cells, i, l, h1, h2, h3⟩ := P.ex
  exact ⟨cells, i, l, s _ _ h1, s _ _ h2, h3⟩
theorem Pen.upd {H : Hp} {p c a : Addr} {n : Nat} {o : HO} (P : Pen H p c n) (h1 : a ≠ p) (h2 : a ≠ c) : Pen (upd H a o) p c n := by
  obtain ⟨cells, i, l, e1, e2, h3⟩ := P.ex
  exact ⟨cells, i, l, by rw [upd_ne h1.symm]; exact e1, by rw [upd_ne h2.symm]; exact e2, h3⟩
theorem Pen.some1 {H : Hp} {p c : Addr} {n : Nat} (P : Pen H p c n) : ∃ o, H p = some o := by
  obtain ⟨cells, i, l, e1, e2, h3⟩ := P.ex
  exact ⟨_, e1⟩
theorem Pen.some2 {H : Hp} {p c : Addr} {n : Nat} (P : Pen H p c n) : ∃ o, H c = some o := by
  obtain ⟨cells, i, l, e1, e2, h3⟩ := P.ex
  exact ⟨_, e2⟩
theorem Pen.new {H : Hp} {p c a : Addr} {n : Nat} {o : HO} (P : Pen H p c n) (h : H a = none) : Pen (L2.upd H a o) p c n := by
  obtain ⟨o1, e1⟩ := P.some1
  obtain ⟨o2, e2⟩ := P.some2
  exact P.upd (ne_of_none e1 h).symm (ne_of_none e2 h).symm
/-- all but p is as it was -/
def But (p : Addr) (H H' : Hp) : Prop := ∀ b o, H b = some o → b ≠ p → H' b = some o
theorem But.trans {p : Addr} {H H1 H2 : Hp} (a : But p H H1) (b : But p H1 H2) : But p H H2 := fun c o e n => b c o (a c o e n) n
theorem But.same {p : Addr} {H H1 : Hp} (a : Same H H1) : But p H H1 := fun c o e _ => a c o e
theorem But.lst {p a : Addr} {H H1 : Hp} {xs : List V} (k : But p H H1) (h : H a = some (.lst xs)) (hp : a ≠ p) : H1 a = some (.lst xs) := k a _ h hp
theorem same_upd {H : Hp} {a : Addr} {o : HO} (h : H a = none) : Same H (upd H a o) := fun b u e => by rw [upd_ne (ne_of_none e h)]; exact e
/-- _law_pen: a new pen -/
def spPen (K : PySem.W.Frag) : Sp := fun vs H Q _ => ∃ (a : Addr) (ns : List Int), vs = [.ref a] ∧ SqL K H a (ns.map V.int) ∧ ns.length ≤ 63 ∧ ∀ p c H', Same H H' → H p = none → H c = none → Pen H' p c 0 → Q (.ref p) H'
/-- _law_draw: a number below many -/
def spDraw : Sp := fun vs H Q _ => ∃ (p c : Addr) (many : Int) (n : Nat), vs = [.ref p, .int many] ∧ Pen H p c n ∧ n ≤ 1000000 ∧ 0 < many ∧ many < 1073741824 ∧
  ∀ r H', 0 ≤ r → r < many → But p H H' → Pen H' p c (n + 1) → Q (.int r) H'
/-- what the walk asks of the top's names -/
structure TxtP (mg : Str → Option Value) (fDraw : Addr) : Prop where
  list : mg "list" = none
  int : mg "int" = none
  len : mg "len" = none
  draw : mg "_law_draw" = some (.ref fDraw)
section
variable {P : Program} {w : World} {K : PySem.W.Frag} {mg : Str → Option Value} {base : Heap}
theorem scPen : FnScope ["_law_script"] ["_law_script"] (defScope sPen) := ⟨rfl, rfl, rfl, by decide +kernel, rfl, by decide +kernel, by decide +kernel⟩
theorem ok_pen {f g : Addr} {fd : FuncData} (F : Fun K "_law_pen" "_law_pen" sPen f fd) (T : TxtP mg g) : FnOk P w K mg base CX0 1 f fd ["_law_script"] (spPen K) := by
  refine F.ok scPen (fun vs H Q E h => ?_) (fun cdv A outer s H vs Q E hr h => ?_)
  · obtain ⟨p, c, rfl, _⟩ := h
    rfl
  · obtain ⟨a, ns, rfl, hS, hl, k⟩ := h
    refine ⟨_, pss_one (ps_ret (pe_disp (pps_cons pe_str (pe_callTy call_list_of (by rfl) T.list (by decide +kernel) (pa_cons (pe_slice sl_list (pv 0) po_none (po_some pe_int)) pa_nil))
      (pps_cons pe_str pe_int (pps_cons pe_str pe_int pps_nil))) (by rfl) (by rfl) (fun z => by cases z) (by decide))), ?_⟩
    intro p hp
    have hS1 : SqL K (upd H p (.dK [])) a (ns.map V.int) := (same_upd hp).seq hS
    refine ⟨_, rfl, 63, rfl, a, _, rfl, hS1, fun q hq => ?_⟩
    have e63 : cutV (ns.map V.int) none (some (63 : Int)) = ns.map V.int := by
      unfold cutV
      rw [List.length_map, HT.sIx_none ns.length 0, List.drop_zero]
      have : HT.sIx ns.length ns.length (some (63 : Int)) = ns.length := by
        show (if (63 : Int) < 0 then ((63 : Int) + (ns.length : Int)).toNat else min (63 : Int).toNat ns.length) = ns.length
        rw [if_neg (by decide)]
        exact Nat.min_eq_right (by omega)
      rw [this, Nat.sub_zero]
      exact List.take_of_length_le (by rw [List.length_map]; exact Nat.le_refl ns.length)
    rw [e63]
    refine ⟨q, _, rfl, .inl (SqL.of upd_same), fun c hc => ?_⟩
    have hpq : p ≠ q := ne_of_none upd_same hq
    have hpc : p ≠ c := ne_of_none (show upd (upd H p (.dK [])) q (.lst (ns.map V.int)) p = some (.dK []) by rw [upd_ne hpq, upd_same]) hc
    have hcp : upd H p (.dK []) c = none := by
      by_cases e : c = q
      · rw [e, upd_same] at hc; cases hc
      · rw [upd_ne e] at hc; exact hc
    have hcn : H c = none := by
      rw [upd_ne hpc.symm] at hcp
      exact hcp
    refine ⟨by rw [upd_ne hpc, upd_ne hpq, upd_same], penL c 0 0, rfl, by show 3 ≤ 15; decide, ?_⟩
    have em : mergeK [] (penL c 0 0) = penL c 0 0 := by
      unfold mergeK penL
      simp only [List.foldl_cons, List.foldl_nil]
      rw [putK_new _ (show valV ([] : List (Key × V)) _ = none from rfl), putK_new, putK_new]
      · rfl
      · exact (valV_neg ne_ca).trans rfl
      · exact (valV_neg ne_cl).trans ((valV_neg ne_al).trans rfl)
    rw [em]
    refine k p c _ (fun b o e => ?_) hp hcn ⟨⟨ns, 0, 0, upd_same, ?_, hl, by decide, by decide, by decide⟩⟩
    · have hbp : b ≠ p := ne_of_none e hp
      have hbq : b ≠ q := ne_of_none (show upd H p (.dK []) b = some o by rw [upd_ne hbp]; exact e) hq
      rw [upd_ne hbp, upd_ne (ne_of_none e hcn), upd_ne hbq, upd_ne hbp]
      exact e
    · rw [upd_ne hpc.symm, upd_same]

theorem scDraw : FnScope ["_law_pen_here", "_law_many", "_law_digit", "_law_spot", "_law_cell", "_law_mixed"] ["_law_pen_here", "_law_many"] (defScope sDraw) := ⟨rfl, rfl, rfl, by decide +kernel, rfl, by decide +kernel, by decide +kernel⟩
theorem ints_flat {H : Hp} (ns : List Int) : DpAll K H (ns.map V.int) (ns.map PyData.int) := by
  induction ns with
  | nil => exact .nil
  | cons n ns ih => exact .cons (.int n) ih
theorem ints_shaped (ns : List Int) : SeqAt.shaped (.list (ns.map PyData.int)) = true := by
  have h1 : ∀ l : List Int, PyData.canLayAll0 (l.map PyData.int) = true := fun l => by
    induction l with
    | nil => rfl
    | cons n l ih => simp [PyData.canLayAll0, PyData.canLay0, ih]
  have h2 : ∀ l : List Int, PyData.depthAll (l.map PyData.int) ≤ 1 := fun l => by
    induction l with
    | nil => simp [PyData.depthAll]
    | cons n l ih => simp [PyData.depthAll, PyData.depth]; omega
  unfold SeqAt.shaped
  refine Bool.and_eq_true_iff.mpr ⟨h1 ns, decide_eq_true ?_⟩
  have := h2 ns
  simp only [PyData.depth]
  omega
theorem gCells {H : Hp} {p c : Addr} {i l : Int} (e : H p = some (.dK (penL c i l))) : DGet H p (.str "cells") (some (.ref c)) := by
  have h := DGet.k (k := .inr "cells") e
  rw [pen_cells] at h
  exact h
theorem gAt {H : Hp} {p c : Addr} {i l : Int} (e : H p = some (.dK (penL c i l))) : DGet H p (.str "at") (some (.int i)) := by
  have h := DGet.k (k := .inr "at") e
  rw [pen_at] at h
  exact h
theorem gLeft {H : Hp} {p c : Addr} {i l : Int} (e : H p = some (.dK (penL c i l))) : DGet H p (.str "left") (some (.int l)) := by
  have h := DGet.k (k := .inr "left") e
  rw [pen_left] at h
  exact h
theorem sAt {H : Hp} {p c : Addr} {i l j : Int} (e : H p = some (.dK (penL c i l))) : DPut H p (.str "at") (.int j) (upd H p (.dK (penL c j l))) := by
  have h := DPut.k (k := .inr "at") (v := .int j) e (by show 3 < sizeLine; decide)
  rw [pen_putat] at h
  exact h
theorem sLeft {H : Hp} {p c : Addr} {i l j : Int} (e : H p = some (.dK (penL c i l))) : DPut H p (.str "left") (.int j) (upd H p (.dK (penL c i j))) := by
  have h := DPut.k (k := .inr "left") (v := .int j) e (by show 3 < sizeLine; decide)
  rw [pen_putleft] at h
  exact h
theorem lt64 {x : Int} (h0 : 0 ≤ x) (h : x < 4294967296) : -(2 ^ 64) < x ∧ x < 2 ^ 64 := ⟨by omega, by omega⟩
theorem ok_draw {f : Addr} {fd : FuncData} (F : Fun K "_law_draw" "_law_draw" sDraw f fd) (T : TxtP mg f) : FnOk P w K mg base CX0 1 f fd ["_law_pen_here", "_law_many"] spDraw := by
  refine F.ok scDraw (fun vs H Q E h => ?_) (fun cdv A outer s H vs Q E hr h => ?_)
  · obtain ⟨p, c, many, n, rfl, _⟩ := h
    rfl
  · obtain ⟨p, c, many, n, rfl, Pn, hn, hm, hm2, k⟩ := h
    have hu := hu_of hr
    have nd := scDraw.nd
    refine ⟨_, (pss_cons (ps_if (pt_cmpR op_ge (pe_dget hu (pv 0) pe_str (fun _ _ => rfl)) (pv 1) (nomark _))
        (pss_cons (ps_set (i := 2) nd rfl (Or.inl rfl) (pe_op op_mod (pe_callTy call_int1 (by rfl) T.int (by decide +kernel) (pa_cons (pe_dget hu (pv 0) pe_str (fun _ _ => rfl)) pa_nil)) (pv 1)))
        (pss_cons (ps_dput hu (pv 0) pe_str (pe_op op_fdiv (pe_dget hu (pv 0) pe_str (fun _ _ => rfl)) (pv 1)) rfl)
        (pss_one (ps_ret (pv 2))))) pss_nil)
      (pss_cons (ps_set (i := 3) nd rfl (Or.inl rfl) (pe_dget hu (pv 0) pe_str (fun _ _ => rfl)))
      (pss_cons (ps_dput hu (pv 0) pe_str (pe_op op_add (pv 3) pe_int) rfl)
      (pss_cons (ps_if (pt_cmpR (op_eqD hr.units) (pe_dget hu (pv 0) pe_str (fun _ _ => rfl)) (pe_lst pa_nil) (nomark _))
        (pss_one (ps_ret (pe_op op_mod (pe_callTy call_int1 (by rfl) T.int (by decide +kernel) (pa_cons (pe_op op_add (pe_op op_mul pe_int (pv 3)) pe_int) pa_nil)) (pv 1)))) pss_nil)
      (pss_cons (ps_set (i := 4) nd rfl (Or.inl rfl) (pe_ix ix_list (pe_dget hu (pv 0) pe_str (fun _ _ => rfl)) (pe_op op_mod (pe_callTy call_int1 (by rfl) T.int (by decide +kernel) (pa_cons (pv 3) pa_nil)) (pe_callB call_len_seq (by rfl) T.len PySem.boot_len (pa_cons (pe_dget hu (pv 0) pe_str (fun _ _ => rfl)) pa_nil))) (fun _ _ => rfl)))
      (pss_cons (ps_if (PW.pt (pw_and (pt_cmpR op_lt (pv 3) (pe_callB call_len_seq (by rfl) T.len PySem.boot_len (pa_cons (pe_dget hu (pv 0) pe_str (fun _ _ => rfl)) pa_nil)) (nomark _)) (pw_and1 (pt_cmpR op_ge (pv 4) (pe_op op_pow pe_int pe_int) (nomark _)))))
        (pss_cons (ps_dput hu (pv 0) pe_str (pe_op op_fdiv (pe_op op_sub (pv 4) (pe_op op_pow pe_int pe_int)) (pv 1)) rfl)
        (pss_one (ps_ret (pe_op op_mod (pe_callTy call_int1 (by rfl) T.int (by decide +kernel) (pa_cons (pe_op op_sub (pv 4) (pe_op op_pow pe_int pe_int)) pa_nil)) (pv 1))))) pss_nil)
      (pss_cons (ps_set (i := 5) nd rfl (Or.inl rfl) (pe_op op_add (pe_op op_add (pe_op op_mul (pe_op op_add (pe_op op_mod (pe_callTy call_int1 (by rfl) T.int (by decide +kernel) (pa_cons (pv 4) pa_nil)) pe_int) pe_int) (pe_op op_add (pe_op op_mul pe_int (pv 3)) pe_int)) (pe_op op_mul (pe_op op_mul pe_int (pv 3)) (pv 3))) pe_int))
      (pss_cons (ps_set (i := 5) nd rfl (Or.inl rfl) (pe_op op_mod (pe_callTy call_int1 (by rfl) T.int (by decide +kernel) (pa_cons (pv 5) pa_nil)) pe_int))
      (pss_cons (ps_set (i := 5) nd rfl (Or.inl rfl) (pe_op op_mod (pe_callTy call_int1 (by rfl) T.int (by decide +kernel) (pa_cons (pe_op op_mul (pv 5) (pe_op op_add (pv 5) pe_int)) pa_nil)) pe_int))
      (pss_cons (ps_set (i := 5) nd rfl (Or.inl rfl) (pe_op op_mod (pe_callTy call_int1 (by rfl) T.int (by decide +kernel) (pa_cons (pe_op op_mul (pv 5) (pv 5)) pa_nil)) pe_int))
      (pss_one (ps_ret (pe_op op_mod (pe_callTy call_int1 (by rfl) T.int (by decide +kernel) (pa_cons (pe_op op_fdiv (pv 5) pe_int) pa_nil)) (pv 1)))))))))))))), ?_⟩
    obtain ⟨cells, i, l, e1, e2, hl, hi, hi2, hl0⟩ := Pn.ex
    have pc : p ≠ c := Pn.pc
    refine ⟨_, rfl, p, .int l, rfl, gLeft e1, _, rfl, l, many, rfl, rfl, _, rfl, ?_⟩
    by_cases hlm : many ≤ l
    · rw [decide_eq_true hlm]
      refine iteT ?_
      -- the digit
      refine ⟨_, rfl, p, .int l, rfl, gLeft e1, .inl ⟨l, rfl, _, rfl, l, many, rfl, rfl, hm, ?_⟩⟩
      refine ⟨_, rfl, p, .int l, rfl, gLeft e1, _, rfl, l, many, rfl, rfl, ⟨hm, hm2⟩, _, rfl, p, _, rfl, sLeft e1, ?_⟩
      refine ⟨_, rfl, k _ _ (Int.emod_nonneg _ (by omega)) (Int.emod_lt_of_pos _ hm) (fun b o e hb => by rw [upd_ne hb]; exact e) ⟨cells, i, l / many, upd_same, by rw [upd_ne pc.symm]; exact e2, hl, hi, by omega, Int.ediv_nonneg hl0 (by omega)⟩⟩
    · rw [decide_eq_false hlm]
      refine iteF ?_
      -- the place
      refine ⟨_, rfl, p, .int i, rfl, gAt e1, ?_⟩
      refine ⟨_, rfl, i, 1, rfl, rfl, _, rfl, p, _, rfl, sAt e1, ?_⟩
      generalize eH : upd H p (.dK (penL c (i + 1) l)) = H1
      have e1' : H1 p = some (.dK (penL c (i + 1) l)) := by rw [← eH, upd_same]
      have e2' : H1 c = some (.lst (cells.map V.int)) := by rw [← eH, upd_ne pc.symm]; exact e2
      have bt : But p H H1 := fun b o e hb => by rw [← eH, upd_ne hb]; exact e
      refine ⟨_, rfl, p, .ref c, rfl, gCells e1', by show 0 ≤ sizeLine; decide, fun q hq => ?_⟩
      have bt2 : But p H (upd H1 q (.lst [])) := bt.trans (But.same (same_upd hq))
      have e1q : upd H1 q (.lst []) p = some (.dK (penL c (i + 1) l)) := by rw [upd_ne (ne_of_none e1' hq)]; exact e1'
      have e2q : upd H1 q (.lst []) c = some (.lst (cells.map V.int)) := by rw [upd_ne (ne_of_none e2' hq)]; exact e2'
      refine ⟨.list (cells.map PyData.int), .list [], .lst (SqL.of e2q) (ints_flat _), .lst (SqL.of upd_same) .nil, ints_shaped _, by decide, _, rfl, ?_⟩
      cases cells with
      | nil =>
        refine iteT ?_
        refine ⟨_, rfl, 7, i, rfl, rfl, .inl ⟨by decide, by decide⟩, 7 * i, 3, rfl, rfl, .inl ⟨_, rfl, _, rfl, _, many, rfl, rfl, hm, ?_⟩⟩
        exact k _ _ (Int.emod_nonneg _ (by omega)) (Int.emod_lt_of_pos _ hm) bt2 ⟨[], i + 1, l, e1q, e2q, hl, by omega, by omega, hl0⟩
      | cons n0 rest =>
        refine iteF ?_
        generalize hcs : n0 :: rest = cs at *
        have hpos : 0 < cs.length := by rw [← hcs]; exact Nat.succ_pos _
        have fin : ∀ r l', 0 ≤ r → r < many → 0 ≤ l' → ∀ H', But p H H' → H' p = some (.dK (penL c (i + 1) l')) → H' c = some (.lst (cs.map V.int)) → Q (.int r) H' := fun r l' h1 h2 h3 H' b a1 a2 =>
          k r H' h1 h2 b ⟨cs, i + 1, l', a1, a2, hl, by omega, by omega, h3⟩
        have hlen : (cs.map V.int).length = cs.length := List.length_map ..
        obtain ⟨j, hj⟩ : ∃ j : Nat, i % (((cs.map V.int).length : Nat) : Int) = (j : Int) := ⟨(i % (((cs.map V.int).length : Nat) : Int)).toNat, by
          have := Int.emod_nonneg i (show (((cs.map V.int).length : Nat) : Int) ≠ 0 by rw [hlen]; omega)
          omega⟩
        have hjl : j < cs.length := by
          have := Int.emod_lt_of_pos i (show (0 : Int) < (((cs.map V.int).length : Nat) : Int) by rw [hlen]; omega)
          rw [hj, hlen] at this
          omega
        obtain ⟨x, hx⟩ : ∃ x, cs[j]? = some x := ⟨cs[j], List.getElem?_eq_getElem hjl⟩
        have hat : atI (cs.map V.int) (i % (((cs.map V.int).length : Nat) : Int)) = some (.int x) := by
          rw [hj]
          exact atI_nat (by rw [List.getElem?_map, hx]; rfl)
        refine ⟨_, rfl, p, .ref c, rfl, gCells e1q, _, rfl, .inl ⟨i, rfl, _, rfl, p, .ref c, rfl, gCells e1q, c, _, rfl, .inl (SqL.of e2q), i, _, rfl, rfl, by rw [hlen]; omega, c, _, _, .int x, rfl, rfl, SqL.of e2q, hat, ?_⟩⟩
        have hle : (0 : Int) ≤ 18 ∧ (18 : Int) ≤ 1000000 ∧ (10 : Int).natAbs < 2 ^ 64 := ⟨by decide, by decide, by decide⟩
        refine ⟨_, rfl, _, rfl, p, .ref c, rfl, gCells e1q, c, _, rfl, .inl (SqL.of e2q), i, _, rfl, rfl, _, rfl, ?_⟩
        have tail : ∀ {y : Int}, 0 ≤ y → y < 2147483648 → -(2 ^ 64) < y ∧ y < 2 ^ 64 := fun h1 h2 => ⟨by omega, by omega⟩
        have mods : ∀ (y m : Int), 0 < m → m < 2147483648 → 0 ≤ y % m ∧ y % m < 2147483648 := fun y m h1 h2 => ⟨Int.emod_nonneg _ (by omega), Int.lt_trans (Int.emod_lt_of_pos _ h1) h2⟩
        by_cases a1 : i < (((cs.map V.int).length : Nat) : Int)
        rw [decide_eq_true a1]
        refine iteT ?_
        refine ⟨_, rfl, 10, 18, rfl, rfl, hle, x, _, rfl, rfl, _, rfl, ?_⟩
        by_cases a2 : (10 : Int) ^ (18 : Int).toNat ≤ x
        · rw [decide_eq_true a2]
          refine iteT ?_
          refine ⟨_, rfl, 10, 18, rfl, rfl, hle, x, _, rfl, rfl, _, rfl, _, many, rfl, rfl, ⟨hm, hm2⟩, _, rfl, p, _, rfl, sLeft e1q, ?_⟩
          refine ⟨_, rfl, 10, 18, rfl, rfl, hle, x, _, rfl, rfl, .inl ⟨_, rfl, _, rfl, _, many, rfl, rfl, hm, ?_⟩⟩
          exact fin _ _ (Int.emod_nonneg _ (by omega)) (Int.emod_lt_of_pos _ hm) (Int.ediv_nonneg (by omega) (by omega)) _ (bt2.trans fun b o e hb => by rw [upd_ne hb]; exact e) upd_same (by rw [upd_ne pc.symm]; exact e2q)
        rw [decide_eq_false a2]
        refine iteF ?_
        rotate_left
        rw [decide_eq_false a1]
        refine iteF ?_
        refine iteF ?_
        all_goals
          obtain ⟨b1, b2⟩ := mods x 2147483629 (by decide) (by decide)
          refine ⟨_, rfl, .inl ⟨x, rfl, x, 2147483629, rfl, rfl, (by show (0 : Int) < 2147483629; decide), _, 1, rfl, rfl, _, rfl, 97, i, rfl, rfl, .inl ⟨by decide, by decide⟩, _, 40693, rfl, rfl, _, _, rfl, rfl, .inl ⟨by omega, by omega⟩,
            _, rfl, 69623, i, rfl, rfl, .inl ⟨by decide, by decide⟩, _, rfl, _, i, rfl, rfl, .inl ⟨by omega, by omega⟩, _, _, rfl, rfl, _, 11, rfl, rfl, ?_⟩⟩
          obtain ⟨y1, hy1⟩ : ∃ y, (x % 2147483629 + 1) * (97 * i + 40693) + 69623 * i * i + 11 = y := ⟨_, rfl⟩
          refine ⟨_, rfl, .inl ⟨y1, by rw [← hy1], y1, 2147483647, rfl, rfl, (by show (0 : Int) < 2147483647; decide), ?_⟩⟩
          obtain ⟨c1, c2⟩ := mods y1 2147483647 (by decide) (by decide)
          obtain ⟨y2, hy2⟩ : ∃ y, y1 % 2147483647 = y := ⟨_, rfl⟩
          rw [hy2] at c1 c2
          refine ⟨_, rfl, _, rfl, y2, 16811, by rw [← hy2], rfl, y2, _, by rw [← hy2], rfl, .inl (tail c1 c2), .inl ⟨_, rfl, _, 2147483587, rfl, rfl, (by show (0 : Int) < 2147483587; decide), ?_⟩⟩
          obtain ⟨y4, hy4⟩ : ∃ y, y2 * (y2 + 16811) % 2147483587 = y := ⟨_, rfl⟩
          obtain ⟨d1, d2⟩ := mods (y2 * (y2 + 16811)) 2147483587 (by decide) (by decide)
          rw [hy4] at d1 d2
          refine ⟨_, rfl, _, rfl, y4, y4, by rw [← hy4], by rw [← hy4], .inl (tail d1 d2), .inl ⟨_, rfl, _, 2147483563, rfl, rfl, (by show (0 : Int) < 2147483563; decide), ?_⟩⟩
          refine ⟨_, rfl, _, 64, rfl, rfl, ⟨by decide, by decide⟩, .inl ⟨_, rfl, _, rfl, _, many, rfl, rfl, hm, ?_⟩⟩
          exact fin _ l (Int.emod_nonneg _ (by omega)) (Int.emod_lt_of_pos _ hm) hl0 _ bt2 e1q e2q
end
end Aw

namespace Aw
open PySem PySem.Spec PyProof.Rows L2 NdefX
/-! ### what tuples hold stays -/
/-- tuples are as they were -/
def TK (H H' : Hp) : Prop := (∀ a xs, H a = some (.tup xs) → H' a = some (.tup xs)) ∧ ∀ a o xs, H a = some (.frz o (.tup xs)) → H' a = some (.frz o (.tup xs))
theorem TK.refl (H : Hp) : TK H H := ⟨fun _ _ e => e, fun _ _ _ e => e⟩
theorem TK.trans {H H1 H2 : Hp} (a : TK H H1) (b : TK H1 H2) : TK H H2 := ⟨fun c xs e => b.1 c xs (a.1 c xs e), fun c o xs e => b.2 c o xs (a.2 c o xs e)⟩
theorem TK.same {H H' : Hp} (s : Same H H') : TK H H' := ⟨fun _ _ e => s _ _ e, fun _ _ _ e => s _ _ e⟩
theorem TK.but {H H' : Hp} {p c : Addr} {n : Nat} (b : But p H H') (P : Pen H p c n) : TK H H' := by
  obtain ⟨cells, i, l, e1, _⟩ := P.ex
  exact ⟨fun a xs e => b a _ e (ne_of e e1 (fun z => by cases z)), fun a o xs e => b a _ e (ne_of e e1 (fun z => by cases z))⟩
theorem TK.lst {H : Hp} {a : Addr} {xs : List V} {o : HO} (h : H a = some (.lst xs)) : TK H (upd H a o) :=
  ⟨fun b ys e => by rw [upd_ne (ne_of e h (fun z => by cases z))]; exact e, fun b u ys e => by rw [upd_ne (ne_of e h (fun z => by cases z))]; exact e⟩
theorem TK.new {H : Hp} {a : Addr} {o : HO} (h : H a = none) : TK H (upd H a o) := TK.same (same_upd h)
theorem TK.tup {K : PySem.W.Frag} {H H' : Hp} {a : Addr} {xs : List V} (t : TK H H') (h : SqT K H a xs) : SqT K H' a xs := by
  rcases h with (h | ⟨o, h⟩) | h
  · exact .inl (.inl (t.1 _ _ h))
  · exact .inl (.inr ⟨o, t.2 _ _ _ h⟩)
  · exact .inr h
mutual
/-- a value of plain data, tuples inside -/
inductive Dq (K : PySem.W.Frag) (H : Hp) : V → PyData → Prop
  | non : Dq K H .non .none
  | bl (b : Bool) : Dq K H (.bl b) (.bool b)
  | int (i : Int) : Dq K H (.int i) (.int i)
  | str (x : Str) : Dq K H (.str x) (.str x)
  | tup {a : Addr} {xs : List V} {ds : List PyData} : SqT K H a xs → DqAll K H xs ds → Dq K H (.ref a) (.tuple ds)
inductive DqAll (K : PySem.W.Frag) (H : Hp) : List V → List PyData → Prop
  | nil : DqAll K H [] []
  | cons {v : V} {vs : List V} {d : PyData} {ds : List PyData} : Dq K H v d → DqAll K H vs ds → DqAll K H (v :: vs) (d :: ds)
end
section
variable {K : PySem.W.Frag} {H H' : Hp}
mutual
theorem Dq.keep (t : TK H H') : ∀ {v : V} {d : PyData}, Dq K H v d → Dq K H' v d
  | _, _, .non => .non
  | _, _, .bl b => .bl b
  | _, _, .int i => .int i
  | _, _, .str x => .str x
  | _, _, .tup h r => .tup (t.tup h) (DqAll.keep t r)
theorem DqAll.keep (t : TK H H') : ∀ {vs : List V} {ds : List PyData}, DqAll K H vs ds → DqAll K H' vs ds
  | _, _, .nil => .nil
  | _, _, .cons h r => .cons (Dq.keep t h) (DqAll.keep t r)
end
mutual
theorem Dq.dp : ∀ {v : V} {d : PyData}, Dq K H v d → Dp K H v d
  | _, _, .non => .non
  | _, _, .bl b => .bl b
  | _, _, .int i => .int i
  | _, _, .str x => .str x
  | _, _, .tup h r => .tup h (DqAll.dp r)
theorem DqAll.dp : ∀ {vs : List V} {ds : List PyData}, DqAll K H vs ds → DpAll K H vs ds
  | _, _, .nil => .nil
  | _, _, .cons h r => .cons (Dq.dp h) (DqAll.dp r)
end
theorem DqAll.length : ∀ {vs : List V} {ds : List PyData}, DqAll K H vs ds → vs.length = ds.length
  | _, _, .nil => rfl
  | _, _, .cons _ r => congrArg (· + 1) (DqAll.length r)
theorem DqAll.get : ∀ {vs : List V} {ds : List PyData} {i : Nat} {v : V}, DqAll K H vs ds → vs[i]? = some v → ∃ d, ds[i]? = some d ∧ Dq K H v d
  | _, _, _, _, .nil, h => by simp at h
  | _, _, 0, _, .cons h _, e => ⟨_, rfl, by cases Option.some.inj e; exact h⟩
  | _, _, i + 1, _, .cons _ r, e => DqAll.get (i := i) r (by simpa using e)
theorem DqAll.append : ∀ {vs ws : List V} {ds es : List PyData}, DqAll K H vs ds → DqAll K H ws es → DqAll K H (vs ++ ws) (ds ++ es)
  | _, _, _, _, .nil, s => s
  | _, _, _, _, .cons h r, s => .cons h (DqAll.append r s)
theorem DqAll.split {v : V} {vs : List V} {d : PyData} {ds : List PyData} : DqAll K H (v :: vs) (d :: ds) → Dq K H v d ∧ DqAll K H vs ds
  | .cons h r => ⟨h, r⟩
theorem Dq.of_tuple {v : V} {ds : List PyData} (h : Dq K H v (.tuple ds)) : ∃ a xs, v = .ref a ∧ SqT K H a xs ∧ DqAll K H xs ds := by
  cases h with
  | tup h r => exact ⟨_, _, rfl, h, r⟩
theorem Dq.of_str {v : V} {x : Str} (h : Dq K H v (.str x)) : v = .str x := by cases h; rfl
theorem Dq.of_int {v : V} {i : Int} (h : Dq K H v (.int i)) : v = .int i := by cases h; rfl
theorem Dq.of_none {v : V} (h : Dq K H v .none) : v = .non := by cases h; rfl
theorem Dq.of_bool {v : V} {b : Bool} (h : Dq K H v (.bool b)) : v = .bl b := by cases h; rfl
end
/-! ### values that are alike: the same, or tuples of alike ones -/
def Al (K : PySem.W.Frag) (H : Hp) : Nat → V → V → Prop
  | 0 => fun _ _ => False
  | n + 1 => fun x y => (x = y ∧ flatB x = true) ∨ (∃ a, x = .ref a ∧ y = .ref a) ∨ ∃ a b xs ys, x = .ref a ∧ y = .ref b ∧ SqT K H a xs ∧ SqT K H b ys ∧ Paired (Al K H n) xs ys
theorem Al.flat {K : PySem.W.Frag} {H : Hp} {n : Nat} {x : V} (h : flatB x = true) : Al K H (n + 1) x x := .inl ⟨rfl, h⟩
theorem Al.ref {K : PySem.W.Frag} {H : Hp} {n : Nat} {a : Addr} : Al K H (n + 1) (.ref a) (.ref a) := .inr (.inl ⟨a, rfl, rfl⟩)
theorem Al.self {K : PySem.W.Frag} {H : Hp} {n : Nat} : ∀ {x : V}, (∀ a, x = .ref a ∨ flatB x = true) → Al K H (n + 1) x x := fun {x} h => by
  cases x with
  | ref a => exact Al.ref
  | _ => exact Al.flat ((h 0).resolve_left (fun z => by cases z))
section
variable {X : Cx} {pins : List (Addr × Obj)} {σ : Aw.St} {H : Hp} {s : Shared}
theorem al_items {F : V → V → Prop} {A : Around} (ih : ∀ x y v u, F x y → RelV x v → RelV y u → SeqAt.EqAt A s v u true) : ∀ {xs ys : List V} {us ws : List Value}, Paired F xs ys → Vals xs us → Vals ys ws → ∀ j (h1 : j < us.length) (h2 : j < ws.length), SeqAt.EqAt A s us[j] ws[j] true
  | _, _, _, _, .nil, .nil, .nil, _, h1, _ => absurd h1 (Nat.not_lt_zero _)
  | _, _, _, _, .cons f _, .cons r1 _, .cons r2 _, 0, _, _ => ih _ _ _ _ f r1 r2
  | _, _, _, _, .cons _ p, .cons _ q1, .cons _ q2, j + 1, h1, h2 => al_items ih p q1 q2 j (Nat.lt_of_succ_lt_succ h1) (Nat.lt_of_succ_lt_succ h2)
theorem all_true (n : Nat) : ((List.range n).all fun _ => true) = true := List.all_eq_true.mpr fun _ _ => rfl
theorem al_run (I : Inv X pins σ H s) : ∀ (n : Nat) (A : Around), A.units + n < cLine → ∀ (x y : V) (v u : Value), Al X.K H n x y → RelV x v → RelV y u → SeqAt.EqAt A s v u true
  | 0, _, _, _, _, _, _, h, _, _ => (show False from h).elim
  | n + 1, A, hu, x, y, v, u, h, rx, ry => by
    rcases h with ⟨rfl, f⟩ | ⟨a, rfl, rfl⟩ | ⟨a, b, xs, ys, rfl, rfl, ha, hb, hp⟩
    · exact eqAt_same rx ry f
    · cases (show v = Value.ref a from rx)
      cases (show u = Value.ref a from ry)
      exact SeqAt.EqAt.same _
    · cases (show v = Value.ref a from rx)
      cases (show u = Value.ref b from ry)
      obtain ⟨us, r1, p1, _⟩ := I.tuple ha
      obtain ⟨ws, r2, p2, _⟩ := I.tuple hb
      have hsz : us.length = ws.length := by
        rw [← r1.length, ← r2.length]
        exact Paired.length hp
      have step := al_items (A := A.in1) (fun x y v u f => al_run I n A.in1 (by show A.units + 1 + n < cLine; omega) x y v u f) hp r1 r2
      have rc := SeqAt.RcAt.tuples (A := A) (s := s) (l := a) (b := b) (items := us.toArray) (items2 := ws.toArray) (e := fun _ => true) p1 p2 (by omega) (fun j h1 h2 => by simpa using step j (by simpa using h1) (by simpa using h2))
      by_cases e : a = b
      · subst e
        exact SeqAt.EqAt.same _
      · intro prog w E Q hq
        unfold eqBool
        refine wpAny_holding ?_
        refine wpAny_ite_split (fun hab => absurd (Value.ref.inj (eq_of_beq hab)) e) (fun _ => ?_)
        refine wpAny_bind (rc prog w E _ (wpAny_truthy_bool ?_))
        have e1 : ((List.range (min us.toArray.size ws.toArray.size)).all (fun _ => true) && us.toArray.size == ws.toArray.size) = true := by
          rw [all_true, List.size_toArray, List.size_toArray, hsz]
          simp
        rw [e1]
        exact hq
/-- x != y, two tuples that are alike -/
def rNeAl (K : PySem.W.Frag) : R2 := fun x y H Q => ∃ n a b xs ys, n ≤ 60 ∧ x = .ref a ∧ y = .ref b ∧ SqT K H a xs ∧ SqT K H b ys ∧ Paired (Al K H n) xs ys ∧ Q (.bl false) H
theorem op_neAl (hu : X.A.units + 64 < cLine) : OpR X (compareOp .NotEq) (rNeAl X.K) := by
  intro pins s σ H x y v u Q I rx ry h
  obtain ⟨n, a, b, xs, ys, hn, rfl, rfl, ha, hb, hp, q⟩ := h
  cases (show v = Value.ref a from rx)
  cases (show u = Value.ref b from ry)
  obtain ⟨us, r1, p1, _⟩ := I.tuple ha
  obtain ⟨ws, r2, p2, _⟩ := I.tuple hb
  have hsz : us.length = ws.length := by
    rw [← r1.length, ← r2.length]
    exact Paired.length hp
  have step := al_items (A := X.A.in1) (s := s) (fun x y v u f => al_run I n X.A.in1 (by show X.A.units + 1 + n < cLine; omega) x y v u f) hp r1 r2
  refine SeqAt.RcNeAt.tuples (A := X.A) (s := s) (l := a) (b := b) (items := us.toArray) (items2 := ws.toArray) (e := fun _ => true) p1 p2 (by omega) (fun j h1 h2 => by simpa using step j (by simpa using h1) (by simpa using h2)) X.prog X.w _ _ ?_
  have e1 : (!((List.range (min us.toArray.size ws.toArray.size)).all (fun _ => true) && us.toArray.size == ws.toArray.size)) = false := by
    rw [all_true, List.size_toArray, List.size_toArray, hsz]
    simp
  rw [e1]
  exact ⟨.bl false, H, I, rfl, q⟩
end
end Aw

namespace Aw
open PySem PySem.Spec PyProof.Rows L2 NdefX
/-- an own error class, made by X(v), with one field -/
structure Err (P : Program) (K : PySem.W.Frag) (mg : Str → Option Value) (x y fld : Str) (C : Addr) : Prop where
  ex : ∃ (f cc cda : Addr) (qual : Str) (args : Arguments) (body : List Stmt) (scope : Scope) (fd : FuncData), SupTxt P K mg C f cc cda qual y fld args body scope fd ∧ PySem.W.findIn K (.ref C) "__init__" = some (some (.ref f)) ∧ PySem.W.typeIn K (.ref f) = some (.type "function") ∧ Binds K fd ["self", y] []
  g : mg x = some (.ref C)
  D : ExcD K C
  hno : PySem.W.findIn K (.ref C) fld = some none
section
variable {X : Cx} {C : Addr} {y fld x : Str} {e : Expr} {es : List Expr} {ta : TA} {p pos : Pos}
theorem pe_err (Ex : Err X.prog X.K X.mg x y fld C) (hr : Room 2 X.A) (hg : Gl X x) (ha : PA X (e :: es) ta)
    (hdb : (x == ("__debug__" : Str)) = false := by decide) (he : starEach (e :: es) X.env = (false, eval e X.env) :: starEach es X.env := by rfl) (hpl : (backTo pos (starEach es X.env)).any (·.1) = false := by rfl) :
    PE X (.Call (.Name x p) (e :: es) [] pos) (tVaS C fld ta) := by
  obtain ⟨f, cc, cda, qual, args, body, scope, fd, S, iC, tI, hb⟩ := Ex.ex
  exact pe_sup S iC tI hb hr hg Ex.g ha hdb he hpl
theorem pmk_err (Ex : Err X.prog X.K X.mg x y fld C) (hr : Room 2 X.A) (hg : Gl X x) (ha : PA X (e :: es) ta)
    (hdb : (x == ("__debug__" : Str)) = false := by decide) (he : starEach (e :: es) X.env = (false, eval e X.env) :: starEach es X.env := by rfl) (hpl : (backTo pos (starEach es X.env)).any (·.1) = false := by rfl) :
    PMk X (.Call (.Name x p) (e :: es) [] pos) (tMkO C (spSup C fld) [] ta) := by
  obtain ⟨f, cc, cda, qual, args, body, scope, fd, S, iC, tI, hb⟩ := Ex.ex
  exact pmk_sup S iC tI hb hr hg Ex.g ha hdb he hpl
end
/-- an own error class without own __init__, made by X() -/
structure Err0 (K : PySem.W.Frag) (mg : Str → Option Value) (x : Str) (C : Addr) : Prop where
  q : PySem.W.excIn K C PySem.HandSPX.veTail "ValueError.__new__" = true
  kC : PySem.W.keepIn K (.ref C) = true
  g : mg x = some (.ref C)
  D : ExcD K C
section
variable {X : Cx} {C : Addr} {x : Str} {p pos : Pos}
theorem pe_err0 (Ex : Err0 X.K X.mg x C) (hg : Gl X x) (hdb : (x == ("__debug__" : Str)) = false := by decide) : PE X (.Call (.Name x p) [] [] pos) (fun _ H Q => ∀ a, H a = none → Q (.ref a) (upd H a (exo a C none))) := by
  refine ⟨fun pins s σ H Q I h => ?_⟩
  refine wpAny_Call_Name_kw (ld_glob I hg Ex.g ?_ hdb)
  refine PySem.W.callWith_K0 I.kIn Ex.kC ?_
  show wpAny _ _ (call (.ref C) []) _ _ _
  obtain ⟨bm, N, nm, qn, bs, hdct, sn, sub, ab, col, dd, k0, k1, k2, k3, k5, mN, hC, hN, hni, T⟩ := exc_obj I.kIn Ex.q
  refine wpAny_call_exc_subT F.excBase_ValueError T hC hN hni (fun h' a hm => ?_) (by show 0 ≤ sizeLine; omega)
  have hn : H a = none := I.hok.gone hm.new
  obtain ⟨t, ht, _, _⟩ := hm.there
  exact ⟨.ref a, upd H a (exo a C none), I.laidN hm.keeps hm.new hn (exo_ok ht), rfl, h a hn⟩
end
theorem ite_int {k j : Int} {A B : Prop} (h1 : k = j → A) (h2 : k ≠ j → B) : if decide (V.int k = V.int j) = true then A else B := by
  by_cases e : k = j
  · rw [decide_eq_true (by rw [e])]
    exact iteT (h1 e)
  · rw [decide_eq_false (fun z => e (V.int.inj z))]
    exact iteF (h2 e)
theorem ite_str {x y : Str} {A B : Prop} (h1 : x = y → A) (h2 : x ≠ y → B) : if decide (V.str x = V.str y) = true then A else B := by
  by_cases e : x = y
  · rw [decide_eq_true (by rw [e])]
    exact iteT (h1 e)
  · rw [decide_eq_false (fun z => e (V.str.inj z))]
    exact iteF (h2 e)
theorem ite_dec {c : Prop} [Decidable c] {A B : Prop} (h1 : c → A) (h2 : ¬ c → B) : if decide c = true then A else B := by
  by_cases e : c
  · rw [decide_eq_true e]
    exact iteT (h1 e)
  · rw [decide_eq_false e]
    exact iteF (h2 e)
theorem ite_ndec {c : Prop} [Decidable c] {A B : Prop} (h1 : ¬ c → A) (h2 : c → B) : if (!decide c) = true then A else B := by
  by_cases e : c
  · rw [decide_eq_true e]
    exact iteF (h2 e)
  · rw [decide_eq_false e]
    exact iteT (h1 e)
end Aw

namespace Aw
open PySem PySem.Spec PyProof.Rows L2 NdefX
abbrev sNum : Stmt := (top 11)
abbrev sChkN : Stmt := (top 12)
abbrev sChkS : Stmt := (top 13)
abbrev sLBig : Stmt := (top 44)
abbrev sLSize : Stmt := (top 45)
abbrev sLPlace : Stmt := (top 46)
abbrev sTidy : Stmt := (top 18)
abbrev sMerge : Stmt := (top 20)
abbrev sClassm : Stmt := (top 17)
abbrev sAdded : Stmt := (top 21)
abbrev sIsMk : Stmt := (top 22)
abbrev sPor : Stmt := (top 30)
abbrev sIsRun : Stmt := (top 29)
abbrev sWidth : Stmt := (top 16)
abbrev sFull : Stmt := (top 2)
abbrev sManyB : Stmt := (top 3)
abbrev sUpto : Stmt := (top 23)
abbrev sLow : Stmt := (top 24)
abbrev sDeep : Stmt := (top 19)
abbrev sMCon : Stmt := (inClass (top 28) 2)
abbrev sMany : Stmt := (inClass (top 28) 9)
abbrev sNone : Stmt := (inClass (top 28) 10)
abbrev sBeside : Stmt := (top 32)
abbrev sAreS : Stmt := (top 34)
abbrev sMEq : Stmt := (inClass (top 28) 3)
abbrev sInR : Stmt := (top 38)
abbrev sOdd : Stmt := (top 39)
abbrev sLRun : Stmt := (top 36)
abbrev sLRuns : Stmt := (top 37)
abbrev sMInit : Stmt := (inClass (top 28) 0)
abbrev sMOf : Stmt := (top 31)
abbrev sJnd : Stmt := (top 33)
abbrev sMXor : Stmt := (inClass (top 28) 4)
abbrev sMAnd : Stmt := (inClass (top 28) 5)
abbrev sMOr : Stmt := (inClass (top 28) 6)
abbrev sMSub : Stmt := (inClass (top 28) 7)
abbrev sMInv : Stmt := (inClass (top 28) 8)
abbrev sLMeet : Stmt := (top 40)
abbrev sLCnt : Stmt := (top 41)
abbrev sLRef : Stmt := (top 48)
abbrev sLSz : Stmt := (top 49)
abbrev sLPR : Stmt := (top 47)
abbrev sLaw : Stmt := (top 50)
end Aw

namespace Aw
open PySem PySem.Spec PyProof.Rows L2 NdefX He5
open He (eqO eqO_ok ga ma frG frG_in)
/-! ### facts of the written part, as Bools -/
theorem bo {a b : Bool} (h : (a && b) = true) : a = true ∧ b = true := Bool.and_eq_true_iff.mp h
def excDB (K : PySem.W.Frag) (C : Addr) : Bool := eqO (PySem.W.findIn K (.ref C) "__getattribute__") (some (some (.builtin "BaseException.__getattribute__"))) && (eqO (PySem.W.findIn K (.ref C) "__getattr__") (some none) && (decide (PySem.W.subIn K (.ref C) (.type "BaseException") = some true) &&
  (PySem.W.hasDictIn K C && (eqO (PySem.W.findIn K (.ref C) "__class__") (some (some (.builtin "object.__class__"))) && (eqO (PySem.W.specialIn K (.builtin "object.__class__") "__get__") (some (some (.builtin "getset_descriptor.__get__"))) && (decide (PySem.W.takesIn K (.builtin "object.__class__") = some true) && decide (PySem.W.mroIn K C (.type "object") = some true)))))))
theorem excDB_ok {K : PySem.W.Frag} {C : Addr} (h : excDB K C = true) : ExcD K C := by
  obtain ⟨h1, h⟩ := bo h
  obtain ⟨h2, h⟩ := bo h
  obtain ⟨h3, h⟩ := bo h
  obtain ⟨h4, h⟩ := bo h
  obtain ⟨h5, h⟩ := bo h
  obtain ⟨h6, h⟩ := bo h
  obtain ⟨h7, h8⟩ := bo h
  exact ⟨eqO_ok h1, eqO_ok h2, of_decide_eq_true h3, h4, eqO_ok h5, eqO_ok h6, of_decide_eq_true h7, of_decide_eq_true h8⟩
def rawC (K : PySem.W.Frag) (C : Addr) : Bool := match K.lookup C with
  | some ⟨.type T, _, .cls cd, sl⟩ => (match cd.mro, sl.toList with
    | .ref C' :: bm, [_, _, _, _, some (.builtin n), _] => decide (T = "type") && (decide (C' = C) && (PySem.HandSPX.refsVE bm && (cd.hasDict && (!cd.hasDel && decide (n = "ValueError.__new__")))))
    | _, _ => false)
  | _ => false
theorem rawC_ok {K : PySem.W.Frag} {C : Addr} (h : rawC K C = true) : ∃ nm q N bs bm sn sub ab col dd k0 k1 k2 k3 k5, K.lookup C = some (excClassObj nm q C N bs bm true sn sub ab col dd k0 k1 k2 k3 k5 "ValueError.__new__") ∧ PySem.HandSPX.refsVE bm = true := by
  unfold rawC at h
  split at h
  · rename_i T dd cd sl ho
    split at h
    · rename_i C' bm k0 k1 k2 k3 n k5 hm hs
      obtain ⟨h1, h⟩ := bo h
      obtain ⟨h2, h⟩ := bo h
      obtain ⟨h3, h⟩ := bo h
      obtain ⟨h4, h⟩ := bo h
      obtain ⟨h5, h6⟩ := bo h
      have e1 := of_decide_eq_true h1
      have e2 := of_decide_eq_true h2
      have e6 := of_decide_eq_true h6
      subst e1 e2 e6
      obtain ⟨nm, bs, mro, ns, qn, hd, sn, sub, ab, col, del⟩ := cd
      dsimp only at hm h4 h5
      subst hm h4
      have hdel : del = false := by simpa using h5
      subst hdel
      obtain ⟨l⟩ := sl
      simp only at hs
      subst hs
      exact ⟨nm, qn, ns, bs, bm, sn, sub, ab, col, dd, k0, k1, k2, k3, k5, ho, h3⟩
    · cases h
  · cases h
def oexB (K : PySem.W.Frag) (C : Addr) : Bool := rawC K C && (eqO (PySem.W.findIn K (.ref C) "__setattr__") (some (some (.builtin "object.__setattr__"))) && (decide (PySem.W.subIn K (.ref C) (.type "BaseException") = some true) && (decide (PySem.W.typeIn K (.ref C) = some (.type "type")) && PySem.W.keepIn K (.ref C))))
theorem oexB_ok {K : PySem.W.Frag} {C : Addr} (h : oexB K C = true) : OexC K C := by
  obtain ⟨h1, h⟩ := bo h
  obtain ⟨h2, h⟩ := bo h
  obtain ⟨h3, h⟩ := bo h
  obtain ⟨h4, h5⟩ := bo h
  exact ⟨rawC_ok h1, eqO_ok h2, of_decide_eq_true h3, of_decide_eq_true h4, h5⟩
/-- the own __init__ of the class x, as it stands -/
def supAt (K : PySem.W.Frag) (x : Str) : Addr := ma K (ga K x) "__init__"
abbrev SupW : Type := Option (Str × Str × Arguments × FuncBody × Scope × Addr × List Str × Addr)
def supW (K : PySem.W.Frag) (x : Str) : SupW := match K.lookup (supAt K x) with
  | some ⟨_, _, .func fd, _⟩ => some (fd.name, fd.qualname, fd.params, fd.body, fd.scope, fd.globals, fd.closure.map (·.1), fd.builtins)
  | _ => none
structure SupD where
  x : Str
  qual : Str
  y : Str
  fld : Str
  st : Stmt
def SupD.val (d : SupD) : SupW := some ("__init__", d.qual, defArgs d.st, .stmts (defBody d.st), defScope d.st, mainGlobals, ["__class__"], builtinsNs)
def SupD.ok (file : Str) (K : PySem.W.Frag) (d : SupD) : Bool := oexB K (ga K d.x) && (excDB K (ga K d.x) && (eqO (PySem.W.nsIn K mainGlobals d.x) (some (some (.ref (ga K d.x)))) && (eqO (PySem.W.findIn K (.ref (ga K d.x)) "__init__") (some (some (.ref (supAt K d.x)))) && (decide (PySem.W.typeIn K (.ref (supAt K d.x)) = some (.type "function")) &&
  (eqO (PySem.W.ks_superIn K (ga K d.x) (ga K d.x) "__init__") (some (some (.builtin "ValueError.__init__"))) && (decide (PySem.W.subIn K (.ref (ga K d.x)) (.type "ValueError") = some true) && (decide (PySem.W.mroIn K (ga K d.x) (.ref (ga K d.x)) = some true) && (eqO (PySem.W.nsIn K cStatics "thirdparty.any") (some none) && (eqO (PySem.W.findIn K (.ref (ga K d.x)) d.fld) (some none) &&
  (eqO (PySem.W.nsIn K mainGlobals "super") (some none) && (match K.lookup (supAt K d.x) with
    | some ⟨_, _, .func fd, _⟩ => (match fd.closure, fd.code, fd.defaults with
      | [(_, cc)], .ref cda, .none => PySem.W.codeIn K (.ref cda) d.qual && ((match K.lookup cda with
          | some ⟨_, _, .fields vs, _⟩ => (match (vs[2]? : Option Value) with
            | some (Value.str fl _) => (file == fl)
            | _ => false)
          | _ => false) && (match K.lookup cc with
          | some ⟨_, _, .cell (some (.ref D)), _⟩ => decide (D = ga K d.x)
          | _ => false))
      | _, _, _ => false)
    | _ => false)))))))))))
/-- what the text itself says of such an __init__ -/
structure SupS (d : SupD) : Prop where
  bd : ∃ z j p0 p1 p2 p3 p4 p5 p6 p7 p8 p9, defBody d.st = supBody z d.y d.fld j p0 p1 p2 p3 p4 p5 p6 p7 p8 p9 ∧ (p2.endLine == p4.line) = true
  ar : ((defArgs d.st).posonlyargs ++ (defArgs d.st).args).head?.map (·.arg) = some "self"
  sc : NScope ["self", d.y, "__class__"] ["self", d.y] ["__class__"] (defScope d.st)
  scs : (defScope d.st).names.lookup ("super" : Str) = some .globalImplicit
  ny : (d.y == ("__debug__" : Str)) = false ∧ (d.y == ("__classdict__" : Str)) = false
  bind : ∀ (kV doc pm : Value) (an : Option Addr) (cdv ct : Value) (cc : Addr) (us : List Value), us.length = 2 → bindArgs (PySem.W.fnX "__init__" d.qual (defArgs d.st) (defBody d.st) (defScope d.st) [("__class__", cc)] .none kV doc pm an cdv ct) ⟨us, []⟩ = pure ((["self", d.y] : List Str).zip us)
theorem sup_err {P : Program} {K : PySem.W.Frag} {h : Heap} {mg : Str → Option Value} {d : SupD} (X : K.In h) (G : h.Ns mainGlobals mg) (S : SupS d) (htop : (P.main.scope.names.lookup ("super" : Str)).isSome = false) (e : supW K d.x = d.val) (c : d.ok P.main.file K = true) : Err P K mg d.x d.y d.fld (ga K d.x) := by
  obtain ⟨c1, c⟩ := bo c
  obtain ⟨c2, c⟩ := bo c
  obtain ⟨c3, c⟩ := bo c
  obtain ⟨c4, c⟩ := bo c
  obtain ⟨c5, c⟩ := bo c
  obtain ⟨c6, c⟩ := bo c
  obtain ⟨c7, c⟩ := bo c
  obtain ⟨c8, c⟩ := bo c
  obtain ⟨c9, c⟩ := bo c
  obtain ⟨c10, c⟩ := bo c
  obtain ⟨c11, c⟩ := bo c
  refine ⟨?_, PySem.W.mg_of X G (eqO_ok c3), excDB_ok c2, eqO_ok c10⟩
  unfold supW at e
  split at c
  · rename_i oc od fd osl lk
    rw [lk] at e
    split at c
    · rename_i n0 cc cda hcl hco hdf
      obtain ⟨d1, c⟩ := bo c
      obtain ⟨d2, d3⟩ := bo c
      obtain ⟨n1, n2, n3, n4, n5, n6, n7, n8, n9, n10, n11, n12, n13, n14, n15⟩ := fd
      dsimp only at hcl hco hdf
      have e2 : (some (n1, n2, n3, n4, n5, n6, n7.map (·.1), n15) : SupW) = (some (("__init__" : Str), d.qual, defArgs d.st, FuncBody.stmts (defBody d.st), defScope d.st, mainGlobals, (["__class__"] : List Str), builtinsNs) : SupW) := e
      simp only [Option.some.injEq, Prod.mk.injEq] at e2
      obtain ⟨h1, h2, h3, h4, h5, h6, h7, h8⟩ := e2
      subst h1 h2 h3 h4 h5 h6 h8 hcl hco hdf
      have hn0 : n0 = "__class__" := by simpa using h7
      subst hn0
      refine ⟨supAt K d.x, cc, cda, _, _, _, _, _, { T := oexB_ok c1, fdE := ⟨_, _, _, _, _, _, rfl⟩, lk := ⟨_, _, _, lk⟩, cd := d1, file := ?_, cell := ?_, hm := eqO_ok c6, hB := of_decide_eq_true c7, hself := of_decide_eq_true c8, ho := eqO_ok c9, hno := eqO_ok c10, hsup := PySem.W.mg_none_of X G (eqO_ok c11), htop := htop, bd := S.bd, ar := S.ar, sc := S.sc, scs := S.scs, ny := S.ny }, eqO_ok c4, of_decide_eq_true c5, ?_⟩
      · split at d2
        · rename_i ccl cdd vs ccs lkc
          split at d2
          · rename_i fl tf hv
            exact ⟨ccl, cdd, vs, ccs, fl, tf, lkc, hv, d2⟩
          · cases d2
        · cases d2
      · split at d3
        · rename_i cl cld D csl lkcc
          have eD := of_decide_eq_true d3
          subst eD
          exact ⟨cl, cld, csl, lkcc⟩
        · cases d3
      · exact .all fun us hl => S.bind _ _ _ _ _ _ _ us hl
    · cases c
  · cases c
def err0B (K : PySem.W.Frag) (x : Str) : Bool := PySem.W.excIn K (ga K x) PySem.HandSPX.veTail "ValueError.__new__" && (PySem.W.keepIn K (.ref (ga K x)) && (eqO (PySem.W.nsIn K mainGlobals x) (some (some (.ref (ga K x)))) && excDB K (ga K x)))
theorem err0_of {K : PySem.W.Frag} {h : Heap} {mg : Str → Option Value} {x : Str} (X : K.In h) (G : h.Ns mainGlobals mg) (c : err0B K x = true) : Err0 K mg x (ga K x) := by
  obtain ⟨c1, c⟩ := bo c
  obtain ⟨c2, c⟩ := bo c
  obtain ⟨c3, c4⟩ := bo c
  exact ⟨c1, c2, PySem.W.mg_of X G (eqO_ok c3), excDB_ok c4⟩
def gloB (K : PySem.W.Frag) (x : Str) : Bool := eqO (PySem.W.nsIn K mainGlobals x) (some (some (.ref (ga K x))))
def freB (K : PySem.W.Frag) (x : Str) : Bool := eqO (PySem.W.nsIn K mainGlobals x) (some none)
theorem glo_of {K : PySem.W.Frag} {h : Heap} {mg : Str → Option Value} {x : Str} (X : K.In h) (G : h.Ns mainGlobals mg) (c : gloB K x = true) : mg x = some (.ref (ga K x)) := PySem.W.mg_of X G (eqO_ok c)
theorem fre_of {K : PySem.W.Frag} {h : Heap} {mg : Str → Option Value} {x : Str} (X : K.In h) (G : h.Ns mainGlobals mg) (c : freB K x = true) : mg x = none := PySem.W.mg_none_of X G (eqO_ok c)
/-! ### the Hook: the defs, the __init__s, the tables, a Bool -/
abbrev AlZ : Type := He.AlD × (List SupW × (List (Option (List (Option (Str × Int)))) × Bool))
def obsZ (fn : List DefA) (su : List SupD) (ts : List He.Tab) (ex : PySem.W.Frag → Bool) (K : PySem.W.Frag) : AlZ := (obsA [] fn K, su.map (fun d => supW K d.x), ts.map (fun t => He.dicW K (t.1 K)), ex K)
def valZ (fn : List DefA) (su : List SupD) (ts : List He.Tab) (w : World) : AlZ := (valA fn, su.map SupD.val, ts.map (fun t => some (He.keysIn w.params t.2)), true)
def SaysZ (fn : List DefA) (su : List SupD) (ts : List He.Tab) (ex : PySem.W.Frag → Bool) (w : World) (K : PySem.W.Frag) : Prop := obsZ fn su ts ex K = valZ fn su ts w
def obsZG (n : Nat) (fn : List DefA) (su : List SupD) (ts : List He.Tab) (ex : PySem.W.Frag → Bool) (g : Addr → Option Obj) : AlZ := obsZ fn su ts ex (frG g (asA g n))
def hookZ (n : Nat) (fn : List DefA) (su : List SupD) (ts : List He.Tab) (ex : PySem.W.Frag → Bool) : PySem.W.Hook where
  α := AlZ
  obs := fun s => obsZG n fn su ts ex s.heap.get?
  val := fun w => valZ fn su ts w
  says := fun w h => ∃ K : PySem.W.Frag, K.In h ∧ SaysZ fn su ts ex w K
  of := fun _ _ e => ⟨_, frG_in, e⟩
  keeps := fun _ _ _ ⟨K, hK, c⟩ k => ⟨K, PySem.W.Frag.In.keeps hK k, c⟩
theorem obsZG_eq {n : Nat} {fn : List DefA} {su : List SupD} {ts : List He.Tab} {ex : PySem.W.Frag → Bool} {g : Addr → Option Obj} {s : Shared} (h : ∀ a, g a = s.heap.get? a) : obsZG n fn su ts ex g = (hookZ n fn su ts ex).obs s := by
  have e : g = s.heap.get? := funext h
  rw [e] <;> rfl
/-- the same over a written list of addresses (found once by evaluation: aslist.sh): nothing is searched for in the run -/
def obsLG (as : List Addr) (fn : List DefA) (su : List SupD) (ts : List He.Tab) (ex : PySem.W.Frag → Bool) (g : Addr → Option Obj) : AlZ := obsZ fn su ts ex (frG g as)
def hookL (as : List Addr) (fn : List DefA) (su : List SupD) (ts : List He.Tab) (ex : PySem.W.Frag → Bool) : PySem.W.Hook where
  α := AlZ
  obs := fun s => obsLG as fn su ts ex s.heap.get?
  val := fun w => valZ fn su ts w
  says := fun w h => ∃ K : PySem.W.Frag, K.In h ∧ SaysZ fn su ts ex w K
  of := fun _ _ e => ⟨_, frG_in, e⟩
  keeps := fun _ _ _ ⟨K, hK, c⟩ k => ⟨K, PySem.W.Frag.In.keeps hK k, c⟩
theorem obsLG_eq {as : List Addr} {fn : List DefA} {su : List SupD} {ts : List He.Tab} {ex : PySem.W.Frag → Bool} {g : Addr → Option Obj} {s : Shared} (h : ∀ a, g a = s.heap.get? a) : obsLG as fn su ts ex g = (hookL as fn su ts ex).obs s := by
  have e : g = s.heap.get? := funext h
  rw [e] <;> rfl
section
variable {fn : List DefA} {su : List SupD} {ts : List He.Tab} {ex : PySem.W.Frag → Bool} {w : World} {K : PySem.W.Frag}
theorem SaysZ.more (c : SaysZ fn su ts ex w K) : ex K = true := congrArg (fun z : AlZ => z.2.2.2) c
theorem SaysZ.def_ (c : SaysZ fn su ts ex w K) (i : Nat) {d : DefA} (h : fn[i]? = some d := by rfl) : ∃ fd, L2.FunD K d.name d.qual d.params d.body d.scope (d.dvs K) (d.kws K) (d.at_ K) fd :=
  SaysA.def_ (fa := []) (fn := fn) (show obsA [] fn K = valA fn from congrArg (fun z : AlZ => z.1) c) i h
theorem SaysZ.sup (c : SaysZ fn su ts ex w K) (i : Nat) {d : SupD} (h : su[i]? = some d := by rfl) : supW K d.x = d.val := by
  have e : su.map (fun d => supW K d.x) = su.map SupD.val := congrArg (fun z : AlZ => z.2.1) c
  have e2 : (su.map fun d => supW K d.x)[i]? = (su.map SupD.val)[i]? := by rw [e]
  rw [List.getElem?_map, List.getElem?_map, h] at e2
  exact Option.some.inj e2
theorem SaysZ.tab (c : SaysZ fn su ts ex w K) (i : Nat) {t : He.Tab} (h : ts[i]? = some t := by rfl) : ∃ es n, KDict K w (t.1 K) es n := by
  have e : ts.map (fun t => He.dicW K (t.1 K)) = ts.map fun t => some (He.keysIn w.params t.2) := congrArg (fun z : AlZ => z.2.2.1) c
  have e2 : (ts.map fun t => He.dicW K (t.1 K))[i]? = (ts.map fun t => some (He.keysIn w.params t.2))[i]? := by rw [e]
  rw [List.getElem?_map, List.getElem?_map, h] at e2
  exact He.dicW_ok (Option.some.inj e2)
end
/-- a def of the top without defaults -/
def defG (x : Str) (st : Stmt) : DefA := ⟨fun K => ga K x, x, x, defArgs st, defBody st, defScope st, [], []⟩
/-- a method -/
def defM (x m q : Str) (st : Stmt) : DefA := ⟨fun K => ma K (ga K x) m, m, q, defArgs st, defBody st, defScope st, [], []⟩
end Aw

namespace Aw
open PySem PySem.Spec PyProof.Rows L2 NdefX He5
open He (eqO eqO_ok ga ma Fa cls_ok noat_ok meth_ok mkr_ok exm_ok int_ok tupB tupB_ok valsB valsB_ok Dv relAll relAll_ok)
def spmB (K : PySem.W.Frag) (C : Addr) (m : Str) : Bool := eqO (PySem.W.findIn K (.ref C) m) (some (some (.ref (ma K C m)))) && (PySem.W.isFn K (.ref (ma K C m)) && PySem.W.fnIn K (ma K C m))
theorem spmB_ok {K : PySem.W.Frag} {C : Addr} {m : Str} (h : spmB K C m = true) : PySem.W.findIn K (.ref C) m = some (some (.ref (ma K C m))) ∧ PySem.W.isFn K (.ref (ma K C m)) = true ∧ PySem.W.fnIn K (ma K C m) = true := by
  obtain ⟨h1, h⟩ := bo h
  obtain ⟨h2, h3⟩ := bo h
  exact ⟨eqO_ok h1, h2, h3⟩
def creadB (K : PySem.W.Frag) (C : Addr) : Bool := PySem.W.readsIn K C (.type "type") && eqO (PySem.W.specialIn K (.ref C) "__getattribute__") (some (some (.builtin "type.__getattribute__")))
theorem creadB_ok {K : PySem.W.Frag} {C : Addr} (h : creadB K C = true) : ClX.CRead K C (.type "type") := by
  obtain ⟨h1, h2⟩ := bo h
  exact ⟨h1, eqO_ok h2⟩
def clsmB (K : PySem.W.Frag) (C : Addr) (m : Str) : Bool := wrapB K C "classmethod" "classmethod.__get__" m && PySem.W.fnIn K (wf K C "classmethod" m)
theorem clsmB_ok {K : PySem.W.Frag} {C : Addr} {m : Str} (h : clsmB K C m = true) : ClX.CMet K C (.type "type") m (ma K C m) (wf K C "classmethod" m) := by
  obtain ⟨h1, h2⟩ := bo h
  exact cmet_of h1 h2
def kitB' (K : PySem.W.Frag) (a b : Value) (r : Bool) : Bool := decide (PySem.W.kitOne K a b = some r)
def owneqB (K : PySem.W.Frag) (C : Addr) : Bool := eqO (PySem.W.findIn K (.ref C) "__eq__") (some (some (.ref (ma K C "__eq__")))) && (PySem.W.isFn K (.ref (ma K C "__eq__")) && (eqO (PySem.W.findIn K (.ref C) "__ne__") (some (some (.builtin "object.__ne__"))) && (decide (PySem.W.mroIn K C (.type "object") = some true) && (PySem.W.notFirst K C (.type "str") && PySem.W.notFirst K C (.type "NoneType")))))
def emB (K : PySem.W.Frag) (C : Addr) : Bool := eqO (PySem.W.findIn K (.ref C) "__class__") (some (some (.builtin "object.__class__"))) && (eqO (PySem.W.specialIn K (.builtin "object.__class__") "__get__") (some (some (.builtin "getset_descriptor.__get__"))) && (decide (PySem.W.takesIn K (.builtin "object.__class__") = some true) &&
  (decide (PySem.W.mroIn K C (.type "object") = some true) && decide (PySem.W.kitOne K (.ref C) (.ref C) = some true))))
def eoB (K : PySem.W.Frag) (C : Addr) : Bool := decide (PySem.W.kitOne K (.type "int") (.ref C) = some false) && (decide (PySem.W.kitOne K (.type "list") (.ref C) = some false) && (PySem.W.notFirst K C (.type "int") && PySem.W.notFirst K C (.type "list")))
/-- the code object and the table of a def of the top -/
def tabP (K : PySem.W.Frag) (x : Str) : Addr × Addr := (PySem.W.tabIn K x).getD (0, 0)
def tabB (K : PySem.W.Frag) (x : Str) : Bool := eqO (PySem.W.nsIn K mainGlobals x) (some (some (.ref (ga K x)))) && (decide (PySem.W.tabIn K x = some (tabP K x)) && (K.lookup (tabP K x).2).isNone)
/-- an empty tuple of the written part -/
def mtB (K : PySem.W.Frag) (a : Addr) : Bool := match K.lookup a with
  | some ⟨.type T, _, .seq its _, _⟩ => decide (T = "tuple") && decide (its.size = 0)
  | _ => false
theorem mtB_ok {K : PySem.W.Frag} {a : Addr} (h : mtB K a = true) (H : Hp) : SqT K H a [] := by
  unfold mtB at h
  split at h
  · rename_i T dd its n sl e
    obtain ⟨h1, h2⟩ := bo h
    have h1 := of_decide_eq_true h1
    have h2 := of_decide_eq_true h2
    subst h1
    refine .inr ⟨_, its, n, e, rfl, rfl, by rw [h2]; exact Nat.zero_le _, ?_⟩
    have e0 : its = #[] := Array.eq_empty_of_size_eq_zero h2
    rw [e0]
    exact .nil
  · cases h
def su0 : SupD := ⟨"BadNumber", "BadNumber.__init__", "number", "number", (inClass (top 6) 0)⟩
theorem ss0 : SupS su0 := ⟨⟨_, _, _, _, _, _, _, _, _, _, _, _, rfl, rfl⟩, rfl, nscope_by (by decide +kernel), rfl, ⟨by decide, by decide⟩, fun _ _ _ _ _ _ _ us hl => match us, hl with | [_, _], _ => rfl⟩
def su1 : SupD := ⟨"BadSize", "BadSize.__init__", "size", "size", (inClass (top 7) 0)⟩
theorem ss1 : SupS su1 := ⟨⟨_, _, _, _, _, _, _, _, _, _, _, _, rfl, rfl⟩, rfl, nscope_by (by decide +kernel), rfl, ⟨by decide, by decide⟩, fun _ _ _ _ _ _ _ us hl => match us, hl with | [_, _], _ => rfl⟩
def su2 : SupD := ⟨"TooMany", "TooMany.__init__", "most", "most", (inClass (top 8) 0)⟩
theorem ss2 : SupS su2 := ⟨⟨_, _, _, _, _, _, _, _, _, _, _, _, rfl, rfl⟩, rfl, nscope_by (by decide +kernel), rfl, ⟨by decide, by decide⟩, fun _ _ _ _ _ _ _ us hl => match us, hl with | [_, _], _ => rfl⟩
def sus : List SupD := [su0, su1, su2]
def ddMInit : DefA := ⟨fun K => ma K (ga K "Marks") "__init__", "__init__", "Marks.__init__", defArgs sMInit, defBody sMInit, defScope sMInit, [Dv.adr (He.dflAt ("Marks", some "__init__") 0)], []⟩
def fns : List DefA := [defG "_law_pen" sPen, defG "_law_draw" sDraw, defG "_law_big" sLBig, defG "_law_size" sLSize, defG "_law_place" sLPlace, defG "_law_run" sLRun, defG "_law_runs" sLRuns, defG "_law_in_run" sInR, defG "_law_odd" sOdd, defG "_law_meeting" sLMeet, defG "_law_count" sLCnt, defG "_law_places_right" sLPR, defG "_law_refused" sLRef, defG "_law_sizes_right" sLSz, defG "law" sLaw, defG "full" sFull, defG "many_bits" sManyB, defG "is_number" sNum, defG "check_size" sChkS, defG "width" sWidth, defG "class_mask" sClassm, defG "tidied" sTidy, defG "deepened" sDeep, defG "merged" sMerge, defG "added" sAdded, defG "is_marked" sIsMk, defG "many_upto" sUpto, defG "many_below" sLow, defG "is_run" sIsRun, defG "pieces_of_runs" sPor, defG "marks_of" sMOf, defG "joined" sJnd, defG "beside" sBeside, defG "are_same" sAreS, defM "Marks" "__contains__" "Marks.__contains__" sMCon, defM "Marks" "__eq__" "Marks.__eq__" sMEq, defM "Marks" "__xor__" "Marks.__xor__" sMXor, defM "Marks" "__and__" "Marks.__and__" sMAnd, defM "Marks" "__or__" "Marks.__or__" sMOr, defM "Marks" "__sub__" "Marks.__sub__" sMSub, defM "Marks" "__invert__" "Marks.__invert__" sMInv, defM "Marks" "many" "Marks.many" sMany, defM "Marks" "is_none" "Marks.is_none" sNone, ddMInit]
def globs : List Str := (["_law_pen", "_law_draw", "_law_big", "_law_size", "_law_place", "_law_run", "_law_runs", "_law_in_run", "_law_odd", "_law_meeting", "_law_count", "_law_places_right", "_law_refused", "_law_sizes_right", "law", "full", "many_bits", "is_number", "check_size", "width"] : List Str) ++ (["class_mask", "tidied", "deepened", "merged", "added", "is_marked", "many_upto", "many_below", "is_run", "pieces_of_runs", "marks_of", "joined", "beside", "are_same", "WordsError", "BadNumber", "BadSize", "TooMany", "Marks"] : List Str)
def frees : List Str := ["list", "int", "len", "isinstance", "range", "str", "bool", "tuple", "enumerate", "sum", "max", "min", "divmod"]
def tabs : List He.Tab := []
def fas : List Fa := [.cls "Marks", .noat "Marks" "size", .noat "Marks" "depth", .noat "Marks" "pieces", .mkr "Marks", .meth "Marks" "many", .meth "Marks" "is_none", .exm "BadSize" "BadSize" true, .int "MOST_SIZE" (10 ^ 30), .int "BASE" 12, .int "MOST_RUNS" 20, .int "MOST_STEP" 4]
def xCon (K : PySem.W.Frag) : Bool := spmB K (ga K "Marks") "__contains__"
def xXor (K : PySem.W.Frag) : Bool := spmB K (ga K "Marks") "__xor__"
def xAnd (K : PySem.W.Frag) : Bool := spmB K (ga K "Marks") "__and__"
def xOr (K : PySem.W.Frag) : Bool := spmB K (ga K "Marks") "__or__"
def xSub (K : PySem.W.Frag) : Bool := spmB K (ga K "Marks") "__sub__"
def xInv (K : PySem.W.Frag) : Bool := spmB K (ga K "Marks") "__invert__"
def xSf (K : PySem.W.Frag) : Bool := PySem.W.selfFirst K (ga K "Marks")
def xEq (K : PySem.W.Frag) : Bool := owneqB K (ga K "Marks")
def xEm (K : PySem.W.Frag) : Bool := emB K (ga K "Marks")
def xEo (K : PySem.W.Frag) : Bool := eoB K (ga K "Marks")
def xMt (K : PySem.W.Frag) : Bool := mtB K (He.dflAt ("Marks", some "__init__") 0 K)
def xTab (K : PySem.W.Frag) : Bool := tabB K "_law_sizes_right"
def exs : List (PySem.W.Frag → Bool) := [xCon, xXor, xAnd, xOr, xSub, xInv, xSf, xEq, xEm, xEo, xMt, xTab]
def exB (K : PySem.W.Frag) : Bool := globs.all (gloB K) && (frees.all (freB K) && (sus.all (fun d => d.ok PySem.Challenge.pw_allwordlengths_k15_whole_marks_from_mark.main.file K) && (fas.all (Fa.ok K) && exs.all (fun f => f K))))
abbrev R0 : PySem.W.OpenRow := PySem.W.OpenLaw.row PySem.Challenge.rw_allwordlengths_k15_whole_marks_from_mark
def asL : List Addr := [3, 28, 35, 45, 67, 88, 109, 118, 132, 139, 144, 151, 156, 163, 168, 175, 182, 189, 313, 324, 331, 338, 345, 352, 357, 364, 371, 378, 383, 390, 397, 404, 411, 418, 425, 432, 437, 444, 451, 456, 27, 34, 44, 66, 87, 108, 117, 131, 138, 143, 150, 155, 162, 167, 174, 181, 188, 312, 323, 330, 337, 344, 351, 356, 363, 370, 377, 382, 389, 396, 403, 410, 417, 424, 431, 436, 443, 450, 455, 64, 85, 106, 205, 222, 229, 234, 239, 244, 249, 254, 261, 268, 63, 52, 84, 73, 105, 94, 204, 198, 221, 228, 233, 238, 243, 248, 253, 260, 267, 197, 2]
abbrev hk : PySem.W.Hook := hookL asL fns sus tabs exB
def ob (s : PySem.W.SharedT) : AlZ := obsLG asL fns sus tabs exB (HandSHeadRun.getT s)
theorem ob_eq (s : PySem.W.SharedT) : ob s = hk.obs s.abs := obsLG_eq (HandSHeadRun.getT_eq s)
def loose : List Str := (["_wall", "full", "many_bits", "WordsError", "BadNumber", "BadSize", "TooMany", "MOST_SIZE", "is_number", "check_number", "check_size", "BASE", "width", "class_mask", "tidied", "deepened", "merged", "added", "is_marked", "many_upto", "many_below", "MOST_RUNS", "MOST_STEP", "Marks", "is_run", "pieces_of_runs", "marks_of", "beside", "joined", "are_same"] : List Str) ++ (["_law_run", "_law_runs", "_law_in_run", "_law_odd", "_law_meeting", "_law_count", "_law_pen", "_law_draw", "_law_big", "_law_size", "_law_place", "_law_places_right", "_law_refused"] : List Str)
theorem runF (w : World) : HandSHeadRun.RunEq R0 (PySem.W.view R0.prog [49, 50]) hk ob 12000 loose (w.withFollow "special-get-raises" false) := fun os => by kernel_rfl
theorem runT (w : World) : HandSHeadRun.RunEq R0 (PySem.W.view R0.prog [49, 50]) hk ob 12000 loose (w.withFollow "special-get-raises" true) := fun os => by kernel_rfl
theorem run (w : World) : HandSHeadRun.RunEq R0 (PySem.W.view R0.prog [49, 50]) hk ob 12000 loose w :=
  PySem.W.byRow2 "special-get-raises" (P := fun w => HandSHeadRun.RunEq R0 (PySem.W.view R0.prog [49, 50]) hk ob 12000 loose w) runF runT w
end Aw

namespace Aw
open PySem PySem.Spec PyProof.Rows L2 NdefX
/-! ### what the rows without steps need of step, stepobj, lawtext, laws0 -/
/-- a value whose type is known; whether it is a text -/
inductive VOk (H : Hp) : V → Prop
  | str (x : Str) (h : x.length ≤ 1000) : VOk H (.str x)
  | non : VOk H .non
  | bl (b : Bool) : VOk H (.bl b)
  | int (i : Int) : VOk H (.int i)
  | lst {a : Addr} {xs : List V} (h : H a = some (.lst xs)) : VOk H (.ref a)
  | tup {a : Addr} {xs : List V} (h : H a = some (.tup xs)) : VOk H (.ref a)
  | dct {a : Addr} {kvs : List (Key × V)} (h : H a = some (.dK kvs)) : VOk H (.ref a)
theorem VOk.same {H H' : Hp} (s : Same H H') : ∀ {v : V}, VOk H v → VOk H' v
  | _, .str x h => .str x h
  | _, .non => .non
  | _, .bl b => .bl b
  | _, .int i => .int i
  | _, .lst h => .lst (s _ _ h)
  | _, .tup h => .tup (s _ _ h)
  | _, .dct h => .dct (s _ _ h)
def isStr : V → Bool
  | .str _ => true
  | _ => false
theorem VOk.isi {K : PySem.W.Frag} {H : Hp} {v : V} (h : VOk H v) : ∃ t, TyX K H v t ∧ PySem.W.kitOne K t (.type "str") = some (isStr v) := by
  cases h with
  | str x h => exact ⟨_, .base (.str x), kit_ty (show kitB "str" "str" = some true by decide +kernel)⟩
  | non => exact ⟨_, .base .non, kit_ty (show kitB "NoneType" "str" = some false by decide +kernel)⟩
  | bl b => exact ⟨_, .base (.bl b), kit_ty (show kitB "bool" "str" = some false by decide +kernel)⟩
  | int i => exact ⟨_, .base (.int i), kit_ty (show kitB "int" "str" = some false by decide +kernel)⟩
  | lst h => exact ⟨_, .base (.lst h), kit_ty (show kitB "list" "str" = some false by decide +kernel)⟩
  | tup h => exact ⟨_, .base (.tup h), kit_ty (show kitB "tuple" "str" = some false by decide +kernel)⟩
  | dct h => exact ⟨_, .base (.dK h), kit_ty (show kitB "dict" "str" = some false by decide +kernel)⟩
theorem lkk {α : Type} {k m : Str} {v : α} {l : List (Str × α)} (h : ¬ m = k) : ((k, v) :: l).lookup m = l.lookup m := by
  have e : (m == k) = false := by simpa using h
  simp [List.lookup, e]
theorem lk1 {α : Type} {k : Str} {v : α} {l : List (Str × α)} : ((k, v) :: l).lookup k = some v := by simp [List.lookup]
def strI (i : Int) : Str := toString i
theorem kz : (1000 : Nat) ≤ sizeLine := by decide
theorem same_fresh {H H2 : Hp} {D : Addr} {o : HO} (hD : H D = none) (s2 : Same H H2) : Same H (upd H2 D o) := fun b u e => by rw [upd_ne (ne_of_none e hD)]; exact s2 _ _ e
theorem small200 {n : Nat} (h : n ≤ 1000) : n ≤ sizeLine := Nat.le_trans h kz
theorem small200' {n : Nat} (h : n < 1000) : n < sizeLine := Nat.lt_of_lt_of_le h kz
theorem map_take {α β : Type} (f : Nat → α) (g : α → β) (n : Nat) : ((List.range (n + 1)).map f).map g = ((List.range n).map f).map g ++ [g (f n)] := by
  rw [List.range_succ, List.map_append, List.map_append]
  rfl
theorem dec_ints {i j : Int} : decide (V.int i = V.int j) = decide (i = j) := by
  by_cases e : i = j
  · rw [decide_eq_true e, decide_eq_true (by rw [e])]
  · rw [decide_eq_false e, decide_eq_false (fun z => e (V.int.inj z))]
end Aw

namespace Aw
open PySem PySem.Spec PyProof.Rows L2 NdefX
/-- an integer from lo to hi, no bool -/
def numB (v : V) (lo hi : Int) : Bool := match v with
  | .int i => decide (lo ≤ i) && decide (i ≤ hi)
  | _ => false
def isIB : V → Bool
  | .int _ => true
  | .bl _ => true
  | _ => false
def isBB : V → Bool
  | .bl _ => true
  | _ => false
theorem VOk.ty {K : PySem.W.Frag} {H : Hp} {v : V} (h : VOk H v) : ∃ t, TyX K H v t ∧ PySem.W.kitOne K t (.type "int") = some (isIB v) ∧ PySem.W.kitOne K t (.type "bool") = some (isBB v) := by
  cases h with
  | str x h => exact ⟨_, .base (.str x), kit_ty (show kitB "str" "int" = some false by decide +kernel), kit_ty (show kitB "str" "bool" = some false by decide +kernel)⟩
  | non => exact ⟨_, .base .non, kit_ty (show kitB "NoneType" "int" = some false by decide +kernel), kit_ty (show kitB "NoneType" "bool" = some false by decide +kernel)⟩
  | bl b => exact ⟨_, .base (.bl b), kit_ty (show kitB "bool" "int" = some true by decide +kernel), kit_ty (show kitB "bool" "bool" = some true by decide +kernel)⟩
  | int i => exact ⟨_, .base (.int i), kit_ty (show kitB "int" "int" = some true by decide +kernel), kit_ty (show kitB "int" "bool" = some false by decide +kernel)⟩
  | lst h => exact ⟨_, .base (.lst h), kit_ty (show kitB "list" "int" = some false by decide +kernel), kit_ty (show kitB "list" "bool" = some false by decide +kernel)⟩
  | tup h => exact ⟨_, .base (.tup h), kit_ty (show kitB "tuple" "int" = some false by decide +kernel), kit_ty (show kitB "tuple" "bool" = some false by decide +kernel)⟩
  | dct h => exact ⟨_, .base (.dK h), kit_ty (show kitB "dict" "int" = some false by decide +kernel), kit_ty (show kitB "dict" "bool" = some false by decide +kernel)⟩
def spNum : Sp := fun vs H Q _ => ∃ (v : V) (lo hi : Int), vs = [v, .int lo, .int hi] ∧ VOk H v ∧ Q (.bl (numB v lo hi)) H
section
variable {P : Program} {w : World} {K : PySem.W.Frag} {mg : Str → Option Value} {base : Heap}
theorem scNum : FnScope ["value", "low", "high"] ["value", "low", "high"] (defScope sNum) := ⟨rfl, rfl, rfl, by decide +kernel, rfl, by decide +kernel, by decide +kernel⟩
theorem ok_num {f : Addr} {fd : FuncData} (F : Fun K "is_number" "is_number" sNum f fd) (isi : mg "isinstance" = none) (gI : mg "int" = none) (gB : mg "bool" = none) : FnOk P w K mg base CX0 1 f fd ["value", "low", "high"] spNum := by
  refine F.ok scNum (fun vs H Q E h => ?_) (fun cdv A outer s H vs Q E hr h => ?_)
  · obtain ⟨v, lo, hi, rfl, _⟩ := h
    rfl
  · obtain ⟨v, lo, hi, rfl, hv, hQ⟩ := h
    have nd := scNum.nd
    refine ⟨_, (pss_one (ps_ret (pe_and (pe_callB call_isi (by rfl) isi (by decide +kernel) (pa_cons (pv 0) (pa_cons (pe_bltn (v := .ty "int") (by rfl) gI (by decide +kernel) rfl) pa_nil))) (pe_and (pe_not (pe_callB call_isi (by rfl) isi (by decide +kernel) (pa_cons (pv 0) (pa_cons (pe_bltn (v := .ty "bool") (by rfl) gB (by decide +kernel) rfl) pa_nil)))) (pe_one (pe_chain op_le op_le (pv 1) (pv 0) (pv 2))))))), ?_⟩
    obtain ⟨t, ty, kI, kB⟩ := hv.ty (K := K)
    refine ⟨_, rfl, v, .ty "int", t, .type "int", isIB v, rfl, .ty _, ty, kI, _, rfl, ?_⟩
    cases hv with
    | int i =>
      refine iteT ?_
      refine ⟨_, rfl, .int i, .ty "bool", t, .type "bool", false, rfl, .ty _, ty, kB, _, rfl, _, rfl, ?_⟩
      refine iteT ?_
      refine ⟨_, rfl, _, rfl, lo, i, rfl, rfl, _, rfl, ?_⟩
      change Q (.bl (decide (lo ≤ i) && decide (i ≤ hi))) H at hQ
      refine ite_dec (fun h => ?_) (fun h => ?_)
      · refine ⟨_, rfl, i, hi, rfl, rfl, ?_⟩
        rw [decide_eq_true h, Bool.true_and] at hQ
        exact hQ
      · rw [decide_eq_false h, Bool.false_and] at hQ
        exact hQ
    | bl b =>
      refine iteT ?_
      refine ⟨_, rfl, .bl b, .ty "bool", t, .type "bool", true, rfl, .ty _, ty, kB, _, rfl, _, rfl, ?_⟩
      exact iteF hQ
    | _ => exact iteF hQ
end
end Aw

namespace Aw
open PySem PySem.Spec PyProof.Rows L2 NdefX
/-! ### enumerate(tuple) -/
set_option maxHeartbeats 4000000 in
theorem meets_enum1 {v : Value} {o : Obj} {G : Heap → Prop} (B : Begins v o G) :
    Meets (Builtin.«enumerate.__new__» ⟨[.type "enumerate", v], []⟩) (fun _ R s => G s.heap ∧
      R (.ok (.ret (.ref (s.heap.push o).objs.size))) { s with heap := (s.heap.push o).push { cls := .type "enumerate", data := .fields #[.none, .bool false, .ref s.heap.objs.size, rawInt 0, .none, .none] } }) :=
  .of_wp fun prog w A R s h => by
    obtain ⟨hp, g, d, tk, os⟩ := s; obtain ⟨h1, h⟩ := h
    have hsub := sub_enumerate
    have q1 : ∀ {A' : Around} {E : Value → Shared → Prop} {Q : Value → Shared → Prop}, Q (.ref hp.objs.size) ⟨hp.push o, g, d, tk, os⟩ → wpAny (model prog w) A' (pyIter v) Q E ⟨hp, g, d, tk, os⟩ :=
      fun q => B.iter prog w _ _ ⟨hp, g, d, tk, os⟩ _ h1 q
    wp_walk using q1
    refine wpAny_stack_any fun st => wpAny_pure ?_
    split
    · rename_i c _ _ _ _ _
      cases (c == Value.type "enumerate")
      · wp_walk using q1
        exact ⟨_, rfl, h⟩
      · wp_walk using q1
        exact ⟨_, rfl, h⟩
    · wp_walk using q1
      exact ⟨_, rfl, h⟩
theorem enum_begins1 {prog : Program} {w : World} {A : Around} {E : Value → Shared → Prop} {s : Shared} {v : Value} {o : Obj} {G : Heap → Prop} {Q : Value → Shared → Prop} (B : Begins v o G) (h1 : G s.heap)
    (h : ∀ h', IsEnum h' (s.heap.objs.size + 1) s.heap.objs.size 0 .none → h'.get? s.heap.objs.size = some o → h'.objs.size = s.heap.objs.size + 2 →
      (∀ b o, s.heap.get? b = some o → h'.get? b = some o) → Q (.ref (s.heap.objs.size + 1)) { s with heap := h' }) :
    wpAny (model prog w) A (call (.type "enumerate") [v]) Q E s := by
  refine callType_new F.called_enumerate (by decide) (F.typeCall_enumerate_1 _) (F.newCall_enumerate_1 _) (fun obj => F.args_object_init_2 obj _) F.entry_enumerate_new (meets_enum1 B) ⟨h1, ?_⟩
  have hz : (s.heap.push o).objs.size = s.heap.objs.size + 1 := Heap.size_push ..
  show _ ∧ _
  rw [hz]
  have he : IsEnum ((s.heap.push o).push { cls := .type "enumerate", data := .fields #[.none, .bool false, .ref s.heap.objs.size, rawInt 0, .none, .none] }) (s.heap.objs.size + 1) s.heap.objs.size 0 .none := by
    have := Heap.get?_push_size (s.heap.push o) (o := { cls := .type "enumerate", data := .fields #[.none, .bool false, .ref s.heap.objs.size, rawInt 0, .none, .none] }) rfl
    rw [hz] at this; exact this
  refine ⟨⟨_, he, rfl⟩, h _ he (Heap.get?_push_of_some _ (Heap.get?_push_size _ B.free)) (by rw [Heap.size_push, hz]) fun b o x => Heap.get?_push_of_some _ (Heap.get?_push_of_some _ x)⟩
def Itu (K : PySem.W.Frag) (a : Addr) : It :=
  ⟨fun i H => ∃ (xs : List V) (x : V), SqT K H a xs ∧ xs[i]? = some x, fun i H v H' => ∃ T x, v = .ref T ∧ H T = none ∧ H' = upd H T (.tup [.int (i : Nat), x]) ∧ ∀ xs, SqT K H a xs → xs[i]? = some x, fun i H => ∃ xs : List V, SqT K H a xs ∧ xs.length ≤ i⟩
theorem tup_apart {h : Heap} {a it : Addr} {items : Array Value} {i : Nat} (p : h.IsTuple a items) (q : h.IsTupleIter it a i) : a ≠ it := fun e => by
  subst e
  obtain ⟨o, ho, hc, _⟩ := p
  obtain ⟨o', ho', hc', _⟩ := q
  rw [ho] at ho'
  cases ho'
  rw [hc] at hc'
  exact absurd (Value.type.inj hc') (by decide)
theorem enum_apart {h : Heap} {a e it : Addr} {items : Array Value} {i : Int} {old : Value} (p : h.IsTuple a items) (q : IsEnum h e it i old) : e ≠ a := fun z => by
  subst z
  obtain ⟨o, ho, hc, _⟩ := p
  have q : h.get? e = some _ := q
  rw [ho] at q
  cases q
  exact absurd (Value.type.inj hc) (by decide)
theorem enum_endT {prog : Program} {w : World} {A : Around} {E : Value → Shared → Prop} {s : Shared} {e it l : Addr} {i : Nat} {items : Array Value} {old : Value} {Q : Option Value → Shared → Prop} (hh : A.handled = none)
    (he : IsEnum s.heap e it i old) (hit : s.heap.IsTupleIter it l i) (hl : s.heap.IsTuple l items) (hx : items[i]? = none)
    (hQ : ∀ h', Heap.ExtBut it s.heap h' → Q none { s with heap := h' }) : wpAny (model prog w) A (pyNext (.ref e)) Q E s := by
  have hT : s.TypeIs (.ref e) "enumerate" := ⟨_, he, rfl⟩
  unfold pyNext
  refine wpAny_bind (wpAny_attempt (wpAny_callSpecial?_slot (name := Str.ofString "__next__") hT F.slot_enumerate_next
    (wpAny_call_entry F.slot_enumerate_next hT F.entry_enumerate_next ?_ (F.args_enumerate_next_1 _))))
  show wpAny _ _ (field (.ref e) 2 >>= _) _ _ _
  refine wpAny_bind (wpAny_field he rfl (x := .ref it) rfl ?_)
  refine wpAny_bind (wpAny_nextOf_tuple_end hh hit hl hx fun h' x he' hx' => ?_)
  obtain ⟨o, ho, hc⟩ := hx'
  refine wpAny_bind (wpAny_isInstance (T := "StopIteration") (b := true) ⟨o, ho, hc⟩ isSubtype_stop ?_)
  exact wpAny_pure (hQ _ he')
theorem turn_enumT {P : Program} {w : World} {K : PySem.W.Frag} {elts : List Expr} {kk : Nat} {tpos : Pos} (a e it : Addr) :
    Turn P w K (.Tuple elts kk tpos) (Itu K a) [e, it] e (fun i h => (∃ old, IsEnum h e it ((i : Nat) : Int) old) ∧ h.IsTupleIter it a i ∧ e ≠ it) where
  mem := by simp
  obj := fun i h st b hb => by
    obtain ⟨⟨old, he⟩, ⟨o, ho, hc, hd⟩, _⟩ := st
    have e' : b = e ∨ b = it := by simpa using hb
    rcases e' with z | z
    · rw [z]; exact ⟨_, he, fun v q => nomatch q⟩
    · rw [z]; exact ⟨o, ho, fun v q => by rw [hd] at q; cases q⟩
  keep := fun i h h' st k => let ⟨⟨old, he⟩, hi, hne⟩ := st; ⟨⟨old, k e (by simp) _ he⟩, hi.at fun o q => k it (by simp) o q, hne⟩
  item := by
    intro X hP hw hK hc i pins s σ H E I hf st hg
    subst hP hw hK
    obtain ⟨⟨old, he⟩, hit, hne⟩ := st
    obtain ⟨xs, x, hq, hx⟩ := hg
    obtain ⟨its, rv, p, hz⟩ := I.tuple hq
    obtain ⟨u, hu, ru⟩ := rv.get hx
    have p : s.heap.IsTuple a its.toArray := p
    have hel : e < s.heap.objs.size := Heap.lt_size he
    have hil : it < s.heap.objs.size := by obtain ⟨_, q, _⟩ := hit; exact Heap.lt_size q
    have hai := tup_apart p hit
    have hea := enum_apart p he
    have hlt : i < its.toArray.size := by
      have := (List.getElem?_eq_some_iff.mp hu).1
      simpa using this
    refine wpAny_pyNext_enum_itemD (Draws.tuple (show X.A.in1.handled = none from I.ok.hd hc) it a hai its.toArray) he ⟨hit, p⟩ hlt hne (by simp [hne, hea]) fun y h' tk hy ho hst' hT hsz hk => ?_
    have ey : y = u := by
      have hy : its.toArray[i]? = some y := hy
      have hu' : its.toArray[i]? = some u := by simpa using hu
      rw [hu'] at hy
      exact (Option.some.inj hy).symm
    subst ey
    obtain ⟨hit', p'⟩ := hst'
    refine ⟨_, rfl, wpAny_letOwnedTupleGo_enum (s := { s with heap := h', toks := tk + 1 }) ho fun h'' he' sb => ?_⟩
    have hT2 : h''.get? s.heap.objs.size = some { cls := .type "tuple", data := .seq #[.int i tk, y] } := (sb.2 _ (Nat.ne_of_gt hel)).trans hT
    have new : ObjOk X.prog X.w (upd H s.heap.objs.size (.tup [.int (i : Nat), x])) h'' s.heap.objs.size (.tup [.int (i : Nat), x]) :=
      ⟨by show 2 ≤ sizeLine; decide, [.int i tk, y], .cons ⟨_, rfl⟩ (.cons ru .nil), ⟨_, hT2, rfl, _, rfl⟩⟩
    have I1 : Inv X pins σ (upd H s.heap.objs.size (.tup [.int (i : Nat), x])) { s with heap := h'', toks := tk + 1 } :=
      I.turnedNew (ch := [e, it]) (fun b ob hb q => (sb.2 b (fun z => hb (by simp [z]))).trans (hk b ob (fun z => hb (by simp [z])) (fun z => hb (by simp [z])) q)) hf (Nat.le_refl _) new
    refine ⟨.ref s.heap.objs.size, _, I1, rfl, ⟨_, x, rfl, I.hok.fresh (Nat.le_refl _), rfl, fun ys hy => by rw [I.tuple_inj hy hq]; exact hx⟩, ⟨⟨y, ?_⟩, hit'.at fun o q => (sb.2 it (Ne.symm hne)).trans q, hne⟩, fun b hb => ?_⟩
    · have e1 : ((i + 1 : Nat) : Int) = (i : Int) + 1 := by omega
      rw [e1]; exact he'
    · have hb' : b < s.heap.objs.size := by
        have e' : b = e ∨ b = it := by simpa using hb
        rcases e' with z | z
        · rw [z]; exact hel
        · rw [z]; exact hil
      rw [upd_ne (Nat.ne_of_lt hb')]
      exact (hf b hb).1
  done := by
    intro X hP hw hK hc i pins s σ H E I hf st hg
    subst hP hw hK
    obtain ⟨⟨old, he⟩, hit, hne⟩ := st
    obtain ⟨xs, hq, hx⟩ := hg
    obtain ⟨its, rv, p, hz⟩ := I.tuple hq
    obtain ⟨f0, f1, f2, f3, f4, f5⟩ := hf it (by simp)
    have p : s.heap.IsTuple a its.toArray := p
    have hl := rv.length
    exact enum_endT (I.ok.hd hc) he hit p (by simp; omega) fun h' eb => ⟨rfl, I.turned (t' := s.toks) (fun b o hb q => eb b o hb q) f0 f1 f3 f4 f5⟩
  self := fun A i s Q E st h => let ⟨⟨_, he⟩, _⟩ := st; wpAny_pyIter_enum he h
def iEnumT (K : PySem.W.Frag) (ta : TA) : TI := fun σ H R => ta σ H fun vs H1 => ∃ a xs, vs = [.ref a] ∧ SqT K H1 a xs ∧ R (Itu K a) H1
theorem pi_enumT {X : Cx} {e : Expr} {ta : TA} {p pos tpos : Pos} {elts : List Expr} {kk : Nat} (hg : Gl X "enumerate") (hm : X.mg "enumerate" = none) (ha : PA X [e] ta) (hs : starEach [e] X.env = [(false, eval e X.env)] := by rfl) :
    PI X (.Tuple elts kk tpos) (.Call (.Name "enumerate" p) [e] [] pos) (iEnumT X.K ta) := by
  refine ⟨fun pins s σ H R I h => ?_⟩
  refine Call_ (ld_blt I hg hm boot_enumerate (PyProof.Rows.callWith_type1 (thn (ha.run pos pins s σ H _ I h) fun us s1 ⟨vs, H1, I1, r1, q1⟩ => ?_) hs rfl))
  obtain ⟨a, xs, ex, hq, q⟩ := q1
  subst ex
  cases r1 with
  | cons r rr =>
    cases rr
    cases r
    obtain ⟨its, rv, p', hz⟩ := I1.tuple hq
    refine enum_begins1 (begins_tuple a its.toArray) p' fun h' he hi hsz hk => wpAny_pyIter_enum he ?_
    have I2 : Inv X pins σ H1 { s1 with heap := h' } := I1.kept (t' := s1.toks) hk
    refine ⟨s1.heap.objs.size + 1, [s1.heap.objs.size + 1, s1.heap.objs.size], _, _, H1, rfl, I2, turn_enumT a (s1.heap.objs.size + 1) s1.heap.objs.size, ⟨⟨.none, he⟩, ⟨_, hi, rfl, rfl⟩, Nat.succ_ne_self _⟩, fun b hb => ?_, q⟩
    have e' : b = s1.heap.objs.size + 1 ∨ b = s1.heap.objs.size := by simpa using hb
    have hle : s1.heap.objs.size ≤ b := by
      rcases e' with z | z
      · rw [z]; exact Nat.le_add_right _ _
      · rw [z]; exact Nat.le_refl _
    exact I1.fpOk hle (I1.hok.fresh hle)
theorem for_enumT {K : PySem.W.Frag} {a : Addr} {xs : List V} {g : TG} {tb : TS} {D : Ends} {σ : Aw.St} {H : Hp} (Pv : Nat → Aw.St → Hp → Prop) (h0 : Pv 0 σ H) (hl : ∀ i σ H, i ≤ xs.length → Pv i σ H → SqT K H a xs)
    (hs : ∀ i x σ H T, xs[i]? = some x → Pv i σ H → H T = none → g (.ref T) σ (upd H T (.tup [.int (i : Nat), x])) fun σ2 H2 => tb { D with nx := Pv (i + 1), ct := Pv (i + 1), bk := D.nx } σ2 H2)
    (hd : ∀ σ H, Pv xs.length σ H → D.nx σ H) : tFor (fun _ H R => R (Itu K a) H) g tb D σ H := by
  refine ⟨fun i m σ H => m = xs.length - i ∧ i ≤ xs.length ∧ Pv i σ H, ⟨xs.length, by simp, Nat.zero_le _, h0⟩, ?_⟩
  rintro i m σ H ⟨rfl, hi, p⟩
  have q := hl i σ H hi p
  by_cases hlt : i < xs.length
  · refine .inr ⟨⟨xs, xs[i], q, by simp [hlt]⟩, Pv (i + 1), fun σ' H' p' => ⟨xs.length - (i + 1), by omega, rfl, hlt, p'⟩, fun x H' y => ?_⟩
    obtain ⟨T, y, rfl, hT, rfl, hy⟩ := y
    exact hs i y σ H T (hy xs q) p hT
  · have e : i = xs.length := by omega
    subst e
    exact .inl ⟨⟨xs, q, Nat.le_refl _⟩, hd σ H p⟩
end Aw

namespace Aw
open PySem PySem.Spec PyProof.Rows L2 NdefX
/-! ### for i, x in enumerate(l) -/
theorem for_enum {K : PySem.W.Frag} {a : Addr} {xs : List V} {g : TG} {tb : TS} {D : Ends} {σ : Aw.St} {H : Hp} (Pv : Nat → Aw.St → Hp → Prop) (h0 : Pv 0 σ H) (hl : ∀ i σ H, i ≤ xs.length → Pv i σ H → SqL K H a xs)
    (hs : ∀ i x σ H T, xs[i]? = some x → Pv i σ H → H T = none → g (.ref T) σ (upd H T (.tup [.int (i : Nat), x])) fun σ2 H2 => tb { D with nx := Pv (i + 1), ct := Pv (i + 1), bk := D.nx } σ2 H2)
    (hd : ∀ σ H, Pv xs.length σ H → D.nx σ H) : tFor (fun _ H R => R (Ite K a) H) g tb D σ H := by
  refine ⟨fun i m σ H => m = xs.length - i ∧ i ≤ xs.length ∧ Pv i σ H, ⟨xs.length, by simp, Nat.zero_le _, h0⟩, ?_⟩
  rintro i m σ H ⟨rfl, hi, p⟩
  have q := hl i σ H hi p
  by_cases hlt : i < xs.length
  · refine .inr ⟨⟨xs, xs[i], q, by simp [hlt]⟩, Pv (i + 1), fun σ' H' p' => ⟨xs.length - (i + 1), by omega, rfl, hlt, p'⟩, fun x H' y => ?_⟩
    obtain ⟨T, y, rfl, hT, rfl, hy⟩ := y
    exact hs i y σ H T (hy xs q) p hT
  · have e : i = xs.length := by omega
    subst e
    exact .inl ⟨⟨xs, q, Nat.le_refl _⟩, hd σ H p⟩
end Aw

namespace Aw
open PySem PySem.Spec PyProof.Rows L2 NdefX
/-- the number in a value -/
def iV : V → Int
  | .int i => i
  | _ => 0
theorem numB_int {v : V} {lo hi : Int} (h : numB v lo hi = true) : ∃ i, v = .int i ∧ lo ≤ i ∧ i ≤ hi := by
  cases v with
  | int i =>
    have h : (decide (lo ≤ i) && decide (i ≤ hi)) = true := h
    rw [Bool.and_eq_true, decide_eq_true_eq, decide_eq_true_eq] at h
    exact ⟨i, rfl, h⟩
  | _ => cases h
/-- raises the one error with the one field -/
def errOf (c : Prop) (C : Addr) (fld : Str) (v : V) (H : Hp) (E : XK) : Prop := c → ∀ d H', Same H H' → H d = none → H' d = some (.xd [(fld, v)]) → E (.ref C) (some d) H'
theorem errOf.of {c c' : Prop} {C : Addr} {fld : Str} {v : V} {H H1 : Hp} {E : XK} (h : errOf c C fld v H E) (s : Same H H1) (hc : c' → c) : errOf c' C fld v H1 E := fun z d H' s' h0 h1 => h (hc z) d H' (s.trans s') (s.free h0) h1
end Aw

namespace Aw
open PySem PySem.Spec PyProof.Rows L2 NdefX
def spChkN (CN : Addr) : Sp := fun vs H Q E => ∃ v lo hi, vs = [v, .int lo, .int hi] ∧ VOk H v ∧ errOf (numB v lo hi = false) CN "number" v H E ∧ (numB v lo hi = true → Q .non H)
def spChkS (CZ : Addr) : Sp := fun vs H Q E => ∃ v, vs = [v] ∧ VOk H v ∧ errOf (numB v 1 (10 ^ 30) = false) CZ "size" v H E ∧ (numB v 1 (10 ^ 30) = true → Q .non H)
section
variable {P : Program} {w : World} {K : PySem.W.Frag} {mg : Str → Option Value} {base : Heap} {CN CZ fNum : Addr} {t30 : Tok}
theorem scChkN : FnScope ["value", "low", "high"] ["value", "low", "high"] (defScope sChkN) := ⟨rfl, rfl, rfl, by decide +kernel, rfl, by decide +kernel, by decide +kernel⟩
theorem scChkS : FnScope ["size"] ["size"] (defScope sChkS) := ⟨rfl, rfl, rfl, by decide +kernel, rfl, by decide +kernel, by decide +kernel⟩
theorem ok_chkN {f : Addr} {fd nd' : FuncData} (F : Fun K "check_number" "check_number" sChkN f fd) (En : Err P K mg "BadNumber" "number" "number" CN)
    (GNum : FnOk P w K mg base CX0 1 fNum nd' ["value", "low", "high"] spNum) (FNum : Fun K "is_number" "is_number" sNum fNum nd') (bNum : Binds K nd' ["value", "low", "high"] []) (gNum : mg "is_number" = some (.ref fNum)) : FnOk P w K mg base (L2.CX P w) 3 f fd ["value", "low", "high"] (spChkN CN) := by
  refine F.okX scChkN (fun vs H Q E h => ?_) (fun cdv A outer s H vs Q E hr h => ?_)
  · obtain ⟨v, lo, hi, rfl, _⟩ := h
    rfl
  · obtain ⟨v, lo, hi, rfl, hv, kE, kQ⟩ := h
    have nd := scChkN.nd
    refine ⟨_, (pss_one (ps_if (pt_not (pt_val (pe_call GNum (hr.mono (by decide)) (by rfl) gNum FNum.kp bNum .nil pass0 (pa_cons (pv 0) (pa_cons (pv 1) (pa_cons (pv 2) pa_nil))))))
        (pss_one (ps_raise rfl (takes_of rfl rfl rfl rfl) (pmk_err En hr (by rfl) (pa_cons (pv 0) pa_nil)))) pss_nil)), ?_⟩
    refine ⟨_, rfl, _, rfl, _, rfl, v, lo, hi, rfl, hv, _, rfl, ?_⟩
    cases hb : numB v lo hi with
    | false =>
      refine iteT ?_
      refine ⟨_, rfl, mkS_ans fun d hd => ?_⟩
      exact kE hb d _ (same_upd hd) hd upd_same
    | true => exact iteF (kQ hb)
theorem ok_chkS {f : Addr} {fd nd' : FuncData} (F : Fun K "check_size" "check_size" sChkS f fd) (Ez : Err P K mg "BadSize" "size" "size" CZ) (gM : mg "MOST_SIZE" = some (.int (10 ^ 30) t30))
    (GNum : FnOk P w K mg base CX0 1 fNum nd' ["value", "low", "high"] spNum) (FNum : Fun K "is_number" "is_number" sNum fNum nd') (bNum : Binds K nd' ["value", "low", "high"] []) (gNum : mg "is_number" = some (.ref fNum)) : FnOk P w K mg base (L2.CX P w) 3 f fd ["size"] (spChkS CZ) := by
  refine F.okX scChkS (fun vs H Q E h => ?_) (fun cdv A outer s H vs Q E hr h => ?_)
  · obtain ⟨v, rfl, _⟩ := h
    rfl
  · obtain ⟨v, rfl, hv, kE, kQ⟩ := h
    have nd := scChkS.nd
    refine ⟨_, (pss_one (ps_if (pt_not (pt_val (pe_call GNum (hr.mono (by decide)) (by rfl) gNum FNum.kp bNum .nil pass0 (pa_cons (pv 0) (pa_cons pe_int (pa_cons (pe_glob (v := .int (10 ^ 30)) (by rfl) gM ⟨_, rfl⟩) pa_nil))))))
        (pss_one (ps_raise rfl (takes_of rfl rfl rfl rfl) (pmk_err Ez hr (by rfl) (pa_cons (pv 0) pa_nil)))) pss_nil)), ?_⟩
    refine ⟨_, rfl, v, 1, 10 ^ 30, rfl, hv, _, rfl, ?_⟩
    cases hb : numB v 1 (10 ^ 30) with
    | false =>
      refine iteT ?_
      refine ⟨_, rfl, mkS_ans fun d hd => ?_⟩
      exact kE hb d _ (same_upd hd) hd upd_same
    | true => exact iteF (kQ hb)
end
end Aw

namespace Aw
open PySem PySem.Spec PyProof.Rows L2 NdefX
/-! ### tests and values that change nothing that stands -/
def PureT (t : TT) (σ : Aw.St) (H : Hp) (c : Bool) : Prop := ∀ Q : Bool → Hp → Prop, (∀ H', Same H H' → Q c H') → t σ H Q
def PureE (t : TE) (σ : Aw.St) (H : Hp) (v : V) : Prop := ∀ Q : VK, (∀ H', Same H H' → Q v H') → t σ H Q
theorem nxt {D : Ends} {σ : Aw.St} {H : Hp} (h : D.nx σ H) : tNext D σ H := h
theorem seq {D : Ends} {t u : TS} {σ : Aw.St} {H : Hp} (h : t { D with nx := u D } σ H) : tSeq t u D σ H := h
theorem same_refl (H : Hp) : Same H H := fun _ _ z => z
section
variable {a b : TT} {σ : Aw.St} {H : Hp} {c d : Bool}
theorem PureT.and (ha : PureT a σ H c) (hb : c = true → ∀ H', Same H H' → PureT b σ H' d) : PureT (tAnd a b) σ H (c && d) := fun Q k => ha _ fun H1 s1 => by
  cases c with
  | true => exact iteT (hb rfl H1 s1 _ fun H2 s2 => k H2 (s1.trans s2))
  | false => exact iteF (k H1 s1)
theorem PureT.or (ha : PureT a σ H c) (hb : c = false → ∀ H', Same H H' → PureT b σ H' d) : PureT (tOr a b) σ H (c || d) := fun Q k => ha _ fun H1 s1 => by
  cases c with
  | true => exact iteT (k H1 s1)
  | false => exact iteF (hb rfl H1 s1 _ fun H2 s2 => k H2 (s1.trans s2))
theorem PureT.not (ha : PureT a σ H c) : PureT (tNot a) σ H (!c) := fun Q k => ha _ fun H1 s1 => k H1 s1
theorem PureT.ite {D : Ends} {t u : TS} {p : Prop} [Decidable p] (ha : PureT a σ H c) (hp : c = decide p) (h1 : p → ∀ H', Same H H' → t D σ H') (h2 : ¬ p → ∀ H', Same H H' → u D σ H') : tIfS a t u D σ H := ha _ fun H1 s1 => by
  rw [hp]
  exact ite_dec (fun z => h1 z H1 s1) (fun z => h2 z H1 s1)
theorem PureT.ite0 {D : Ends} {t : TS} {p : Prop} [Decidable p] (ha : PureT a σ H c) (hp : c = decide p) (h1 : p → ∀ H', Same H H' → t D σ H') (h2 : ¬ p → ∀ H', Same H H' → D.nx σ H') : tIfS a t tNext D σ H := ha _ fun H1 s1 => by
  rw [hp]
  exact ite_dec (fun z => h1 z H1 s1) (fun z => h2 z H1 s1)
end
end Aw

namespace Aw
open PySem PySem.Spec PyProof.Rows L2 NdefX
structure TxtL (mg : Str → Option Value) : Prop where
  str : mg "str" = none
  len : mg "len" = none
  int : mg "int" = none
  range : mg "range" = none
theorem len_two : ∀ k < 61, (strI ((2 : Int) ^ k)).length ≤ 19 := by decide +kernel
theorem log_two : ∀ k < 61, ((2 : Int) ^ k).natAbs.log2 < 1920 := by decide +kernel
theorem two_pos (k : Nat) : (0 : Int) < 2 ^ k := Int.pow_pos (by decide)
/-- a number below 2 ^ k -/
def spLBig : Sp := fun vs H Q _ => ∃ (p c : Addr) (k n : Nat), vs = [.ref p, .int (2 ^ k)] ∧ k ≤ 60 ∧ Pen H p c n ∧ n ≤ 900000 ∧ ∀ (r : Int) H', 0 ≤ r → r < 2 ^ k → But p H H' → Pen H' p c (n + 5) → Q (.int r) H'
section
variable {P : Program} {w : World} {K : PySem.W.Frag} {mg : Str → Option Value} {base : Heap} {fD : Addr}
theorem scLBig : FnScope ["_law_pen_here", "_law_many", "_law_found", "_law_k"] ["_law_pen_here", "_law_many"] (defScope sLBig) := ⟨rfl, rfl, rfl, by decide +kernel, rfl, by decide +kernel, by decide +kernel⟩
theorem ok_lbig {f : Addr} {fd dd : FuncData} (F : Fun K "_law_big" "_law_big" sLBig f fd) (B : TxtL mg) (GD : FnOk P w K mg base CX0 1 fD dd ["_law_pen_here", "_law_many"] spDraw) (gD : mg "_law_draw" = some (.ref fD)) (FD : Fun K "_law_draw" "_law_draw" sDraw fD dd) (bD : Binds K dd ["_law_pen_here", "_law_many"] []) : FnOk P w K mg base CX0 2 f fd ["_law_pen_here", "_law_many"] spLBig := by
  refine F.ok scLBig (fun vs H Q E h => ?_) (fun cdv A outer s H vs Q E hr h => ?_)
  · obtain ⟨p, c, k, n, rfl, _⟩ := h
    rfl
  · obtain ⟨p, c, k, n, rfl, hk, pn, hn, hQ⟩ := h
    have nd := scLBig.nd
    refine ⟨_, (pss_cons (ps_set (i := 2) nd rfl (Or.inl rfl) pe_int)
      (pss_cons (ps_for PassesOwn.never rfl (pi_range1 rfl B.range (pa_cons (pe_op op_add (pe_op op_fdiv (pe_callB call_len_str (by rfl) B.len PySem.boot_len (pa_cons (pe_callTy call_str_int (by rfl) B.str (by decide +kernel) (pa_cons (pv 1) pa_nil)) pa_nil)) pe_int) pe_int) pa_nil)) (pg_name (i := 3) nd rfl (Or.inl rfl))
        (pss_one (ps_set (i := 2) nd rfl (Or.inl rfl) (pe_op op_add (pe_op op_mul (pv 2) (pe_op op_pow pe_int pe_int)) (pe_call GD hr (by rfl) gD FD.kp bD .nil pass0 (pa_cons (pv 0) (pa_cons (pe_op op_pow pe_int pe_int) pa_nil)))))))
      (pss_one (ps_ret (pe_op op_mod (pe_callTy call_int1 (by rfl) B.int (by decide +kernel) (pa_cons (pv 2) pa_nil)) (pv 1)))))), ?_⟩
    have hl := len_two k (by omega)
    obtain ⟨L, eL⟩ : ∃ L : Nat, (strI ((2 : Int) ^ k)).length = L := ⟨_, rfl⟩
    rw [eL] at hl
    refine ⟨_, rfl, _, rfl, log_two k (by omega), _, rfl, Nat.le_trans (by rw [show (Str.ofString (toString ((2 : Int) ^ k))).length = L from eL]; omega) kz, _, 6, rfl, rfl, ⟨by decide, by decide⟩, _, 2, rfl, rfl, ?_⟩
    rw [show (Str.ofString (toString ((2 : Int) ^ k))).length = L from eL]
    refine ⟨_, rfl, by omega, by omega, ?_⟩
    refine for_range (n := ((L : Int) / 6 + 2).toNat) (fun m σ H3 => ∃ (fo : Int) (v3 : Option V), σ = [some (.ref p), some (.int (2 ^ k)), some (.int fo), v3] ∧ But p H H3 ∧ Pen H3 p c (n + m)) ⟨0, none, rfl, But.same (fun _ _ e => e), pn⟩ ?_ ?_
    · rintro i σ H3 hi ⟨fo, v3, rfl, b3, p3⟩
      refine ⟨_, rfl, 10, 6, rfl, rfl, ⟨by decide, by decide, by decide⟩, fo, _, rfl, rfl, .inr ⟨by decide, by decide⟩, _, rfl, 10, 6, rfl, rfl, ⟨by decide, by decide, by decide⟩, ?_⟩
      refine ⟨p, c, 1000000, n + i, rfl, p3, by omega, by decide, by decide, fun r H4 r0 r1 b4 p4 => ?_⟩
      exact ⟨_, _, rfl, rfl, _, _, rfl, b3.trans b4, p4⟩
    · rintro σ H3 ⟨fo, v3, rfl, b3, p3⟩
      refine ⟨_, rfl, .inl ⟨_, rfl, _, rfl, _, _, rfl, rfl, two_pos k, ?_⟩⟩
      exact hQ _ _ (Int.emod_nonneg _ (Int.ne_of_gt (two_pos k))) (Int.emod_lt_of_pos _ (two_pos k)) b3 (p3.mono (by omega))
end
end Aw

namespace Aw
open PySem PySem.Spec PyProof.Rows L2 NdefX
/-- the greatest size -/
def T30 : Int := 10 ^ 30
theorem T30_eq : T30 = 1000000000000000000000000000000 := by decide
theorem len_big {m : Int} (h0 : 0 < m) (h1 : m ≤ 4 * T30) : (strI m).length ≤ 31 := by
  refine PyProof.Rows.toString_length_le (by omega) (by decide) ?_
  rw [T30_eq] at h1
  exact Int.lt_of_le_of_lt h1 (by decide)
theorem log_big {m : Int} (h0 : 0 < m) (h1 : m ≤ 4 * T30) : m.natAbs.log2 < 1920 := by
  have h2 : m.natAbs < 2 ^ 103 := by
    rw [T30_eq] at h1
    have : (2 : Nat) ^ 103 = 10141204801825835211973625643008 := by decide
    omega
  exact Nat.lt_of_lt_of_le ((Nat.log2_lt (by omega)).mpr h2) (by decide)
theorem two_le {a b : Nat} (h : a ≤ b) : (2 : Int) ^ a ≤ 2 ^ b := by
  have e : ∀ n : Nat, (2 : Int) ^ n = ((2 ^ n : Nat) : Int) := fun n => (Int.natCast_pow 2 n).symm
  rw [e, e]
  exact Int.ofNat_le.mpr (Nat.pow_le_pow_right (by decide) h)
/-- a number below any one -/
def spLBigN : Sp := fun vs H Q _ => ∃ (p c : Addr) (m : Int) (n : Nat), vs = [.ref p, .int m] ∧ 0 < m ∧ m ≤ 4 * T30 ∧ Pen H p c n ∧ n ≤ 900000 ∧ ∀ (r : Int) H', 0 ≤ r → r < m → But p H H' → Pen H' p c (n + 8) → Q (.int r) H'
def spLSize : Sp := fun vs H Q _ => ∃ (p c : Addr) (n : Nat), vs = [.ref p] ∧ Pen H p c n ∧ n ≤ 800000 ∧ ∀ (k : Int) H', 1 ≤ k → k ≤ T30 → But p H H' → Pen H' p c (n + 10) → Q (.int k) H'
def spLPlace : Sp := fun vs H Q _ => ∃ (p c : Addr) (k : Int) (n : Nat), vs = [.ref p, .int k] ∧ 1 ≤ k ∧ k ≤ T30 ∧ Pen H p c n ∧ n ≤ 800000 ∧ ∀ (j : Int) H', 0 ≤ j → j < k → But p H H' → Pen H' p c (n + 10) → Q (.int j) H'
section
variable {P : Program} {w : World} {K : PySem.W.Frag} {mg : Str → Option Value} {base : Heap} {fD fB : Addr}
theorem ok_lbigN {f : Addr} {fd dd : FuncData} (F : Fun K "_law_big" "_law_big" sLBig f fd) (B : TxtL mg) (GD : FnOk P w K mg base CX0 1 fD dd ["_law_pen_here", "_law_many"] spDraw) (gD : mg "_law_draw" = some (.ref fD)) (FD : Fun K "_law_draw" "_law_draw" sDraw fD dd) (bD : Binds K dd ["_law_pen_here", "_law_many"] []) : FnOk P w K mg base CX0 2 f fd ["_law_pen_here", "_law_many"] spLBigN := by
  refine F.ok scLBig (fun vs H Q E h => ?_) (fun cdv A outer s H vs Q E hr h => ?_)
  · obtain ⟨p, c, m, n, rfl, _⟩ := h
    rfl
  · obtain ⟨p, c, mm, n, rfl, h0, h1, pn, hn, hQ⟩ := h
    have nd := scLBig.nd
    refine ⟨_, (pss_cons (ps_set (i := 2) nd rfl (Or.inl rfl) pe_int)
      (pss_cons (ps_for PassesOwn.never rfl (pi_range1 rfl B.range (pa_cons (pe_op op_add (pe_op op_fdiv (pe_callB call_len_str (by rfl) B.len PySem.boot_len (pa_cons (pe_callTy call_str_int (by rfl) B.str (by decide +kernel) (pa_cons (pv 1) pa_nil)) pa_nil)) pe_int) pe_int) pa_nil)) (pg_name (i := 3) nd rfl (Or.inl rfl))
        (pss_one (ps_set (i := 2) nd rfl (Or.inl rfl) (pe_op op_add (pe_op op_mul (pv 2) (pe_op op_pow pe_int pe_int)) (pe_call GD hr (by rfl) gD FD.kp bD .nil pass0 (pa_cons (pv 0) (pa_cons (pe_op op_pow pe_int pe_int) pa_nil)))))))
      (pss_one (ps_ret (pe_op op_mod (pe_callTy call_int1 (by rfl) B.int (by decide +kernel) (pa_cons (pv 2) pa_nil)) (pv 1)))))), ?_⟩
    have hl := len_big h0 h1
    obtain ⟨L, eL⟩ : ∃ L : Nat, (strI mm).length = L := ⟨_, rfl⟩
    rw [eL] at hl
    refine ⟨_, rfl, _, rfl, log_big h0 h1, _, rfl, Nat.le_trans (by rw [show (Str.ofString (toString mm)).length = L from eL]; omega) kz, _, 6, rfl, rfl, ⟨by decide, by decide⟩, _, 2, rfl, rfl, ?_⟩
    rw [show (Str.ofString (toString mm)).length = L from eL]
    refine ⟨_, rfl, by omega, by omega, ?_⟩
    refine for_range (n := ((L : Int) / 6 + 2).toNat) (fun m σ H3 => ∃ (fo : Int) (v3 : Option V), σ = [some (.ref p), some (.int mm), some (.int fo), v3] ∧ But p H H3 ∧ Pen H3 p c (n + m)) ⟨0, none, rfl, But.same (fun _ _ e => e), pn⟩ ?_ ?_
    · rintro i σ H3 hi ⟨fo, v3, rfl, b3, p3⟩
      refine ⟨_, rfl, 10, 6, rfl, rfl, ⟨by decide, by decide, by decide⟩, fo, _, rfl, rfl, .inr ⟨by decide, by decide⟩, _, rfl, 10, 6, rfl, rfl, ⟨by decide, by decide, by decide⟩, ?_⟩
      refine ⟨p, c, 1000000, n + i, rfl, p3, by omega, by decide, by decide, fun r H4 r0 r1 b4 p4 => ?_⟩
      exact ⟨_, _, rfl, rfl, _, _, rfl, b3.trans b4, p4⟩
    · rintro σ H3 ⟨fo, v3, rfl, b3, p3⟩
      refine ⟨_, rfl, .inl ⟨_, rfl, _, rfl, _, _, rfl, rfl, h0, ?_⟩⟩
      exact hQ _ _ (Int.emod_nonneg _ (Int.ne_of_gt h0)) (Int.emod_lt_of_pos _ h0) b3 (p3.mono (by omega))
structure TxtN (P : Program) (w : World) (K : PySem.W.Frag) (mg : Str → Option Value) (base : Heap) (fD fB : Addr) (dd bd : FuncData) : Prop where
  GD : FnOk P w K mg base CX0 1 fD dd ["_law_pen_here", "_law_many"] spDraw
  gD : mg "_law_draw" = some (.ref fD)
  FD : Fun K "_law_draw" "_law_draw" sDraw fD dd
  bD : Binds K dd ["_law_pen_here", "_law_many"] []
  GB : FnOk P w K mg base CX0 2 fB bd ["_law_pen_here", "_law_many"] spLBigN
  gB : mg "_law_big" = some (.ref fB)
  FB : Fun K "_law_big" "_law_big" sLBig fB bd
  bB : Binds K bd ["_law_pen_here", "_law_many"] []
  max : mg "max" = none
  min : mg "min" = none
theorem scLSize : FnScope ["_law_pen_here", "_law_way", "_law_near"] ["_law_pen_here"] (defScope sLSize) := ⟨rfl, rfl, rfl, by decide +kernel, rfl, by decide +kernel, by decide +kernel⟩
theorem scLPlace : FnScope ["_law_pen_here", "_law_k", "_law_way", "_law_near"] ["_law_pen_here", "_law_k"] (defScope sLPlace) := ⟨rfl, rfl, rfl, by decide +kernel, rfl, by decide +kernel, by decide +kernel⟩
theorem ok_lsize {f : Addr} {fd dd bd : FuncData} (F : Fun K "_law_size" "_law_size" sLSize f fd) (N : TxtN P w K mg base fD fB dd bd) : FnOk P w K mg base CX0 3 f fd ["_law_pen_here"] spLSize := by
  refine F.ok scLSize (fun vs H Q E h => ?_) (fun cdv A outer s H vs Q E hr h => ?_)
  · obtain ⟨p, c, n, rfl, _⟩ := h
    rfl
  · obtain ⟨p, c, n, rfl, pn, hn, hQ⟩ := h
    have nd := scLSize.nd
    refine ⟨_, (pss_cons (ps_par (i := 1) (j := 2) rfl nd rfl rfl (by decide) rfl rfl (pa_cons (pe_call N.GD (hr.mono (by decide)) (by rfl) N.gD N.FD.kp N.bD .nil pass0 (pa_cons (pv 0) (pa_cons pe_int pa_nil))) (pa_cons (pe_call N.GD (hr.mono (by decide)) (by rfl) N.gD N.FD.kp N.bD .nil pass0 (pa_cons (pv 0) (pa_cons pe_int pa_nil))) pa_nil)) (by rfl))
      (pss_cons (ps_if (pt_cmpR op_eq (pv 1) pe_int (nomark _))
        (pss_one (ps_ret (pe_op op_add pe_int (pe_call N.GD (hr.mono (by decide)) (by rfl) N.gD N.FD.kp N.bD .nil pass0 (pa_cons (pv 0) (pa_cons pe_int pa_nil)))))) pss_nil)
      (pss_cons (ps_if (pt_cmpR op_eq (pv 1) pe_int (nomark _))
        (pss_one (ps_ret (pe_op op_sub (pe_op op_pow pe_int pe_int) (pv 2)))) pss_nil)
      (pss_cons (ps_if (pt_cmpR op_lt (pv 1) pe_int (nomark _))
        (pss_one (ps_ret (pe_callB (call_max2 rfl) (by rfl) N.max (by decide +kernel) (pa_cons pe_int (pa_cons (pe_op op_add (pe_op op_sub (pe_op op_shl pe_int (pe_op op_add pe_int (pe_call N.GD (hr.mono (by decide)) (by rfl) N.gD N.FD.kp N.bD .nil pass0 (pa_cons (pv 0) (pa_cons pe_int pa_nil))))) pe_int) (pv 2)) pa_nil))))) pss_nil)
      (pss_one (ps_ret (pe_op op_add pe_int (pe_call N.GB (hr.mono (by decide)) (by rfl) N.gB N.FB.kp N.bB .nil pass0 (pa_cons (pv 0) (pa_cons (pe_op op_pow pe_int pe_int) pa_nil)))))))))), ?_⟩
    refine ⟨_, rfl, p, c, 6, n, rfl, pn, by omega, by decide, by decide, fun way H1 w0 w1 b1 p1 => ?_⟩
    refine ⟨_, rfl, p, c, 5, n + 1, rfl, p1, by omega, by decide, by decide, fun near H2 n0 n1 b2 p2 => ?_⟩
    have b12 := b1.trans b2
    refine ⟨_, _, rfl, ?_⟩
    refine ⟨_, rfl, rfl, _, rfl, ?_⟩
    refine ite_int (fun e => ?_) (fun _ => ?_)
    · refine ⟨_, rfl, p, c, 12, n + 2, rfl, p2, by omega, by decide, by decide, fun r H3 r0 r1 b3 p3 => ?_⟩
      exact ⟨1, r, rfl, rfl, hQ _ _ (by omega) (by rw [T30_eq]; omega) (b12.trans b3) (p3.mono (by omega))⟩
    refine ⟨_, rfl, rfl, _, rfl, ?_⟩
    refine ite_int (fun e => ?_) (fun _ => ?_)
    · refine ⟨10, 30, rfl, rfl, ⟨by decide, by decide, by decide⟩, _, rfl, _, near, rfl, rfl, ?_⟩
      have e3 : (10 : Int) ^ (30 : Int).toNat = 1000000000000000000000000000000 := by decide
      refine hQ _ _ ?_ ?_ b12 (p2.mono (by omega))
      · show 1 ≤ (10 : Int) ^ (30 : Int).toNat - near
        rw [e3]; omega
      · show (10 : Int) ^ (30 : Int).toNat - near ≤ T30
        rw [e3, T30_eq]; omega
    refine ⟨_, rfl, way, 4, rfl, rfl, _, rfl, ?_⟩
    refine ite_dec (fun e => ?_) (fun _ => ?_)
    · refine ⟨_, rfl, p, c, 98, n + 2, rfl, p2, by omega, by decide, by decide, fun r H3 r0 r1 b3 p3 => ?_⟩
      refine ⟨1, r, rfl, rfl, 1, 1 + r, rfl, rfl, ⟨by omega, by omega, by decide⟩, _, 2, rfl, rfl, _, rfl, _, near, rfl, rfl, 1, _, rfl, ?_⟩
      have hp : (2 : Int) ^ (1 + r).toNat ≤ 2 ^ 98 := two_le (by omega)
      have hp0 : (0 : Int) < 2 ^ (1 + r).toNat := Int.pow_pos (by decide)
      have e98 : (2 : Int) ^ 98 = 316912650057057350374175801344 := by decide
      refine hQ _ _ ?_ ?_ (b12.trans b3) (p3.mono (by omega))
      · split <;> omega
      · show (if 1 * (2 : Int) ^ (1 + r).toNat - 2 + near > 1 then 1 * (2 : Int) ^ (1 + r).toNat - 2 + near else 1) ≤ T30
        rw [T30_eq]
        split <;> omega
    · refine ⟨_, rfl, 10, 30, rfl, rfl, ⟨by decide, by decide, by decide⟩, p, c, T30, n + 2, rfl, by decide, by have := T30_eq; omega, p2, by omega, fun r H3 r0 r1 b3 p3 => ?_⟩
      exact ⟨1, r, rfl, rfl, hQ _ _ (by omega) (by omega) (b12.trans b3) (p3.mono (by omega))⟩
theorem ok_lplace {f : Addr} {fd dd bd : FuncData} (F : Fun K "_law_place" "_law_place" sLPlace f fd) (N : TxtN P w K mg base fD fB dd bd) : FnOk P w K mg base CX0 3 f fd ["_law_pen_here", "_law_k"] spLPlace := by
  refine F.ok scLPlace (fun vs H Q E h => ?_) (fun cdv A outer s H vs Q E hr h => ?_)
  · obtain ⟨p, c, k, n, rfl, _⟩ := h
    rfl
  · obtain ⟨p, c, k, n, rfl, k1, k2, pn, hn, hQ⟩ := h
    have nd := scLPlace.nd
    refine ⟨_, (pss_cons (ps_par (i := 2) (j := 3) rfl nd rfl rfl (by decide) rfl rfl (pa_cons (pe_call N.GD (hr.mono (by decide)) (by rfl) N.gD N.FD.kp N.bD .nil pass0 (pa_cons (pv 0) (pa_cons pe_int pa_nil))) (pa_cons (pe_call N.GD (hr.mono (by decide)) (by rfl) N.gD N.FD.kp N.bD .nil pass0 (pa_cons (pv 0) (pa_cons pe_int pa_nil))) pa_nil)) (by rfl))
      (pss_cons (ps_if (pt_cmpR op_eq (pv 2) pe_int (nomark _))
        (pss_one (ps_ret (pe_callB (call_min2 rfl) (by rfl) N.min (by decide +kernel) (pa_cons (pv 3) (pa_cons (pe_op op_sub (pv 1) pe_int) pa_nil))))) pss_nil)
      (pss_cons (ps_if (pt_cmpR op_eq (pv 2) pe_int (nomark _))
        (pss_one (ps_ret (pe_callB (call_max2 rfl) (by rfl) N.max (by decide +kernel) (pa_cons pe_int (pa_cons (pe_op op_sub (pe_op op_sub (pv 1) pe_int) (pv 3)) pa_nil))))) pss_nil)
      (pss_cons (ps_if (pt_cmpR op_eq (pv 2) pe_int (nomark _))
        (pss_one (ps_ret (pe_callB (call_max2 rfl) (by rfl) N.max (by decide +kernel) (pa_cons pe_int (pa_cons (pe_callB (call_min2 rfl) (by rfl) N.min (by decide +kernel) (pa_cons (pe_op op_sub (pv 1) pe_int) (pa_cons (pe_op op_add (pe_op op_sub (pe_op op_fdiv (pv 1) pe_int) pe_int) (pv 3)) pa_nil))) pa_nil))))) pss_nil)
      (pss_one (ps_ret (pe_call N.GB (hr.mono (by decide)) (by rfl) N.gB N.FB.kp N.bB .nil pass0 (pa_cons (pv 0) (pa_cons (pv 1) pa_nil))))))))), ?_⟩
    refine ⟨_, rfl, p, c, 6, n, rfl, pn, by omega, by decide, by decide, fun way H1 w0 w1 b1 p1 => ?_⟩
    refine ⟨_, rfl, p, c, 4, n + 1, rfl, p1, by omega, by decide, by decide, fun near H2 n0 n1 b2 p2 => ?_⟩
    have b12 := b1.trans b2
    refine ⟨_, _, rfl, ?_⟩
    refine ⟨_, rfl, rfl, _, rfl, ?_⟩
    refine ite_int (fun e => ?_) (fun _ => ?_)
    · refine ⟨_, rfl, _, rfl, k, 1, rfl, rfl, near, k - 1, rfl, ?_⟩
      refine hQ _ _ ?_ ?_ b12 (p2.mono (by omega)) <;> split <;> omega
    refine ⟨_, rfl, rfl, _, rfl, ?_⟩
    refine ite_int (fun e => ?_) (fun _ => ?_)
    · refine ⟨_, rfl, k, 1, rfl, rfl, _, rfl, _, near, rfl, rfl, 0, _, rfl, ?_⟩
      refine hQ _ _ ?_ ?_ b12 (p2.mono (by omega)) <;> split <;> omega
    refine ⟨_, rfl, rfl, _, rfl, ?_⟩
    refine ite_int (fun e => ?_) (fun _ => ?_)
    · refine ⟨_, rfl, k, 1, rfl, rfl, _, rfl, k, 2, rfl, rfl, ⟨by decide, by decide⟩, _, 2, rfl, rfl, _, rfl, _, near, rfl, rfl, k - 1, _, rfl, 0, _, rfl, ?_⟩
      refine hQ _ _ ?_ ?_ b12 (p2.mono (by omega)) <;> (repeat' split) <;> omega
    · exact ⟨_, rfl, _, rfl, p, c, k, n + 2, rfl, by omega, by have := T30_eq; omega, p2, by omega, fun r H3 r0 r1 b3 p3 => hQ _ _ r0 r1 (b12.trans b3) (p3.mono (by omega))⟩
end
end Aw

namespace Aw
open PySem PySem.Spec PyProof.Rows L2 NdefX
theorem but_lst {H H' : Hp} {a p c : Addr} {n : Nat} {xs : List V} (b : But p H H') (P : Pen H p c n) (h : H a = some (.lst xs)) : H' a = some (.lst xs) := by
  obtain ⟨cells, i, l, e1, _⟩ := P.ex
  exact b _ _ h (ne_of h e1 (fun z => by cases z))
theorem but_tup {H H' : Hp} {a p c : Addr} {n : Nat} {xs : List V} (b : But p H H') (P : Pen H p c n) (h : H a = some (.tup xs)) : H' a = some (.tup xs) := by
  obtain ⟨cells, i, l, e1, _⟩ := P.ex
  exact b _ _ h (ne_of h e1 (fun z => by cases z))
end Aw

namespace Aw
open PySem PySem.Spec PyProof.Rows L2 NdefX
/-! ### f'{n:b}' -/
/-- the digits of n by 2 -/
def binC (n : Nat) : List Nat := (Nat.toDigits 2 n).map Char.toNat
def binT (n : Nat) : Str := ⟨(binC n).toArray⟩
section
open PySem.W PySem.Calls PySem.Builtin Builtin Float
variable {prog : Program} {w : World} {A : Around} {E : Value → Shared → Prop} {s : Shared}
theorem ret_text2 {M : PySem.Model} {X T : Str} {Q : PySem.Fin → Shared → Prop} (e : X = T) (hL : T.length ≤ sizeLine) (h : ∀ t k, Q (.done (.ret (.str T t))) { s with toks := k }) : wpAny M A (retStr X) Q E s := KXf.ret_text e (e ▸ hL) h
theorem parse_b : parseFormatSpec (Str.ofString "b").cps.toList "int" 62 = .ok { fill := 32, align := 62, type := some 98 } := by rfl
theorem field_b {a : Nat} {t : Tok} {Q : Value → Shared → Prop} (hlen : (binT a).length ≤ sizeLine) (h : ∀ t' k, Q (.str (binT a) t') { s with toks := k }) : wpAny (model prog w) A (formatField (.int (a : Nat) t) "b") Q E s := by
  show wpAny _ _ (holding [.int a t] (pyFormat (.int a t) "b")) Q E s
  refine wpAny_holding ?_
  unfold pyFormat
  refine wpAny_bind (wpAny_mkStr ?_ (by show 1 ≤ sizeLine; decide))
  refine wpAny_bind (m := callSpecial? (.int a t) (Str.ofString "__format__") [.str "b" s.toks]) (wpAny_callSpecial?_slot (name := Str.ofString "__format__") (typeIs_int _ a t) F.slot_int_format ?_)
  refine wpAny_call (codeAny_call_builtin F.slot_int_format.plain F.entry_int_format (F.slot_int_format.check _ _ _ _ _ _ _ _ (typeIs_int _ a t) (F.args_int_format_2 _ _) ?_))
  unfold Builtin.«int.__format__»
  simp only [selfAndOne, noKeywords, Int.intOfSelf, asInt?, asStr?, List.isEmpty_nil, if_true, pure_bind, bind_pure, bind_assoc, Bool.false_eq_true, if_false,
    show (Value.str "b" s.toks == Value.none) = false from rfl, show ((Str.ofString "b").length == 0) = false from rfl]
  refine wpAny_bind (wpAny_typeNameOf (T := "str") (typeIs_str _ _ _) (by decide) fun _ => ?_)
  rw [if_neg (by decide)]
  refine wpAny_bind (wpAny_typeNameOfCut_int ?_)
  simp only [parse_b]
  rw [if_pos (by decide)]
  show wpAny _ _ (retStr _) _ _ _
  refine ret_text2 (T := binT a) ?_ ?_ fun t' k => ?_
  · have e : ∀ D : List Nat, D ≠ [] → PyProof.Rows.intField' { align := 62, type := some 98 } false [] D [] 4 = ⟨D.toArray⟩ := fun D hD => by
      unfold PyProof.Rows.intField'
      have h1 : D.isEmpty = false := by cases D with
        | nil => exact absurd rfl hD
        | cons => rfl
      simp [h1]
    have hne : binC a ≠ [] := fun z => by
      have := PyProof.Rows.tDigits_len_ge 2 a
      have z2 := congrArg List.length z
      unfold binC at z2
      rw [List.length_map] at z2
      have z2 : (Nat.toDigits 2 a).length = 0 := z2
      omega
    have hneg : decide ((a : Int) < 0) = false := decide_eq_false (by omega)
    rw [hneg]
    exact e (binC a) hne
  · exact hlen
  · exact wpAny_bind (wpAny_isInstance (typeIs_str _ _ _) isSubtype_str_str (wpAny_pure (h _ _)))
end
section
variable {X : Cx}
def tFmtB (te : TE) : TE := fun σ H Q => te σ H fun x H1 => ∃ i : Nat, x = .int (i : Nat) ∧ (binT i).length ≤ sizeLine ∧ Q (.str (binT i)) H1
theorem pe_fmtB {e spec : Expr} {te : TE} {pos : Pos} (hs : PE X spec (tC (.str "b"))) (he : PE X e te) : PE X (.FormattedValue e (-1) (some spec) pos) (tFmtB te) := by
  refine ⟨fun pins s σ H Q I h => ?_⟩
  refine wpAny_FormattedValue_spec (thn (he.run pins s σ H _ I h) fun v s1 hv => ?_)
  obtain ⟨x, H1, I1, r1, i, rfl, hz, q⟩ := hv
  obtain ⟨t, rfl⟩ := r1
  refine thn (hs.run pins s1 σ H1 (fun x H2 => x = .str "b" ∧ Q (.str (binT i)) H2) I1 ⟨rfl, q⟩) fun r s2 hv2 => ?_
  obtain ⟨x2, H2, I2, r2, rfl, q2⟩ := hv2
  obtain ⟨t2, rfl⟩ := r2
  exact ⟨_, _, rfl, field_b hz fun t' k => ⟨.str (binT i), H2, I2.tok _, ⟨_, rfl⟩, q2⟩⟩
end
end Aw

namespace Aw
open PySem PySem.Spec PyProof.Rows L2 NdefX
/-! ### pieces: ends and masks -/
abbrev Pcs := List (Int × Nat)
/-- the mask of the piece in which j is -/
def maskAt : Pcs → Int → Nat
  | [], _ => 0
  | (e, m) :: r, j => if j < e then m else maskAt r j
def markF (P : Pcs) (w : Nat) (j : Int) : Bool := (maskAt P j).testBit (j % (w : Int)).toNat
theorem maskAt_app {P Q : Pcs} {j : Int} : maskAt (P ++ Q) j = if ∃ x ∈ P, j < x.1 then maskAt P j else maskAt Q j := by
  induction P with
  | nil => rw [List.nil_append, if_neg (by simp)]
  | cons x P ih =>
    obtain ⟨e, m⟩ := x
    show (if j < e then m else maskAt (P ++ Q) j) = _
    by_cases h : j < e
    · rw [if_pos h, if_pos ⟨(e, m), List.mem_cons_self, h⟩]
      show m = if j < e then m else maskAt P j
      rw [if_pos h]
    · rw [if_neg h, ih]
      by_cases h2 : ∃ x ∈ P, j < x.1
      · obtain ⟨x, hx, hj⟩ := h2
        rw [if_pos ⟨x, hx, hj⟩, if_pos ⟨x, List.mem_cons_of_mem _ hx, hj⟩]
        show _ = if j < e then m else maskAt P j
        rw [if_neg h]
      · rw [if_neg h2, if_neg]
        rintro ⟨x, hx, hj⟩
        rcases List.mem_cons.mp hx with rfl | hx
        · exact h hj
        · exact h2 ⟨x, hx, hj⟩
/-- strictly ascending ends, the last one is s -/
def Asc : Int → Pcs → Int → Prop
  | a, [], s => a = s
  | a, (e, _) :: r, s => a < e ∧ Asc e r s
theorem Asc.le : ∀ {a s : Int} {P : Pcs}, Asc a P s → a ≤ s
  | _, _, [], h => Int.le_of_eq h
  | _, _, (_, _) :: _, h => Int.le_trans (Int.le_of_lt h.1) h.2.le
theorem Asc.mem_le : ∀ {a s : Int} {P : Pcs}, Asc a P s → ∀ x ∈ P, a < x.1 ∧ x.1 ≤ s
  | _, _, [], _ => fun _ h => absurd h List.not_mem_nil
  | a, s, (e, m) :: r, h => fun x hx => by
    rcases List.mem_cons.mp hx with rfl | hx
    · exact ⟨h.1, h.2.le⟩
    · obtain ⟨h1, h2⟩ := h.2.mem_le x hx
      exact ⟨Int.lt_trans h.1 h1, h2⟩
theorem Asc.app : ∀ {a b s : Int} {P Q : Pcs}, Asc a P b → Asc b Q s → Asc a (P ++ Q) s
  | _, _, _, [], _, h, k => by cases (show _ = _ from h); exact k
  | _, _, _, (_, _) :: _, _, h, k => ⟨h.1, h.2.app k⟩
theorem Asc.cover : ∀ {a s : Int} {P : Pcs}, Asc a P s → ∀ j, a ≤ j → j < s → ∃ x ∈ P, j < x.1
  | a, s, [], h, j, h0, h1 => by have : a = s := h; omega
  | a, s, (e, m) :: r, h, j, h0, h1 => by
    by_cases z : j < e
    · exact ⟨(e, m), List.mem_cons_self, z⟩
    · obtain ⟨x, hx, hj⟩ := h.2.cover j (by omega) h1
      exact ⟨x, List.mem_cons_of_mem _ hx, hj⟩
theorem Asc.snoc {a b s : Int} {P : Pcs} {m : Nat} (h : Asc a P b) (h2 : b < s) : Asc a (P ++ [(s, m)]) s := h.app ⟨h2, rfl⟩
theorem Asc.drop_last : ∀ {a s : Int} {P : Pcs} {x : Int × Nat}, Asc a (P ++ [x]) s → ∃ b, Asc a P b ∧ b < s ∧ x.1 = s
  | a, s, [], (e, m), h => by
    have h : a < e ∧ e = s := h
    exact ⟨a, rfl, by omega, h.2⟩
  | a, s, (e, m) :: P, x, h => by
    obtain ⟨b, h1, h2, h3⟩ := Asc.drop_last (P := P) h.2
    exact ⟨b, ⟨h.1, h1⟩, h2, h3⟩
/-! #### tidied -/
/-- what is found so far, with the piece (e, m) behind it -/
def tidyS (F : Pcs) (x : Int × Nat) : Pcs := (match F.getLast? with
  | some l => if l.2 = x.2 then F.dropLast else F
  | none => F) ++ [x]
/-- one turn: found, start -/
def tidyT (st : Pcs × Int) (x : Int × Nat) : Pcs × Int := if st.2 < x.1 then (tidyS st.1 x, x.1) else st
def tidyF (P : Pcs) : Pcs := (P.foldl tidyT ([], 0)).1
structure TidyI (P : Pcs) (st : Pcs × Int) : Prop where
  asc : Asc 0 st.1 st.2
  ends : ∀ x ∈ P, x.1 ≤ st.2
  same : ∀ j, 0 ≤ j → j < st.2 → maskAt st.1 j = maskAt P j
  has : ∀ j, 0 ≤ j → j < st.2 → ∃ x ∈ P, j < x.1
  masks : ∀ y ∈ st.1, ∃ x ∈ P, x.2 = y.2
  len : st.1.length ≤ P.length
theorem tidyS_asc {F : Pcs} {b s : Int} {m : Nat} (h : Asc 0 F b) (h2 : b < s) : Asc 0 (tidyS F (s, m)) s := by
  unfold tidyS
  split
  · rename_i l hl
    split
    · have e : F = F.dropLast ++ [l] := by
        obtain ⟨ys, e⟩ := List.getLast?_eq_some_iff.mp hl
        rw [e, List.dropLast_concat]
      rw [e] at h
      obtain ⟨c, h3, h4, _⟩ := h.drop_last
      exact h3.snoc (by omega)
    · exact h.snoc h2
  · exact h.snoc h2
theorem tidyS_at {F : Pcs} {b s : Int} {m : Nat} (h : Asc 0 F b) (h2 : b < s) {j : Int} (j0 : 0 ≤ j) : maskAt (tidyS F (s, m)) j = if j < b then maskAt F j else if j < s then m else 0 := by
  have last : ∀ G : Pcs, ∀ c, Asc 0 G c → c ≤ s → maskAt (G ++ [(s, m)]) j = if j < c then maskAt G j else if j < s then m else 0 := fun G c hG hc => by
    rw [maskAt_app]
    by_cases z : j < c
    · rw [if_pos z, if_pos (hG.cover j j0 z)]
    · rw [if_neg z, if_neg]
      · rfl
      · rintro ⟨x, hx, hj⟩
        have := (hG.mem_le x hx).2
        omega
  unfold tidyS
  split
  · rename_i l hl
    split
    · rename_i hlm
      have e : F = F.dropLast ++ [l] := by
        obtain ⟨ys, e⟩ := List.getLast?_eq_some_iff.mp hl
        rw [e, List.dropLast_concat]
      rw [e] at h
      obtain ⟨c, h3, h4, h5⟩ := h.drop_last
      rw [last _ c h3 (by omega)]
      have eF : maskAt F j = if j < c then maskAt F.dropLast j else if j < b then l.2 else 0 := by
        conv => lhs; rw [e]
        rw [maskAt_app]
        by_cases z : j < c
        · rw [if_pos z, if_pos (h3.cover j j0 z)]
        · rw [if_neg z, if_neg]
          · show (if j < l.1 then l.2 else 0) = _
            rw [h5]
          · rintro ⟨x, hx, hj⟩
            have := (h3.mem_le x hx).2
            omega
      rw [eF]
      by_cases z : j < c
      · rw [if_pos z, if_pos (show j < b by omega), if_pos z]
      · rw [if_neg z]
        by_cases z2 : j < b
        · rw [if_pos z2, if_neg z, if_pos z2, if_pos (show j < s by omega), hlm]
        · rw [if_neg z2]
    · exact last F b h (by omega)
  · exact last F b h (by omega)
theorem tidyS_masks {F : Pcs} {x : Int × Nat} : ∀ y ∈ tidyS F x, y ∈ F ∨ y = x := fun y hy => by
  unfold tidyS at hy
  rcases List.mem_append.mp hy with h | h
  · split at h
    · split at h
      · exact .inl (List.dropLast_subset _ h)
      · exact .inl h
    · exact .inl h
  · exact .inr (List.mem_singleton.mp h)
theorem tidyS_len {F : Pcs} {x : Int × Nat} : (tidyS F x).length ≤ F.length + 1 := by
  unfold tidyS
  rw [List.length_append]
  have : (match F.getLast? with | some l => if l.2 = x.2 then F.dropLast else F | none => F).length ≤ F.length := by
    split
    · split
      · rw [List.length_dropLast]; omega
      · exact Nat.le_refl _
    · exact Nat.le_refl _
  exact Nat.add_le_add_right this 1
theorem TidyI.next {P : Pcs} {st : Pcs × Int} {x : Int × Nat} (h : TidyI P st) : TidyI (P ++ [x]) (tidyT st x) := by
  obtain ⟨F, b⟩ := st
  obtain ⟨e, m⟩ := x
  have b0 : 0 ≤ b := h.asc.le
  unfold tidyT
  dsimp only
  by_cases z : b < e
  · rw [if_pos z]
    refine ⟨tidyS_asc h.asc z, fun x hx => ?_, fun j j0 j1 => ?_, fun j j0 j1 => ⟨(e, m), List.mem_append_right _ (List.mem_singleton.mpr rfl), j1⟩, fun y hy => ?_, ?_⟩
    · rcases List.mem_append.mp hx with hx | hx
      · have := h.ends x hx
        have : x.1 ≤ b := this
        show x.1 ≤ e
        omega
      · rw [List.mem_singleton.mp hx]
        exact Int.le_refl _
    · have j1 : j < e := j1
      rw [tidyS_at h.asc z j0, maskAt_app]
      by_cases q : j < b
      · rw [if_pos q, if_pos (h.has j j0 q)]
        exact h.same j j0 q
      · rw [if_neg q, if_pos j1, if_neg]
        · show m = if j < e then m else 0
          rw [if_pos j1]
        · rintro ⟨x, hx, hj⟩
          have : x.1 ≤ b := h.ends x hx
          omega
    · rcases tidyS_masks y hy with hy | rfl
      · obtain ⟨x, hx, e⟩ := h.masks y hy
        exact ⟨x, List.mem_append_left _ hx, e⟩
      · exact ⟨(e, m), List.mem_append_right _ (List.mem_singleton.mpr rfl), rfl⟩
    · have h1 := tidyS_len (F := F) (x := (e, m))
      have h2 : F.length ≤ P.length := h.len
      rw [List.length_append]
      show (tidyS F (e, m)).length ≤ P.length + 1
      omega
  · rw [if_neg z]
    refine ⟨h.asc, fun x hx => ?_, fun j j0 j1 => ?_, fun j j0 j1 => ?_, fun y hy => ?_, ?_⟩
    · rcases List.mem_append.mp hx with hx | hx
      · exact h.ends x hx
      · rw [List.mem_singleton.mp hx]
        show e ≤ b
        omega
    · rw [maskAt_app, if_pos (h.has j j0 j1)]
      exact h.same j j0 j1
    · obtain ⟨x, hx, hj⟩ := h.has j j0 j1
      exact ⟨x, List.mem_append_left _ hx, hj⟩
    · obtain ⟨x, hx, e⟩ := h.masks y hy
      exact ⟨x, List.mem_append_left _ hx, e⟩
    · have h2 : F.length ≤ P.length := h.len
      rw [List.length_append]
      show F.length ≤ P.length + 1
      omega
theorem tidyI (P : Pcs) : TidyI P (P.foldl tidyT ([], 0)) := by
  have go : ∀ (Q P : Pcs) (st : Pcs × Int), TidyI P st → TidyI (P ++ Q) (Q.foldl tidyT st) := by
    intro Q
    induction Q with
    | nil => intro P st h; rw [List.append_nil]; exact h
    | cons x Q ih =>
      intro P st h
      have := ih (P ++ [x]) (tidyT st x) h.next
      rw [List.append_assoc] at this
      exact this
  exact go P [] ([], 0) ⟨rfl, fun _ h => absurd h List.not_mem_nil, fun j h0 h1 => absurd h1 (by show ¬ j < 0; omega), fun j h0 h1 => absurd h1 (by show ¬ j < 0; omega), fun _ h => absurd h List.not_mem_nil, Nat.le_refl _⟩
/-- pieces of a size: ascending, up to the size -/
structure GoodP (P : Pcs) (s : Int) : Prop where
  asc : Asc 0 P s
theorem tidy_good {P : Pcs} {s : Int} (h1 : ∀ x ∈ P, x.1 ≤ s) (h2 : ∃ x ∈ P, x.1 = s) (s0 : 0 < s) : Asc 0 (tidyF P) s ∧ ∀ j, 0 ≤ j → j < s → maskAt (tidyF P) j = maskAt P j := by
  have t := tidyI P
  have e : (P.foldl tidyT ([], 0)).2 = s := by
    obtain ⟨x, hx, e⟩ := h2
    have a : s ≤ (P.foldl tidyT ([], 0)).2 := by rw [← e]; exact t.ends x hx
    by_cases z : (P.foldl tidyT ([], 0)).2 = s
    · exact z
    · obtain ⟨y, hy, q⟩ := t.has s (by omega) (by omega)
      have := h1 y hy
      omega
  have ta := t.asc
  have ts := t.same
  rw [e] at ta ts
  exact ⟨ta, ts⟩
/-! #### merged -/
abbrev Trip := List (Int × Nat × Nat)
/-- the rows of other ahead of e, and those behind -/
def mergeF : Pcs → Pcs → Trip
  | [], _ => []
  | (e, m) :: r, o => ((o.takeWhile fun x => decide (x.1 < e)).map fun x => (x.1, m, x.2)) ++ (e, m, ((o.dropWhile fun x => decide (x.1 < e)).headD (0, 0)).2) :: mergeF r (o.dropWhile fun x => decide (x.1 < e))
def tripAt : Trip → Int → Nat × Nat
  | [], _ => (0, 0)
  | (e, m, n) :: r, j => if j < e then (m, n) else tripAt r j
/-- ends that do not descend, up to s at the end -/
def Ups : Pcs → Int → Prop
  | [], _ => False
  | [(e, _)], s => e = s
  | (e, _) :: (f, n) :: r, s => e ≤ f ∧ Ups ((f, n) :: r) s
theorem Ups.le : ∀ {P : Pcs} {s : Int}, Ups P s → ∀ x ∈ P, x.1 ≤ s
  | [], _, h => h.elim
  | [(e, m)], s, h => fun x hx => by rw [List.mem_singleton.mp hx]; exact Int.le_of_eq h
  | (e, m) :: (f, n) :: r, s, h => fun x hx => by
    have ih := Ups.le (P := (f, n) :: r) h.2
    rcases List.mem_cons.mp hx with rfl | hx
    · exact Int.le_trans h.1 (ih (f, n) List.mem_cons_self)
    · exact ih x hx
theorem Ups.of_asc : ∀ {P : Pcs} {a s : Int}, Asc a P s → P ≠ [] → Ups P s
  | [], _, _, _, h => absurd rfl h
  | [(e, m)], a, s, h, _ => h.2
  | (e, m) :: (f, n) :: r, a, s, h, _ => ⟨Int.le_of_lt h.2.1, Ups.of_asc (P := (f, n) :: r) h.2 (by simp)⟩
/-- what is left of other at e -/
theorem Ups.drop : ∀ {P : Pcs} {s e : Int}, Ups P s → e ≤ s → Ups (P.dropWhile fun x => decide (x.1 < e)) s ∧ ∀ x ∈ P.dropWhile (fun x => decide (x.1 < e)), e ≤ x.1
  | [], _, _, h, _ => h.elim
  | [(f, m)], s, e, h, he => by
    have h : f = s := h
    have z : decide (f < e) = false := decide_eq_false (by omega)
    rw [List.dropWhile_cons, z]
    exact ⟨h, fun x hx => by rw [List.mem_singleton.mp hx]; show e ≤ f; omega⟩
  | (f, m) :: (g, n) :: r, s, e, h, he => by
    rw [List.dropWhile_cons]
    by_cases z : f < e
    · rw [decide_eq_true z]
      exact Ups.drop (P := (g, n) :: r) h.2 he
    · rw [decide_eq_false z]
      refine ⟨h, ?_⟩
      have up : ∀ (Q : Pcs) (c : Int), Ups Q s → (∀ q, Q.head? = some q → c ≤ q.1) → ∀ x ∈ Q, c ≤ x.1 := by
        intro Q
        induction Q with
        | nil => intro c hq; exact hq.elim
        | cons q Q ih =>
          intro c hq hc x hx
          have c1 : c ≤ q.1 := hc q rfl
          rcases List.mem_cons.mp hx with rfl | hx
          · exact c1
          · cases Q with
            | nil => exact absurd hx List.not_mem_nil
            | cons q2 Q2 =>
              have hq : q.1 ≤ q2.1 ∧ Ups (q2 :: Q2) s := hq
              exact ih c hq.2 (fun y hy => by cases hy; exact Int.le_trans c1 hq.1) x hx
      exact up _ e h fun q hq => by cases hq; show e ≤ f; omega
theorem tripAt_app {S T : Trip} {j : Int} : tripAt (S ++ T) j = if ∃ x ∈ S, j < x.1 then tripAt S j else tripAt T j := by
  induction S with
  | nil => rw [List.nil_append, if_neg (by simp)]
  | cons x S ih =>
    obtain ⟨e, m, n⟩ := x
    show (if j < e then (m, n) else tripAt (S ++ T) j) = _
    by_cases h : j < e
    · rw [if_pos h, if_pos ⟨(e, m, n), List.mem_cons_self, h⟩]
      show (m, n) = if j < e then (m, n) else tripAt S j
      rw [if_pos h]
    · rw [if_neg h, ih]
      by_cases h2 : ∃ x ∈ S, j < x.1
      · obtain ⟨x, hx, hj⟩ := h2
        rw [if_pos ⟨x, hx, hj⟩, if_pos ⟨x, List.mem_cons_of_mem _ hx, hj⟩]
        show _ = if j < e then (m, n) else tripAt S j
        rw [if_neg h]
      · rw [if_neg h2, if_neg]
        rintro ⟨x, hx, hj⟩
        rcases List.mem_cons.mp hx with rfl | hx
        · exact h hj
        · exact h2 ⟨x, hx, hj⟩
theorem tripAt_map {o : Pcs} {m : Nat} {j : Int} (h : ∃ x ∈ o, j < x.1) : tripAt (o.map fun x => (x.1, m, x.2)) j = (m, maskAt o j) := by
  induction o with
  | nil => obtain ⟨x, hx, _⟩ := h; exact absurd hx List.not_mem_nil
  | cons x o ih =>
    obtain ⟨e, n⟩ := x
    show (if j < e then (m, n) else tripAt (o.map fun x => (x.1, m, x.2)) j) = (m, if j < e then n else maskAt o j)
    by_cases z : j < e
    · rw [if_pos z, if_pos z]
    · rw [if_neg z, if_neg z]
      refine ih ?_
      obtain ⟨x, hx, hj⟩ := h
      rcases List.mem_cons.mp hx with rfl | hx
      · exact absurd hj z
      · exact ⟨x, hx, hj⟩
/-- both masks of a place stand in the row of it -/
theorem merge_at : ∀ {P o : Pcs} {a s : Int}, Asc a P s → (P = [] ∨ Ups o s) → ∀ j, a ≤ j → j < s → (∀ x ∈ o, a ≤ x.1) → tripAt (mergeF P o) j = (maskAt P j, maskAt o j)
  | [], o, a, s, h, _, j, h0, h1, _ => by have : a = s := h; omega
  | (e, m) :: r, o, a, s, h, ho, j, h0, h1, ha => by
    have up : Ups o s := ho.resolve_left (by simp)
    have es : e ≤ s := h.2.le
    obtain ⟨d1, d2⟩ := up.drop es
    have split : o = (o.takeWhile fun x => decide (x.1 < e)) ++ o.dropWhile fun x => decide (x.1 < e) := (List.takeWhile_append_dropWhile).symm
    have tk : ∀ x ∈ o.takeWhile (fun x => decide (x.1 < e)), x.1 < e := fun x hx => of_decide_eq_true (List.all_eq_true.mp (List.all_takeWhile (p := fun x : Int × Nat => decide (x.1 < e))) x hx)
    show tripAt (((o.takeWhile fun x => decide (x.1 < e)).map fun x => (x.1, m, x.2)) ++ (e, m, ((o.dropWhile fun x => decide (x.1 < e)).headD (0, 0)).2) :: mergeF r (o.dropWhile fun x => decide (x.1 < e))) j = (if j < e then m else maskAt r j, maskAt o j)
    have om : maskAt o j = if ∃ x ∈ o.takeWhile (fun x : Int × Nat => decide (x.1 < e)), j < x.1 then maskAt (o.takeWhile fun x => decide (x.1 < e)) j else maskAt (o.dropWhile fun x => decide (x.1 < e)) j := by
      conv => lhs; rw [split]
      exact maskAt_app
    rw [tripAt_app, om]
    by_cases q : ∃ x ∈ o.takeWhile (fun x => decide (x.1 < e)), j < x.1
    · have q2 : ∃ x ∈ ((o.takeWhile fun x => decide (x.1 < e)).map fun x => (x.1, m, x.2)), j < x.1 := by
        obtain ⟨x, hx, hj⟩ := q
        exact ⟨_, List.mem_map.mpr ⟨x, hx, rfl⟩, hj⟩
      rw [if_pos q2, if_pos q, tripAt_map q]
      obtain ⟨x, hx, hj⟩ := q
      have := tk x hx
      rw [if_pos (show j < e by omega)]
    · have q2 : ¬ ∃ x ∈ ((o.takeWhile fun x => decide (x.1 < e)).map fun x => (x.1, m, x.2)), j < x.1 := by
        rintro ⟨y, hy, hj⟩
        obtain ⟨x, hx, rfl⟩ := List.mem_map.mp hy
        exact q ⟨x, hx, hj⟩
      rw [if_neg q2, if_neg q]
      show (if j < e then (m, ((o.dropWhile fun x => decide (x.1 < e)).headD (0, 0)).2) else tripAt (mergeF r (o.dropWhile fun x => decide (x.1 < e))) j) = _
      by_cases z : j < e
      · rw [if_pos z, if_pos z]
        cases hd : o.dropWhile fun x => decide (x.1 < e) with
        | nil => rw [hd] at d1; exact d1.elim
        | cons x y =>
          have : e ≤ x.1 := d2 x (by rw [hd]; exact List.mem_cons_self)
          show (m, x.2) = (m, if j < x.1 then x.2 else maskAt y j)
          rw [if_pos (show j < x.1 by omega)]
      · rw [if_neg z, if_neg z]
        exact merge_at h.2 (.inr d1) j (by omega) h1 d2
theorem merge_ends : ∀ {P o : Pcs} {s : Int}, (∀ x ∈ P, x.1 ≤ s) → (∀ x ∈ o, x.1 ≤ s) → ∀ y ∈ mergeF P o, y.1 ≤ s
  | [], _, _, _, _ => fun y hy => absurd hy List.not_mem_nil
  | (e, m) :: r, o, s, h, ho => fun y hy => by
    rcases List.mem_append.mp hy with hy | hy
    · obtain ⟨x, hx, rfl⟩ := List.mem_map.mp hy
      exact ho x (List.takeWhile_subset _ hx)
    · rcases List.mem_cons.mp hy with rfl | hy
      · exact h (e, m) List.mem_cons_self
      · exact merge_ends (fun x hx => h x (List.mem_cons_of_mem _ hx)) (fun x hx => ho x (List.dropWhile_subset _ hx)) y hy
theorem merge_last : ∀ {P o : Pcs} {x : Int × Nat}, x ∈ P → ∃ y ∈ mergeF P o, y.1 = x.1
  | [], _, _, h => absurd h List.not_mem_nil
  | (e, m) :: r, o, x, h => by
    rcases List.mem_cons.mp h with rfl | h
    · exact ⟨_, List.mem_append_right _ List.mem_cons_self, rfl⟩
    · obtain ⟨y, hy, e2⟩ := merge_last (o := o.dropWhile fun x => decide (x.1 < e)) h
      exact ⟨y, List.mem_append_right _ (List.mem_cons_of_mem _ hy), e2⟩
theorem merge_len : ∀ {P o : Pcs}, (mergeF P o).length ≤ P.length + o.length
  | [], _ => Nat.zero_le _
  | (e, m) :: r, o => by
    have ih := merge_len (P := r) (o := o.dropWhile fun x => decide (x.1 < e))
    have sp : o.length = (o.takeWhile fun x => decide (x.1 < e)).length + (o.dropWhile fun x => decide (x.1 < e)).length := by
      rw [← List.length_append, List.takeWhile_append_dropWhile]
    show (((o.takeWhile fun x => decide (x.1 < e)).map fun x => (x.1, m, x.2)) ++ (e, m, ((o.dropWhile fun x => decide (x.1 < e)).headD (0, 0)).2) :: mergeF r (o.dropWhile fun x => decide (x.1 < e))).length ≤ _
    rw [List.length_append, List.length_map, List.length_cons, List.length_cons]
    omega
end Aw

namespace Aw
open PySem PySem.Spec PyProof.Rows L2 NdefX
/-! ### masks of classes, runs, pieces of runs -/
/-- the sum of the powers at a, a + c, .. (n of them) -/
def clsS (a c : Nat) : Nat → Nat
  | 0 => 0
  | n + 1 => clsS a c n + 2 ^ (a + n * c)
/-- how many places a, a + c, .. are below 12 -/
def clsN (a c : Nat) : Nat := (12 - a + c - 1) / c
def clsM (a c : Nat) : Nat := clsS a c (clsN a c)
theorem cls_all : ∀ c, c < 5 → ∀ a, a < c → clsM a c < 2 ^ 12 ∧ ∀ i, i < 12 → (clsM a c).testBit i = decide (i % c = a) := by decide +kernel
/-- j is in the run -/
def inRun (r : Int × Int × Int) (j : Int) : Bool := decide (r.1 ≤ j) && (decide (j ≤ r.2.1) && decide ((j - r.1) % r.2.2 = 0))
/-- a run of a size -/
structure RunOk (r : Int × Int × Int) (s : Int) : Prop where
  f0 : 0 ≤ r.1
  fl : r.1 ≤ r.2.1
  ls : r.2.1 < s
  c1 : 1 ≤ r.2.2
  c4 : r.2.2 ≤ 4
def runM (r : Int × Int × Int) : Nat := clsM (r.1 % r.2.2).toNat r.2.2.toNat
/-- the pieces of one run -/
def runP (s : Int) (r : Int × Int × Int) : Pcs := [(r.1, 0), (r.2.1 + 1, runM r), (s, 0)]
theorem runM_lt {r : Int × Int × Int} {s : Int} (h : RunOk r s) : runM r < 2 ^ 12 := by
  obtain ⟨f, l, c⟩ := r
  obtain ⟨h0, h1, h2, h3, h4⟩ := h
  dsimp only at h0 h1 h2 h3 h4
  have a1 := Int.emod_nonneg f (show c ≠ 0 by omega)
  have a2 := Int.emod_lt_of_pos f (show 0 < c by omega)
  exact (cls_all c.toNat (by omega) (f % c).toNat (by omega)).1
theorem run_mark {r : Int × Int × Int} {s : Int} (h : RunOk r s) {j : Int} (j0 : 0 ≤ j) (j1 : j < s) : markF (runP s r) 12 j = inRun r j := by
  have rm := h
  obtain ⟨f, l, c⟩ := r
  obtain ⟨h0, h1, h2, h3, h4⟩ := h
  dsimp only at h0 h1 h2 h3 h4
  have a1 := Int.emod_nonneg f (show c ≠ 0 by omega)
  have a2 := Int.emod_lt_of_pos f (show 0 < c by omega)
  show Nat.testBit (if j < f then 0 else if j < l + 1 then runM (f, l, c) else if j < s then 0 else 0) (j % (12 : Nat)).toNat = (decide (f ≤ j) && (decide (j ≤ l) && decide ((j - f) % c = 0)))
  by_cases z1 : j < f
  · rw [if_pos z1, Nat.zero_testBit, decide_eq_false (show ¬ f ≤ j by omega)]
    rfl
  · rw [if_neg z1, decide_eq_true (show f ≤ j by omega), Bool.true_and]
    by_cases z2 : j < l + 1
    · rw [if_pos z2, decide_eq_true (show j ≤ l by omega), Bool.true_and]
      have b := (cls_all c.toNat (by omega) (f % c).toNat (by omega)).2 (j % (12 : Nat)).toNat (by omega)
      rw [show runM (f, l, c) = clsM (f % c).toNat c.toNat from rfl, b]
      have hc : c = 1 ∨ c = 2 ∨ c = 3 ∨ c = 4 := by omega
      rw [decide_eq_decide]
      rcases hc with rfl | rfl | rfl | rfl
      · show ((j % (12 : Nat)).toNat % 1 = (f % 1).toNat) ↔ _
        omega
      · show ((j % (12 : Nat)).toNat % 2 = (f % 2).toNat) ↔ _
        omega
      · show ((j % (12 : Nat)).toNat % 3 = (f % 3).toNat) ↔ _
        omega
      · show ((j % (12 : Nat)).toNat % 4 = (f % 4).toNat) ↔ _
        omega
    · rw [if_neg z2, decide_eq_false (show ¬ j ≤ l by omega), Bool.false_and]
      split <;> exact Nat.zero_testBit _
/-- two rows of pieces put together by a rule for the masks -/
def joinF (g : Nat → Nat → Nat) (P Q : Pcs) : Pcs := (mergeF P Q).map fun x => (x.1, g x.2.1 x.2.2)
def addF (P Q : Pcs) : Pcs := tidyF (joinF (· ^^^ ·) P Q)
theorem joinF_at {g : Nat → Nat → Nat} : ∀ {T : Trip} {j : Int}, (∃ x ∈ T, j < x.1) → maskAt (T.map fun x => (x.1, g x.2.1 x.2.2)) j = g (tripAt T j).1 (tripAt T j).2
  | [], _, h => by obtain ⟨x, hx, _⟩ := h; exact absurd hx List.not_mem_nil
  | (e, m, n) :: T, j, h => by
    show (if j < e then g m n else maskAt (T.map fun x => (x.1, g x.2.1 x.2.2)) j) = g (if j < e then (m, n) else tripAt T j).1 (if j < e then (m, n) else tripAt T j).2
    by_cases z : j < e
    · rw [if_pos z, if_pos z]
    · rw [if_neg z, if_neg z]
      refine joinF_at ?_
      obtain ⟨x, hx, hj⟩ := h
      rcases List.mem_cons.mp hx with rfl | hx
      · exact absurd hj z
      · exact ⟨x, hx, hj⟩
theorem last_mem : ∀ {P : Pcs} {a s : Int}, Asc a P s → a < s → ∃ x ∈ P, x.1 = s
  | [], _, _, h, l => by have h : _ = _ := h; omega
  | [(e, m)], a, s, h, _ => ⟨(e, m), List.mem_cons_self, h.2⟩
  | (e, m) :: (f, n) :: r, a, s, h, _ => by
    obtain ⟨x, hx, e2⟩ := last_mem (P := (f, n) :: r) h.2 (Int.lt_of_lt_of_le h.2.1 h.2.2.le)
    exact ⟨x, List.mem_cons_of_mem _ hx, e2⟩
/-- what two rows put together are -/
structure JoinI (g : Nat → Nat → Nat) (P Q : Pcs) (s : Int) : Prop where
  ends : ∀ x ∈ joinF g P Q, x.1 ≤ s
  last : ∃ x ∈ joinF g P Q, x.1 = s
  at_ : ∀ j, 0 ≤ j → j < s → maskAt (joinF g P Q) j = g (maskAt P j) (maskAt Q j)
  len : (joinF g P Q).length ≤ P.length + Q.length
theorem joinI {g : Nat → Nat → Nat} {P Q : Pcs} {s : Int} (hP : Asc 0 P s) (hQ : Ups Q s) (q0 : ∀ x ∈ Q, 0 ≤ x.1) (s0 : 0 < s) : JoinI g P Q s := by
  have ends : ∀ y ∈ mergeF P Q, y.1 ≤ s := merge_ends (fun x hx => (hP.mem_le x hx).2) hQ.le
  obtain ⟨x, hx, ex⟩ := last_mem hP s0
  obtain ⟨y, hy, ey⟩ := merge_last (o := Q) hx
  refine ⟨fun z hz => ?_, ⟨_, List.mem_map.mpr ⟨y, hy, rfl⟩, ey.trans ex⟩, fun j j0 j1 => ?_, ?_⟩
  · obtain ⟨t, ht, rfl⟩ := List.mem_map.mp hz
    exact ends t ht
  · unfold joinF
    rw [joinF_at ⟨y, hy, by rw [ey, ex]; exact j1⟩, merge_at hP (.inr hQ) j j0 j1 q0]
  · unfold joinF
    rw [List.length_map]
    exact merge_len
theorem tidy_len {P : Pcs} : (tidyF P).length ≤ P.length := (tidyI P).len
theorem tidy_masks {P : Pcs} {b : Nat} (h : ∀ x ∈ P, x.2 < b) : ∀ y ∈ tidyF P, y.2 < b := fun y hy => by
  obtain ⟨x, hx, e⟩ := (tidyI P).masks y hy
  rw [← e]
  exact h x hx
theorem merge_masks {p : Nat → Prop} (p0 : p 0) : ∀ {P o : Pcs}, (∀ x ∈ P, p x.2) → (∀ x ∈ o, p x.2) → ∀ y ∈ mergeF P o, p y.2.1 ∧ p y.2.2
  | [], _, _, _ => fun y hy => absurd hy List.not_mem_nil
  | (e, m) :: r, o, h, ho => fun y hy => by
    have hm := h (e, m) List.mem_cons_self
    rcases List.mem_append.mp hy with hy | hy
    · obtain ⟨x, hx, rfl⟩ := List.mem_map.mp hy
      exact ⟨hm, ho x (List.takeWhile_subset _ hx)⟩
    · have hd : ∀ x ∈ o.dropWhile (fun x => decide (x.1 < e)), p x.2 := fun x hx => ho x (List.dropWhile_subset _ hx)
      rcases List.mem_cons.mp hy with rfl | hy
      · refine ⟨hm, ?_⟩
        show p ((o.dropWhile fun x => decide (x.1 < e)).headD (0, 0)).2
        cases hc : o.dropWhile fun x => decide (x.1 < e) with
        | nil => exact p0
        | cons x y => exact hd x (by rw [hc]; exact List.mem_cons_self)
      · exact merge_masks p0 (fun x hx => h x (List.mem_cons_of_mem _ hx)) hd y hy
/-- pieces of a size and a width -/
structure PcsOk (P : Pcs) (w : Nat) (s : Int) : Prop where
  asc : Asc 0 P s
  masks : ∀ x ∈ P, x.2 < 2 ^ w
theorem add_ok {P Q : Pcs} {w : Nat} {s : Int} (hP : PcsOk P w s) (hQ : Ups Q s) (q0 : ∀ x ∈ Q, 0 ≤ x.1) (qm : ∀ x ∈ Q, x.2 < 2 ^ w) (s0 : 0 < s) :
    PcsOk (addF P Q) w s ∧ (∀ j, 0 ≤ j → j < s → markF (addF P Q) w j = (markF P w j ^^ markF Q w j)) ∧ (addF P Q).length ≤ P.length + Q.length := by
  have J := joinI (g := (· ^^^ ·)) hP.asc hQ q0 s0
  obtain ⟨t1, t2⟩ := tidy_good J.ends J.last s0
  refine ⟨⟨t1, tidy_masks fun x hx => ?_⟩, fun j j0 j1 => ?_, Nat.le_trans tidy_len J.len⟩
  · obtain ⟨y, hy, rfl⟩ := List.mem_map.mp hx
    obtain ⟨a, b⟩ := merge_masks (p := fun m => m < 2 ^ w) (Nat.two_pow_pos w) hP.masks qm y hy
    exact Nat.xor_lt_two_pow a b
  · unfold markF
    show Nat.testBit (maskAt (tidyF (joinF (· ^^^ ·) P Q)) j) _ = _
    rw [t2 j j0 j1, J.at_ j j0 j1, Nat.testBit_xor]
/-- the pieces of runs -/
def runsP (s : Int) (rs : List (Int × Int × Int)) : Pcs := rs.foldl (fun P r => addF P (runP s r)) [(s, 0)]
/-- whether an odd number of runs has j -/
def oddR (rs : List (Int × Int × Int)) (j : Int) : Bool := rs.foldl (fun b r => b ^^ inRun r j) false
theorem runs_ok {s : Int} (s0 : 0 < s) : ∀ {rs : List (Int × Int × Int)}, (∀ r ∈ rs, RunOk r s) → PcsOk (runsP s rs) 12 s ∧ (∀ j, 0 ≤ j → j < s → markF (runsP s rs) 12 j = oddR rs j) ∧ (runsP s rs).length ≤ 1 + 3 * rs.length := by
  have go : ∀ (rs : List (Int × Int × Int)) (P : Pcs) (f : Int → Bool), (∀ r ∈ rs, RunOk r s) → PcsOk P 12 s → (∀ j, 0 ≤ j → j < s → markF P 12 j = f j) →
      PcsOk (rs.foldl (fun P r => addF P (runP s r)) P) 12 s ∧ (∀ j, 0 ≤ j → j < s → markF (rs.foldl (fun P r => addF P (runP s r)) P) 12 j = rs.foldl (fun b r => b ^^ inRun r j) (f j)) ∧ (rs.foldl (fun P r => addF P (runP s r)) P).length ≤ P.length + 3 * rs.length := by
    intro rs
    induction rs with
    | nil => exact fun P f _ h1 h2 => ⟨h1, h2, Nat.le_refl _⟩
    | cons r rs ih =>
      intro P f hr h1 h2
      have ro := hr r List.mem_cons_self
      have up : Ups (runP s r) s := ⟨by have := ro.fl; show r.1 ≤ r.2.1 + 1; omega, by have := ro.ls; show r.2.1 + 1 ≤ s; omega, rfl⟩
      have q0 : ∀ x ∈ runP s r, 0 ≤ x.1 := fun x hx => by
        have a := ro.f0; have b := ro.fl
        simp only [runP, List.mem_cons, List.not_mem_nil, or_false] at hx
        rcases hx with rfl | rfl | rfl <;> (dsimp only; omega)
      have qm : ∀ x ∈ runP s r, x.2 < 2 ^ 12 := fun x hx => by
        simp only [runP, List.mem_cons, List.not_mem_nil, or_false] at hx
        rcases hx with rfl | rfl | rfl
        · exact (by decide : 0 < 2 ^ 12)
        · exact runM_lt ro
        · exact (by decide : 0 < 2 ^ 12)
      obtain ⟨a1, a2, a3⟩ := add_ok h1 up q0 qm s0
      obtain ⟨b1, b2, b3⟩ := ih (addF P (runP s r)) (fun j => f j ^^ inRun r j) (fun q hq => hr q (List.mem_cons_of_mem _ hq)) a1 fun j j0 j1 => by rw [a2 j j0 j1, h2 j j0 j1, run_mark ro j0 j1]
      refine ⟨b1, b2, ?_⟩
      have e : (runP s r).length = 3 := rfl
      rw [List.length_cons, List.foldl_cons]
      omega
  intro rs hr
  obtain ⟨a, b, c⟩ := go rs [(s, 0)] (fun _ => false) hr ⟨⟨s0, rfl⟩, fun x hx => by rw [List.mem_singleton.mp hx]; exact (by decide : 0 < 2 ^ 12)⟩ fun j j0 j1 => by
    show Nat.testBit (if j < s then 0 else 0) _ = false
    rw [if_pos j1, Nat.zero_testBit]
  exact ⟨a, b, c⟩
theorem oddR_count {rs : List (Int × Int × Int)} {j : Int} : oddR rs j = decide ((rs.filter fun r => inRun r j).length % 2 = 1) := by
  have go : ∀ (rs : List (Int × Int × Int)) (b : Bool), rs.foldl (fun b r => b ^^ inRun r j) b = (b ^^ decide ((rs.filter fun r => inRun r j).length % 2 = 1)) := by
    intro rs
    induction rs with
    | nil => intro b; show b = (b ^^ false); rw [Bool.xor_false]
    | cons r rs ih =>
      intro b
      rw [List.foldl_cons, ih]
      by_cases z : inRun r j = true
      · rw [List.filter_cons_of_pos (p := fun r => inRun r j) z, z, List.length_cons]
        by_cases q : (rs.filter fun r => inRun r j).length % 2 = 1
        · rw [decide_eq_true q, decide_eq_false (by omega)]; cases b <;> rfl
        · rw [decide_eq_false q, decide_eq_true (by omega)]; cases b <;> rfl
      · rw [List.filter_cons_of_neg (p := fun r => inRun r j) z, Bool.eq_false_iff.mpr z, Bool.xor_false]
  have := go rs false
  rw [Bool.false_xor] at this
  exact this
end Aw

namespace Aw
open PySem PySem.Spec PyProof.Rows L2 NdefX
/-! ### pieces in the heap -/
inductive PcA (H : Hp) : List V → Pcs → Prop
  | nil : PcA H [] []
  | cons {t : Addr} {e : Int} {m : Nat} {vs : List V} {P : Pcs} : H t = some (.tup [.int e, .int (m : Nat)]) → PcA H vs P → PcA H (.ref t :: vs) ((e, m) :: P)
inductive TrA (H : Hp) : List V → Trip → Prop
  | nil : TrA H [] []
  | cons {t : Addr} {e : Int} {m n : Nat} {vs : List V} {P : Trip} : H t = some (.tup [.int e, .int (m : Nat), .int (n : Nat)]) → TrA H vs P → TrA H (.ref t :: vs) ((e, m, n) :: P)
theorem PcA.keep {H H' : Hp} (k : TK H H') : ∀ {vs : List V} {P : Pcs}, PcA H vs P → PcA H' vs P
  | _, _, .nil => .nil
  | _, _, .cons h r => .cons (k.1 _ _ h) (PcA.keep k r)
theorem PcA.same {H H' : Hp} (s : Same H H') {vs : List V} {P : Pcs} (h : PcA H vs P) : PcA H' vs P := h.keep (TK.same s)
theorem TrA.keep {H H' : Hp} (k : TK H H') : ∀ {vs : List V} {P : Trip}, TrA H vs P → TrA H' vs P
  | _, _, .nil => .nil
  | _, _, .cons h r => .cons (k.1 _ _ h) (TrA.keep k r)
theorem TrA.same {H H' : Hp} (s : Same H H') {vs : List V} {P : Trip} (h : TrA H vs P) : TrA H' vs P := h.keep (TK.same s)
theorem PcA.length {H : Hp} : ∀ {vs : List V} {P : Pcs}, PcA H vs P → vs.length = P.length
  | _, _, .nil => rfl
  | _, _, .cons _ r => congrArg (· + 1) (PcA.length r)
theorem TrA.length {H : Hp} : ∀ {vs : List V} {P : Trip}, TrA H vs P → vs.length = P.length
  | _, _, .nil => rfl
  | _, _, .cons _ r => congrArg (· + 1) (TrA.length r)
theorem PcA.app {H : Hp} : ∀ {vs ws : List V} {P Q : Pcs}, PcA H vs P → PcA H ws Q → PcA H (vs ++ ws) (P ++ Q)
  | _, _, _, _, .nil, s => s
  | _, _, _, _, .cons h r, s => .cons h (PcA.app r s)
theorem TrA.app {H : Hp} : ∀ {vs ws : List V} {P Q : Trip}, TrA H vs P → TrA H ws Q → TrA H (vs ++ ws) (P ++ Q)
  | _, _, _, _, .nil, s => s
  | _, _, _, _, .cons h r, s => .cons h (TrA.app r s)
theorem PcA.get {H : Hp} : ∀ {vs : List V} {P : Pcs} {i : Nat} {v : V}, PcA H vs P → vs[i]? = some v → ∃ (t : Addr) (x : Int × Nat), v = .ref t ∧ P[i]? = some x ∧ H t = some (.tup [.int x.1, .int (x.2 : Nat)])
  | _, _, _, _, .nil, e => by simp at e
  | _, _, 0, _, .cons h _, e => by
    cases Option.some.inj e
    exact ⟨_, _, rfl, rfl, h⟩
  | _, _, i + 1, _, .cons _ r, e => PcA.get (i := i) r (by simpa using e)
theorem PcA.getP {H : Hp} : ∀ {vs : List V} {P : Pcs} {i : Nat} {x : Int × Nat}, PcA H vs P → P[i]? = some x → ∃ t : Addr, vs[i]? = some (.ref t) ∧ H t = some (.tup [.int x.1, .int (x.2 : Nat)])
  | _, _, _, _, .nil, e => by simp at e
  | _, _, 0, _, .cons h _, e => by
    cases Option.some.inj e
    exact ⟨_, rfl, h⟩
  | _, _, i + 1, _, .cons _ r, e => PcA.getP (i := i) r (by simpa using e)
theorem TrA.get {H : Hp} : ∀ {vs : List V} {P : Trip} {i : Nat} {v : V}, TrA H vs P → vs[i]? = some v → ∃ (t : Addr) (x : Int × Nat × Nat), v = .ref t ∧ P[i]? = some x ∧ H t = some (.tup [.int x.1, .int (x.2.1 : Nat), .int (x.2.2 : Nat)])
  | _, _, _, _, .nil, e => by simp at e
  | _, _, 0, _, .cons h _, e => by
    cases Option.some.inj e
    exact ⟨_, _, rfl, rfl, h⟩
  | _, _, i + 1, _, .cons _ r, e => TrA.get (i := i) r (by simpa using e)
theorem PcA.dropLast {H : Hp} : ∀ {vs : List V} {P : Pcs}, PcA H vs P → PcA H vs.dropLast P.dropLast
  | _, _, .nil => .nil
  | _, _, .cons _ .nil => .nil
  | _, _, .cons h (.cons h2 r) => .cons h (PcA.dropLast (.cons h2 r))
/-- the last one -/
theorem PcA.last {H : Hp} {vs : List V} {P : Pcs} {x : Int × Nat} (h : PcA H vs P) (e : P.getLast? = some x) : ∃ t : Addr, vs.getLast? = some (.ref t) ∧ atI vs (-1) = some (.ref t) ∧ vs[vs.length - 1]? = some (.ref t) ∧ H t = some (.tup [.int x.1, .int (x.2 : Nat)]) := by
  rw [List.getLast?_eq_getElem?] at e
  obtain ⟨t, h1, h2⟩ := h.getP e
  rw [← h.length] at h1
  have pos : 0 < vs.length := by
    have := (List.getElem?_eq_some_iff.mp h1).1
    omega
  refine ⟨t, by rw [List.getLast?_eq_getElem?]; exact h1, ?_, h1, h2⟩
  unfold atI ixN
  rw [if_neg (by decide), if_pos (by omega)]
  show vs[((-1 : Int) + vs.length).toNat]? = _
  rw [show ((-1 : Int) + vs.length).toNat = vs.length - 1 by omega]
  exact h1
end Aw

namespace Aw
open PySem PySem.Spec PyProof.Rows L2 NdefX
def spTidy : Sp := fun vs H Q _ => ∃ (L : Addr) (xs : List V) (P : Pcs), vs = [.ref L] ∧ H L = some (.lst xs) ∧ PcA H xs P ∧ P.length ≤ 900 ∧
  ∀ (R : Addr) (ys : List V) (H' : Hp), Same H H' → H R = none → H' R = some (.lst ys) → PcA H' ys (tidyF P) → Q (.ref R) H'
section
variable {P : Program} {w : World} {K : PySem.W.Frag} {mg : Str → Option Value} {base : Heap}
theorem scTidy : FnScope ["pieces", "found", "start", "end", "mask"] ["pieces"] (defScope sTidy) := ⟨rfl, rfl, rfl, by decide +kernel, rfl, by decide +kernel, by decide +kernel⟩
theorem ok_tidy {f : Addr} {fd : FuncData} (F : Fun K "tidied" "tidied" sTidy f fd) : FnOk P w K mg base CX0 1 f fd ["pieces"] spTidy := by
  refine F.ok scTidy (fun vs H Q E h => ?_) (fun cdv A outer s H vs Q E hr h => ?_)
  · obtain ⟨L, xs, P, rfl, _⟩ := h
    rfl
  · obtain ⟨L, xs, P, rfl, hL, pa, lP, hQ⟩ := h
    have nd := scTidy.nd
    refine ⟨_, (pss_cons (ps_set (i := 1) nd rfl (Or.inl rfl) (pe_lst pa_nil))
      (pss_cons (ps_set (i := 2) nd rfl (Or.inl rfl) pe_int)
      (pss_cons (ps_for PassesOwn.never rfl (pi_list (pv 0)) (pg_tup rfl (pgs_cons (pg_name (i := 3) nd rfl (Or.inl rfl)) (pgs_cons (pg_name (i := 4) nd rfl (Or.inl rfl)) pgs_nil)))
        (pss_one (ps_if (pt_cmpR op_gt (pv 3) (pv 2) (nomark _))
          (pss_cons (ps_if (PW.pt (pw_and (pt_truth (pv 1) (by intro _; rfl)) (pw_and1 (pt_cmpR op_eq (pe_ix ix_tup (pe_ix ix_list (pv 1) (pe_un un_neg pe_int) (fun _ _ => rfl)) pe_int (fun _ _ => rfl)) (pv 4) (nomark _)))))
            (pss_one (ps_expr (pe_bm0 PySem.F.plainAttrs_list PySem.F.slot_list_pop PySem.F.type_list_pop mt_pop (pv 1)))) pss_nil)
          (pss_cons (ps_expr (pe_bm PySem.F.plainAttrs_list PySem.F.slot_list_append PySem.F.type_list_append mt_append (pv 1) (pa_cons (pe_tup (pa_cons (pv 3) (pa_cons (pv 4) pa_nil))) pa_nil)))
          (pss_one (ps_set (i := 2) nd rfl (Or.inl rfl) (pv 3))))) pss_nil)))
      (pss_one (ps_ret (pv 1)))))), ?_⟩
    -- BODY
    have lx := pa.length
    refine ⟨Nat.zero_le _, fun R hR => ?_⟩
    have sR := same_upd (o := .lst []) hR
    refine ⟨_, rfl, L, rfl, ⟨_, SqL.of (sR _ _ hL)⟩, ?_⟩
    refine for_list (a := L) (xs := xs) (fun i σ H2 => ∃ (v3 v4 : Option V) (ys : List V) (b : Int) (G : Pcs), σ = [some (.ref L), some (.ref R), some (.int b), v3, v4] ∧ Same H H2 ∧ H2 R = some (.lst ys) ∧ PcA H2 ys G ∧ (G, b) = (P.take i).foldl tidyT ([], 0)) ⟨none, none, [], 0, [], rfl, sR, upd_same, .nil, rfl⟩ (fun i σ H2 _ z => by
      obtain ⟨_, _, _, _, _, _, s2, _⟩ := z
      exact SqL.of (s2 _ _ hL)) ?_ ?_
    · rintro i v σ H2 hv ⟨v3, v4, ys, b, G, rfl, s2, e2, pg, eG⟩
      obtain ⟨t, ⟨e, m⟩, rfl, ix, et⟩ := (pa.same s2).get hv
      have etk : P.take (i + 1) = P.take i ++ [(e, m)] := by rw [List.take_succ, ix]; rfl
      have eG2 : (P.take (i + 1)).foldl tidyT ([], 0) = tidyT (G, b) (e, m) := by rw [etk, List.foldl_append, ← eG]; rfl
      have ly : ys.length ≤ 900 := by
        have t := (tidyI (P.take i)).len
        rw [← eG] at t
        have := pg.length
        have h2 : (P.take i).length ≤ P.length := by rw [List.length_take]; omega
        have t : G.length ≤ (P.take i).length := t
        omega
      refine ⟨t, _, rfl, SqT.of et, rfl, _, _, rfl, _, _, rfl, rfl, ?_⟩
      refine ⟨_, rfl, _, rfl, e, b, rfl, rfl, _, rfl, ite_dec (fun g => ?_) (fun g => ?_)⟩
      · have fin : ∀ (zs : List V) (G' : Pcs) (H3 : Hp), Same H H3 → H3 R = some (.lst zs) → PcA H3 zs G' → zs.length ≤ 900 → tidyS G (e, m) = G' ++ [(e, m)] →
            ∀ T, H3 T = none → ∃ (v3 v4 : Option V) (ys : List V) (b' : Int) (G2 : Pcs), [some (V.ref L), some (V.ref R), some (V.int e), some (V.int e), some (V.int (m : Nat))] = [some (.ref L), some (.ref R), some (.int b'), v3, v4] ∧ Same H (upd (upd H3 T (.tup [.int e, .int (m : Nat)])) R (.lst (zs ++ [.ref T]))) ∧ upd (upd H3 T (.tup [.int e, .int (m : Nat)])) R (.lst (zs ++ [.ref T])) R = some (.lst ys) ∧ PcA (upd (upd H3 T (.tup [.int e, .int (m : Nat)])) R (.lst (zs ++ [.ref T]))) ys G2 ∧ (G2, b') = (P.take (i + 1)).foldl tidyT ([], 0) := fun zs G' H3 s3 e3 p3 l3 es T hT => by
          have sT := same_upd (o := .tup [.int e, .int (m : Nat)]) hT
          have eR := sT _ _ e3
          refine ⟨_, _, zs ++ [.ref T], e, G' ++ [(e, m)], rfl, same_fresh hR (s3.trans sT), upd_same, ?_, ?_⟩
          · exact ((p3.same sT).app (.cons upd_same .nil)).keep (TK.lst eR)
          · rw [eG2]
            unfold tidyT
            rw [if_pos (show (G, b).2 < ((e, m) : Int × Nat).1 from g)]
            show _ = (tidyS G (e, m), e)
            rw [es]
        cases hl : G.getLast? with
        | none =>
          have G0 : G = [] := List.getLast?_eq_none_iff.mp hl
          subst G0
          cases pg
          refine ⟨_, rfl, false, .inl ⟨[], SqL.of e2, rfl⟩, iteF ?_⟩
          refine iteF (nxt ?_)
          dsimp only
          refine ⟨_, rfl, .inl ⟨rfl, _, SqL.of e2⟩, _, rfl, _, rfl, by show 2 ≤ sizeLine; decide, fun T hT => ?_⟩
          have eR := same_upd (o := .tup [.int e, .int (m : Nat)]) hT _ _ e2
          refine ⟨R, [], _, rfl, rfl, eR, Nat.lt_of_lt_of_le (show ([] : List V).length < 1000 by show 0 < 1000; decide) kz, ?_⟩
          exact ⟨_, rfl, fin [] [] _ s2 e2 .nil (by show 0 ≤ 900; decide) rfl T hT⟩
        | some x =>
          obtain ⟨u, h1, h2, h3, h4⟩ := pg.last hl
          have ne : ys.isEmpty = false := by
            cases ys with
            | nil => simp at h1
            | cons => rfl
          refine ⟨_, rfl, true, .inl ⟨ys, SqL.of e2, by rw [ne]; rfl⟩, iteT ?_⟩
          refine ⟨_, rfl, 1, rfl, R, ys, -1, _, rfl, rfl, SqL.of e2, h2, u, _, 1, _, rfl, rfl, SqT.of h4, rfl, _, rfl, rfl, _, rfl, ite_int (fun em => ?_) (fun em => ?_)⟩
          · have em : x.2 = m := Int.ofNat_inj.mp em
            refine ⟨_, rfl, .inl ⟨rfl, _, SqL.of e2⟩, R, ys, _, rfl, rfl, e2, h3, ?_⟩
            have s3 : Same H (upd H2 R (.lst ys.dropLast)) := same_fresh hR s2
            have e3 : upd H2 R (.lst ys.dropLast) R = some (.lst ys.dropLast) := upd_same
            have p3 : PcA (upd H2 R (.lst ys.dropLast)) ys.dropLast G.dropLast := pg.dropLast.keep (TK.lst e2)
            have l3 : ys.dropLast.length ≤ 900 := by rw [List.length_dropLast]; omega
            have es : tidyS G (e, m) = G.dropLast ++ [(e, m)] := by
              unfold tidyS
              rw [hl]
              dsimp only
              rw [if_pos em]
            generalize upd H2 R (.lst ys.dropLast) = H3 at *
            refine ⟨_, rfl, .inl ⟨rfl, _, SqL.of e3⟩, _, rfl, _, rfl, by show 2 ≤ sizeLine; decide, fun T hT => ?_⟩
            have eR := same_upd (o := .tup [.int e, .int (m : Nat)]) hT _ _ e3
            refine ⟨R, ys.dropLast, _, rfl, rfl, eR, Nat.lt_of_lt_of_le (show (ys.dropLast : List V).length < 1000 by omega) kz, ?_⟩
            exact ⟨_, rfl, fin ys.dropLast G.dropLast _ s3 e3 p3 (by omega) es T hT⟩
          · have em : x.2 ≠ m := fun z => em (by rw [z])
            refine nxt ?_
            dsimp only
            have es : tidyS G (e, m) = G ++ [(e, m)] := by
              unfold tidyS
              rw [hl]
              dsimp only
              rw [if_neg em]
            refine ⟨_, rfl, .inl ⟨rfl, _, SqL.of e2⟩, _, rfl, _, rfl, by show 2 ≤ sizeLine; decide, fun T hT => ?_⟩
            have eR := same_upd (o := .tup [.int e, .int (m : Nat)]) hT _ _ e2
            refine ⟨R, ys, _, rfl, rfl, eR, Nat.lt_of_lt_of_le (show (ys : List V).length < 1000 by omega) kz, ?_⟩
            exact ⟨_, rfl, fin ys G _ s2 e2 pg (by omega) es T hT⟩
      · refine nxt ⟨_, _, ys, b, G, rfl, s2, e2, pg, ?_⟩
        rw [eG2]
        unfold tidyT
        rw [if_neg (show ¬ (G, b).2 < ((e, m) : Int × Nat).1 from g)]
    · rintro σ H2 ⟨v3, v4, ys, b, G, rfl, s2, e2, pg, eG⟩
      rw [List.take_of_length_le (by omega)] at eG
      have : G = tidyF P := by unfold tidyF; rw [← eG]
      subst this
      exact ⟨_, rfl, hQ R ys H2 s2 hR e2 pg⟩
end
end Aw

namespace Aw
open PySem PySem.Spec PyProof.Rows L2 NdefX
/-- what is left of the other one -/
def restM : Pcs → Pcs → Pcs
  | [], o => o
  | (e, _) :: r, o => restM r (o.dropWhile fun x => decide (x.1 < e))
theorem merge_app : ∀ {P Q o : Pcs}, mergeF (P ++ Q) o = mergeF P o ++ mergeF Q (restM P o)
  | [], _, _ => rfl
  | (e, m) :: r, Q, o => by
    show _ ++ _ :: mergeF (r ++ Q) _ = (_ ++ _ :: mergeF r _) ++ _
    rw [merge_app, List.append_assoc, List.cons_append]
    rfl
theorem rest_app : ∀ {P Q o : Pcs}, restM (P ++ Q) o = restM Q (restM P o)
  | [], _, _ => rfl
  | (e, m) :: r, Q, o => rest_app (P := r)
theorem merge_len2 : ∀ {P o : Pcs}, (mergeF P o).length + (restM P o).length ≤ P.length + o.length
  | [], o => by show 0 + o.length ≤ 0 + o.length; omega
  | (e, m) :: r, o => by
    have ih := merge_len2 (P := r) (o := o.dropWhile fun x => decide (x.1 < e))
    have sp : o.length = (o.takeWhile fun x => decide (x.1 < e)).length + (o.dropWhile fun x => decide (x.1 < e)).length := by
      rw [← List.length_append, List.takeWhile_append_dropWhile]
    show (((o.takeWhile fun x => decide (x.1 < e)).map fun x => (x.1, m, x.2)) ++ (e, m, ((o.dropWhile fun x => decide (x.1 < e)).headD (0, 0)).2) :: mergeF r (o.dropWhile fun x => decide (x.1 < e))).length + (restM r (o.dropWhile fun x => decide (x.1 < e))).length ≤ _
    rw [List.length_append, List.length_map, List.length_cons, List.length_cons]
    omega
theorem rest_ups : ∀ {P o : Pcs} {s : Int}, Ups o s → (∀ x ∈ P, x.1 ≤ s) → Ups (restM P o) s
  | [], _, _, h, _ => h
  | (e, m) :: r, o, s, h, hp => rest_ups (P := r) (h.drop (hp (e, m) List.mem_cons_self)).1 fun x hx => hp x (List.mem_cons_of_mem _ hx)
theorem while_cut {α : Type} {p : α → Bool} : ∀ {l : List α} {k : Nat} {y : α}, (∀ x ∈ l.take k, p x = true) → l[k]? = some y → p y = false → l.takeWhile p = l.take k ∧ l.dropWhile p = l.drop k
  | [], _, _, _, h, _ => by simp at h
  | x :: l, 0, y, _, h, hy => by
    cases Option.some.inj h
    rw [List.takeWhile_cons, List.dropWhile_cons, hy]
    exact ⟨rfl, rfl⟩
  | x :: l, k + 1, y, hk, h, hy => by
    have hx : p x = true := hk x List.mem_cons_self
    obtain ⟨a, b⟩ := while_cut (l := l) (k := k) (fun z hz => hk z (List.mem_cons_of_mem _ hz)) (by simpa using h) hy
    rw [List.takeWhile_cons, List.dropWhile_cons, hx]
    exact ⟨congrArg (x :: ·) a, b⟩
theorem Ups.some_ge : ∀ {P : Pcs} {s : Int}, Ups P s → ∃ x ∈ P, x.1 = s
  | [], _, h => h.elim
  | [(e, m)], s, h => ⟨(e, m), List.mem_cons_self, h⟩
  | (e, m) :: (f, n) :: r, s, h => by
    obtain ⟨x, hx, ex⟩ := Ups.some_ge (P := (f, n) :: r) h.2
    exact ⟨x, List.mem_cons_of_mem _ hx, ex⟩
def spMerge : Sp := fun vs H Q _ => ∃ (A B : Addr) (xs ys : List V) (P O : Pcs) (s : Int), vs = [.ref A, .ref B] ∧ H A = some (.lst xs) ∧ PcA H xs P ∧ H B = some (.lst ys) ∧ PcA H ys O ∧ P.length ≤ 400 ∧ O.length ≤ 400 ∧ Ups O s ∧ (∀ x ∈ P, x.1 ≤ s) ∧
  ∀ (R : Addr) (zs : List V) (H' : Hp), Same H H' → H R = none → H' R = some (.lst zs) → TrA H' zs (mergeF P O) → Q (.ref R) H'
section
variable {P : Program} {w : World} {K : PySem.W.Frag} {mg : Str → Option Value} {base : Heap}
theorem scMerge : FnScope ["one", "other", "found", "spot", "end", "mask"] ["one", "other"] (defScope sMerge) := ⟨rfl, rfl, rfl, by decide +kernel, rfl, by decide +kernel, by decide +kernel⟩
theorem ok_merge {f : Addr} {fd : FuncData} (F : Fun K "merged" "merged" sMerge f fd) : FnOk P w K mg base CX0 1 f fd ["one", "other"] spMerge := by
  refine F.ok scMerge (fun vs H Q E h => ?_) (fun cdv A outer s H vs Q E hr h => ?_)
  · obtain ⟨A, B, xs, ys, P, O, s, rfl, _⟩ := h
    rfl
  · obtain ⟨A, B, xs, ys, P, O, sz, rfl, hA, pa, hB, pb, lP, lO, up, hP, hQ⟩ := h
    have nd := scMerge.nd
    refine ⟨_, (pss_cons (ps_set (i := 2) nd rfl (Or.inl rfl) (pe_lst pa_nil))
      (pss_cons (ps_set (i := 3) nd rfl (Or.inl rfl) pe_int)
      (pss_cons (ps_for PassesOwn.never rfl (pi_list (pv 0)) (pg_tup rfl (pgs_cons (pg_name (i := 4) nd rfl (Or.inl rfl)) (pgs_cons (pg_name (i := 5) nd rfl (Or.inl rfl)) pgs_nil)))
        (pss_cons (ps_while PassesOwn.never (pt_cmpR op_lt (pe_ix ix_tup (pe_ix ix_list (pv 1) (pv 3) (fun _ _ => rfl)) pe_int (fun _ _ => rfl)) (pv 4) (nomark _))
          (pss_cons (ps_expr (pe_bm PySem.F.plainAttrs_list PySem.F.slot_list_append PySem.F.type_list_append mt_append (pv 2) (pa_cons (pe_tup (pa_cons (pe_ix ix_tup (pe_ix ix_list (pv 1) (pv 3) (fun _ _ => rfl)) pe_int (fun _ _ => rfl)) (pa_cons (pv 5) (pa_cons (pe_ix ix_tup (pe_ix ix_list (pv 1) (pv 3) (fun _ _ => rfl)) pe_int (fun _ _ => rfl)) pa_nil)))) pa_nil)))
          (pss_one (ps_set (i := 3) nd rfl (Or.inl rfl) (pe_op op_add (pv 3) pe_int)))))
        (pss_one (ps_expr (pe_bm PySem.F.plainAttrs_list PySem.F.slot_list_append PySem.F.type_list_append mt_append (pv 2) (pa_cons (pe_tup (pa_cons (pv 4) (pa_cons (pv 5) (pa_cons (pe_ix ix_tup (pe_ix ix_list (pv 1) (pv 3) (fun _ _ => rfl)) pe_int (fun _ _ => rfl)) pa_nil)))) pa_nil))))))
      (pss_one (ps_ret (pv 2)))))), ?_⟩
    -- BODY
    have lx := pa.length
    have ly := pb.length
    refine ⟨Nat.zero_le _, fun R hR => ?_⟩
    have sR := same_upd (o := .lst []) hR
    refine ⟨_, rfl, A, rfl, ⟨_, SqL.of (sR _ _ hA)⟩, ?_⟩
    refine for_list (a := A) (xs := xs) (fun i σ H2 => ∃ (v4 v5 : Option V) (zs : List V) (k : Nat), σ = [some (.ref A), some (.ref B), some (.ref R), some (.int (k : Nat)), v4, v5] ∧ Same H H2 ∧ H2 R = some (.lst zs) ∧ TrA H2 zs (mergeF (P.take i) O) ∧ O.drop k = restM (P.take i) O) ⟨none, none, [], 0, rfl, sR, upd_same, .nil, rfl⟩ (fun i σ H2 _ z => by
      obtain ⟨_, _, _, _, _, s2, _⟩ := z
      exact SqL.of (s2 _ _ hA)) ?_ ?_
    · rintro i v σ H2 hv ⟨v4, v5, zs, k, rfl, s2, e2, pz, hk⟩
      obtain ⟨t, ⟨e, m⟩, rfl, ix, et⟩ := (pa.same s2).get hv
      have etk : P.take (i + 1) = P.take i ++ [(e, m)] := by rw [List.take_succ, ix]; rfl
      have es : e ≤ sz := hP (e, m) (List.mem_of_getElem? ix)
      have upk : Ups (O.drop k) sz := by rw [hk]; exact rest_ups up fun x hx => hP x (List.mem_of_mem_take hx)
      have lz := pz.length
      have lm := merge_len2 (P := P.take i) (o := O)
      have lt : (P.take i).length ≤ 400 := by rw [List.length_take]; omega
      have ek : O.length - k = (O.drop k).length := (List.length_drop ..).symm
      rw [← hk] at lm
      refine ⟨t, _, rfl, SqT.of et, rfl, _, _, rfl, _, _, rfl, rfl, ?_⟩
      refine ⟨fun mm σ H3 => ∃ (q : Nat) (zs : List V), mm + q = O.length - k ∧ σ = [some (.ref A), some (.ref B), some (.ref R), some (.int ((k + q : Nat) : Int)), some (.int e), some (.int (m : Nat))] ∧ Same H H3 ∧ H3 R = some (.lst zs) ∧ TrA H3 zs (mergeF (P.take i) O ++ ((O.drop k).take q).map fun x => (x.1, m, x.2)) ∧ ∀ x ∈ (O.drop k).take q, x.1 < e, ⟨O.length - k, 0, zs, rfl, rfl, s2, e2, by rw [List.take_zero, List.map_nil, List.append_nil]; exact pz, fun x hx => absurd hx (by simp)⟩, ?_⟩
      rintro mm σ H3 ⟨q, zs3, hm, rfl, s3, e3, p3, hq⟩
      have qlt : q < (O.drop k).length := by
        rcases Nat.lt_or_ge q (O.drop k).length with z | z
        · exact z
        · rw [List.take_of_length_le z] at hq
          obtain ⟨x, hx, ex⟩ := upk.some_ge
          have := hq x hx
          omega
      obtain ⟨y, hy⟩ : ∃ y, (O.drop k)[q]? = some y := ⟨_, List.getElem?_eq_getElem qlt⟩
      have hyO : O[k + q]? = some y := by rw [List.getElem?_drop] at hy; exact hy
      obtain ⟨u, hu, eu⟩ := (pb.same s3).getP hyO
      have hB3 := s3 _ _ hB
      have l3 := p3.length
      rw [List.length_append, List.length_map, List.length_take] at l3
      refine ⟨_, rfl, _, rfl, B, ys, _, _, rfl, rfl, SqL.of hB3, atI_nat hu, u, _, 0, _, rfl, rfl, SqT.of eu, rfl, _, rfl, y.1, e, rfl, rfl, _, rfl, ite_dec (fun g => ?_) (fun g => ?_)⟩
      · have tq : (O.drop k).take (q + 1) = (O.drop k).take q ++ [y] := by rw [List.take_succ, hy]; rfl
        have hq1 : ∀ x ∈ (O.drop k).take (q + 1), x.1 < e := fun x hx => by
          rw [tq] at hx
          rcases List.mem_append.mp hx with hx | hx
          · exact hq x hx
          · rw [List.mem_singleton.mp hx]
            exact g
        refine ⟨fun σ H5 => ∃ zs : List V, σ = [some (.ref A), some (.ref B), some (.ref R), some (.int ((k + (q + 1) : Nat) : Int)), some (.int e), some (.int (m : Nat))] ∧ Same H H5 ∧ H5 R = some (.lst zs) ∧ TrA H5 zs (mergeF (P.take i) O ++ ((O.drop k).take (q + 1)).map fun x => (x.1, m, x.2)), fun σ' H5 z => ?_, ?_⟩
        · obtain ⟨zs', h1, h2, h3, h4⟩ := z
          exact ⟨mm - 1, by omega, q + 1, zs', by omega, h1, h2, h3, h4, hq1⟩
        refine ⟨_, rfl, .inl ⟨rfl, _, SqL.of e3⟩, _, rfl, _, rfl, B, ys, _, _, rfl, rfl, SqL.of hB3, atI_nat hu, u, _, 0, _, rfl, rfl, SqT.of eu, rfl, _, rfl, _, rfl, _, rfl, B, ys, _, _, rfl, rfl, SqL.of hB3, atI_nat hu, u, _, 1, _, rfl, rfl, SqT.of eu, rfl, by show 3 ≤ sizeLine; decide, fun T hT => ?_⟩
        have sT := same_upd (o := .tup [.int y.1, .int (m : Nat), .int (y.2 : Nat)]) hT
        have eR := sT _ _ e3
        refine ⟨R, zs3, _, rfl, rfl, eR, Nat.lt_of_lt_of_le (show zs3.length < 1000 by omega) kz, ?_⟩
        refine ⟨_, rfl, _, _, rfl, rfl, ?_⟩
        refine ⟨zs3 ++ [.ref T], by rw [← Nat.add_assoc]; rfl, same_fresh hR (s3.trans sT), upd_same, ?_⟩
        rw [tq, List.map_append, ← List.append_assoc]
        exact ((p3.same sT).app (.cons upd_same .nil)).keep (TK.lst eR)
      · have cut := while_cut (p := fun x : Int × Nat => decide (x.1 < e)) (fun x hx => decide_eq_true (hq x hx)) hy (decide_eq_false g)
        refine ⟨_, rfl, .inl ⟨rfl, _, SqL.of e3⟩, _, rfl, _, rfl, _, rfl, _, rfl, B, ys, _, _, rfl, rfl, SqL.of hB3, atI_nat hu, u, _, 1, _, rfl, rfl, SqT.of eu, rfl, by show 3 ≤ sizeLine; decide, fun T hT => ?_⟩
        have sT := same_upd (o := .tup [.int e, .int (m : Nat), .int (y.2 : Nat)]) hT
        have eR := sT _ _ e3
        refine ⟨R, zs3, _, rfl, rfl, eR, Nat.lt_of_lt_of_le (show zs3.length < 1000 by omega) kz, ?_⟩
        refine ⟨_, _, zs3 ++ [.ref T], k + q, rfl, same_fresh hR (s3.trans sT), upd_same, ?_, ?_⟩
        · have em : mergeF (P.take (i + 1)) O = (mergeF (P.take i) O ++ ((O.drop k).take q).map fun x => (x.1, m, x.2)) ++ [(e, m, y.2)] := by
            rw [etk, merge_app, ← hk, List.append_assoc]
            show _ ++ (((O.drop k).takeWhile fun x => decide (x.1 < e)).map (fun x => (x.1, m, x.2)) ++ (e, m, (((O.drop k).dropWhile fun x => decide (x.1 < e)).headD (0, 0)).2) :: []) = _
            have hd : ((O.drop k).drop q).headD (0, 0) = y := by
              rw [List.headD_eq_head?_getD, List.head?_drop, hy]
              rfl
            rw [cut.1, cut.2, hd]
          rw [em]
          exact ((p3.same sT).app (.cons upd_same .nil)).keep (TK.lst eR)
        · rw [etk, rest_app, ← hk]
          show _ = (O.drop k).dropWhile fun x => decide (x.1 < e)
          rw [cut.2, List.drop_drop]
    · rintro σ H2 ⟨v4, v5, zs, k, rfl, s2, e2, pz, hk⟩
      rw [List.take_of_length_le (by omega)] at pz
      exact ⟨_, rfl, hQ R zs H2 s2 hR e2 pz⟩
end
end Aw

namespace Aw
open PySem PySem.Spec PyProof.Rows L2 NdefX
/-! ### the masks of classes -/
/-- over a range with a step: Pv by the turn and the heap (the new list at D within) -/
theorem lc_rangeC {lo c : Int} {n : Nat} {g : TG} {tt : TT} {te : TE} {vs : List Nat} {σ : Aw.St} {H1 : Hp} {D : Addr} {Qd : Hp → Prop} (Pv : Nat → Hp → Prop) (h0 : Pv 0 (upd H1 D (.lst [])))
    (hs : ∀ i H, i < n → Pv i H → g (.int (lo + (i : Nat) * c)) (wipe σ vs) H fun σ2 H2 => wipe σ2 vs = wipe σ vs ∧ tt σ2 H2 fun b H3 =>
      if b = true then te σ2 H3 fun y H4 => ∃ acc, H4 D = some (.lst acc) ∧ acc.length < sizeLine ∧ Pv (i + 1) (upd H4 D (.lst (acc ++ [y]))) else Pv (i + 1) H3) (hd : ∀ H, Pv n H → Qd H) :
    ∃ W : Nat → Nat → Hp → Prop, (∃ m, W 0 m (upd H1 D (.lst []))) ∧ ∀ i m H, W i m H →
      ((Itc lo c n).stop i H ∧ Qd H) ∨ ((Itc lo c n).go i H ∧ ∃ Nx : Hp → Prop, (∀ H', Nx H' → ∃ m', m' < m ∧ W (i + 1) m' H') ∧ ∀ x H', (Itc lo c n).yld i H x H' → g x (wipe σ vs) H' fun σ2 H2 => wipe σ2 vs = wipe σ vs ∧ tt σ2 H2 fun b H3 =>
        if b = true then te σ2 H3 fun y H4 => ∃ acc, H4 D = some (.lst acc) ∧ acc.length < sizeLine ∧ Nx (upd H4 D (.lst (acc ++ [y]))) else Nx H3) := by
  refine ⟨fun i m H => m = n - i ∧ i ≤ n ∧ Pv i H, ⟨n, by simp, Nat.zero_le _, h0⟩, ?_⟩
  rintro i m H ⟨rfl, hi, p⟩
  by_cases hlt : i < n
  · refine .inr ⟨hlt, Pv (i + 1), fun H' p' => ⟨n - (i + 1), by omega, rfl, hlt, p'⟩, fun x H' y => ?_⟩
    obtain ⟨e, y⟩ := y
    subst e y
    exact hs i _ hlt p
  · have e : i = n := by omega
    subst e
    exact .inl ⟨Nat.le_refl _, hd H p⟩
def spClassm : Sp := fun vs H Q _ => ∃ (w : Int) (a c n : Nat), vs = [.int w, .int (a : Nat), .int (c : Nat)] ∧ RgC a w c n ∧ n ≤ 900 ∧ a + n * c ≤ 100000 ∧ ∀ H', Same H H' → Q (.int (clsS a c n : Nat)) H'
section
variable {P : Program} {w : World} {K : PySem.W.Frag} {mg : Str → Option Value} {base : Heap}
theorem scClassm : FnScope ["wide", "at", "of", "place"] ["wide", "at", "of"] (defScope sClassm) := ⟨rfl, rfl, rfl, by decide +kernel, rfl, by decide +kernel, by decide +kernel⟩
structure TxtCls (mg : Str → Option Value) : Prop where
  range : mg "range" = none
  sum : mg "sum" = none
theorem clsS_sum {a c : Nat} : ∀ {n : Nat}, (((List.range n).map fun i : Nat => ((2 ^ (a + i * c) : Nat) : Int))).sum = (clsS a c n : Nat)
  | 0 => rfl
  | n + 1 => by
    rw [List.range_succ, List.map_append, List.sum_append, clsS_sum]
    show ((clsS a c n : Nat) : Int) + (((2 ^ (a + n * c) : Nat) : Int) + 0) = ((clsS a c n + 2 ^ (a + n * c) : Nat) : Int)
    omega
theorem ok_classm {f : Addr} {fd : FuncData} (F : Fun K "class_mask" "class_mask" sClassm f fd) (W : TxtCls mg) : FnOk P w K mg base CX0 1 f fd ["wide", "at", "of"] spClassm := by
  refine F.ok scClassm (fun vs H Q E h => ?_) (fun cdv A outer s H vs Q E hr h => ?_)
  · obtain ⟨w, a, c, n, rfl, _⟩ := h
    rfl
  · obtain ⟨wd, a, c, n, rfl, rg, hn, hb, hQ⟩ := h
    have nd := scClassm.nd
    refine ⟨_, (pss_one (ps_ret (pe_callB (cr_sum rfl) (by rfl) W.sum (by decide +kernel) (pa_cons (pe_lc (own := [("place", 3)]) (g := (gName 3)) (tt := tYes) rfl nd (pi_range3 (by rfl) W.range (pa_cons (pv 1) (pa_cons (pv 0) (pa_cons (pv 2) pa_nil)))) (blkOk_by (own := [("place", 3)]) (N := ["wide", "at", "of", "place"]) (sc := defScope sClassm) (by decide +kernel)) (fun _ _ _ _ _ => (pg_name (i := 3) nd rfl (Or.inl rfl))) (fun _ _ _ _ _ => pts_nil) (fun _ _ _ _ _ => (pe_op op_shl pe_int (pv 3)))) pa_nil)))), ?_⟩
    -- BODY
    refine ⟨_, rfl, _, rfl, _, rfl, _, _, _, n, rfl, rg, fun D hD => ?_⟩
    refine lc_rangeC (fun i H2 => Same H H2 ∧ H2 D = some (.lst (((List.range i).map fun i : Nat => ((2 ^ (a + i * c) : Nat) : Int)).map V.int))) ⟨same_upd hD, upd_same⟩ ?_ ?_
    · rintro i H2 hi ⟨s2, e2⟩
      have ei : ((a : Nat) : Int) + (i : Nat) * (c : Nat) = ((a + i * c : Nat) : Int) := by simp
      refine ⟨rfl, _, rfl, 1, _, rfl, rfl, ?_, _, e2, ?_, same_fresh hD s2, ?_⟩
      · rw [ei]
        have : i * c ≤ n * c := Nat.mul_le_mul_right c (Nat.le_of_lt hi)
        exact ⟨by omega, by omega, by decide⟩
      · rw [List.length_map, List.length_map, List.length_range]
        exact Nat.lt_of_lt_of_le (by omega : i < 1000) kz
      · rw [upd_same, map_take]
        show some (HO.lst (_ ++ [V.int (1 * 2 ^ (((a : Nat) : Int) + (i : Nat) * (c : Nat)).toNat)])) = _
        rw [ei, Int.toNat_natCast, Int.one_mul, Int.natCast_pow]
        rfl
    · rintro H2 ⟨s2, e2⟩
      refine ⟨_, _, rfl, SqL.of e2, ?_⟩
      rw [clsS_sum]
      exact hQ H2 s2
end
end Aw

namespace Aw
open PySem PySem.Spec PyProof.Rows L2 NdefX
theorem or_sum : ∀ n : Nat, ∀ a b : Nat, a + b < n → (a ||| b) = (a ^^^ b) + (a &&& b)
  | 0, _, _, h => absurd h (Nat.not_lt_zero _)
  | n + 1, a, b, h => by
    by_cases z : a = 0 ∧ b = 0
    · rw [z.1, z.2]; rfl
    · have ih := or_sum n (a / 2) (b / 2) (by omega)
      have o2 := Nat.or_mod_two_pow (a := a) (b := b) (n := 1)
      have x2 := Nat.xor_mod_two_pow (a := a) (b := b) (n := 1)
      have n2 := Nat.and_mod_two_pow (a := a) (b := b) (n := 1)
      rw [← Nat.or_div_two, ← Nat.xor_div_two, ← Nat.and_div_two] at ih
      rw [Nat.pow_one] at o2 x2 n2
      have c : (a ||| b) % 2 = (a ^^^ b) % 2 + (a &&& b) % 2 := by
        rw [o2, x2, n2]
        rcases (show a % 2 = 0 ∨ a % 2 = 1 by omega) with e | e <;> rcases (show b % 2 = 0 ∨ b % 2 = 1 by omega) with f | f <;> rw [e, f] <;> rfl
      omega
theorem bx_nat {a b : Nat} : Builtin.bitXor (a : Int) (b : Int) = ((a ^^^ b : Nat) : Int) := by
  have h := or_sum (a + b + 1) a b (Nat.lt_succ_self _)
  show Builtin.bitOr (a : Int) (b : Int) - Builtin.bitAnd (a : Int) (b : Int) = _
  rw [bitOr_nn (Int.natCast_nonneg _) (Int.natCast_nonneg _), bitAnd_pp (Int.natCast_nonneg _) (Int.natCast_nonneg _), Int.toNat_natCast, Int.toNat_natCast, h]
  omega
def spAdded : Sp := fun vs H Q _ => ∃ (A B : Addr) (xs ys : List V) (P O : Pcs) (s : Int), vs = [.ref A, .ref B] ∧ H A = some (.lst xs) ∧ PcA H xs P ∧ H B = some (.lst ys) ∧ PcA H ys O ∧ P.length ≤ 400 ∧ O.length ≤ 400 ∧ Ups O s ∧ (∀ x ∈ P, x.1 ≤ s) ∧
  ∀ (R : Addr) (zs : List V) (H' : Hp), Same H H' → H R = none → H' R = some (.lst zs) → PcA H' zs (addF P O) → Q (.ref R) H'
section
variable {P : Program} {w : World} {K : PySem.W.Frag} {mg : Str → Option Value} {base : Heap}
theorem scAdded : FnScope ["one", "other", "end", "mask", "more"] ["one", "other"] (defScope sAdded) := ⟨rfl, rfl, rfl, by decide +kernel, rfl, by decide +kernel, by decide +kernel⟩
theorem ok_added {f fT fM : Addr} {fd tdd md : FuncData} (F : Fun K "added" "added" sAdded f fd) (FT : Fun K "tidied" "tidied" sTidy fT tdd) (FM : Fun K "merged" "merged" sMerge fM md) (bT : Binds K tdd ["pieces"] []) (bM : Binds K md ["one", "other"] []) (gT : mg "tidied" = some (.ref fT)) (gM : mg "merged" = some (.ref fM)) : FnOk P w K mg base CX0 2 f fd ["one", "other"] spAdded := by
  have GT : FnOk P w K mg base CX0 1 fT tdd ["pieces"] spTidy := ok_tidy FT
  have GM : FnOk P w K mg base CX0 1 fM md ["one", "other"] spMerge := ok_merge FM
  refine F.ok scAdded (fun vs H Q E h => ?_) (fun cdv A outer s H vs Q E hr h => ?_)
  · obtain ⟨A, B, xs, ys, P, O, s, rfl, _⟩ := h
    rfl
  · obtain ⟨A, B, xs, ys, P, O, sz, rfl, hA, pa, hB, pb, lP, lO, up, hP, hQ⟩ := h
    have nd := scAdded.nd
    refine ⟨_, (pss_one (ps_ret (pe_call GT (hr.mono (by decide)) (by rfl) gT FT.kp bT .nil pass0 (pa_cons (pe_lc (own := [("end", 2), ("mask", 3), ("more", 4)]) (g := (gTup _ 3 (gCons (gName 2) (gCons (gName 3) (gCons (gName 4) gNil))))) (tt := tYes) rfl nd (pi_list (pe_call GM (hr.mono (by decide)) (by rfl) gM FM.kp bM .nil pass0 (pa_cons (pv 0) (pa_cons (pv 1) pa_nil)))) (blkOk_by (own := [("end", 2), ("mask", 3), ("more", 4)]) (N := ["one", "other", "end", "mask", "more"]) (sc := defScope sAdded) (by decide +kernel)) (fun _ _ _ _ _ => (pg_tup rfl (pgs_cons (pg_name (i := 2) nd rfl (Or.inl rfl)) (pgs_cons (pg_name (i := 3) nd rfl (Or.inl rfl)) (pgs_cons (pg_name (i := 4) nd rfl (Or.inl rfl)) pgs_nil))))) (fun _ _ _ _ _ => pts_nil) (fun _ _ _ _ _ => (pe_tup (pa_cons (pv 2) (pa_cons (pe_op op_xor (pv 3) (pv 4)) pa_nil))))) pa_nil)))), ?_⟩
    -- BODY
    have lx := pa.length
    refine ⟨_, rfl, _, rfl, A, B, xs, ys, P, O, sz, rfl, hA, pa, hB, pb, lP, lO, up, hP, fun R zs H1 s1 hR e1 t1 => ?_⟩
    have lt := merge_len (P := P) (o := O)
    have lz := t1.length
    refine ⟨R, rfl, ⟨_, SqL.of e1⟩, fun D hD => ?_⟩
    refine lc_list (a := R) (xs := zs) (fun i H2 => Same H1 H2 ∧ ∃ us, H2 D = some (.lst us) ∧ PcA H2 us (((mergeF P O).take i).map fun x => (x.1, x.2.1 ^^^ x.2.2))) ⟨same_upd hD, [], upd_same, .nil⟩ (fun i H2 _ z => SqL.of (z.1 _ _ e1)) ?_ ?_
    · rintro i v H2 hv ⟨s2, us, e2, pu⟩
      obtain ⟨t, ⟨e, m, n⟩, rfl, ix, et⟩ := (t1.same s2).get hv
      refine ⟨t, _, rfl, SqT.of et, rfl, _, _, rfl, _, _, rfl, _, _, rfl, rfl, rfl, ?_⟩
      refine ⟨_, rfl, _, rfl, _, rfl, _, _, rfl, rfl, by show 2 ≤ sizeLine; decide, fun T hT => ?_⟩
      have sT := same_upd (o := .tup [.int e, .int (Builtin.bitXor (m : Nat) (n : Nat))]) hT
      have eD := sT _ _ e2
      refine ⟨us, eD, Nat.lt_of_lt_of_le (show us.length < 1000 by
        have := pu.length
        rw [List.length_map, List.length_take] at this
        omega) kz, same_fresh hD (s2.trans sT), _, upd_same, ?_⟩
      have e4 : (mergeF P O).take (i + 1) = (mergeF P O).take i ++ [(e, m, n)] := by rw [List.take_succ, ix]; rfl
      rw [e4, List.map_append]
      refine ((pu.same sT).app (.cons ?_ .nil)).keep (TK.lst eD)
      rw [← bx_nat]
      exact upd_same
    · rintro H2 ⟨s2, us, e2, pu⟩
      rw [List.take_of_length_le (by omega)] at pu
      refine ⟨D, us, _, rfl, e2, pu, by rw [List.length_map]; omega, fun R2 vs2 H3 s3 hR2 e3 p3 => ?_⟩
      exact hQ R2 vs2 H3 (s1.trans (s2.trans s3)) ((s1.trans s2).free hR2) e3 p3
end
end Aw

namespace Aw
open PySem PySem.Spec PyProof.Rows L2 NdefX
theorem shr_bit {m i : Nat} : decide (V.int ((m : Int) / 2 ^ i % 2 ^ 1) = V.int 1) = m.testBit i := by
  have e : (m : Int) / 2 ^ i % 2 ^ 1 = ((m / 2 ^ i % 2 : Nat) : Int) := by
    rw [show (2 : Int) ^ 1 = ((2 : Nat) : Int) from rfl, show (2 : Int) ^ i = ((2 ^ i : Nat) : Int) by rw [Int.natCast_pow]; rfl]
    rfl
  rw [e, Nat.testBit_eq_decide_div_mod_eq, decide_eq_decide]
  exact ⟨fun z => by have := V.int.inj z; omega, fun z => by rw [z]; rfl⟩
def spIsMk : Sp := fun vs H Q _ => ∃ (L : Addr) (xs : List V) (P : Pcs) (w : Nat) (j : Int), vs = [.ref L, .int (w : Nat), .int j] ∧ H L = some (.lst xs) ∧ PcA H xs P ∧ P.length ≤ 900 ∧ 0 < w ∧ Q (.bl (markF P w j)) H
section
variable {P : Program} {w : World} {K : PySem.W.Frag} {mg : Str → Option Value} {base : Heap}
theorem scIsMk : FnScope ["pieces", "wide", "place", "end", "mask"] ["pieces", "wide", "place"] (defScope sIsMk) := ⟨rfl, rfl, rfl, by decide +kernel, rfl, by decide +kernel, by decide +kernel⟩
theorem ok_ismk {f : Addr} {fd : FuncData} (F : Fun K "is_marked" "is_marked" sIsMk f fd) : FnOk P w K mg base CX0 1 f fd ["pieces", "wide", "place"] spIsMk := by
  refine F.ok scIsMk (fun vs H Q E h => ?_) (fun cdv A outer s H vs Q E hr h => ?_)
  · obtain ⟨L, xs, P, w, j, rfl, _⟩ := h
    rfl
  · obtain ⟨L, xs, P, wd, j, rfl, hL, pa, lP, w0, hQ⟩ := h
    have nd := scIsMk.nd
    refine ⟨_, (pss_cons (ps_for PassesOwn.never rfl (pi_list (pv 0)) (pg_tup rfl (pgs_cons (pg_name (i := 3) nd rfl (Or.inl rfl)) (pgs_cons (pg_name (i := 4) nd rfl (Or.inl rfl)) pgs_nil)))
        (pss_one (ps_if (pt_cmpR op_lt (pv 2) (pv 3) (nomark _))
          (pss_one (ps_ret (pe_cmpR op_eq (pe_op op_andM (pe_op op_shr (pv 4) (pe_op op_mod (pv 2) (pv 1))) pe_int) pe_int (nomark _)))) pss_nil)))
      (pss_one (ps_ret pe_bl))), ?_⟩
    -- BODY
    have lx := pa.length
    refine ⟨_, rfl, L, rfl, ⟨_, SqL.of hL⟩, ?_⟩
    refine for_list (a := L) (xs := xs) (fun i σ H2 => ∃ (v3 v4 : Option V), σ = [some (.ref L), some (.int (wd : Nat)), some (.int j), v3, v4] ∧ H2 = H ∧ markF P wd j = markF (P.drop i) wd j) ⟨none, none, rfl, rfl, rfl⟩ (fun i σ H2 _ z => by
      obtain ⟨_, _, _, rfl, _⟩ := z
      exact SqL.of hL) ?_ ?_
    · rintro i v σ H2 hv ⟨v3, v4, rfl, rfl, em⟩
      obtain ⟨t, ⟨e, m⟩, rfl, ix, et⟩ := pa.get hv
      have ed : P.drop i = (e, m) :: P.drop (i + 1) := List.drop_eq_getElem_cons (List.getElem?_eq_some_iff.mp ix).1 |>.trans (by rw [(List.getElem?_eq_some_iff.mp ix).2])
      refine ⟨t, _, rfl, SqT.of et, rfl, _, _, rfl, _, _, rfl, rfl, ?_⟩
      refine ⟨_, rfl, _, rfl, j, e, rfl, rfl, _, rfl, ite_dec (fun g => ?_) (fun g => ?_)⟩
      · have j0 : 0 ≤ j % ((wd : Nat) : Int) := Int.emod_nonneg _ (by omega)
        refine ⟨_, rfl, _, rfl, _, rfl, j, (wd : Nat), rfl, rfl, by omega, (m : Nat), _, rfl, rfl, j0, _, 1, rfl, rfl, rfl, ?_⟩
        have e3 : markF P wd j = m.testBit (j % ((wd : Nat) : Int)).toNat := by
          rw [em, ed]
          unfold markF
          show Nat.testBit (if j < e then m else _) _ = _
          rw [if_pos g]
        rw [e3, ← shr_bit] at hQ
        exact hQ
      · refine nxt ⟨_, _, rfl, rfl, ?_⟩
        rw [em, ed]
        unfold markF
        show Nat.testBit (if j < e then m else _) _ = _
        rw [if_neg g]
    · rintro σ H2 ⟨v3, v4, rfl, rfl, em⟩
      rw [List.drop_of_length_le (by omega)] at em
      have e2 : markF P wd j = false := by rw [em]; exact Nat.zero_testBit _
      rw [e2] at hQ
      exact hQ
end
end Aw

namespace Aw
open PySem PySem.Spec PyProof.Rows L2 NdefX
/-! ### what is walked or taken apart may be a list or a tuple -/
def iSeq (K : PySem.W.Frag) (tl : TE) : TI := fun σ H R => tl σ H fun x H1 => ∃ a, x = .ref a ∧ (((∃ xs, SqL K H1 a xs) ∧ R (Itl K a) H1) ∨ ((∃ xs, SqT K H1 a xs) ∧ R (Itt K a) H1))
def gSeq (K : PySem.W.Frag) (n : Nat) (t : TGs) : TG := fun v σ H Q => ∃ a xs, v = .ref a ∧ (SqL K H a xs ∨ SqT K H a xs) ∧ xs.length = n ∧ t xs σ H Q
section
variable {X : Cx} {pos : Pos} {tg : Expr}
theorem pg_seq {es : List Expr} {k : Nat} {t : TGs} {n : Nat} (hc : X.calm = true) (h : PGs X es t)
    (hn : (assignEach es X.env).length = n := by rfl) (hst : (assignEach es X.env).findIdx? (·.1) = none := by rfl) : PG X (.Tuple es k pos) (gSeq X.K n t) := by
  refine ⟨fun pins s σ H v u Q I r hw => ?_⟩
  obtain ⟨a, xs, e1, hq | hq, hl, hw⟩ := hw
  · exact (pg_lst (pos := pos) (k := k) hc h hn hst).run pins s σ H v u Q I r ⟨a, xs, e1, hq, hl, hw⟩
  · exact (pg_tup (pos := pos) (k := k) hc h hn hst).run pins s σ H v u Q I r ⟨a, xs, e1, hq, hl, hw⟩
theorem pi_seq {l : Expr} {tl : TE} (hl : PE X l tl) : PI X tg l (iSeq X.K tl) := by
  refine ⟨fun pins s σ H R I h => ?_⟩
  refine thn (hl.run pins s σ H _ I h) fun v s1 ⟨x, H1, I1, r1, q1⟩ => ?_
  obtain ⟨a, e, ⟨⟨xs, hq⟩, q⟩ | ⟨⟨xs, hq⟩, q⟩⟩ := q1
  · subst e
    cases r1
    obtain ⟨its, rv, p, hz⟩ := I1.list hq
    refine wpAny_pyIter_list p.isList ?_
    refine ⟨s1.heap.objs.size, [s1.heap.objs.size], _, _, H1, rfl, I1.kept (t' := s1.toks) fun b o e => Heap.get?_push_of_some _ e, turn_list a _, ⟨_, Heap.get?_push_size _ rfl, rfl, rfl⟩, fun b hb => ?_, q⟩
    have e : b = s1.heap.objs.size := by simpa using hb
    subst e
    exact I1.fpOk (Nat.le_refl _) (I1.hok.fresh (Nat.le_refl _))
  · subst e
    cases r1
    obtain ⟨its, rv, p, hz⟩ := I1.tuple hq
    refine wpAny_pyIter_tuple (show s1.heap.IsTuple a its.toArray from p) ?_
    refine ⟨s1.heap.objs.size, [s1.heap.objs.size], _, _, H1, rfl, I1.kept (t' := s1.toks) fun b o e => Heap.get?_push_of_some _ e, turn_tuple a _, ⟨_, Heap.get?_push_size _ rfl, rfl, rfl⟩, fun b hb => ?_, q⟩
    have e : b = s1.heap.objs.size := by simpa using hb
    subst e
    exact I1.fpOk (Nat.le_refl _) (I1.hok.fresh (Nat.le_refl _))
end
theorem for_seq {K : PySem.W.Frag} {a : Addr} {xs : List V} {g : TG} {tb : TS} {D : Ends} {σ : Aw.St} {H : Hp} (Pv : Nat → Aw.St → Hp → Prop) (h0 : Pv 0 σ H) (hl : (∀ i σ H, i ≤ xs.length → Pv i σ H → SqL K H a xs) ∨ (∀ i σ H, i ≤ xs.length → Pv i σ H → SqT K H a xs))
    (hs : ∀ i x σ H, xs[i]? = some x → Pv i σ H → g x σ H fun σ2 H2 => tb { D with nx := Pv (i + 1), ct := Pv (i + 1), bk := D.nx } σ2 H2) (hd : ∀ σ H, Pv xs.length σ H → D.nx σ H) :
    ((∃ xs, SqL K H a xs) ∧ ∃ W : Nat → Nat → Aw.St → Hp → Prop, (∃ m, W 0 m σ H) ∧ ∀ i m σ H, W i m σ H →
      ((Itl K a).stop i H ∧ D.nx σ H) ∨ ((Itl K a).go i H ∧ ∃ N : Aw.St → Hp → Prop, (∀ σ' H', N σ' H' → ∃ m', m' < m ∧ W (i + 1) m' σ' H') ∧ ∀ x H', (Itl K a).yld i H x H' → g x σ H' fun σ2 H2 => tb { D with nx := N, ct := N, bk := D.nx } σ2 H2)) ∨
    ((∃ xs, SqT K H a xs) ∧ ∃ W : Nat → Nat → Aw.St → Hp → Prop, (∃ m, W 0 m σ H) ∧ ∀ i m σ H, W i m σ H →
      ((Itt K a).stop i H ∧ D.nx σ H) ∨ ((Itt K a).go i H ∧ ∃ N : Aw.St → Hp → Prop, (∀ σ' H', N σ' H' → ∃ m', m' < m ∧ W (i + 1) m' σ' H') ∧ ∀ x H', (Itt K a).yld i H x H' → g x σ H' fun σ2 H2 => tb { D with nx := N, ct := N, bk := D.nx } σ2 H2)) :=
  hl.imp (fun h => ⟨⟨xs, h 0 σ H (Nat.zero_le _) h0⟩, for_list Pv h0 h hs hd⟩) (fun h => ⟨⟨xs, h 0 σ H (Nat.zero_le _) h0⟩, for_tup Pv h0 h hs hd⟩)
/-- a list or a tuple of a heap -/
def SeqH (H : Hp) (a : Addr) (xs : List V) : Prop := H a = some (.lst xs) ∨ H a = some (.tup xs)
theorem SeqH.sq {K : PySem.W.Frag} {H : Hp} {a : Addr} {xs : List V} (h : SeqH H a xs) : SqL K H a xs ∨ SqT K H a xs := h.imp SqL.of SqT.of
theorem SeqH.same {H H' : Hp} {a : Addr} {xs : List V} (h : SeqH H a xs) (s : Same H H') : SeqH H' a xs := h.imp (s _ _) (s _ _)
/-- the Pv of for_seq keeps what was there -/
theorem SeqH.all {K : PySem.W.Frag} {H : Hp} {a : Addr} {xs : List V} {n : Nat} {Pv : Nat → Aw.St → Hp → Prop} (h : SeqH H a xs) (hp : ∀ i σ H', Pv i σ H' → Same H H') : (∀ i σ H', i ≤ n → Pv i σ H' → SqL K H' a xs) ∨ (∀ i σ H', i ≤ n → Pv i σ H' → SqT K H' a xs) :=
  h.imp (fun e i σ H' _ p => SqL.of (hp i σ H' p _ _ e)) (fun e i σ H' _ p => SqT.of (hp i σ H' p _ _ e))
/-- runs in the heap: the three numbers in a list or a tuple -/
inductive RnA (H : Hp) : List V → List (Int × Int × Int) → Prop
  | nil : RnA H [] []
  | cons {t : Addr} {f l c : Int} {vs : List V} {rs : List (Int × Int × Int)} : SeqH H t [.int f, .int l, .int c] → RnA H vs rs → RnA H (.ref t :: vs) ((f, l, c) :: rs)
theorem RnA.same {H H' : Hp} (s : Same H H') : ∀ {vs : List V} {P : List (Int × Int × Int)}, RnA H vs P → RnA H' vs P
  | _, _, .nil => .nil
  | _, _, .cons h r => .cons (h.same s) (RnA.same s r)
theorem RnA.length {H : Hp} : ∀ {vs : List V} {P : List (Int × Int × Int)}, RnA H vs P → vs.length = P.length
  | _, _, .nil => rfl
  | _, _, .cons _ r => congrArg (· + 1) (RnA.length r)
theorem RnA.get {H : Hp} : ∀ {vs : List V} {P : List (Int × Int × Int)} {i : Nat} {v : V}, RnA H vs P → vs[i]? = some v → ∃ (t : Addr) (x : Int × Int × Int), v = .ref t ∧ P[i]? = some x ∧ SeqH H t [.int x.1, .int x.2.1, .int x.2.2]
  | _, _, _, _, .nil, e => by simp at e
  | _, _, 0, _, .cons h _, e => by
    cases Option.some.inj e
    exact ⟨_, _, rfl, rfl, h⟩
  | _, _, i + 1, _, .cons _ r, e => RnA.get (i := i) r (by simpa using e)
end Aw

namespace Aw
open PySem PySem.Spec PyProof.Rows L2 NdefX
/-! ### a list or a tuple of the heap or of the written part; enumerate of either -/
def SeqK (K : PySem.W.Frag) (H : Hp) (a : Addr) (xs : List V) : Prop := SqL K H a xs ∨ SqT K H a xs
theorem SeqH.k {K : PySem.W.Frag} {H : Hp} {a : Addr} {xs : List V} (h : SeqH H a xs) : SeqK K H a xs := h.sq
theorem rd_same {H H' : Hp} {a : Addr} {u : HO} (h : L2.Rd H a u) (s : Same H H') : L2.Rd H' a u := h.imp (s _ _) fun ⟨o, e⟩ => ⟨o, s _ _ e⟩
theorem sql_same {K : PySem.W.Frag} {H H' : Hp} {a : Addr} {xs : List V} (h : SqL K H a xs) (s : Same H H') : SqL K H' a xs := h.imp (fun z => rd_same z s) id
theorem sqt_same {K : PySem.W.Frag} {H H' : Hp} {a : Addr} {xs : List V} (h : SqT K H a xs) (s : Same H H') : SqT K H' a xs := h.imp (fun z => rd_same z s) id
theorem SeqK.same {K : PySem.W.Frag} {H H' : Hp} {a : Addr} {xs : List V} (h : SeqK K H a xs) (s : Same H H') : SeqK K H' a xs := h.imp (fun z => sql_same z s) (fun z => sqt_same z s)
theorem SeqK.all {K : PySem.W.Frag} {H : Hp} {a : Addr} {xs : List V} {n : Nat} {Pv : Nat → Aw.St → Hp → Prop} (h : SeqK K H a xs) (hp : ∀ i σ H', Pv i σ H' → Same H H') : (∀ i σ H', i ≤ n → Pv i σ H' → SqL K H' a xs) ∨ (∀ i σ H', i ≤ n → Pv i σ H' → SqT K H' a xs) :=
  h.imp (fun e i σ H' _ p => sql_same e (hp i σ H' p)) (fun e i σ H' _ p => sqt_same e (hp i σ H' p))
theorem rd_but {H H' : Hp} {a b C dx : Addr} {fs : List (Str × V)} {u : HO} (h : L2.Rd H a u) (hb : H b = some (.ins C dx fs)) (hu : u ≠ .ins C dx fs) (k : ∀ c o, H c = some o → c ≠ b → H' c = some o) : L2.Rd H' a u := by
  rcases h with h | ⟨o, h⟩
  · exact .inl (k _ _ h (ne_of h hb hu))
  · exact .inr ⟨o, k _ _ h (ne_of h hb (fun z => by cases z))⟩
theorem SeqK.but {K : PySem.W.Frag} {H H' : Hp} {a b C dx : Addr} {fs : List (Str × V)} {xs : List V} (h : SeqK K H a xs) (hb : H b = some (.ins C dx fs)) (k : ∀ c o, H c = some o → c ≠ b → H' c = some o) : SeqK K H' a xs :=
  h.imp (fun z => z.imp (fun z => rd_but z hb (fun e => by cases e) k) id) (fun z => z.imp (fun z => rd_but z hb (fun e => by cases e) k) id)
theorem SeqH.but {H H' : Hp} {a b C dx : Addr} {fs : List (Str × V)} {xs : List V} (h : SeqH H a xs) (hb : H b = some (.ins C dx fs)) (k : ∀ c o, H c = some o → c ≠ b → H' c = some o) : SeqH H' a xs :=
  h.imp (fun z => k _ _ z (ne_of z hb (fun e => by cases e))) (fun z => k _ _ z (ne_of z hb (fun e => by cases e)))
theorem RnA.but {H H' : Hp} {b C dx : Addr} {fs : List (Str × V)} (hb : H b = some (.ins C dx fs)) (k : ∀ c o, H c = some o → c ≠ b → H' c = some o) : ∀ {vs : List V} {rs : List (Int × Int × Int)}, RnA H vs rs → RnA H' vs rs
  | _, _, .nil => .nil
  | _, _, .cons h r => .cons (h.but hb k) (RnA.but hb k r)
def iEnumS (K : PySem.W.Frag) (ta : TA) : TI := fun σ H R => ta σ H fun vs H1 => ∃ a, vs = [.ref a] ∧ ((∃ xs, SqL K H1 a xs ∧ R (Ite K a) H1) ∨ (∃ xs, SqT K H1 a xs ∧ R (Itu K a) H1))
theorem pi_enumS {X : Cx} {e : Expr} {ta : TA} {p pos tpos : Pos} {elts : List Expr} {kk : Nat} (hg : Gl X "enumerate") (hm : X.mg "enumerate" = none) (ha : PA X [e] ta) (hs : starEach [e] X.env = [(false, eval e X.env)] := by rfl) :
    PI X (.Tuple elts kk tpos) (.Call (.Name "enumerate" p) [e] [] pos) (iEnumS X.K ta) := by
  refine ⟨fun pins s σ H R I h => ?_⟩
  refine Call_ (ld_blt I hg hm boot_enumerate (PyProof.Rows.callWith_type1 (thn (ha.run pos pins s σ H _ I h) fun us s1 ⟨vs, H1, I1, r1, q1⟩ => ?_) hs rfl))
  obtain ⟨a, ex, q⟩ := q1
  subst ex
  cases r1 with
  | cons r rr =>
    cases rr
    cases r
    have fr : ∀ b ∈ [s1.heap.objs.size + 1, s1.heap.objs.size], s1.heap.objs.size ≤ b := fun b hb => by
      have e' : b = s1.heap.objs.size + 1 ∨ b = s1.heap.objs.size := by simpa using hb
      rcases e' with z | z
      · rw [z]; exact Nat.le_add_right _ _
      · rw [z]; exact Nat.le_refl _
    rcases q with ⟨xs, hq, q⟩ | ⟨xs, hq, q⟩
    · obtain ⟨its, rv, p', hz⟩ := I1.list hq
      refine call_enumerate_list p'.isList fun h' he hit hsz hk => wpAny_pyIter_enum he ?_
      have I2 : Inv X pins σ H1 { s1 with heap := h' } := I1.kept (t' := s1.toks) hk
      exact ⟨s1.heap.objs.size + 1, [s1.heap.objs.size + 1, s1.heap.objs.size], _, _, H1, rfl, I2, turn_enum a (s1.heap.objs.size + 1) s1.heap.objs.size, ⟨⟨.none, he⟩, hit, Nat.succ_ne_self _⟩, fun b hb => I1.fpOk (fr b hb) (I1.hok.fresh (fr b hb)), q⟩
    · obtain ⟨its, rv, p', hz⟩ := I1.tuple hq
      refine enum_begins1 (begins_tuple a its.toArray) p' fun h' he hi hsz hk => wpAny_pyIter_enum he ?_
      have I2 : Inv X pins σ H1 { s1 with heap := h' } := I1.kept (t' := s1.toks) hk
      exact ⟨s1.heap.objs.size + 1, [s1.heap.objs.size + 1, s1.heap.objs.size], _, _, H1, rfl, I2, turn_enumT a (s1.heap.objs.size + 1) s1.heap.objs.size, ⟨⟨.none, he⟩, ⟨_, hi, rfl, rfl⟩, Nat.succ_ne_self _⟩, fun b hb => I1.fpOk (fr b hb) (I1.hok.fresh (fr b hb)), q⟩
theorem for_enumS {K : PySem.W.Frag} {a : Addr} {xs : List V} {g : TG} {tb : TS} {D : Ends} {σ : Aw.St} {H : Hp} (Pv : Nat → Aw.St → Hp → Prop) (h0 : Pv 0 σ H) (hl : (∀ i σ H, i ≤ xs.length → Pv i σ H → SqL K H a xs) ∨ (∀ i σ H, i ≤ xs.length → Pv i σ H → SqT K H a xs))
    (hs : ∀ i x σ H T, xs[i]? = some x → Pv i σ H → H T = none → g (.ref T) σ (upd H T (.tup [.int (i : Nat), x])) fun σ2 H2 => tb { D with nx := Pv (i + 1), ct := Pv (i + 1), bk := D.nx } σ2 H2)
    (hd : ∀ σ H, Pv xs.length σ H → D.nx σ H) : tFor (fun _ H R => (∃ xs, SqL K H a xs ∧ R (Ite K a) H) ∨ (∃ xs, SqT K H a xs ∧ R (Itu K a) H)) g tb D σ H :=
  hl.imp (fun h => ⟨xs, h 0 _ _ (Nat.zero_le _) h0, for_enum Pv h0 h hs hd⟩) (fun h => ⟨xs, h 0 _ _ (Nat.zero_le _) h0, for_enumT Pv h0 h hs hd⟩)
end Aw

namespace Aw
open PySem PySem.Spec PyProof.Rows L2 NdefX
theorem cls_rg : ∀ c : Nat, c < 5 → ∀ a : Nat, a < c → ((c : Int) ≠ 0 ∧ (c : Int).natAbs < 1073741824 ∧ Builtin.Range.small (a : Nat) 12 (c : Nat) = true ∧ Builtin.Range.rangeSize (a : Nat) 12 (c : Nat) = (clsN a c : Nat)) ∧ clsN a c ≤ 12 := by decide +kernel
def spPor (K : PySem.W.Frag) : Sp := fun vs H Q _ => ∃ (R : Addr) (xs : List V) (s : Int) (rs : List (Int × Int × Int)), vs = [.int s, .ref R] ∧ SeqK K H R xs ∧ RnA H xs rs ∧ 0 < s ∧ rs.length ≤ 20 ∧ (∀ r ∈ rs, RunOk r s) ∧
  ∀ (L : Addr) (zs : List V) (H' : Hp), Same H H' → H L = none → H' L = some (.lst zs) → PcA H' zs (runsP s rs) → Q (.ref L) H'
section
variable {P : Program} {w : World} {K : PySem.W.Frag} {mg : Str → Option Value} {base : Heap}
theorem scPor : FnScope ["size", "runs", "pieces", "first", "last", "step", "places"] ["size", "runs"] (defScope sPor) := ⟨rfl, rfl, rfl, by decide +kernel, rfl, by decide +kernel, by decide +kernel⟩
structure TxtPor (K : PySem.W.Frag) (mg : Str → Option Value) (fC fA fT fM : Addr) (cd ad td md : FuncData) (t12 : Tok) : Prop where
  C : TxtCls mg
  FC : Fun K "class_mask" "class_mask" sClassm fC cd
  bC : Binds K cd ["wide", "at", "of"] []
  gC : mg "class_mask" = some (.ref fC)
  FA : Fun K "added" "added" sAdded fA ad
  bA : Binds K ad ["one", "other"] []
  gA : mg "added" = some (.ref fA)
  FT : Fun K "tidied" "tidied" sTidy fT td
  bT : Binds K td ["pieces"] []
  gT : mg "tidied" = some (.ref fT)
  FM : Fun K "merged" "merged" sMerge fM md
  bM : Binds K md ["one", "other"] []
  gM : mg "merged" = some (.ref fM)
  gB : mg "BASE" = some (.int 12 t12)
theorem ok_por {f fC fA fT fM : Addr} {fd cd ad td md : FuncData} {t12 : Tok} (F : Fun K "pieces_of_runs" "pieces_of_runs" sPor f fd) (W : TxtPor K mg fC fA fT fM cd ad td md t12) : FnOk P w K mg base CX0 3 f fd ["size", "runs"] (spPor K) := by
  have GC : FnOk P w K mg base CX0 1 fC cd ["wide", "at", "of"] spClassm := ok_classm W.FC W.C
  have GA : FnOk P w K mg base CX0 2 fA ad ["one", "other"] spAdded := ok_added W.FA W.FT W.FM W.bT W.bM W.gT W.gM
  refine F.ok scPor (fun vs H Q E h => ?_) (fun cdv A outer s H vs Q E hr h => ?_)
  · obtain ⟨R, xs, s, rs, rfl, _⟩ := h
    rfl
  · obtain ⟨R, xs, sz, rs, rfl, hR, ra, s0, ln, ro, hQ⟩ := h
    have nd := scPor.nd
    refine ⟨_, (pss_cons (ps_set (i := 2) nd rfl (Or.inl rfl) (pe_lst (pa_cons (pe_tup (pa_cons (pv 0) (pa_cons pe_int pa_nil))) pa_nil)))
      (pss_cons (ps_for PassesOwn.never rfl (pi_seq (pv 1)) (pg_seq rfl (pgs_cons (pg_name (i := 3) nd rfl (Or.inl rfl)) (pgs_cons (pg_name (i := 4) nd rfl (Or.inl rfl)) (pgs_cons (pg_name (i := 5) nd rfl (Or.inl rfl)) pgs_nil))))
        (pss_cons (ps_set (i := 6) nd rfl (Or.inl rfl) (pe_call GC (hr.mono (by decide)) (by rfl) W.gC W.FC.kp W.bC .nil pass0 (pa_cons (pe_glob (v := .int 12) (by rfl) W.gB ⟨_, rfl⟩) (pa_cons (pe_op op_mod (pv 3) (pv 5)) (pa_cons (pv 5) pa_nil)))))
        (pss_one (ps_set (i := 2) nd rfl (Or.inl rfl) (pe_call GA (hr.mono (by decide)) (by rfl) W.gA W.FA.kp W.bA .nil pass0 (pa_cons (pv 2) (pa_cons (pe_lst (pa_cons (pe_tup (pa_cons (pv 3) (pa_cons pe_int pa_nil))) (pa_cons (pe_tup (pa_cons (pe_op op_add (pv 4) pe_int) (pa_cons (pv 6) pa_nil))) (pa_cons (pe_tup (pa_cons (pv 0) (pa_cons pe_int pa_nil))) pa_nil)))) pa_nil)))))))
      (pss_one (ps_ret (pv 2))))), ?_⟩
    -- BODY
    have lx := ra.length
    refine ⟨_, rfl, by show 2 ≤ sizeLine; decide, fun T0 hT0 => ⟨by show 1 ≤ sizeLine; decide, fun L0 hL0 => ?_⟩⟩
    have s0' := (same_upd (o := .tup [.int sz, .int 0]) hT0).trans (same_upd (o := .lst [.ref T0]) hL0)
    have hL0' : H L0 = none := (same_upd (o := .tup [.int sz, .int 0]) hT0).free hL0
    have eT0 : upd (upd H T0 (.tup [.int sz, .int 0])) L0 (.lst [.ref T0]) T0 = some (.tup [.int sz, .int ((0 : Nat) : Int)]) := same_upd hL0 _ _ upd_same
    have eL0 : upd (upd H T0 (.tup [.int sz, .int 0])) L0 (.lst [.ref T0]) L0 = some (.lst [.ref T0]) := upd_same
    generalize upd (upd H T0 (.tup [.int sz, .int 0])) L0 (.lst [.ref T0]) = H1 at *
    refine ⟨_, rfl, R, rfl, ?_⟩
    refine for_seq (a := R) (xs := xs) (fun i σ H2 => ∃ (L : Addr) (v3 v4 v5 v6 : Option V) (zs : List V), σ = [some (.int sz), some (.ref R), some (.ref L), v3, v4, v5, v6] ∧ Same H H2 ∧ H L = none ∧ H2 L = some (.lst zs) ∧ PcA H2 zs (runsP sz (rs.take i))) ⟨L0, none, none, none, none, [.ref T0], rfl, s0', hL0', eL0, .cons eT0 .nil⟩ (hR.all fun i σ H2 z => by
      obtain ⟨_, _, _, _, _, _, _, s2, _⟩ := z
      exact s2) ?_ ?_
    · rintro i v σ H2 hv ⟨L, v3, v4, v5, v6, zs, rfl, s2, hL, e2, pz⟩
      obtain ⟨t, ⟨f, l, c⟩, rfl, ix, et⟩ := (ra.same s2).get hv
      have et2 : rs.take (i + 1) = rs.take i ++ [(f, l, c)] := by rw [List.take_succ, ix]; rfl
      have rk : RunOk (f, l, c) sz := ro _ (List.mem_of_getElem? ix)
      obtain ⟨f0, fl, ls, c1, c4⟩ := rk
      dsimp only at f0 fl ls c1 c4 et
      obtain ⟨ok1, ok2, ok3⟩ := runs_ok s0 (rs := rs.take i) fun r hr => ro r (List.mem_of_mem_take hr)
      have lt : (rs.take i).length ≤ 20 := by rw [List.length_take]; omega
      refine ⟨t, _, rfl, et.sq, rfl, _, _, rfl, _, _, rfl, _, _, rfl, rfl, ?_⟩
      refine ⟨_, rfl, _, rfl, f, c, rfl, rfl, by omega, _, rfl, ?_⟩
      have a1 := Int.emod_nonneg f (show c ≠ 0 by omega)
      have a2 := Int.emod_lt_of_pos f (show 0 < c by omega)
      obtain ⟨a, ha⟩ : ∃ a : Nat, f % c = (a : Nat) := ⟨(f % c).toNat, by omega⟩
      obtain ⟨cn, hc⟩ : ∃ cn : Nat, c = (cn : Nat) := ⟨c.toNat, by omega⟩
      obtain ⟨rg, nb⟩ := cls_rg cn (by omega) a (by omega)
      have em : clsS a cn (clsN a cn) = runM (f, l, c) := by
        unfold runM clsM
        dsimp only
        rw [ha, hc, Int.toNat_natCast, Int.toNat_natCast]
      have kb : clsN a cn * cn ≤ 12 * 4 := Nat.mul_le_mul nb (by omega)
      refine ⟨12, a, cn, clsN a cn, by rw [← ha, ← hc]; rfl, rg, by omega, by omega, fun H3 s3 => ?_⟩
      rw [em]
      have e3 := s3 _ _ e2
      have p3 := pz.same s3
      refine ⟨_, rfl, _, rfl, by show 2 ≤ sizeLine; decide, fun T1 h1 => ⟨_, rfl, l, 1, rfl, rfl, _, rfl, by show 2 ≤ sizeLine; decide, fun T2 h2 => ⟨_, rfl, by show 2 ≤ sizeLine; decide, fun T3 h3 => ⟨by show 3 ≤ sizeLine; decide, fun B hB => ?_⟩⟩⟩⟩
      have q1 := same_upd (o := .tup [.int f, .int 0]) h1
      have q2 := same_upd (o := .tup [.int (l + 1), .int (runM (f, l, c) : Nat)]) h2
      have q3 := same_upd (o := .tup [.int sz, .int 0]) h3
      have q4 := same_upd (o := .lst [.ref T1, .ref T2, .ref T3]) hB
      have g1 := q4 _ _ (q3 _ _ (q2 _ _ (upd_same (H := H3) (a := T1) (o := .tup [.int f, .int ((0 : Nat) : Int)]))))
      have g2 := q4 _ _ (q3 _ _ (upd_same (a := T2) (o := .tup [.int (l + 1), .int (runM (f, l, c) : Nat)])))
      have g3 := q4 _ _ (upd_same (a := T3) (o := .tup [.int sz, .int ((0 : Nat) : Int)]))
      have q := ((q1.trans q2).trans q3).trans q4
      refine ⟨L, B, zs, [.ref T1, .ref T2, .ref T3], runsP sz (rs.take i), runP sz (f, l, c), sz, rfl, q _ _ e3, p3.same q, upd_same, .cons g1 (.cons g2 (.cons g3 .nil)), by omega, by show 3 ≤ 400; decide, ⟨by show f ≤ l + 1; omega, by show l + 1 ≤ sz; omega, rfl⟩, fun x hx => (ok1.asc.mem_le x hx).2, fun R2 zs2 H8 s8 hR2 e8 p8 => ?_⟩
      have s7 := (s2.trans s3).trans q
      refine ⟨R2, _, _, _, _, zs2, rfl, s7.trans s8, s7.free hR2, e8, ?_⟩
      rw [et2]
      unfold runsP
      rw [List.foldl_append]
      exact p8
    · rintro σ H2 ⟨L, v3, v4, v5, v6, zs, rfl, s2, hL, e2, pz⟩
      rw [List.take_of_length_le (by omega)] at pz
      exact ⟨_, rfl, hQ L zs H2 s2 hL e2 pz⟩
end
end Aw

namespace Aw
open PySem PySem.Spec PyProof.Rows L2 NdefX
def loB (f l : V) : Bool := match l with
  | .int i => numB f 0 i
  | _ => false
/-- three values are a run of a size -/
def rB (xs : List V) (s : Int) : Bool := match xs with
  | [f, l, c] => numB l 0 (s - 1) && (loB f l && numB c 1 4)
  | _ => false
theorem kitLT {K : PySem.W.Frag} {a : String} {b1 b2 : Bool} (h1 : kitB a "list" = some b1) (h2 : kitB a "tuple" = some b2) : PySem.W.kitAny K (.type a) [.type "list", .type "tuple"] = some (b1 || b2) :=
  kitAny_cons (b := b1) (r := b1 || b2) (kit_ty h1) (fun e => by
    rw [e]
    exact kitAny_cons (b := b2) (r := false || b2) (kit_ty h2) (fun e2 => by rw [e2]; rfl) (fun e2 => by rw [e2]; rfl)) (fun e => by rw [e]; rfl)
/-- a value that may be a run; whether it is one -/
inductive RunV (H : Hp) (s : Int) : V → Bool → Prop
  | str (x : Str) : RunV H s (.str x) false
  | non : RunV H s .non false
  | bl (b : Bool) : RunV H s (.bl b) false
  | int (i : Int) : RunV H s (.int i) false
  | dct {a : Addr} {kvs : List (Key × V)} (h : H a = some (.dK kvs)) : RunV H s (.ref a) false
  | seq {a : Addr} {xs : List V} (h : SeqH H a xs) (hx : ∀ x ∈ xs, VOk H x) : RunV H s (.ref a) (rB xs s)
theorem RunV.same {H H' : Hp} {s : Int} (k : Same H H') : ∀ {v : V} {b : Bool}, RunV H s v b → RunV H' s v b
  | _, _, .str x => .str x
  | _, _, .non => .non
  | _, _, .bl b => .bl b
  | _, _, .int i => .int i
  | _, _, .dct h => .dct (k _ _ h)
  | _, _, .seq h hx => .seq (h.same k) fun x m => (hx x m).same k
theorem RunV.kit {K : PySem.W.Frag} {H : Hp} {s : Int} {v : V} {b : Bool} (h : RunV H s v b) :
    (b = false ∧ ∀ H', Same H H' → ∃ t, TyX K H' v t ∧ PySem.W.kitAny K t [.type "list", .type "tuple"] = some false) ∨
    (∃ a xs, v = .ref a ∧ SeqH H a xs ∧ (∀ x ∈ xs, VOk H x) ∧ b = rB xs s ∧ ∀ H', Same H H' → ∃ t, TyX K H' v t ∧ PySem.W.kitAny K t [.type "list", .type "tuple"] = some true) := by
  cases h with
  | str x => exact .inl ⟨rfl, fun H' k => ⟨_, .base (.str x), kitLT (show kitB "str" "list" = some false by decide +kernel) (show kitB "str" "tuple" = some false by decide +kernel)⟩⟩
  | non => exact .inl ⟨rfl, fun H' k => ⟨_, .base .non, kitLT (show kitB "NoneType" "list" = some false by decide +kernel) (show kitB "NoneType" "tuple" = some false by decide +kernel)⟩⟩
  | bl b => exact .inl ⟨rfl, fun H' k => ⟨_, .base (.bl b), kitLT (show kitB "bool" "list" = some false by decide +kernel) (show kitB "bool" "tuple" = some false by decide +kernel)⟩⟩
  | int i => exact .inl ⟨rfl, fun H' k => ⟨_, .base (.int i), kitLT (show kitB "int" "list" = some false by decide +kernel) (show kitB "int" "tuple" = some false by decide +kernel)⟩⟩
  | dct h => exact .inl ⟨rfl, fun H' k => ⟨_, .base (.dK (k _ _ h)), kitLT (show kitB "dict" "list" = some false by decide +kernel) (show kitB "dict" "tuple" = some false by decide +kernel)⟩⟩
  | seq h hx =>
    refine .inr ⟨_, _, rfl, h, hx, rfl, fun H' k => ?_⟩
    rcases h with h | h
    · exact ⟨_, .base (.lst (k _ _ h)), kitLT (show kitB "list" "list" = some true by decide +kernel) (show kitB "list" "tuple" = some false by decide +kernel)⟩
    · exact ⟨_, .base (.tup (k _ _ h)), kitLT (show kitB "tuple" "list" = some false by decide +kernel) (show kitB "tuple" "tuple" = some true by decide +kernel)⟩
theorem rB_run {f l c s : Int} : rB [.int f, .int l, .int c] s = true ↔ RunOk (f, l, c) s := by
  show ((decide (0 ≤ l) && decide (l ≤ s - 1)) && ((decide (0 ≤ f) && decide (f ≤ l)) && (decide (1 ≤ c) && decide (c ≤ 4)))) = true ↔ _
  simp only [Bool.and_eq_true, decide_eq_true_eq]
  exact ⟨fun z => ⟨z.2.1.1, z.2.1.2, by show l < s; omega, z.2.2.1, z.2.2.2⟩, fun z => by
    obtain ⟨a, b, d, e, g⟩ := z
    dsimp only at a b d e g
    exact ⟨⟨by omega, by omega⟩, ⟨a, b⟩, e, g⟩⟩
def spIsRun : Sp := fun vs H Q _ => ∃ (v : V) (s : Int) (b : Bool), vs = [v, .int s] ∧ RunV H s v b ∧ ∀ H', Same H H' → Q (.bl b) H'
section
variable {P : Program} {w : World} {K : PySem.W.Frag} {mg : Str → Option Value} {base : Heap}
structure TxtRun (K : PySem.W.Frag) (mg : Str → Option Value) (fN : Addr) (nd' : FuncData) (t4 : Tok) : Prop where
  isi : mg "isinstance" = none
  list : mg "list" = none
  tup : mg "tuple" = none
  len : mg "len" = none
  int : mg "int" = none
  bool : mg "bool" = none
  FN : Fun K "is_number" "is_number" sNum fN nd'
  bN : Binds K nd' ["value", "low", "high"] []
  gN : mg "is_number" = some (.ref fN)
  g4 : mg "MOST_STEP" = some (.int 4 t4)
theorem scIsRun : FnScope ["run", "size", "first", "last", "step"] ["run", "size"] (defScope sIsRun) := ⟨rfl, rfl, rfl, by decide +kernel, rfl, by decide +kernel, by decide +kernel⟩
theorem ok_isrun {f fN : Addr} {fd nd' : FuncData} {t4 : Tok} (F : Fun K "is_run" "is_run" sIsRun f fd) (W : TxtRun K mg fN nd' t4) : FnOk P w K mg base CX0 2 f fd ["run", "size"] spIsRun := by
  have GN : FnOk P w K mg base CX0 1 fN nd' ["value", "low", "high"] spNum := ok_num W.FN W.isi W.int W.bool
  refine F.ok scIsRun (fun vs H Q E h => ?_) (fun cdv A outer s H vs Q E hr h => ?_)
  · obtain ⟨v, s, b, rfl, _⟩ := h
    rfl
  · obtain ⟨v, sz, b, rfl, rv, hQ⟩ := h
    have nd := scIsRun.nd
    refine ⟨_, (pss_cons (ps_if (PW.pt (pw_or (pt_not (pt_val (pe_callB call_isiT (by rfl) W.isi (by decide +kernel) (pa_cons (pv 0) (pa_cons (pe_tup (pa_cons (pe_bltn (v := .ty "list") (by rfl) W.list (by decide +kernel) rfl) (pa_cons (pe_bltn (v := .ty "tuple") (by rfl) W.tup (by decide +kernel) rfl) pa_nil))) pa_nil))))) (pw_or1 (pt_cmpR op_ne (pe_callB call_len_seq (by rfl) W.len PySem.boot_len (pa_cons (pv 0) pa_nil)) pe_int (nomark _)))))
        (pss_one (ps_ret pe_bl)) pss_nil)
      (pss_cons (ps_asg (pv 0) (pg_seq rfl (pgs_cons (pg_name (i := 2) nd rfl (Or.inl rfl)) (pgs_cons (pg_name (i := 3) nd rfl (Or.inl rfl)) (pgs_cons (pg_name (i := 4) nd rfl (Or.inl rfl)) pgs_nil)))))
      (pss_one (ps_ret (pe_and (pe_call GN (hr.mono (by decide)) (by rfl) W.gN W.FN.kp W.bN .nil pass0 (pa_cons (pv 3) (pa_cons pe_int (pa_cons (pe_op op_sub (pv 1) pe_int) pa_nil)))) (pe_and (pe_call GN (hr.mono (by decide)) (by rfl) W.gN W.FN.kp W.bN .nil pass0 (pa_cons (pv 2) (pa_cons pe_int (pa_cons (pv 3) pa_nil)))) (pe_one (pe_call GN (hr.mono (by decide)) (by rfl) W.gN W.FN.kp W.bN .nil pass0 (pa_cons (pv 4) (pa_cons pe_int (pa_cons (pe_glob (v := .int 4) (by rfl) W.g4 ⟨_, rfl⟩) pa_nil))))))))))), ?_⟩
    -- BODY
    refine ⟨_, rfl, by show 2 ≤ sizeLine; decide, fun T hT => ?_⟩
    have sT := same_upd (o := .tup [.ty "list", .ty "tuple"]) hT
    have eT : upd H T (.tup [.ty "list", .ty "tuple"]) T = some (.tup [.ty "list", .ty "tuple"]) := upd_same
    generalize upd H T (.tup [.ty "list", .ty "tuple"]) = H1 at *
    rcases rv.kit (K := K) with ⟨rfl, kt⟩ | ⟨a, xs, rfl, sq, hx, rfl, kt⟩
    · obtain ⟨t, ty, ka⟩ := kt H1 sT
      refine ⟨v, T, _, t, _, false, rfl, eT, .cons (.ty _) (.cons (.ty _) .nil), ty, ka, ?_⟩
      exact ⟨_, rfl, iteT (iteT (hQ _ sT))⟩
    · obtain ⟨t, ty, ka⟩ := kt H1 sT
      have sq1 := sq.same sT
      refine ⟨_, T, _, t, _, true, rfl, eT, .cons (.ty _) (.cons (.ty _) .nil), ty, ka, ?_⟩
      refine ⟨_, rfl, iteF ?_⟩
      refine ⟨_, rfl, a, xs, rfl, sq1.sq, rfl, _, rfl, ite_ndec (fun g => ?_) (fun g => ?_)⟩
      · have ne : xs.length ≠ 3 := fun z => g (by rw [z]; rfl)
        have e : rB xs sz = false := by
          match xs with
          | [] => rfl
          | [_] => rfl
          | [_, _] => rfl
          | [_, _, _] => exact absurd rfl ne
          | _ :: _ :: _ :: _ :: _ => rfl
        rw [e] at hQ
        exact hQ _ sT
      · have l3 : xs.length = 3 := Int.ofNat_inj.mp (V.int.inj g)
        obtain ⟨f, l, c, rfl⟩ : ∃ f l c, xs = [f, l, c] := by
          match xs, l3 with
          | [f, l, c], _ => exact ⟨f, l, c, rfl⟩
        have of' := (hx f (by simp)).same sT
        have ol := (hx l (by simp)).same sT
        have oc := (hx c (by simp)).same sT
        refine nxt ?_
        dsimp only
        refine ⟨_, rfl, a, _, rfl, sq1.sq, rfl, _, _, rfl, _, _, rfl, _, _, rfl, rfl, ?_⟩
        refine ⟨_, rfl, _, rfl, sz, 1, rfl, rfl, l, 0, sz - 1, rfl, ol, ?_⟩
        have hQ : ∀ H', Same H H' → Q (.bl (numB l 0 (sz - 1) && (loB f l && numB c 1 4))) H' := hQ
        refine ⟨_, rfl, ?_⟩
        cases e1 : numB l 0 (sz - 1) with
        | false =>
          rw [e1] at hQ
          exact iteF (hQ _ sT)
        | true =>
          obtain ⟨li, rfl⟩ : ∃ li, l = .int li := by
            cases l with
            | int i => exact ⟨i, rfl⟩
            | _ => exact Bool.noConfusion e1
          rw [e1] at hQ
          have hQ : ∀ H', Same H H' → Q (.bl (numB f 0 li && numB c 1 4)) H' := hQ
          refine iteT ?_
          refine ⟨_, rfl, _, rfl, f, 0, li, rfl, of', _, rfl, ?_⟩
          cases e2 : numB f 0 li with
          | false =>
            rw [e2] at hQ
            exact iteF (hQ _ sT)
          | true =>
            rw [e2] at hQ
            refine iteT ?_
            exact ⟨_, rfl, c, 1, 4, rfl, oc, hQ _ sT⟩
end
end Aw

namespace Aw
open PySem PySem.Spec PyProof.Rows L2 NdefX
def spWidth : Sp := fun vs H Q _ => ∃ d : Nat, vs = [.int (d : Nat)] ∧ d ≤ 1000 ∧ Q (.int ((12 * 2 ^ d : Nat) : Int)) H
def spFull : Sp := fun vs H Q _ => ∃ d : Nat, vs = [.int (d : Nat)] ∧ d ≤ 1000000 ∧ Q (.int ((2 ^ d - 1 : Nat) : Int)) H
section
variable {P : Program} {w : World} {K : PySem.W.Frag} {mg : Str → Option Value} {base : Heap}
theorem scWidth : FnScope ["depth"] ["depth"] (defScope sWidth) := ⟨rfl, rfl, rfl, by decide +kernel, rfl, by decide +kernel, by decide +kernel⟩
theorem scFull : FnScope ["many"] ["many"] (defScope sFull) := ⟨rfl, rfl, rfl, by decide +kernel, rfl, by decide +kernel, by decide +kernel⟩
theorem ok_width {f : Addr} {fd : FuncData} {t12 : Tok} (F : Fun K "width" "width" sWidth f fd) (gB : mg "BASE" = some (.int 12 t12)) : FnOk P w K mg base CX0 1 f fd ["depth"] spWidth := by
  refine F.ok scWidth (fun vs H Q E h => ?_) (fun cdv A outer s H vs Q E hr h => ?_)
  · obtain ⟨d, rfl, _⟩ := h
    rfl
  · obtain ⟨d, rfl, hd, hQ⟩ := h
    have nd := scWidth.nd
    refine ⟨_, (pss_one (ps_ret (pe_op op_shl (pe_glob (v := .int 12) (by rfl) gB ⟨_, rfl⟩) (pv 0)))), ?_⟩
    refine ⟨_, rfl, 12, (d : Nat), rfl, rfl, ⟨by omega, by omega, by decide⟩, ?_⟩
    have e : (12 : Int) * 2 ^ ((d : Nat) : Int).toNat = ((12 * 2 ^ d : Nat) : Int) := by
      rw [Int.toNat_natCast, Int.natCast_mul, Int.natCast_pow]
      rfl
    show Q (.int ((12 : Int) * 2 ^ ((d : Nat) : Int).toNat)) H
    rw [e]
    exact hQ
theorem ok_full {f : Addr} {fd : FuncData} (F : Fun K "full" "full" sFull f fd) : FnOk P w K mg base CX0 1 f fd ["many"] spFull := by
  refine F.ok scFull (fun vs H Q E h => ?_) (fun cdv A outer s H vs Q E hr h => ?_)
  · obtain ⟨d, rfl, _⟩ := h
    rfl
  · obtain ⟨d, rfl, hd, hQ⟩ := h
    have nd := scFull.nd
    refine ⟨_, (pss_one (ps_ret (pe_op op_sub (pe_op op_shl pe_int (pv 0)) pe_int))), ?_⟩
    refine ⟨_, rfl, 1, (d : Nat), rfl, rfl, ⟨by omega, by omega, by decide⟩, _, 1, rfl, rfl, ?_⟩
    have e : (1 : Int) * 2 ^ ((d : Nat) : Int).toNat - 1 = ((2 ^ d - 1 : Nat) : Int) := by
      rw [Int.toNat_natCast, Int.one_mul, Int.natCast_sub (Nat.one_le_two_pow), Int.natCast_pow]
      rfl
    show Q (.int ((1 : Int) * 2 ^ ((d : Nat) : Int).toNat - 1)) H
    rw [e]
    exact hQ
end
end Aw

namespace Aw
open PySem PySem.Spec PyProof.Rows L2 NdefX
/-! ### how many bits, how many places -/
def popW (m w : Nat) : Nat := ((List.range w).filter fun i => m.testBit i).length
theorem popW_succ {m w : Nat} : popW m (w + 1) = m % 2 + popW (m / 2) w := by
  unfold popW
  rw [List.range_succ_eq_map]
  have e : ((List.range w).map Nat.succ).filter (fun i => m.testBit i) = ((List.range w).filter fun i => (m / 2).testBit i).map Nat.succ := by
    rw [List.filter_map]
    congr 1
    apply List.filter_congr
    intro i _
    show m.testBit (i + 1) = _
    rw [Nat.testBit_succ]
  by_cases z : m.testBit 0 = true
  · rw [List.filter_cons_of_pos (p := fun i => m.testBit i) z, e, List.length_cons, List.length_map]
    rw [Nat.testBit_zero] at z
    have := of_decide_eq_true z
    omega
  · rw [List.filter_cons_of_neg (p := fun i => m.testBit i) z, e, List.length_map]
    rw [Nat.testBit_zero] at z
    have : ¬ m % 2 = 1 := fun h => z (decide_eq_true h)
    omega
theorem popW_le {m w : Nat} : popW m w ≤ w := by
  unfold popW
  exact Nat.le_trans (List.length_filter_le _ _) (by rw [List.length_range]; exact Nat.le_refl _)
theorem bin_lt {n : Nat} (h : n < 2) : binC n = [48 + n] := by
  unfold binC
  rw [Nat.toDigits_of_lt_base h]
  rcases (show n = 0 ∨ n = 1 by omega) with rfl | rfl <;> rfl
theorem bin_ge {n : Nat} (h : 2 ≤ n) : binC n = binC (n / 2) ++ [48 + n % 2] := by
  unfold binC
  rw [Nat.toDigits_of_base_le (by decide) h, List.map_append]
  rcases (show n % 2 = 0 ∨ n % 2 = 1 by omega) with e | e <;> rw [e] <;> rfl
/-- the bits of a number, from the last sign on -/
theorem bin_at : ∀ (w n : Nat), n < 2 ^ w → 0 < w → ∀ i, (binC n).reverse[i]? = if i < (binC n).length then some (if n.testBit i then 49 else 48) else none
  | 0, _, _, h, _ => absurd h (Nat.lt_irrefl _)
  | w + 1, n, hn, _, i => by
    by_cases z : n < 2
    · rw [bin_lt z]
      cases i with
      | zero =>
        rcases (show n = 0 ∨ n = 1 by omega) with rfl | rfl <;> rfl
      | succ i => rfl
    · have w0 : 0 < w := by
        rcases Nat.eq_zero_or_pos w with e | e
        · rw [e] at hn
          exact absurd hn (by show ¬ n < 2; omega)
        · exact e
      have hp : 2 ^ (w + 1) = 2 * 2 ^ w := by rw [Nat.pow_succ, Nat.mul_comm]
      have ih := bin_at w (n / 2) (by omega) w0
      rw [bin_ge (by omega), List.reverse_append, List.length_append]
      cases i with
      | zero =>
        show some (48 + n % 2) = if 0 < (binC (n / 2)).length + 1 then _ else _
        rw [if_pos (Nat.succ_pos _), Nat.testBit_zero]
        rcases (show n % 2 = 0 ∨ n % 2 = 1 by omega) with e | e <;> rw [e] <;> rfl
      | succ i =>
        show (binC (n / 2)).reverse[i]? = if i + 1 < (binC (n / 2)).length + 1 then _ else _
        rw [ih i, Nat.testBit_succ]
        by_cases q : i < (binC (n / 2)).length
        · rw [if_pos q, if_pos (Nat.succ_lt_succ q)]
        · rw [if_neg q, if_neg (fun h => q (Nat.lt_of_succ_lt_succ h))]
theorem bin_len : ∀ (w n : Nat), n < 2 ^ w → (binC n).length ≤ w + 1
  | 0, n, h => by
    have h : n < 1 := h
    rw [bin_lt (by omega)]
    exact Nat.le_refl _
  | w + 1, n, h => by
    by_cases z : n < 2
    · rw [bin_lt z]
      show 1 ≤ _
      omega
    · have hp : 2 ^ (w + 1) = 2 * 2 ^ w := by rw [Nat.pow_succ, Nat.mul_comm]
      have := bin_len w (n / 2) (by omega)
      rw [bin_ge (by omega), List.length_append]
      show _ + 1 ≤ _
      omega
theorem cnt_bin : ∀ (w n : Nat), n < 2 ^ w → cnt 49 (binC n) = (popW n w : Nat)
  | 0, n, h => by
    have h : n < 1 := h
    rw [bin_lt (by omega), show n = 0 by omega]
    rfl
  | w + 1, n, h => by
    have hp : 2 ^ (w + 1) = 2 * 2 ^ w := by rw [Nat.pow_succ, Nat.mul_comm]
    have c1 : ∀ k, k < 2 → cnt 49 [48 + k] = (k : Nat) := fun k hk => by rcases (show k = 0 ∨ k = 1 by omega) with rfl | rfl <;> rfl
    rw [popW_succ]
    by_cases z : n < 2
    · have h0 := cnt_bin w 0 (Nat.two_pow_pos w)
      rw [bin_lt (by decide)] at h0
      have h0 : (0 : Int) = (popW 0 w : Nat) := h0
      rw [bin_lt z, c1 n z, show n / 2 = 0 by omega]
      omega
    · have ih := cnt_bin w (n / 2) (by omega)
      rw [bin_ge (by omega), cnt_append, ih, c1 (n % 2) (by omega)]
      omega
/-- how many places below p are marked if the mask holds for all -/
def cntF (m w p : Nat) : Nat := ((List.range p).filter fun j => m.testBit (j % w)).length
theorem cntF_add {m w a b : Nat} : cntF m w (a + b) = cntF m w a + ((List.range b).filter fun j => m.testBit ((a + j) % w)).length := by
  unfold cntF
  rw [List.range_add, List.filter_append, List.length_append, List.filter_map, List.length_map]
  rfl
theorem cntF_lt {m w r : Nat} (h : r ≤ w) : cntF m w r = popW m r := by
  unfold cntF popW
  congr 1
  apply List.filter_congr
  intro j hj
  rw [Nat.mod_eq_of_lt (Nat.lt_of_lt_of_le (List.mem_range.mp hj) h)]
theorem cntF_lap {m w r : Nat} (h : r ≤ w) : ∀ q, cntF m w (q * w + r) = q * popW m w + popW m r
  | 0 => by rw [Nat.zero_mul, Nat.zero_mul, Nat.zero_add, Nat.zero_add]; exact cntF_lt h
  | q + 1 => by
    have e : (q + 1) * w + r = w + (q * w + r) := by rw [Nat.succ_mul]; omega
    have e2 : ((List.range (q * w + r)).filter fun j => m.testBit ((w + j) % w)) = (List.range (q * w + r)).filter fun j => m.testBit (j % w) := by
      apply List.filter_congr
      intro j _
      rw [Nat.add_mod_left]
    rw [e, cntF_add, e2, cntF_lt (Nat.le_refl w)]
    show popW m w + cntF m w (q * w + r) = _
    rw [cntF_lap h q, Nat.succ_mul]
    omega
theorem popW_mod {m r : Nat} : popW (m % 2 ^ r) r = popW m r := by
  unfold popW
  congr 1
  apply List.filter_congr
  intro i hi
  rw [Nat.testBit_mod_two_pow, decide_eq_true (List.mem_range.mp hi), Bool.true_and]
end Aw

namespace Aw
open PySem PySem.Spec PyProof.Rows L2 NdefX
def spManyB : Sp := fun vs H Q _ => ∃ m w : Nat, vs = [.int (m : Nat)] ∧ m < 2 ^ w ∧ w ≤ 900 ∧ Q (.int (popW m w : Nat)) H
def spUpto : Sp := fun vs H Q _ => ∃ m w p : Nat, vs = [.int (m : Nat), .int (w : Nat), .int (p : Nat)] ∧ m < 2 ^ w ∧ 0 < w ∧ w ≤ 900 ∧ ∀ H', Same H H' → Q (.int (cntF m w p : Nat)) H'
section
variable {P : Program} {w : World} {K : PySem.W.Frag} {mg : Str → Option Value} {base : Heap}
theorem scManyB : FnScope ["mask", "text"] ["mask"] (defScope sManyB) := ⟨rfl, rfl, rfl, by decide +kernel, rfl, by decide +kernel, by decide +kernel⟩
theorem scUpto : FnScope ["mask", "wide", "place", "laps", "rest"] ["mask", "wide", "place"] (defScope sUpto) := ⟨rfl, rfl, rfl, by decide +kernel, rfl, by decide +kernel, by decide +kernel⟩
theorem count_bin {m w : Nat} (h : m < 2 ^ w) : Txt.count (binT m) "1" = (popW m w : Nat) := by
  have e := count_is (binT m) 49
  have e2 := cnt_bin w m h
  exact e.trans e2
theorem ok_manyb {f : Addr} {fd : FuncData} (F : Fun K "many_bits" "many_bits" sManyB f fd) : FnOk P w K mg base CX0 1 f fd ["mask"] spManyB := by
  refine F.ok scManyB (fun vs H Q E h => ?_) (fun cdv A outer s H vs Q E hr h => ?_)
  · obtain ⟨m, wd, rfl, _⟩ := h
    rfl
  · obtain ⟨m, wd, rfl, hm, hw, hQ⟩ := h
    have nd := scManyB.nd
    refine ⟨_, (pss_cons (ps_set (i := 1) nd rfl (Or.inl rfl) (pe_joined1 (pe_fmtB (pe_joined1 pe_str) (pv 0))))
      (pss_one (ps_ret (pe_bm PySem.F.plainAttrs_str PySem.F.slot_str_count PySem.F.type_str_count mt_count (pv 1) (pa_cons pe_str pa_nil))))), ?_⟩
    -- BODY
    have bl := bin_len wd m hm
    refine ⟨_, rfl, m, rfl, Nat.le_trans (show (binC m).length ≤ 1000 by omega) kz, ?_⟩
    refine ⟨_, rfl, rfl, binT m, "1", rfl, rfl, ?_⟩
    rw [count_bin hm]
    exact hQ
structure TxtUp (K : PySem.W.Frag) (mg : Str → Option Value) (fB fF : Addr) (bd fd : FuncData) : Prop where
  dm : mg "divmod" = none
  FB : Fun K "many_bits" "many_bits" sManyB fB bd
  bB : Binds K bd ["mask"] []
  gB : mg "many_bits" = some (.ref fB)
  FF : Fun K "full" "full" sFull fF fd
  bF : Binds K fd ["many"] []
  gF : mg "full" = some (.ref fF)
theorem ok_upto {f fB fF : Addr} {fd bd ffd : FuncData} (F : Fun K "many_upto" "many_upto" sUpto f fd) (W : TxtUp K mg fB fF bd ffd) : FnOk P w K mg base CX0 2 f fd ["mask", "wide", "place"] spUpto := by
  have GB : FnOk P w K mg base CX0 1 fB bd ["mask"] spManyB := ok_manyb W.FB
  have GF : FnOk P w K mg base CX0 1 fF ffd ["many"] spFull := ok_full W.FF
  refine F.ok scUpto (fun vs H Q E h => ?_) (fun cdv A outer s H vs Q E hr h => ?_)
  · obtain ⟨m, wd, p, rfl, _⟩ := h
    rfl
  · obtain ⟨m, wd, p, rfl, hm, w0, hw, hQ⟩ := h
    have nd := scUpto.nd
    refine ⟨_, (pss_cons (ps_asg (pe_callB call_divmod (by rfl) W.dm (by decide +kernel) (pa_cons (pv 2) (pa_cons (pv 1) pa_nil))) (pg_tup rfl (pgs_cons (pg_name (i := 3) nd rfl (Or.inl rfl)) (pgs_cons (pg_name (i := 4) nd rfl (Or.inl rfl)) pgs_nil))))
      (pss_one (ps_ret (pe_op op_add (pe_op op_mul (pv 3) (pe_call GB (hr.mono (by decide)) (by rfl) W.gB W.FB.kp W.bB .nil pass0 (pa_cons (pv 0) pa_nil))) (pe_call GB (hr.mono (by decide)) (by rfl) W.gB W.FB.kp W.bB .nil pass0 (pa_cons (pe_op op_and (pv 0) (pe_call GF (hr.mono (by decide)) (by rfl) W.gF W.FF.kp W.bF .nil pass0 (pa_cons (pv 4) pa_nil))) pa_nil)))))), ?_⟩
    -- BODY
    have cd : CDiv (p : Nat) (wd : Nat) := by
      exact ⟨by omega, by omega⟩
    refine ⟨_, rfl, _, rfl, (p : Nat), (wd : Nat), rfl, cd, fun T hT => ?_⟩
    have sT := same_upd (o := .tup [.int ((p : Nat) / (wd : Nat)), .int ((p : Nat) % (wd : Nat))]) hT
    refine ⟨T, _, rfl, SqT.of upd_same, rfl, _, _, rfl, _, _, rfl, rfl, ?_⟩
    have r1 : p % wd < wd := Nat.mod_lt _ w0
    have lp := popW_le (m := m) (w := wd)
    have bw : ((popW m wd : Nat) : Int) < 2 ^ 64 := by
      have : ((popW m wd : Nat) : Int) ≤ 900 := by omega
      exact Int.lt_of_le_of_lt this (by decide)
    have mm : m % 2 ^ (p % wd) < 2 ^ (p % wd) := Nat.mod_lt _ (Nat.two_pow_pos _)
    refine ⟨_, rfl, _, rfl, m, wd, rfl, hm, hw, _, _, rfl, rfl, .inr ⟨by omega, bw⟩, _, rfl, _, rfl, p % wd, rfl, by omega, _, _, rfl, rfl, m % 2 ^ (p % wd), p % wd, ?_, mm, by omega, _, _, rfl, rfl, ?_⟩
    · have e : Builtin.bitAnd ((m : Nat) : Int) ((2 ^ (p % wd) - 1 : Nat) : Int) = ((m % 2 ^ (p % wd) : Nat) : Int) := by
        rw [bitAnd_pp (Int.natCast_nonneg _) (Int.natCast_nonneg _), Int.toNat_natCast, Int.toNat_natCast, Nat.and_two_pow_sub_one_eq_mod]
      show [V.int (Builtin.bitAnd ((m : Nat) : Int) ((2 ^ (p % wd) - 1 : Nat) : Int))] = _
      rw [e]
    · have e : ((p : Nat) : Int) / (wd : Nat) * (popW m wd : Nat) + (popW (m % 2 ^ (p % wd)) (p % wd) : Nat) = (cntF m wd p : Nat) := by
        have l := cntF_lap (m := m) (w := wd) (r := p % wd) (Nat.le_of_lt r1) (p / wd)
        rw [show p / wd * wd + p % wd = p from Nat.div_add_mod' p wd] at l
        rw [l, popW_mod, Int.natCast_add, Int.natCast_mul]
        rfl
      have hq := hQ _ sT
      rw [← e] at hq
      exact hq
end
end Aw

namespace Aw
open PySem PySem.Spec PyProof.Rows L2 NdefX
/-! ### how many marks are below a place -/
/-- ends that do not descend, from a to s -/
def WscE : Int → List Int → Int → Prop
  | a, [], s => a = s
  | a, e :: r, s => a ≤ e ∧ WscE e r s
theorem WscE.le : ∀ {a s : Int} {l : List Int}, WscE a l s → a ≤ s
  | _, _, [], h => Int.le_of_eq h
  | _, _, _ :: _, h => Int.le_trans h.1 h.2.le
theorem Asc.wsc : ∀ {a s : Int} {P : Pcs}, Asc a P s → WscE a (P.map fun x => x.1) s
  | _, _, [], h => h
  | _, _, (_, _) :: _, h => ⟨Int.le_of_lt h.1, h.2.wsc⟩
/-- ends that do not descend, from a on -/
def UpE : Int → Pcs → Prop
  | _, [] => True
  | a, (e, _) :: r => a ≤ e ∧ UpE e r
theorem WscE.up : ∀ {a s : Int} {P : Pcs}, WscE a (P.map fun x => x.1) s → UpE a P
  | _, _, [], _ => trivial
  | _, _, (_, _) :: _, h => ⟨h.1, WscE.up h.2⟩
theorem UpE.drop : ∀ {a e : Int} {o : Pcs}, UpE a o → UpE e (o.dropWhile fun x => decide (x.1 < e))
  | _, _, [], _ => trivial
  | a, e, (f, n) :: o, h => by
    rw [List.dropWhile_cons]
    by_cases z : f < e
    · rw [decide_eq_true z]
      exact h.2.drop
    · rw [decide_eq_false z]
      exact ⟨by show e ≤ f; omega, h.2⟩
theorem UpE.take : ∀ {o : Pcs} {a e s : Int} {m : Nat} {y : Nat × Nat} {T : Trip}, UpE a o → a ≤ e → WscE e (T.map fun x => x.1) s →
    WscE a ((((o.takeWhile fun x => decide (x.1 < e)).map fun x => (x.1, m, x.2)) ++ (e, y) :: T).map fun x => x.1) s
  | [], _, _, _, _, _, _, _, ha, hT => ⟨ha, hT⟩
  | (f, n) :: o, a, e, s, m, y, T, h, ha, hT => by
    rw [List.takeWhile_cons]
    by_cases z : f < e
    · rw [decide_eq_true z]
      exact ⟨h.1, h.2.take (by omega) hT⟩
    · rw [decide_eq_false z]
      exact ⟨ha, hT⟩
theorem merge_wsc : ∀ {P o : Pcs} {a s : Int}, WscE a (P.map fun x => x.1) s → UpE a o → WscE a ((mergeF P o).map fun x => x.1) s
  | [], _, _, _, h, _ => h
  | (e, m) :: r, o, a, s, h, ho => UpE.take (e := e) (m := m) (y := (m, ((o.dropWhile fun x : Int × Nat => decide (x.1 < e)).headD (0, 0)).2)) ho h.1 (merge_wsc (P := r) h.2 (ho.drop (e := e)))
theorem join_wsc {g : Nat → Nat → Nat} {P o : Pcs} {a s : Int} (h : WscE a (P.map fun x => x.1) s) (ho : UpE a o) : WscE a ((joinF g P o).map fun x => x.1) s := by
  unfold joinF
  rw [List.map_map]
  exact merge_wsc h ho
/-- the number of marks below p -/
def nMk (P : Pcs) (w p : Nat) : Nat := ((List.range p).filter fun j : Nat => markF P w (j : Nat)).length
theorem nMk_step {P : Pcs} {w m b e : Nat} (be : b ≤ e) (h : ∀ j : Nat, b ≤ j → j < e → maskAt P (j : Nat) = m) : nMk P w e + cntF m w b = nMk P w b + cntF m w e := by
  obtain ⟨d, rfl⟩ : ∃ d, e = b + d := ⟨e - b, by omega⟩
  have e1 : nMk P w (b + d) = nMk P w b + ((List.range d).filter fun j => markF P w ((b + j : Nat) : Int)).length := by
    unfold nMk
    rw [List.range_add, List.filter_append, List.length_append, List.filter_map, List.length_map]
    rfl
  have e2 : ((List.range d).filter fun j => markF P w ((b + j : Nat) : Int)) = (List.range d).filter fun j => m.testBit ((b + j) % w) := by
    apply List.filter_congr
    intro j hj
    have hj := List.mem_range.mp hj
    unfold markF
    rw [h (b + j) (by omega) (by omega)]
    rfl
  rw [e1, e2, cntF_add]
  omega
def lowT (w : Nat) (p : Int) (st : Int × Int) (x : Int × Nat) : Int × Int :=
  (if st.2 < p then st.1 + (cntF x.2 w (min x.1 p).toNat : Nat) - (cntF x.2 w st.2.toNat : Nat) else st.1, x.1)
theorem low_ok {P : Pcs} {w : Nat} {p s : Int} (p0 : 0 ≤ p) (ps : p ≤ s) : ∀ (B A : Pcs) (b many : Int), P = A ++ B → (∀ x ∈ A, x.1 ≤ b) → WscE b (B.map fun x => x.1) s → 0 ≤ b → many = (nMk P w (min b p).toNat : Nat) →
    (B.foldl (lowT w p) (many, b)).1 = (nMk P w p.toNat : Nat)
  | [], A, b, many, _, _, hw, b0, hm => by
    have hw : b = s := hw
    show many = _
    rw [hm, show min b p = p by omega]
  | (e, m) :: B, A, b, many, hP, hA, hw, b0, hm => by
    have be : b ≤ e := hw.1
    refine low_ok p0 ps B (A ++ [(e, m)]) e _ (by rw [hP, List.append_assoc]; rfl) (fun x hx => ?_) hw.2 (by omega) ?_
    · rcases List.mem_append.mp hx with hx | hx
      · exact Int.le_trans (hA x hx) be
      · rw [List.mem_singleton.mp hx]
        exact Int.le_refl _
    · show (if b < p then many + (cntF m w (min e p).toNat : Nat) - (cntF m w b.toNat : Nat) else many) = _
      by_cases z : b < p
      · rw [if_pos z, hm, show min b p = b by omega]
        have st := nMk_step (P := P) (w := w) (m := m) (b := b.toNat) (e := (min e p).toNat) (by omega) fun j h1 h2 => by
          rw [hP, maskAt_app, if_neg]
          · show (if ((j : Nat) : Int) < e then m else _) = m
            rw [if_pos (by omega)]
          · rintro ⟨x, hx, hj⟩
            have := hA x hx
            omega
        omega
      · rw [if_neg z, hm, show min b p = p by omega, show min e p = p by omega]
theorem low_all {P : Pcs} {w : Nat} {p s : Int} (p0 : 0 ≤ p) (ps : p ≤ s) (h : WscE 0 (P.map fun x => x.1) s) : (P.foldl (lowT w p) (0, 0)).1 = (nMk P w p.toNat : Nat) :=
  low_ok p0 ps P [] 0 0 rfl (fun _ h => absurd h List.not_mem_nil) h (Int.le_refl 0) (by rw [show min (0 : Int) p = 0 by omega]; rfl)
theorem nMk_zero {P : Pcs} {w p : Nat} : nMk P w p = 0 ↔ ∀ j : Nat, j < p → markF P w (j : Nat) = false := by
  unfold nMk
  rw [List.length_eq_zero_iff, List.filter_eq_nil_iff]
  exact ⟨fun h j hj => Bool.eq_false_iff.mpr (h j (List.mem_range.mpr hj)), fun h j hj => by rw [h j (List.mem_range.mp hj)]; decide⟩
end Aw

namespace Aw
open PySem PySem.Spec PyProof.Rows L2 NdefX
/-- pieces in the heap, of which the marks are counted -/
structure PcW (H : Hp) (L : Addr) (P : Pcs) (w : Nat) (s : Int) : Prop where
  ex : ∃ xs, H L = some (.lst xs) ∧ PcA H xs P
  few : P.length ≤ 900
  ends : WscE 0 (P.map fun x => x.1) s
  masks : ∀ x ∈ P, x.2 < 2 ^ w
  w0 : 0 < w
  w9 : w ≤ 900
theorem WscE.ge : ∀ {a s : Int} {l : List Int}, WscE a l s → ∀ x ∈ l, a ≤ x
  | _, _, [], _ => fun _ h => absurd h List.not_mem_nil
  | _, _, _ :: _, h => fun x hx => by
    rcases List.mem_cons.mp hx with rfl | hx
    · exact h.1
    · exact Int.le_trans h.1 (h.2.ge x hx)
def spLow : Sp := fun vs H Q _ => ∃ (L : Addr) (P : Pcs) (w : Nat) (s p : Int), vs = [.ref L, .int (w : Nat), .int p] ∧ PcW H L P w s ∧ 0 ≤ p ∧ p ≤ s ∧ ∀ H', Same H H' → Q (.int (nMk P w p.toNat : Nat)) H'
section
variable {P : Program} {w : World} {K : PySem.W.Frag} {mg : Str → Option Value} {base : Heap}
structure TxtLow (K : PySem.W.Frag) (mg : Str → Option Value) (fU fB fF : Addr) (ud bd fd : FuncData) : Prop where
  U : TxtUp K mg fB fF bd fd
  FU : Fun K "many_upto" "many_upto" sUpto fU ud
  bU : Binds K ud ["mask", "wide", "place"] []
  gU : mg "many_upto" = some (.ref fU)
  min : mg "min" = none
theorem scLow : FnScope ["pieces", "wide", "place", "many", "start", "end", "mask"] ["pieces", "wide", "place"] (defScope sLow) := ⟨rfl, rfl, rfl, by decide +kernel, rfl, by decide +kernel, by decide +kernel⟩
theorem ok_low {f fU fB fF : Addr} {fd ud bd ffd : FuncData} (F : Fun K "many_below" "many_below" sLow f fd) (W : TxtLow K mg fU fB fF ud bd ffd) : FnOk P w K mg base CX0 3 f fd ["pieces", "wide", "place"] spLow := by
  have GU : FnOk P w K mg base CX0 2 fU ud ["mask", "wide", "place"] spUpto := ok_upto W.FU W.U
  refine F.ok scLow (fun vs H Q E h => ?_) (fun cdv A outer s H vs Q E hr h => ?_)
  · obtain ⟨L, P, wd, s, p, rfl, _⟩ := h
    rfl
  · obtain ⟨L, P, wd, sz, p, rfl, ⟨⟨xs, hL, pa⟩, lP, we, ms, w0, w9⟩, p0, ps, hQ⟩ := h
    have nd := scLow.nd
    refine ⟨_, (pss_cons (ps_set (i := 3) nd rfl (Or.inl rfl) pe_int)
      (pss_cons (ps_set (i := 4) nd rfl (Or.inl rfl) pe_int)
      (pss_cons (ps_for PassesOwn.never rfl (pi_list (pv 0)) (pg_tup rfl (pgs_cons (pg_name (i := 5) nd rfl (Or.inl rfl)) (pgs_cons (pg_name (i := 6) nd rfl (Or.inl rfl)) pgs_nil)))
        (pss_cons (ps_if (pt_cmpR op_lt (pv 4) (pv 2) (nomark _))
          (pss_one (ps_set (i := 3) nd rfl (Or.inl rfl) (pe_op op_sub (pe_op op_add (pv 3) (pe_call GU (hr.mono (by decide)) (by rfl) W.gU W.FU.kp W.bU .nil pass0 (pa_cons (pv 6) (pa_cons (pv 1) (pa_cons (pe_callB (call_min2 rfl) (by rfl) W.min (by decide +kernel) (pa_cons (pv 5) (pa_cons (pv 2) pa_nil))) pa_nil))))) (pe_call GU (hr.mono (by decide)) (by rfl) W.gU W.FU.kp W.bU .nil pass0 (pa_cons (pv 6) (pa_cons (pv 1) (pa_cons (pv 4) pa_nil))))))) pss_nil)
        (pss_one (ps_set (i := 4) nd rfl (Or.inl rfl) (pv 5)))))
      (pss_one (ps_ret (pv 3)))))), ?_⟩
    -- BODY
    have lx := pa.length
    refine ⟨_, rfl, L, rfl, ⟨_, SqL.of hL⟩, ?_⟩
    refine for_list (a := L) (xs := xs) (fun i σ H2 => ∃ (v5 v6 : Option V) (many start : Int), σ = [some (.ref L), some (.int (wd : Nat)), some (.int p), some (.int many), some (.int start), v5, v6] ∧ Same H H2 ∧ (P.take i).foldl (lowT wd p) (0, 0) = (many, start) ∧ 0 ≤ start) ⟨none, none, 0, 0, rfl, fun _ _ e => e, rfl, Int.le_refl 0⟩ (fun i σ H2 _ z => by
      obtain ⟨_, _, _, _, _, s2, _⟩ := z
      exact SqL.of (s2 _ _ hL)) ?_ ?_
    · rintro i v σ H2 hv ⟨v5, v6, many, start, rfl, s2, ef, st0⟩
      obtain ⟨t, ⟨e, m⟩, rfl, ix, et⟩ := (pa.same s2).get hv
      have etk : P.take (i + 1) = P.take i ++ [(e, m)] := by rw [List.take_succ, ix]; rfl
      have mem : (e, m) ∈ P := List.mem_of_getElem? ix
      have mm : m < 2 ^ wd := ms _ mem
      have e0 : 0 ≤ e := we.ge _ (List.mem_map.mpr ⟨_, mem, rfl⟩)
      have ef2 : (P.take (i + 1)).foldl (lowT wd p) (0, 0) = lowT wd p (many, start) (e, m) := by rw [etk, List.foldl_append, ef]; rfl
      refine ⟨t, _, rfl, SqT.of et, rfl, _, _, rfl, _, _, rfl, rfl, ?_⟩
      refine ⟨_, rfl, _, rfl, start, p, rfl, rfl, _, rfl, ite_dec (fun g => ?_) (fun g => ?_)⟩
      · have em : (if p < e then p else e) = (((min e p).toNat : Nat) : Int) := by
          split <;> omega
        have es : start = ((start.toNat : Nat) : Int) := by omega
        refine ⟨_, rfl, _, rfl, _, rfl, _, rfl, _, rfl, e, p, rfl, m, wd, (min e p).toNat, by rw [← em]; rfl, mm, w0, w9, fun H3 s3 => ⟨many, _, rfl, rfl, _, rfl, _, rfl, _, rfl, m, wd, start.toNat, by rw [← es]; rfl, mm, w0, w9, fun H4 s4 => ⟨_, _, rfl, rfl, ?_⟩⟩⟩
        refine ⟨_, rfl, _, _, _, e, rfl, (s2.trans s3).trans s4, ?_, e0⟩
        rw [ef2]
        unfold lowT
        dsimp only
        rw [if_pos g]
      · refine nxt ?_
        dsimp only
        refine ⟨_, rfl, _, _, many, e, rfl, s2, ?_, e0⟩
        rw [ef2]
        unfold lowT
        dsimp only
        rw [if_neg g]
    · rintro σ H2 ⟨v5, v6, many, start, rfl, s2, ef, st0⟩
      rw [List.take_of_length_le (by omega)] at ef
      have l := low_all (P := P) (w := wd) p0 ps we
      rw [ef] at l
      have l : many = (nMk P wd p.toNat : Nat) := l
      have hq := hQ H2 s2
      rw [← l] at hq
      exact ⟨_, rfl, hq⟩
end
end Aw

namespace Aw
open PySem PySem.Spec PyProof.Rows L2 NdefX
/-- told with the period that they have -/
def spDeep0 : Sp := fun vs H Q _ => ∃ (L : Addr) (d : Nat), vs = [.ref L, .int (d : Nat), .int (d : Nat)] ∧ d ≤ 1000 ∧ Q (.ref L) H
section
variable {P : Program} {w : World} {K : PySem.W.Frag} {mg : Str → Option Value} {base : Heap}
theorem scDeep : FnScope ["pieces", "depth", "more", "found", "level", "wide", "end", "mask"] ["pieces", "depth", "more"] (defScope sDeep) := ⟨rfl, rfl, rfl, by decide +kernel, rfl, by decide +kernel, by decide +kernel⟩
theorem ok_deep0 {f fW : Addr} {fd wd' : FuncData} {t12 : Tok} (F : Fun K "deepened" "deepened" sDeep f fd) (FW : Fun K "width" "width" sWidth fW wd') (bW : Binds K wd' ["depth"] []) (gW : mg "width" = some (.ref fW)) (gB : mg "BASE" = some (.int 12 t12)) (gR : mg "range" = none) : FnOk P w K mg base CX0 2 f fd ["pieces", "depth", "more"] spDeep0 := by
  have GW : FnOk P w K mg base CX0 1 fW wd' ["depth"] spWidth := ok_width FW gB
  refine F.ok scDeep (fun vs H Q E h => ?_) (fun cdv A outer s H vs Q E hr h => ?_)
  · obtain ⟨L, d, rfl, _⟩ := h
    rfl
  · obtain ⟨L, d, rfl, hd, hQ⟩ := h
    have nd := scDeep.nd
    refine ⟨_, (pss_cons (ps_set (i := 3) nd rfl (Or.inl rfl) (pv 0))
      (pss_cons (ps_for PassesOwn.never rfl (pi_range2 rfl gR (pa_cons (pv 1) (pa_cons (pv 2) pa_nil))) (pg_name (i := 4) nd rfl (Or.inl rfl))
        (pss_cons (ps_set (i := 5) nd rfl (Or.inr rfl) (pe_call GW (hr.mono (by decide)) (by rfl) gW FW.kp bW .nil pass0 (pa_cons (pv 4) pa_nil)))
        (pss_one (ps_setLc (i := 3) (own := [("end", 6), ("mask", 7)]) (g := (gTup _ 2 (gCons (gName 6) (gCons (gName 7) gNil)))) (tt := tYes) rfl nd rfl rfl (sw_true rfl rfl (by rfl) (by decide +kernel)) (pi_list (pv 3)) (blkOk_by (own := [("end", 6), ("mask", 7)]) (N := ["pieces", "depth", "more", "found", "level", "wide", "end", "mask"]) (sc := defScope sDeep) (by decide +kernel)) (fun _ _ _ _ _ => (pg_tup rfl (pgs_cons (pg_name (i := 6) nd rfl (Or.inl rfl)) (pgs_cons (pg_name (i := 7) nd rfl (Or.inl rfl)) pgs_nil)))) (fun _ _ _ _ _ => pts_nil) (fun _ _ _ _ _ => (pe_tup (pa_cons (pv 6) (pa_cons (pe_op op_or (pv 7) (pe_op op_shl (pv 7) (pv 5))) pa_nil))))))))
      (pss_one (ps_ret (pv 3))))), ?_⟩
    -- BODY
    refine ⟨_, rfl, _, rfl, _, rfl, (d : Nat), (d : Nat), rfl, ⟨by omega, by omega, by omega, by omega⟩, ?_⟩
    refine for_range (fun i σ H2 => σ = [some (.ref L), some (.int (d : Nat)), some (.int (d : Nat)), some (.ref L), none, none, none, none] ∧ H2 = H) ⟨rfl, rfl⟩ ?_ ?_
    · intro i σ H2 hi
      exact absurd hi (by omega)
    · rintro σ H2 ⟨rfl, rfl⟩
      exact ⟨_, rfl, hQ⟩
end
end Aw

namespace Aw
open PySem PySem.Spec PyProof.Rows L2 NdefX
/-! ### Marks in the heap -/
def mkF (s d : Int) (L : Addr) : List (Str × V) := [("size", .int s), ("depth", .int d), ("pieces", .ref L)]
structure MkAt (C : Addr) (H : Hp) (a : Addr) (P : Pcs) (d : Nat) (s : Int) : Prop where
  ex : ∃ dx L xs, H a = some (.ins C dx (mkF s (d : Nat) L)) ∧ H L = some (.lst xs) ∧ PcA H xs P
  few : P.length ≤ 400
  asc : Asc 0 P s
  masks : ∀ x ∈ P, x.2 < 2 ^ (12 * 2 ^ d)
  s0 : 0 < s
  d6 : d ≤ 6
theorem MkAt.same {C : Addr} {H H' : Hp} {a : Addr} {P : Pcs} {d : Nat} {s : Int} (M : MkAt C H a P d s) (k : Same H H') : MkAt C H' a P d s := by
  obtain ⟨dx, L, xs, h1, h2, h3⟩ := M.ex
  exact ⟨⟨dx, L, xs, k _ _ h1, k _ _ h2, h3.same k⟩, M.few, M.asc, M.masks, M.s0, M.d6⟩
theorem wide_le {d : Nat} (h : d ≤ 6) : 0 < 12 * 2 ^ d ∧ 12 * 2 ^ d ≤ 900 := by
  have a : 2 ^ d ≤ 2 ^ 6 := Nat.pow_le_pow_right (by decide) h
  have b := Nat.two_pow_pos d
  have e : (2 : Nat) ^ 6 = 64 := by decide
  omega
/-- x in marks -/
def inM (P : Pcs) (w : Nat) (s : Int) (x : V) : Bool := match x with
  | .int j => (decide (0 ≤ j) && decide (j ≤ s - 1)) && markF P w j
  | _ => false
structure MkCls (K : PySem.W.Frag) (C : Addr) : Prop where
  c : Cls K C
  size : NoAttr K C "size"
  depth : NoAttr K C "depth"
  pieces : NoAttr K C "pieces"
def spMCon (C : Addr) : Sp := fun vs H Q _ => ∃ (a : Addr) (x : V) (P : Pcs) (d : Nat) (s : Int), vs = [.ref a, x] ∧ MkAt C H a P d s ∧ VOk H x ∧ Q (.bl (inM P (12 * 2 ^ d) s x)) H
section
variable {P : Program} {w : World} {K : PySem.W.Frag} {mg : Str → Option Value} {base : Heap} {C : Addr}
structure TxtMCon (K : PySem.W.Frag) (mg : Str → Option Value) (fN fM fW : Addr) (nd' md wd' : FuncData) (t12 : Tok) : Prop where
  isi : mg "isinstance" = none
  int : mg "int" = none
  bool : mg "bool" = none
  FN : Fun K "is_number" "is_number" sNum fN nd'
  bN : Binds K nd' ["value", "low", "high"] []
  gN : mg "is_number" = some (.ref fN)
  FM : Fun K "is_marked" "is_marked" sIsMk fM md
  bM : Binds K md ["pieces", "wide", "place"] []
  gM : mg "is_marked" = some (.ref fM)
  FW : Fun K "width" "width" sWidth fW wd'
  bW : Binds K wd' ["depth"] []
  gW : mg "width" = some (.ref fW)
  gB : mg "BASE" = some (.int 12 t12)
theorem scMCon : FnScope ["self", "x"] ["self", "x"] (defScope sMCon) := ⟨rfl, rfl, rfl, by decide +kernel, rfl, by decide +kernel, by decide +kernel⟩
theorem ok_mcon {f fN fM fW : Addr} {fd nd' md wd' : FuncData} {t12 : Tok} (F : Fun K "__contains__" "Marks.__contains__" sMCon f fd) (W : TxtMCon K mg fN fM fW nd' md wd' t12) (M : MkCls K C) : FnOk P w K mg base CX0 2 f fd ["self", "x"] (spMCon C) := by
  have GN : FnOk P w K mg base CX0 1 fN nd' ["value", "low", "high"] spNum := ok_num W.FN W.isi W.int W.bool
  have GM : FnOk P w K mg base CX0 1 fM md ["pieces", "wide", "place"] spIsMk := ok_ismk W.FM
  have GW : FnOk P w K mg base CX0 1 fW wd' ["depth"] spWidth := ok_width W.FW W.gB
  refine F.ok scMCon (fun vs H Q E h => ?_) (fun cdv A outer s H vs Q E hr h => ?_)
  · obtain ⟨a, x, P, d, s, rfl, _⟩ := h
    rfl
  · obtain ⟨a, x, P, d, sz, rfl, S, hx, hQ⟩ := h
    have nd := scMCon.nd
    refine ⟨_, (pss_one (ps_ret (pe_and (pe_call GN (hr.mono (by decide)) (by rfl) W.gN W.FN.kp W.bN .nil pass0 (pa_cons (pv 1) (pa_cons pe_int (pa_cons (pe_op op_sub (pe_fld (pv 0) rfl) pe_int) pa_nil)))) (pe_one (pe_call GM (hr.mono (by decide)) (by rfl) W.gM W.FM.kp W.bM .nil pass0 (pa_cons (pe_fld (pv 0) rfl) (pa_cons (pe_call GW (hr.mono (by decide)) (by rfl) W.gW W.FW.kp W.bW .nil pass0 (pa_cons (pe_fld (pv 0) rfl) pa_nil)) (pa_cons (pv 1) pa_nil)))))))), ?_⟩
    -- BODY
    obtain ⟨dx, L, xs, hA, hL, pa⟩ := S.ex
    obtain ⟨w0, w9⟩ := wide_le S.d6
    have fw := S.few
    refine ⟨_, rfl, _, rfl, a, C, dx, _, .int sz, rfl, hA, M.c, M.size, rfl, _, _, rfl, rfl, x, 0, sz - 1, rfl, hx, _, rfl, ?_⟩
    cases x with
    | int j =>
      have hQ : Q (.bl ((decide (0 ≤ j) && decide (j ≤ sz - 1)) && markF P (12 * 2 ^ d) j)) H := hQ
      show ite ((decide (0 ≤ j) && decide (j ≤ sz - 1)) = true) _ _
      cases e : (decide (0 ≤ j) && decide (j ≤ sz - 1)) with
      | false =>
        rw [e] at hQ
        exact iteF hQ
      | true =>
        rw [e] at hQ
        refine iteT ?_
        refine ⟨_, rfl, a, C, dx, _, .ref L, rfl, hA, M.c, M.pieces, rfl, _, rfl, a, C, dx, _, .int (d : Nat), rfl, hA, M.c, M.depth, rfl, d, rfl, by have := S.d6; omega, _, rfl, ?_⟩
        exact ⟨L, xs, P, 12 * 2 ^ d, j, rfl, hL, pa, by omega, w0, hQ⟩
    | _ => exact iteF hQ
end
end Aw

namespace Aw
open PySem PySem.Spec PyProof.Rows L2 NdefX
def spMany (C : Addr) : Sp := fun vs H Q _ => ∃ (a : Addr) (P : Pcs) (d : Nat) (s : Int), vs = [.ref a] ∧ MkAt C H a P d s ∧ ∀ H', Same H H' → Q (.int (nMk P (12 * 2 ^ d) s.toNat : Nat)) H'
def spNone (C : Addr) : Sp := fun vs H Q _ => ∃ (a : Addr) (P : Pcs) (d : Nat) (s : Int), vs = [.ref a] ∧ MkAt C H a P d s ∧ ∀ H', Same H H' → Q (.bl (decide (nMk P (12 * 2 ^ d) s.toNat = 0))) H'
section
variable {P : Program} {w : World} {K : PySem.W.Frag} {mg : Str → Option Value} {base : Heap} {C : Addr}
structure TxtMany (K : PySem.W.Frag) (mg : Str → Option Value) (fL fU fB fF fW : Addr) (ld ud bd fd wd' : FuncData) (t12 : Tok) : Prop where
  L : TxtLow K mg fU fB fF ud bd fd
  FL : Fun K "many_below" "many_below" sLow fL ld
  bL : Binds K ld ["pieces", "wide", "place"] []
  gL : mg "many_below" = some (.ref fL)
  FW : Fun K "width" "width" sWidth fW wd'
  bW : Binds K wd' ["depth"] []
  gW : mg "width" = some (.ref fW)
  gB : mg "BASE" = some (.int 12 t12)
theorem scMany : FnScope ["self"] ["self"] (defScope sMany) := ⟨rfl, rfl, rfl, by decide +kernel, rfl, by decide +kernel, by decide +kernel⟩
theorem scNone : FnScope ["self"] ["self"] (defScope sNone) := ⟨rfl, rfl, rfl, by decide +kernel, rfl, by decide +kernel, by decide +kernel⟩
theorem ok_many {f fL fU fB fF fW : Addr} {fd ld ud bd ffd wd' : FuncData} {t12 : Tok} (F : Fun K "many" "Marks.many" sMany f fd) (W : TxtMany K mg fL fU fB fF fW ld ud bd ffd wd' t12) (M : MkCls K C) : FnOk P w K mg base CX0 4 f fd ["self"] (spMany C) := by
  have GL : FnOk P w K mg base CX0 3 fL ld ["pieces", "wide", "place"] spLow := ok_low W.FL W.L
  have GW : FnOk P w K mg base CX0 1 fW wd' ["depth"] spWidth := ok_width W.FW W.gB
  refine F.ok scMany (fun vs H Q E h => ?_) (fun cdv A outer s H vs Q E hr h => ?_)
  · obtain ⟨a, P, d, s, rfl, _⟩ := h
    rfl
  · obtain ⟨a, P, d, sz, rfl, S, hQ⟩ := h
    have nd := scMany.nd
    refine ⟨_, (pss_one (ps_ret (pe_call GL (hr.mono (by decide)) (by rfl) W.gL W.FL.kp W.bL .nil pass0 (pa_cons (pe_fld (pv 0) rfl) (pa_cons (pe_call GW (hr.mono (by decide)) (by rfl) W.gW W.FW.kp W.bW .nil pass0 (pa_cons (pe_fld (pv 0) rfl) pa_nil)) (pa_cons (pe_fld (pv 0) rfl) pa_nil)))))), ?_⟩
    obtain ⟨dx, L, xs, hA, hL, pa⟩ := S.ex
    obtain ⟨w0, w9⟩ := wide_le S.d6
    have fw := S.few
    refine ⟨_, rfl, a, C, dx, _, .ref L, rfl, hA, M.c, M.pieces, rfl, _, rfl, a, C, dx, _, .int (d : Nat), rfl, hA, M.c, M.depth, rfl, d, rfl, by have := S.d6; omega, _, rfl, a, C, dx, _, .int sz, rfl, hA, M.c, M.size, rfl, ?_⟩
    exact ⟨L, P, 12 * 2 ^ d, sz, sz, rfl, ⟨⟨xs, hL, pa⟩, by omega, S.asc.wsc, S.masks, w0, w9⟩, Int.le_of_lt S.s0, Int.le_refl _, hQ⟩
theorem ok_none {f fM fL fU fB fF fW : Addr} {fd md ld ud bd ffd wd' : FuncData} {t12 : Tok} (F : Fun K "is_none" "Marks.is_none" sNone f fd) (FM : Fun K "many" "Marks.many" sMany fM md) (bM : Binds K md ["self"] []) (W : TxtMany K mg fL fU fB fF fW ld ud bd ffd wd' t12) (M : MkCls K C) (mM : Meth K C "many" fM) : FnOk P w K mg base CX0 5 f fd ["self"] (spNone C) := by
  have GM : FnOk P w K mg base CX0 4 fM md ["self"] (spMany C) := ok_many FM W M
  refine F.ok scNone (fun vs H Q E h => ?_) (fun cdv A outer s H vs Q E hr h => ?_)
  · obtain ⟨a, P, d, s, rfl, _⟩ := h
    rfl
  · obtain ⟨a, P, d, sz, rfl, S, hQ⟩ := h
    have nd := scNone.nd
    refine ⟨_, (pss_one (ps_ret (pe_cmpR op_eq (pe_meth0 (pv 0) M.c mM GM (hr.mono (by decide)) bM .nil pass0) pe_int (nomark _)))), ?_⟩
    -- BODY
    obtain ⟨dx, L, xs, hA, hL, pa⟩ := S.ex
    refine ⟨_, rfl, a, dx, _, rfl, hA, rfl, a, P, d, sz, rfl, S, fun H' s' => ⟨rfl, ?_⟩⟩
    have e : decide (V.int (nMk P (12 * 2 ^ d) sz.toNat : Nat) = V.int 0) = decide (nMk P (12 * 2 ^ d) sz.toNat = 0) := by
      rw [dec_ints, decide_eq_decide]
      omega
    rw [e]
    exact hQ H' s'
end
end Aw

namespace Aw
open PySem PySem.Spec PyProof.Rows L2 NdefX
section
variable {X : Cx} {CX : CXT} {k : Nat} {C f : Addr} {sp : Sp} {o e : Expr} {es : List Expr} {m : Str} {pos apos : Pos} {ta : TE} {t : TA} {pl : Sem Bool} {fd : FuncData} {ps : List Str} {E : Aw.St → XK}
def tMethSw (C : Addr) (m : Str) (sp : Sp) (E : Aw.St → XK) (ta : TE) (t : TA) : TE := fun σ H Q => ta σ H fun x H1 => ∃ a dx fs, x = .ref a ∧ H1 a = some (.ins C dx fs) ∧ fs.lookup m = none ∧ t σ H1 fun vs H2 => sp (x :: vs) H2 Q (E σ)
/-- o.m(e, ..), an own method that may raise within a try -/
theorem pe_methSw (he : PE X o ta) (c : Cls X.K C) (hm : Meth X.K C m f) (F : FnOk X.prog X.w X.K X.mg X.base CX k f fd ps sp) (hr : Room k X.A) (hb : Binds X.K fd ps []) (hx : ∀ σ, PassesAt CX X σ (E σ)) (ha : PA X (e :: es) t)
    (hst : starEach (e :: es) X.env = (false, eval e X.env) :: starEach es X.env := by rfl) (hpl : (backTo pos (starEach es X.env)).any (·.1) = false := by rfl)
    (ht : eval (.Call (.Attribute o m apos) (e :: es) [] pos) X.env = (do
      let ov ← eval o X.env
      standAt apos.atName
      let (f, first) ← holding [ov] (getMethod ov m pl)
      callWith pos f first (backTo pos (starEach (e :: es) X.env)) (backToKw pos (keywordEach [] X.env))) := by rfl) :
    PE X (.Call (.Attribute o m apos) (e :: es) [] pos) (tMethSw C m sp E ta t) := by
  refine ⟨fun pins s σ H Q I h => ?_⟩
  refine PySem.W.methodCall_KW (pl := pl) (thn (he.run pins s σ H _ I h) fun u s1 ⟨x, H1, I1, rx, a, dx, fs, ex, ea, l, q⟩ => ?_) ht
  subst ex
  obtain rfl : u = Value.ref a := rx
  refine getmeth_ok I1 ea c hm l ?_
  refine PySem.W.callWith_K (first := [.ref a]) (h₀ := X.base) I.ok.mod.kin hm.kp (thn (ha.run pos pins s1 σ H1 _ I1 q) fun us s2 ⟨vs, H2, I2, r, q2⟩ => ⟨I2.kIn, ?_⟩) hst hpl
  exact run_fnS (us := .ref a :: us) (vs := .ref a :: vs) F hr hb (hx σ) I2 (.cons rfl r) q2
end
end Aw

namespace Aw
open PySem PySem.Spec PyProof.Rows L2 NdefX
/-- two Marks of one size and one depth -/
def spBes0 (C : Addr) : Sp := fun vs H Q _ => ∃ (a b : Addr) (P O : Pcs) (d : Nat) (s : Int), vs = [.ref a, .ref b] ∧ MkAt C H a P d s ∧ MkAt C H b O d s ∧
  ∀ (R : Addr) (zs : List V) (H' : Hp), Same H H' → H R = none → H' R = some (.lst zs) → TrA H' zs (mergeF P O) → Q (.ref R) H'
section
variable {P : Program} {w : World} {K : PySem.W.Frag} {mg : Str → Option Value} {base : Heap} {C CZ : Addr}
structure TxtBes (P : Program) (K : PySem.W.Frag) (mg : Str → Option Value) (CZ fG fD fW : Addr) (gd dd wd' : FuncData) (t12 : Tok) : Prop where
  bz : Err P K mg "BadSize" "size" "size" CZ
  max : mg "max" = none
  FG : Fun K "merged" "merged" sMerge fG gd
  bG : Binds K gd ["one", "other"] []
  gG : mg "merged" = some (.ref fG)
  FD : Fun K "deepened" "deepened" sDeep fD dd
  bD : Binds K dd ["pieces", "depth", "more"] []
  gD : mg "deepened" = some (.ref fD)
  FW : Fun K "width" "width" sWidth fW wd'
  bW : Binds K wd' ["depth"] []
  gW : mg "width" = some (.ref fW)
  gB : mg "BASE" = some (.int 12 t12)
  rg : mg "range" = none
theorem scBeside : FnScope ["one", "other", "depth"] ["one", "other"] (defScope sBeside) := ⟨rfl, rfl, rfl, by decide +kernel, rfl, by decide +kernel, by decide +kernel⟩
theorem Asc.ne {s : Int} : ∀ {P : Pcs}, Asc 0 P s → 0 < s → P ≠ []
  | [], h, s0 => fun _ => by have : (0 : Int) = s := h; omega
  | _ :: _, _, _ => by simp
theorem ok_beside0 {f fG fD fW : Addr} {fd gd dd wd' : FuncData} {t12 : Tok} (F : Fun K "beside" "beside" sBeside f fd) (W : TxtBes P K mg CZ fG fD fW gd dd wd' t12) (M : MkCls K C) : FnOk P w K mg base (L2.CX P w) 4 f fd ["one", "other"] (spBes0 C) := by
  have GG : FnOk P w K mg base CX0 1 fG gd ["one", "other"] spMerge := ok_merge W.FG
  have GD : FnOk P w K mg base CX0 2 fD dd ["pieces", "depth", "more"] spDeep0 := ok_deep0 W.FD W.FW W.bW W.gW W.gB W.rg
  refine F.okX scBeside (fun vs H Q E h => ?_) (fun cdv A outer s H vs Q E hr h => ?_)
  · obtain ⟨a, b, P, O, d, s, rfl, _⟩ := h
    rfl
  · obtain ⟨a, b, P, O, d, sz, rfl, S, T, hQ⟩ := h
    have nd := scBeside.nd
    refine ⟨_, (pss_cons (ps_if (pt_cmpR op_ne (pe_fld (pv 0) rfl) (pe_fld (pv 1) rfl) (nomark _))
        (pss_one (ps_raise rfl (takes_of rfl rfl rfl rfl) (pmk_err W.bz (hr.mono (by decide)) (by rfl) (pa_cons (pe_fld (pv 1) rfl) pa_nil)))) pss_nil)
      (pss_cons (ps_set (i := 2) nd rfl (Or.inl rfl) (pe_callB (call_max2 rfl) (by rfl) W.max (by decide +kernel) (pa_cons (pe_fld (pv 0) rfl) (pa_cons (pe_fld (pv 1) rfl) pa_nil))))
      (pss_one (ps_ret (pe_call GG (hr.mono (by decide)) (by rfl) W.gG W.FG.kp W.bG .nil pass0 (pa_cons (pe_call GD (hr.mono (by decide)) (by rfl) W.gD W.FD.kp W.bD .nil pass0 (pa_cons (pe_fld (pv 0) rfl) (pa_cons (pe_fld (pv 0) rfl) (pa_cons (pv 2) pa_nil)))) (pa_cons (pe_call GD (hr.mono (by decide)) (by rfl) W.gD W.FD.kp W.bD .nil pass0 (pa_cons (pe_fld (pv 1) rfl) (pa_cons (pe_fld (pv 1) rfl) (pa_cons (pv 2) pa_nil)))) pa_nil))))))), ?_⟩
    -- BODY
    obtain ⟨dx, L, xs, hA, hL, pa⟩ := S.ex
    obtain ⟨dy, Lb, ys, hB, hLb, pb⟩ := T.ex
    have fs := S.few
    have ft := T.few
    have hd := S.d6
    refine ⟨_, rfl, a, C, dx, _, .int sz, rfl, hA, M.c, M.size, rfl, _, rfl, b, C, dy, _, .int sz, rfl, hB, M.c, M.size, rfl, rfl, _, rfl, ite_ndec (fun g => absurd rfl g) (fun _ => ?_)⟩
    refine nxt ?_
    dsimp only
    have em : (if ((d : Nat) : Int) > (d : Nat) then ((d : Nat) : Int) else (d : Nat)) = (d : Nat) := if_neg (Int.lt_irrefl _)
    refine ⟨_, rfl, a, C, dx, _, .int (d : Nat), rfl, hA, M.c, M.depth, rfl, _, rfl, b, C, dy, _, .int (d : Nat), rfl, hB, M.c, M.depth, rfl, (d : Nat), (d : Nat), rfl, ?_⟩
    rw [em]
    refine ⟨_, rfl, a, C, dx, _, .ref L, rfl, hA, M.c, M.pieces, rfl, _, rfl, a, C, dx, _, .int (d : Nat), rfl, hA, M.c, M.depth, rfl, _, rfl, L, d, rfl, by omega, ?_⟩
    refine ⟨_, rfl, b, C, dy, _, .ref Lb, rfl, hB, M.c, M.pieces, rfl, _, rfl, b, C, dy, _, .int (d : Nat), rfl, hB, M.c, M.depth, rfl, _, rfl, Lb, d, rfl, by omega, ?_⟩
    exact ⟨L, Lb, xs, ys, P, O, sz, rfl, hL, pa, hLb, pb, fs, ft, Ups.of_asc T.asc (T.asc.ne T.s0), fun x hx => (S.asc.mem_le x hx).2, hQ⟩
end
end Aw

namespace Aw
open PySem PySem.Spec PyProof.Rows L2 NdefX
def spAreS0 (C : Addr) : Sp := fun vs H Q _ => ∃ (a b : Addr) (P O : Pcs) (d : Nat) (s : Int), vs = [.ref a, .ref b] ∧ MkAt C H a P d s ∧ MkAt C H b O d s ∧
  ∀ H', Same H H' → Q (.bl (decide (nMk (joinF (· ^^^ ·) P O) (12 * 2 ^ d) s.toNat = 0))) H'
section
variable {P : Program} {w : World} {K : PySem.W.Frag} {mg : Str → Option Value} {base : Heap} {C CZ : Addr}
theorem scAreS : FnScope ["one", "other", "pieces", "end", "mask", "more"] ["one", "other"] (defScope sAreS) := ⟨rfl, rfl, rfl, by decide +kernel, rfl, by decide +kernel, by decide +kernel⟩
theorem ok_ares0 {f fS fG fD fW fL fU fB fF : Addr} {fd sd gd dd wd' ld ud bd ffd : FuncData} {t12 : Tok} (F : Fun K "are_same" "are_same" sAreS f fd) (FS : Fun K "beside" "beside" sBeside fS sd) (bS : Binds K sd ["one", "other"] []) (gS : mg "beside" = some (.ref fS))
    (W : TxtBes P K mg CZ fG fD fW gd dd wd' t12) (Y : TxtMany K mg fL fU fB fF fW ld ud bd ffd wd' t12) (M : MkCls K C) : FnOk P w K mg base (L2.CX P w) 5 f fd ["one", "other"] (spAreS0 C) := by
  have GS : FnOk P w K mg base (L2.CX P w) 4 fS sd ["one", "other"] (spBes0 C) := ok_beside0 FS W M
  have GL : FnOk P w K mg base CX0 3 fL ld ["pieces", "wide", "place"] spLow := ok_low Y.FL Y.L
  have GW : FnOk P w K mg base CX0 1 fW wd' ["depth"] spWidth := ok_width W.FW W.gB
  refine F.okX scAreS (fun vs H Q E h => ?_) (fun cdv A outer s H vs Q E hr h => ?_)
  · obtain ⟨a, b, P, O, d, s, rfl, _⟩ := h
    rfl
  · obtain ⟨a, b, P, O, d, sz, rfl, S, T, hQ⟩ := h
    have nd := scAreS.nd
    refine ⟨_, (pss_cons (ps_setLc (i := 2) (own := [("end", 3), ("mask", 4), ("more", 5)]) (g := (gTup _ 3 (gCons (gName 3) (gCons (gName 4) (gCons (gName 5) gNil))))) (tt := tYes) rfl nd rfl rfl (sw_true rfl rfl (by rfl) (by decide +kernel)) (pi_list (pe_callS GS (hr.mono (by decide)) (by rfl) gS FS.kp bS (fun σ => passAt (takes_of rfl rfl rfl rfl) σ) (pa_cons (pv 0) (pa_cons (pv 1) pa_nil)))) (blkOk_by (own := [("end", 3), ("mask", 4), ("more", 5)]) (N := ["one", "other", "pieces", "end", "mask", "more"]) (sc := defScope sAreS) (by decide +kernel)) (fun _ _ _ _ _ => (pg_tup rfl (pgs_cons (pg_name (i := 3) nd rfl (Or.inl rfl)) (pgs_cons (pg_name (i := 4) nd rfl (Or.inl rfl)) (pgs_cons (pg_name (i := 5) nd rfl (Or.inl rfl)) pgs_nil))))) (fun _ _ _ _ _ => pts_nil) (fun _ _ _ _ _ => (pe_tup (pa_cons (pv 3) (pa_cons (pe_op op_xor (pv 4) (pv 5)) pa_nil)))))
      (pss_one (ps_ret (pe_cmpR op_eq (pe_call GL (hr.mono (by decide)) (by rfl) Y.gL Y.FL.kp Y.bL .nil pass0 (pa_cons (pv 2) (pa_cons (pe_call GW (hr.mono (by decide)) (by rfl) W.gW W.FW.kp W.bW .nil pass0 (pa_cons (pe_callB (call_max2 rfl) (by rfl) W.max (by decide +kernel) (pa_cons (pe_fld (pv 0) rfl) (pa_cons (pe_fld (pv 1) rfl) pa_nil))) pa_nil)) (pa_cons (pe_fld (pv 0) rfl) pa_nil)))) pe_int (nomark _))))), ?_⟩
    -- BODY
    have fs := S.few
    have ft := T.few
    have hd := S.d6
    obtain ⟨w0, w9⟩ := wide_le S.d6
    have lt := merge_len (P := P) (o := O)
    refine ⟨_, rfl, _, rfl, a, b, P, O, d, sz, rfl, S, T, fun R zs H1 s1 hR e1 t1 => ?_⟩
    have lz := t1.length
    have S1 := S.same s1
    have T1 := T.same s1
    refine ⟨R, rfl, ⟨_, SqL.of e1⟩, fun D hD => ?_⟩
    refine lc_list (a := R) (xs := zs) (fun i H2 => Same H1 H2 ∧ ∃ us, H2 D = some (.lst us) ∧ PcA H2 us (((mergeF P O).take i).map fun x => (x.1, x.2.1 ^^^ x.2.2))) ⟨same_upd hD, [], upd_same, .nil⟩ (fun i H2 _ z => SqL.of (z.1 _ _ e1)) ?_ ?_
    · rintro i v H2 hv ⟨s2, us, e2, pu⟩
      obtain ⟨t, ⟨e, m, n⟩, rfl, ix, et⟩ := (t1.same s2).get hv
      refine ⟨t, _, rfl, SqT.of et, rfl, _, _, rfl, _, _, rfl, _, _, rfl, rfl, rfl, ?_⟩
      refine ⟨_, rfl, _, rfl, _, rfl, _, _, rfl, rfl, by show 2 ≤ sizeLine; decide, fun X hX => ?_⟩
      have sX := same_upd (o := .tup [.int e, .int (Builtin.bitXor (m : Nat) (n : Nat))]) hX
      have eD := sX _ _ e2
      refine ⟨us, eD, Nat.lt_of_lt_of_le (show us.length < 1000 by
        have := pu.length
        rw [List.length_map, List.length_take] at this
        omega) kz, same_fresh hD (s2.trans sX), _, upd_same, ?_⟩
      have e4 : (mergeF P O).take (i + 1) = (mergeF P O).take i ++ [(e, m, n)] := by rw [List.take_succ, ix]; rfl
      rw [e4, List.map_append]
      refine ((pu.same sX).app (.cons ?_ .nil)).keep (TK.lst eD)
      rw [← bx_nat]
      exact upd_same
    · rintro H2 ⟨s2, us, e2, pu⟩
      rw [List.take_of_length_le (by omega)] at pu
      have s12 := s1.trans s2
      obtain ⟨dx, L, xs, hA, hL, pa⟩ := (S.same s12).ex
      obtain ⟨dy, Lb, ys, hB, hLb, pb⟩ := (T.same s12).ex
      have em : (if ((d : Nat) : Int) > (d : Nat) then ((d : Nat) : Int) else (d : Nat)) = (d : Nat) := if_neg (Int.lt_irrefl _)
      refine ⟨_, rfl, _, rfl, a, C, dx, _, .int (d : Nat), rfl, hA, M.c, M.depth, rfl, _, rfl, b, C, dy, _, .int (d : Nat), rfl, hB, M.c, M.depth, rfl, (d : Nat), (d : Nat), rfl, d, by rw [em]; rfl, by omega, ?_⟩
      refine ⟨_, rfl, a, C, dx, _, .int sz, rfl, hA, M.c, M.size, rfl, ?_⟩
      have mk : ∀ x ∈ joinF (· ^^^ ·) P O, x.2 < 2 ^ (12 * 2 ^ d) := fun x hx => by
        obtain ⟨y, hy, rfl⟩ := List.mem_map.mp hx
        obtain ⟨p1, p2⟩ := merge_masks (p := fun m => m < 2 ^ (12 * 2 ^ d)) (Nat.two_pow_pos _) S.masks T.masks y hy
        exact Nat.xor_lt_two_pow p1 p2
      refine ⟨D, joinF (· ^^^ ·) P O, 12 * 2 ^ d, sz, sz, rfl, ⟨⟨us, e2, pu⟩, by unfold joinF; rw [List.length_map]; omega, join_wsc S.asc.wsc T.asc.wsc.up, mk, w0, w9⟩, Int.le_of_lt S.s0, Int.le_refl _, fun H3 s3 => ⟨rfl, ?_⟩⟩
      have e : decide (V.int (nMk (joinF (· ^^^ ·) P O) (12 * 2 ^ d) sz.toNat : Nat) = V.int 0) = decide (nMk (joinF (· ^^^ ·) P O) (12 * 2 ^ d) sz.toNat = 0) := by
        rw [dec_ints, decide_eq_decide]
        omega
      rw [e]
      exact hQ H3 (s12.trans s3)
end
end Aw

namespace Aw
open PySem PySem.Spec PyProof.Rows L2 NdefX
/-- no place is marked in just one of them -/
theorem joinx_none {P O : Pcs} {w : Nat} {s : Int} (hP : Asc 0 P s) (hO : Asc 0 O s) (s0 : 0 < s) : nMk (joinF (· ^^^ ·) P O) w s.toNat = 0 ↔ ∀ j, 0 ≤ j → j < s → markF P w j = markF O w j := by
  have J := joinI (g := (· ^^^ ·)) hP (Ups.of_asc hO (hO.ne s0)) (fun x hx => Int.le_of_lt (hO.mem_le x hx).1) s0
  have k : ∀ j, 0 ≤ j → j < s → markF (joinF (· ^^^ ·) P O) w j = (markF P w j ^^ markF O w j) := fun j j0 j1 => by
    unfold markF
    rw [J.at_ j j0 j1, Nat.testBit_xor]
  rw [nMk_zero]
  constructor
  · intro h j j0 j1
    have := h j.toNat (by omega)
    rw [show ((j.toNat : Nat) : Int) = j by omega, k j j0 j1] at this
    cases e1 : markF P w j <;> cases e2 : markF O w j <;> rw [e1, e2] at this <;> first | rfl | exact absurd this (by decide)
  · intro h j hj
    rw [k (j : Nat) (by omega) (by omega), h (j : Nat) (by omega) (by omega), Bool.xor_self]
structure TxtEM (K : PySem.W.Frag) (C : Addr) : Prop where
  ha : PySem.W.findIn K (.ref C) "__class__" = some (some (.builtin "object.__class__"))
  hn : PySem.W.specialIn K (.builtin "object.__class__") "__get__" = some (some (.builtin "getset_descriptor.__get__"))
  ht : PySem.W.takesIn K (.builtin "object.__class__") = some true
  hm : PySem.W.mroIn K C (.type "object") = some true
  me : PySem.W.kitOne K (.ref C) (.ref C) = some true
def spMEq0 (C : Addr) : Sp := fun vs H Q _ => ∃ (a b : Addr) (P O : Pcs) (d : Nat) (s : Int), vs = [.ref a, .ref b] ∧ MkAt C H a P d s ∧ MkAt C H b O d s ∧
  ∀ H', Same H H' → Q (.bl (decide (nMk (joinF (· ^^^ ·) P O) (12 * 2 ^ d) s.toNat = 0))) H'
section
variable {P : Program} {w : World} {K : PySem.W.Frag} {mg : Str → Option Value} {base : Heap} {C CZ : Addr}
theorem scMEq : FnScope ["self", "other"] ["self", "other"] (defScope sMEq) := ⟨rfl, rfl, rfl, by decide +kernel, rfl, by decide +kernel, by decide +kernel⟩
theorem ok_meq0 {f fA : Addr} {fd ad : FuncData} (F : Fun K "__eq__" "Marks.__eq__" sMEq f fd) (GA : FnOk P w K mg base (L2.CX P w) 5 fA ad ["one", "other"] (spAreS0 C)) (FA : Fun K "are_same" "are_same" sAreS fA ad) (bA : Binds K ad ["one", "other"] []) (gA : mg "are_same" = some (.ref fA))
    (M : MkCls K C) (Te : TxtEM K C) (isi : mg "isinstance" = none) (gC : mg "Marks" = some (.ref C)) : FnOk P w K mg base (L2.CX P w) 6 f fd ["self", "other"] (spMEq0 C) := by
  refine F.okX scMEq (fun vs H Q E h => ?_) (fun cdv A outer s H vs Q E hr h => ?_)
  · obtain ⟨a, b, P, O, d, s, rfl, _⟩ := h
    rfl
  · obtain ⟨a, b, P, O, d, sz, rfl, S, T, hQ⟩ := h
    have nd := scMEq.nd
    refine ⟨_, (pss_one (ps_ret (pe_and (pe_callB call_isi (by rfl) isi (by decide +kernel) (pa_cons (pv 1) (pa_cons (pe_glob (v := .ref C) (by rfl) gC rfl) pa_nil))) (pe_and (pe_cmpR op_eq (pe_fld (pv 0) rfl) (pe_fld (pv 1) rfl) (nomark _)) (pe_one (pe_callS GA (hr.mono (by decide)) (by rfl) gA FA.kp bA (fun σ => passAt (takes_of rfl rfl rfl rfl) σ) (pa_cons (pv 0) (pa_cons (pv 1) pa_nil)))))))), ?_⟩
    -- BODY
    obtain ⟨dx, L, xs, hA, hL, pa⟩ := S.ex
    obtain ⟨dy, Lb, ys, hB, hLb, pb⟩ := T.ex
    refine ⟨_, rfl, .ref b, .ref C, .ref C, .ref C, true, rfl, .own _, .base (.ins hB M.c Te.ha Te.hn Te.ht Te.hm), Te.me, _, rfl, ?_⟩
    refine iteT ?_
    refine ⟨_, rfl, a, C, dx, _, .int sz, rfl, hA, M.c, M.size, rfl, _, rfl, b, C, dy, _, .int sz, rfl, hB, M.c, M.size, rfl, rfl, _, rfl, ?_⟩
    rw [decide_eq_true rfl]
    refine iteT ?_
    exact ⟨_, rfl, _, rfl, a, b, P, O, d, sz, rfl, S, T, hQ⟩
end
end Aw

namespace Aw
open PySem PySem.Spec PyProof.Rows L2 NdefX
/-! ### a == b, a != b where a's class has its own __eq__ (and no __ne__) -/
theorem neSlot : Slot "object" "__ne__" "object.__ne__" := .of (owner := "object") (n := "__ne__") (by rw [typeLookup_type, builtinLookup_eq_fast]; kernel_rfl) (by decide +kernel) (by decide +kernel) (by decide +kernel)
    (by first | exact .inl (by decide +kernel) | exact .inr (by decide +kernel)) (by rw [isSubtype_type]; kernel_rfl)
section
variable {prog : Program} {w : World} {A : Around} {E : Value → Shared → Prop} {s : Shared} {K : PySem.W.Frag} {x C : Addr} {ox : Obj} {od : Option Obj} {name : Str} {b tb : Value} {id : String}
theorem ifBound_b {M : Model} {args : List Value} {Q : Option Value → Shared → Prop} (X : K.In s.heap) (I : PySem.W.InstAt s.heap x ox C od) (hs : PySem.W.findIn K (.ref C) name = some (some (.builtin id))) (hb : bindSpecial (.builtin id) (.ref x) = pure (.builtin id, [.ref x]))
    (h : wpAny M A (call (.builtin id) (.ref x :: args)) (fun v => Q (some v)) E s) : wpAny M A (callSpecialIfBound? (.ref x) name args) Q E s := by
  simp only [callSpecialIfBound?, bindSpecialIfBound?]
  refine wpAny_holding (wpAny_bind (wpAny_bind (wpAny_bind (I.type.here ((PySem.W.looks_findIn X hs).here ?_)))))
  refine wpAny_bind (wpAny_askSetting (wpAny_ite ?_))
  have fin : wpAny M A (call (.builtin id) ([.ref x] ++ args) >>= fun v => pure (some v)) Q E s := wpAny_bind (wpAny_mono h (fun v s' h' => wpAny_pure h') fun _ _ h' => h')
  split
  · exact wpAny_bind (wpAny_of_eq hb (wpAny_pure (by exact fin)))
  · exact wpAny_tryCatch (wpAny_bind (wpAny_of_eq hb (wpAny_pure (by exact fin))))
theorem cmp_b {op : CmpOp} {Q : Value → Shared → Prop} (hu : A.units < cLine) (X : K.In s.heap) (I : PySem.W.InstAt s.heap x ox C od) (hb : PySem.W.Looks (model prog w) s.heap (typeOf b) tb) (hn : PySem.W.notFirst K C tb = true)
    (hs : PySem.W.findIn K (.ref C) (cmpInfo op).2.1 = some (some (.builtin id))) (hbd : bindSpecial (.builtin id) (.ref x) = pure (.builtin id, [.ref x]))
    (h : wpAny (model prog w) A (call (.builtin id) [.ref x, b]) (PySem.W.CmpBack Q) E s) : wpAny (model prog w) A (richCompare op (.ref x) b) Q E s := by
  have one : wpAny (model prog w) A (tryCompare (.ref x) (cmpInfo op).2.1 b) (fun r s' => ∃ v, r = some v ∧ Q v s') E s := by
    unfold tryCompare
    refine wpAny_bind (ifBound_b X I hs hbd (wpAny_mono h (fun v s' hv => ?_) fun _ _ e => e))
    cases v <;> first | exact hv.elim | exact wpAny_pure ⟨_, rfl, hv⟩
  unfold richCompare
  simp only [oneThing_ref]
  refine wpAny_holding (wpAny_bind (wpAny_cRoomFor hu ?_))
  refine wpAny_bind (I.type.here (wpAny_bind (hb.here ?_)))
  split
  · rename_i q
    have e : PySem.W.subIn K tb (.ref C) = some false := by
      rcases Bool.or_eq_true_iff.mp hn with e | e
      · rw [beq_iff_eq.mp e] at q; simp at q
      · exact beq_iff_eq.mp e
    refine wpAny_bind ((PySem.W.looks_subIn X e).here ?_)
    simp only [Bool.false_eq_true, if_false]
    refine wpAny_bind (wpAny_mono one (fun r s' z => ?_) fun _ _ e => e)
    obtain ⟨v, rfl, hq⟩ := z
    exact wpAny_pure hq
  · refine wpAny_bind (wpAny_pure ?_)
    simp only [Bool.false_eq_true, if_false]
    refine wpAny_bind (wpAny_mono one (fun r s' z => ?_) fun _ _ e => e)
    obtain ⟨v, rfl, hq⟩ := z
    exact wpAny_pure hq
/-- object.__ne__ over the own __eq__ at f -/
theorem ne_own {f : Addr} {Q : Value → Shared → Prop} (hu : A.units + 1 < cLine) (X : K.In s.heap) (I : PySem.W.InstAt s.heap x ox C od) (ho : PySem.W.mroIn K C (.type "object") = some true)
    (hs : PySem.W.findIn K (.ref C) "__eq__" = some (some (.ref f))) (hf : PySem.W.isFn K (.ref f) = true)
    (h : wpAny (model prog w) A.in1 (call (.ref f) [.ref x, b]) (fun v s' => ∃ r, v = .bool r ∧ Q (.bool (!r)) s') E s) : wpAny (model prog w) A (call (.builtin "object.__ne__") [.ref x, b]) Q E s := by
  have sub : PySem.W.Looks (model prog w) s.heap (isInstance (.ref x) (.type "object")) true := I.type.andThen (PySem.W.looks_mroIn X ho)
  obtain ⟨hp, g, d, t, os⟩ := s
  refine wpAny_call (codeAny_call_builtin neSlot.plain F.cmpEntry_ne ?_)
  refine @PySem.W.check_slot (model prog w) _ _ ⟨hp, g, d, t, os⟩ "object.__ne__" "object" "__ne__" (.ref x) [b] [] _ F.cmpKind_ne F.cmpSplit_ne sub (F.cmpArgs_ne _ _) ?_
  unfold Builtin.«object.__ne__»
  refine wpAny_bind (wpAny_of_eq (a := ((Value.ref x : Value), [b])) (by first | rfl | (simp only [Builtin.slotArgs]; rfl)) ?_)
  refine wpAny_bind (wpAny_cRoomFor hu ?_)
  refine wpAny_bind (PySem.W.ifBound_K X I hs hf (wpAny_mono h (fun v s' hv => ?_) fun _ _ e => e))
  obtain ⟨r, rfl, q⟩ := hv
  refine wpAny_bind (wpAny_truthy_bool ?_)
  exact wpAny_pure q
end
end Aw
namespace Aw
open PySem PySem.Spec PyProof.Rows L2 NdefX
/-- what the class says of ==, != -/
structure EqTxt (K : PySem.W.Frag) (C f : Addr) : Prop where
  eq : PySem.W.findIn K (.ref C) "__eq__" = some (some (.ref f))
  fn : PySem.W.isFn K (.ref f) = true
  ne : PySem.W.findIn K (.ref C) "__ne__" = some (some (.builtin "object.__ne__"))
  ob : PySem.W.mroIn K C (.type "object") = some true
section
variable {X : Cx} {C f : Addr} {fd : FuncData} {ps : List Str} {sp : Sp} {k : Nat}
/-- the type of the other side, told -/
def OthV (K : PySem.W.Frag) (C : Addr) (y : V) (H : Hp) : Prop := (∃ b dx fs, y = .ref b ∧ H b = some (.ins C dx fs)) ∨ (∃ t, y = .str t) ∨ y = .non
theorem oth_type {pins : List (Addr × Obj)} {σ : Aw.St} {H : Hp} {s : Shared} {y : V} {u : Value} (I : Inv X pins σ H s) (r : RelV y u) (o : OthV X.K C y H) (hS : PySem.W.notFirst X.K C (.type "str") = true) (hN : PySem.W.notFirst X.K C (.type "NoneType") = true) :
    ∃ tb, PySem.W.Looks (model X.prog X.w) s.heap (typeOf u) tb ∧ PySem.W.notFirst X.K C tb = true := by
  rcases o with ⟨b, dx, fs, rfl, hb⟩ | ⟨t, rfl⟩ | rfl
  · cases (show u = Value.ref b from r)
    obtain ⟨mB, J', _⟩ := ins_get I.hok hb
    obtain ⟨od', J', _⟩ := J'.look
    exact ⟨_, J'.type, by simp [PySem.W.notFirst]⟩
  · obtain ⟨tk, rfl⟩ := (show ∃ tk, u = Value.str t tk from r)
    exact ⟨.type "str", .of_pure rfl, hS⟩
  · cases (show u = Value.none from r)
    exact ⟨.type "NoneType", .of_pure rfl, hN⟩
def rOwn (K : PySem.W.Frag) (C : Addr) (sp : Sp) (neg : Bool) : R2 := fun x y H Q => ∃ a dx fs, x = .ref a ∧ H a = some (.ins C dx fs) ∧ OthV K C y H ∧ sp [x, y] H (fun v H' => ∃ r, v = .bl r ∧ Q (.bl (if neg then !r else r)) H') E0
theorem op_eqOwn (T : EqTxt X.K C f) (hS : PySem.W.notFirst X.K C (.type "str") = true) (hN : PySem.W.notFirst X.K C (.type "NoneType") = true) (F : FnOk X.prog X.w X.K X.mg X.base CX0 k f fd ps sp) (hr : Room k X.A) (hb : Binds X.K fd ps []) : OpR X (compareOp .Eq) (rOwn X.K C sp false) := by
  intro pins s σ H x y v u Q I rx ry h
  obtain ⟨a, dx, fs, rfl, ha, oy, hsp⟩ := h
  cases rx
  obtain ⟨mA, J, _⟩ := ins_get I.hok ha
  obtain ⟨od, J, _⟩ := J.look
  obtain ⟨m, hF⟩ := I.fr
  obtain ⟨tb, lt, nf⟩ := oth_type I ry oy hS hN
  show wpAny (model X.prog X.w) X.A (richCompare .Eq (.ref a) u) _ _ s
  refine PySem.W.cmp_K (op := .Eq) hr.units0 hF I.ok.mod.kin J lt nf T.eq T.fn ?_
  refine wpAny_mono (run_fn (us := [.ref a, u]) (vs := [.ref a, y]) (ds := []) (dvs := []) F hr hb .nil pass0 I (.cons rfl (.cons ry .nil)) hsp) (fun r s' hq => ?_) fun _ _ z => z
  obtain ⟨z, H', I', rz, b, ez, q⟩ := hq
  subst ez
  cases (show r = Value.bool b from rz)
  exact ⟨.bl b, H', I', rfl, q⟩
theorem op_neOwn (T : EqTxt X.K C f) (hS : PySem.W.notFirst X.K C (.type "str") = true) (hN : PySem.W.notFirst X.K C (.type "NoneType") = true) (F : FnOk X.prog X.w X.K X.mg X.base CX0 k f fd ps sp) (hr : Room (k + 1) X.A) (hb : Binds X.K fd ps []) : OpR X (compareOp .NotEq) (rOwn X.K C sp true) := by
  intro pins s σ H x y v u Q I rx ry h
  obtain ⟨a, dx, fs, rfl, ha, oy, hsp⟩ := h
  cases rx
  obtain ⟨mA, J, _⟩ := ins_get I.hok ha
  obtain ⟨od, J, _⟩ := J.look
  obtain ⟨tb, lt, nf⟩ := oth_type I ry oy hS hN
  show wpAny (model X.prog X.w) X.A (richCompare .NotEq (.ref a) u) _ _ s
  have hu := hr.units
  refine cmp_b (op := .NotEq) hr.units0 I.kIn J lt nf T.ne (neSlot.bind _) (ne_own (by omega) I.kIn J T.ob T.eq T.fn ?_)
  have hl : [Value.ref a, u].length = ps.length := by
    have e := F.len _ _ _ _ hsp
    rw [← e]
    rfl
  have bb := hb s [.ref a, u] I.kIn (by rw [List.append_nil]; exact hl)
  rw [List.append_nil] at bb
  have r2 : Vals [V.ref a, y] [Value.ref a, u] := .cons rfl (.cons ry .nil)
  refine wpAny_call (codeAny_mono (F.run X.A.in1 X.stack s H ⟨[.ref a, u], []⟩ [.ref a, u] [.ref a, y] _ E0 (Room.in1 hr) I.env0.in1 bb r2 hsp) fun r s' hq => ?_)
  cases r with
  | error e => exact False.elim hq
  | ok fl =>
    cases fl with
    | ret w =>
      obtain ⟨z, H', I', rz, b, ez, q⟩ := I.after hq
      subst ez
      cases (show w = Value.bool b from rz)
      exact ⟨b, rfl, .bl (!b), H', I', rfl, q⟩
    | next => exact False.elim hq
    | brk => exact False.elim hq
    | cont => exact False.elim hq
end
end Aw

namespace Aw
open PySem PySem.Spec PyProof.Rows L2 NdefX
/-- a def that raises nothing where what it is asked for is good -/
theorem quiet {P : Program} {w : World} {K : PySem.W.Frag} {mg : Str → Option Value} {base : Heap} {k : Nat} {f : Addr} {fd : FuncData} {ps : List Str} {sp : Sp} (F : FnOk P w K mg base (L2.CX P w) k f fd ps sp) :
    FnOk P w K mg base CX0 k f fd ps (fun vs H Q _ => sp vs H Q E0) :=
  ⟨fun vs H Q E h => F.len _ _ _ _ h, fun A outer s H args us vs Q E hr he hb hv hs => codeAny_mono (F.run A outer s H args us vs Q E0 hr he hb hv hs) fun r s' hq => by
    cases r with
    | error e =>
      obtain ⟨_, _, _, _, _, _, _, _, _, _, _, _, h⟩ := hq
      exact h.elim
    | ok fl => cases fl <;> exact hq⟩
theorem passA0 {X : Cx} {E : Aw.St → XK} : ∀ σ, PassesAt CX0 X σ (E σ) := fun _ _ _ _ _ _ _ c => c.elim
/-! ### the runs of single places -/
def onesF (w : List Bool) (n : Nat) : List (Int × Int × Int) := ((List.range n).filter fun j => w[j]?.getD false).map fun j => (((j : Nat) : Int), ((j : Nat) : Int), (1 : Int))
theorem onesF_succ {w : List Bool} {n : Nat} : onesF w (n + 1) = onesF w n ++ (if w[n]?.getD false then [(((n : Nat) : Int), ((n : Nat) : Int), (1 : Int))] else []) := by
  unfold onesF
  rw [List.range_succ, List.filter_append, List.map_append]
  congr 1
  cases hb : w[n]?.getD false with
  | true => rw [List.filter_cons_of_pos (p := fun j => w[j]?.getD false) hb]; rfl
  | false => rw [List.filter_cons_of_neg (p := fun j => w[j]?.getD false) (by rw [hb]; exact Bool.noConfusion)]; rfl
theorem inRun_one {i : Nat} {j : Int} : inRun (((i : Nat) : Int), ((i : Nat) : Int), (1 : Int)) j = decide (j = (i : Nat)) := by
  show (decide (((i : Nat) : Int) ≤ j) && (decide (j ≤ ((i : Nat) : Int)) && decide ((j - (i : Nat)) % 1 = 0))) = _
  by_cases z : j = (i : Nat)
  · rw [decide_eq_true z, decide_eq_true (by omega), decide_eq_true (by omega), decide_eq_true (by omega)]
    rfl
  · rw [decide_eq_false z]
    by_cases y : ((i : Nat) : Int) ≤ j
    · rw [decide_eq_false (show ¬ j ≤ ((i : Nat) : Int) by omega), Bool.false_and, Bool.and_false]
    · rw [decide_eq_false y, Bool.false_and]
theorem oddR_ones {w : List Bool} {j : Int} : ∀ {n : Nat}, oddR (onesF w n) j = (decide (0 ≤ j ∧ j < (n : Nat)) && w[j.toNat]?.getD false)
  | 0 => by
    rw [decide_eq_false (show ¬ (0 ≤ j ∧ j < ((0 : Nat) : Int)) by omega), Bool.false_and]
    rfl
  | n + 1 => by
    have ih := oddR_ones (w := w) (j := j) (n := n)
    unfold oddR at ih ⊢
    rw [onesF_succ, List.foldl_append, ih]
    by_cases e : j = (n : Nat)
    · subst e
      rw [decide_eq_false (show ¬ (0 ≤ ((n : Nat) : Int) ∧ ((n : Nat) : Int) < (n : Nat)) by omega), Bool.false_and, decide_eq_true (show 0 ≤ ((n : Nat) : Int) ∧ ((n : Nat) : Int) < ((n + 1 : Nat) : Int) by omega), Bool.true_and, Int.toNat_natCast]
      cases hb : w[n]?.getD false with
      | true =>
        show (false ^^ inRun (((n : Nat) : Int), ((n : Nat) : Int), (1 : Int)) (n : Nat)) = true
        rw [inRun_one, decide_eq_true rfl]
        rfl
      | false => rfl
    · have ed : decide (0 ≤ j ∧ j < ((n + 1 : Nat) : Int)) = decide (0 ≤ j ∧ j < (n : Nat)) := by
        rw [decide_eq_decide]
        omega
      rw [ed]
      cases hb : w[n]?.getD false with
      | true =>
        show ((decide (0 ≤ j ∧ j < (n : Nat)) && w[j.toNat]?.getD false) ^^ inRun (((n : Nat) : Int), ((n : Nat) : Int), (1 : Int)) j) = _
        rw [inRun_one, decide_eq_false e, Bool.xor_false]
      | false => rfl
theorem onesF_ok {w : List Bool} {n : Nat} : ∀ r ∈ onesF w n, RunOk r (n : Nat) := fun r hr => by
  obtain ⟨j, hj, rfl⟩ := List.mem_map.mp hr
  have := List.mem_range.mp (List.mem_filter.mp hj).1
  exact ⟨by show 0 ≤ ((j : Nat) : Int); omega, Int.le_refl _, by show ((j : Nat) : Int) < (n : Nat); omega, Int.le_refl _, by show (1 : Int) ≤ 4; decide⟩
theorem onesF_len {w : List Bool} {n : Nat} : (onesF w n).length ≤ n := by
  unfold onesF
  rw [List.length_map]
  exact Nat.le_trans (List.length_filter_le _ _) (by rw [List.length_range]; exact Nat.le_refl _)
end Aw

namespace Aw
open PySem PySem.Spec PyProof.Rows L2 NdefX
def spInR : Sp := fun vs H Q _ => ∃ (t : Addr) (f l c j : Int), vs = [.ref t, .int j] ∧ H t = some (.tup [.int f, .int l, .int c]) ∧ 0 < c ∧ c < 1000000 ∧ Q (.bl (inRun (f, l, c) j)) H
section
variable {P : Program} {w : World} {K : PySem.W.Frag} {mg : Str → Option Value} {base : Heap}
theorem scInR : FnScope ["_law_run_here", "_law_j"] ["_law_run_here", "_law_j"] (defScope sInR) := ⟨rfl, rfl, rfl, by decide +kernel, rfl, by decide +kernel, by decide +kernel⟩
theorem ok_inr {f : Addr} {fd : FuncData} (F : Fun K "_law_in_run" "_law_in_run" sInR f fd) (gI : mg "int" = none) : FnOk P w K mg base CX0 1 f fd ["_law_run_here", "_law_j"] spInR := by
  refine F.ok scInR (fun vs H Q E h => ?_) (fun cdv A outer s H vs Q E hr h => ?_)
  · obtain ⟨t, f, l, c, j, rfl, _⟩ := h
    rfl
  · obtain ⟨t, f, l, c, j, rfl, ht, c0, c1, hQ⟩ := h
    have nd := scInR.nd
    refine ⟨_, (pss_one (ps_ret (pe_and (pe_chain op_le op_le (pe_ix ix_tup (pv 0) pe_int (fun _ _ => rfl)) (pv 1) (pe_ix ix_tup (pv 0) pe_int (fun _ _ => rfl))) (pe_one (pe_cmpR op_eq (pe_op op_mod (pe_callTy call_int1 (by rfl) gI (by decide +kernel) (pa_cons (pe_op op_sub (pv 1) (pe_ix ix_tup (pv 0) pe_int (fun _ _ => rfl))) pa_nil)) (pe_ix ix_tup (pv 0) pe_int (fun _ _ => rfl))) pe_int (nomark _)))))), ?_⟩
    -- BODY
    have hQ : Q (.bl (decide (f ≤ j) && (decide (j ≤ l) && decide ((j - f) % c = 0)))) H := hQ
    have sq := SqT.of (K := K) ht
    refine ⟨_, rfl, t, _, 0, _, rfl, rfl, sq, rfl, _, rfl, f, j, rfl, rfl, _, rfl, ite_dec (fun g => ?_) (fun g => ?_)⟩
    rotate_left
    · rw [decide_eq_false g, Bool.false_and] at hQ
      exact ⟨_, rfl, iteF hQ⟩
    rw [decide_eq_true g, Bool.true_and] at hQ
    refine ⟨_, rfl, t, _, 1, _, rfl, rfl, sq, rfl, j, l, rfl, rfl, _, rfl, ite_dec (fun g2 => ?_) (fun g2 => ?_)⟩
    rotate_left
    · rw [decide_eq_false g2, Bool.false_and] at hQ
      exact hQ
    rw [decide_eq_true g2, Bool.true_and, ← dec_ints] at hQ
    exact ⟨_, rfl, _, rfl, t, _, 0, _, rfl, rfl, sq, rfl, j, f, rfl, rfl, .inl ⟨_, rfl, _, rfl, t, _, 2, _, rfl, rfl, sq, rfl, _, c, rfl, rfl, c0, rfl, hQ⟩⟩
end
end Aw

namespace Aw
open PySem PySem.Spec PyProof.Rows L2 NdefX
/-- runs in the heap, all of them tuples -/
inductive RnT (H : Hp) : List V → List (Int × Int × Int) → Prop
  | nil : RnT H [] []
  | cons {t : Addr} {f l c : Int} {vs : List V} {rs : List (Int × Int × Int)} : H t = some (.tup [.int f, .int l, .int c]) → RnT H vs rs → RnT H (.ref t :: vs) ((f, l, c) :: rs)
theorem RnT.same {H H' : Hp} (s : Same H H') : ∀ {vs : List V} {P : List (Int × Int × Int)}, RnT H vs P → RnT H' vs P
  | _, _, .nil => .nil
  | _, _, .cons h r => .cons (s _ _ h) (RnT.same s r)
theorem RnT.any {H : Hp} : ∀ {vs : List V} {P : List (Int × Int × Int)}, RnT H vs P → RnA H vs P
  | _, _, .nil => .nil
  | _, _, .cons h r => .cons (.inr h) r.any
theorem RnT.get {H : Hp} : ∀ {vs : List V} {P : List (Int × Int × Int)} {i : Nat} {v : V}, RnT H vs P → vs[i]? = some v → ∃ (t : Addr) (x : Int × Int × Int), v = .ref t ∧ P[i]? = some x ∧ H t = some (.tup [.int x.1, .int x.2.1, .int x.2.2])
  | _, _, _, _, .nil, e => by simp at e
  | _, _, 0, _, .cons h _, e => by
    cases Option.some.inj e
    exact ⟨_, _, rfl, rfl, h⟩
  | _, _, i + 1, _, .cons _ r, e => RnT.get (i := i) r (by simpa using e)
def spOdd : Sp := fun vs H Q _ => ∃ (R : Addr) (xs : List V) (rs : List (Int × Int × Int)) (j : Int), vs = [.ref R, .int j] ∧ H R = some (.lst xs) ∧ RnT H xs rs ∧ rs.length ≤ 100 ∧ (∀ r ∈ rs, 0 < r.2.2 ∧ r.2.2 < 1000000) ∧
  ∀ H', Same H H' → Q (.bl (oddR rs j)) H'
section
variable {P : Program} {w : World} {K : PySem.W.Frag} {mg : Str → Option Value} {base : Heap}
theorem scOdd : FnScope ["_law_runs_here", "_law_j", "_law_run_here"] ["_law_runs_here", "_law_j"] (defScope sOdd) := ⟨rfl, rfl, rfl, by decide +kernel, rfl, by decide +kernel, by decide +kernel⟩
theorem ok_odd {f fI : Addr} {fd id : FuncData} (F : Fun K "_law_odd" "_law_odd" sOdd f fd) (FI : Fun K "_law_in_run" "_law_in_run" sInR fI id) (bI : Binds K id ["_law_run_here", "_law_j"] []) (gIn : mg "_law_in_run" = some (.ref fI)) (gI : mg "int" = none) (gL : mg "len" = none) : FnOk P w K mg base CX0 2 f fd ["_law_runs_here", "_law_j"] spOdd := by
  have GI : FnOk P w K mg base CX0 1 fI id ["_law_run_here", "_law_j"] spInR := ok_inr FI gI
  refine F.ok scOdd (fun vs H Q E h => ?_) (fun cdv A outer s H vs Q E hr h => ?_)
  · obtain ⟨R, xs, rs, j, rfl, _⟩ := h
    rfl
  · obtain ⟨R, xs, rs, j, rfl, hR, ra, ln, rc, hQ⟩ := h
    have nd := scOdd.nd
    refine ⟨_, (pss_one (ps_ret (pe_cmpR op_eq (pe_op op_mod (pe_callTy call_int1 (by rfl) gI (by decide +kernel) (pa_cons (pe_callB call_len_seq (by rfl) gL PySem.boot_len (pa_cons (pe_lc (own := [("_law_run_here", 2)]) (g := (gName 2)) rfl nd (pi_list (pv 0)) (blkOk_by (own := [("_law_run_here", 2)]) (N := ["_law_runs_here", "_law_j", "_law_run_here"]) (sc := defScope sOdd) (by decide +kernel)) (fun _ _ _ _ _ => (pg_name (i := 2) nd rfl (Or.inl rfl))) (fun _ _ _ _ _ => pts_one (pt_val (pe_call GI (hr.mono (by decide)) (by rfl) gIn FI.kp bI .nil pass0 (pa_cons (pv 2) (pa_cons (pv 1) pa_nil))))) (fun _ _ _ _ _ => pe_int)) pa_nil)) pa_nil)) pe_int) pe_int (nomark _)))), ?_⟩
    -- BODY
    have lx := ra.any.length
    refine ⟨_, rfl, R, rfl, ⟨_, SqL.of hR⟩, fun D hD => ?_⟩
    refine lc_list (a := R) (xs := xs) (fun i H2 => Same H H2 ∧ ∃ us : List V, H2 D = some (.lst us) ∧ us.length = ((rs.take i).filter fun r => inRun r j).length) ⟨same_upd hD, [], upd_same, rfl⟩ (fun i H2 _ z => SqL.of (z.1 _ _ hR)) ?_ ?_
    · rintro i v H2 hv ⟨s2, us, e2, lu⟩
      obtain ⟨t, ⟨f, l, c⟩, rfl, ix, et⟩ := (ra.same s2).get hv
      obtain ⟨c0, c1⟩ := rc _ (List.mem_of_getElem? ix)
      have e4 : rs.take (i + 1) = rs.take i ++ [(f, l, c)] := by rw [List.take_succ, ix]; rfl
      have lf : ((rs.take i).filter fun r => inRun r j).length ≤ 100 := by
        refine Nat.le_trans (List.length_filter_le _ _) ?_
        rw [List.length_take]
        omega
      refine ⟨rfl, _, rfl, _, rfl, t, f, l, c, j, rfl, et, c0, c1, _, rfl, ?_⟩
      cases e : inRun (f, l, c) j with
      | true =>
        refine iteT ?_
        refine ⟨_, e2, Nat.lt_of_lt_of_le (show us.length < 1000 by omega) kz, same_fresh hD s2, _, upd_same, ?_⟩
        rw [e4, List.filter_append, List.length_append, List.length_append, lu, List.filter_cons_of_pos (p := fun r => inRun r j) e]
        rfl
      | false =>
        refine iteF ⟨s2, us, e2, ?_⟩
        rw [e4, List.filter_append, List.length_append, lu, List.filter_cons_of_neg (p := fun r => inRun r j) (by rw [e]; decide)]
        rfl
    · rintro H2 ⟨s2, us, e2, lu⟩
      rw [List.take_of_length_le (by omega)] at lu
      refine ⟨D, us, rfl, .inl (SqL.of e2), .inl ⟨_, rfl, _, 2, rfl, rfl, (show (0 : Int) < 2 by decide), rfl, ?_⟩⟩
      have hq := hQ H2 s2
      have e : decide (V.int ((us.length : Nat) % 2) = V.int 1) = oddR rs j := by
        rw [oddR_count, dec_ints, decide_eq_decide, lu]
        omega
      rw [← e] at hq
      exact hq
end
end Aw

namespace Aw
open PySem PySem.Spec PyProof.Rows L2 NdefX
def spLRun : Sp := fun vs H Q _ => ∃ (p c : Addr) (k : Int) (n : Nat), vs = [.ref p, .int k] ∧ 1 ≤ k ∧ k ≤ T30 ∧ Pen H p c n ∧ n ≤ 700000 ∧ ∀ (r : Int × Int × Int) (t : Addr) H', RunOk r k → But p H H' → H t = none → H' t = some (.tup [.int r.1, .int r.2.1, .int r.2.2]) → Pen H' p c (n + 23) → Q (.ref t) H'
section
variable {P : Program} {w : World} {K : PySem.W.Frag} {mg : Str → Option Value} {base : Heap} {fD fB : Addr}
theorem scLRun : FnScope ["_law_pen_here", "_law_k", "_law_first", "_law_last", "_law_step"] ["_law_pen_here", "_law_k"] (defScope sLRun) := ⟨rfl, rfl, rfl, by decide +kernel, rfl, by decide +kernel, by decide +kernel⟩
theorem ok_lrun {f fP : Addr} {fd dd bd pd : FuncData} (F : Fun K "_law_run" "_law_run" sLRun f fd) (N : TxtN P w K mg base fD fB dd bd) (FP : Fun K "_law_place" "_law_place" sLPlace fP pd) (bP : Binds K pd ["_law_pen_here", "_law_k"] []) (gP : mg "_law_place" = some (.ref fP)) : FnOk P w K mg base CX0 4 f fd ["_law_pen_here", "_law_k"] spLRun := by
  have GP : FnOk P w K mg base CX0 3 fP pd ["_law_pen_here", "_law_k"] spLPlace := ok_lplace FP N
  refine F.ok scLRun (fun vs H Q E h => ?_) (fun cdv A outer s H vs Q E hr h => ?_)
  · obtain ⟨p, c, k, n, rfl, _⟩ := h
    rfl
  · obtain ⟨p, c, k, n, rfl, k1, k2, pn, hn, hQ⟩ := h
    have nd := scLRun.nd
    refine ⟨_, (pss_cons (ps_par3 (i := 2) (j := 3) (l := 4) rfl nd rfl rfl rfl (by decide) (by decide) (by decide) rfl rfl rfl (pa_cons (pe_call GP (hr.mono (by decide)) (by rfl) gP FP.kp bP .nil pass0 (pa_cons (pv 0) (pa_cons (pv 1) pa_nil))) (pa_cons (pe_call GP (hr.mono (by decide)) (by rfl) gP FP.kp bP .nil pass0 (pa_cons (pv 0) (pa_cons (pv 1) pa_nil))) (pa_cons (pe_op op_add pe_int (pe_call N.GD (hr.mono (by decide)) (by rfl) N.gD N.FD.kp N.bD .nil pass0 (pa_cons (pv 0) (pa_cons pe_int pa_nil)))) pa_nil))) (by rfl))
      (pss_cons (ps_if (pt_cmpR op_eq (pe_call N.GD (hr.mono (by decide)) (by rfl) N.gD N.FD.kp N.bD .nil pass0 (pa_cons (pv 0) (pa_cons pe_int pa_nil))) pe_int (nomark _))
        (pss_one (ps_set (i := 3) nd rfl (Or.inl rfl) (pe_callB (call_min2 rfl) (by rfl) N.min (by decide +kernel) (pa_cons (pe_op op_sub (pv 1) pe_int) (pa_cons (pe_op op_add (pv 2) (pe_call N.GD (hr.mono (by decide)) (by rfl) N.gD N.FD.kp N.bD .nil pass0 (pa_cons (pv 0) (pa_cons pe_int pa_nil)))) pa_nil))))) pss_nil)
      (pss_one (ps_ret (pe_tup (pa_cons (pe_callB (call_min2 rfl) (by rfl) N.min (by decide +kernel) (pa_cons (pv 2) (pa_cons (pv 3) pa_nil))) (pa_cons (pe_callB (call_max2 rfl) (by rfl) N.max (by decide +kernel) (pa_cons (pv 2) (pa_cons (pv 3) pa_nil))) (pa_cons (pv 4) pa_nil)))))))), ?_⟩
    -- BODY
    refine ⟨_, rfl, _, rfl, p, c, k, n, rfl, k1, k2, pn, by omega, fun x H1 x0 x1 b1 p1 => ?_⟩
    refine ⟨_, rfl, _, rfl, p, c, k, n + 10, rfl, k1, k2, p1, by omega, fun y H2 y0 y1 b2 p2 => ?_⟩
    refine ⟨_, rfl, p, c, 4, n + 20, rfl, p2, by omega, by decide, by decide, fun z H3 z0 z1 b3 p3 => ?_⟩
    refine ⟨1, z, rfl, rfl, _, _, _, rfl, ?_⟩
    refine ⟨_, rfl, p, c, 3, n + 21, rfl, p3, by omega, by decide, by decide, fun q H4 q0 q1 b4 p4 => ?_⟩
    have b14 := ((b1.trans b2).trans b3).trans b4
    have fin : ∀ (y' : Int) (Hn : Hp), 0 ≤ y' → y' < k → But p H Hn → Pen Hn p c (n + 23) → ∀ t, Hn t = none →
        Q (.ref t) (upd Hn t (.tup [.int (if y' < x then y' else x), .int (if y' > x then y' else x), .int (1 + z)])) := fun y' Hn g0 g1 b P t ht => by
      have hn0 : H t = none := by
        cases e : H t with
        | none => rfl
        | some o =>
          by_cases ep : t = p
          · subst ep
            obtain ⟨o2, e2⟩ := P.some1
            rw [ht] at e2
            cases e2
          · rw [b t o e ep] at ht
            cases ht
      have st := same_upd (o := .tup [.int (if y' < x then y' else x), .int (if y' > x then y' else x), .int (1 + z)]) ht
      refine hQ (if y' < x then y' else x, if y' > x then y' else x, 1 + z) t _ ⟨?_, ?_, ?_, ?_, ?_⟩ (b.trans (But.same st)) hn0 upd_same (P.same st)
      · dsimp only; split <;> omega
      · dsimp only; split <;> split <;> omega
      · dsimp only; split <;> omega
      · dsimp only; omega
      · dsimp only; omega
    refine ⟨rfl, _, rfl, ite_int (fun e => ?_) (fun e => ?_)⟩
    · refine ⟨_, rfl, k, 1, rfl, rfl, _, rfl, _, rfl, p, c, 40, n + 22, rfl, p4, by omega, by decide, by decide, fun d H5 d0 d1 b5 p5 => ?_⟩
      refine ⟨x, d, rfl, rfl, k - 1, x + d, rfl, ?_⟩
      refine ⟨_, rfl, _, rfl, x, _, rfl, _, rfl, _, rfl, x, _, rfl, _, rfl, by show 3 ≤ sizeLine; decide, fun t ht => ?_⟩
      exact fin (if x + d < k - 1 then x + d else k - 1) H5 (by split <;> omega) (by split <;> omega) (b14.trans b5) p5 t ht
    · refine nxt ?_
      dsimp only
      refine ⟨_, rfl, _, rfl, x, y, rfl, _, rfl, _, rfl, x, y, rfl, _, rfl, by show 3 ≤ sizeLine; decide, fun t ht => ?_⟩
      exact fin y H4 y0 y1 b14 (p4.mono (by omega)) t ht
end
end Aw

namespace Aw
open PySem PySem.Spec PyProof.Rows L2 NdefX
theorem RnT.keep {H H' : Hp} (k : TK H H') : ∀ {vs : List V} {P : List (Int × Int × Int)}, RnT H vs P → RnT H' vs P
  | _, _, .nil => .nil
  | _, _, .cons h r => .cons (k.1 _ _ h) (RnT.keep k r)
theorem RnT.app {H : Hp} : ∀ {vs ws : List V} {P Q : List (Int × Int × Int)}, RnT H vs P → RnT H ws Q → RnT H (vs ++ ws) (P ++ Q)
  | _, _, _, _, .nil, s => s
  | _, _, _, _, .cons h r, s => .cons h (RnT.app r s)
def spLRuns : Sp := fun vs H Q _ => ∃ (p c : Addr) (k : Int) (m n : Nat), vs = [.ref p, .int k, .int (m : Nat)] ∧ 1 ≤ k ∧ k ≤ T30 ∧ m ≤ 20 ∧ Pen H p c n ∧ n ≤ 600000 ∧
  ∀ (L : Addr) (xs : List V) (rs : List (Int × Int × Int)) H', rs.length = m → (∀ r ∈ rs, RunOk r k) → But p H H' → H L = none → H' L = some (.lst xs) → RnT H' xs rs → Pen H' p c (n + 23 * m) → Q (.ref L) H'
section
variable {P : Program} {w : World} {K : PySem.W.Frag} {mg : Str → Option Value} {base : Heap} {fD fB : Addr}
theorem scLRuns : FnScope ["_law_pen_here", "_law_k", "_law_many", "_law_found", "_law_turn"] ["_law_pen_here", "_law_k", "_law_many"] (defScope sLRuns) := ⟨rfl, rfl, rfl, by decide +kernel, rfl, by decide +kernel, by decide +kernel⟩
theorem ok_lruns {f fR : Addr} {fd rd : FuncData} (F : Fun K "_law_runs" "_law_runs" sLRuns f fd) (GR : FnOk P w K mg base CX0 4 fR rd ["_law_pen_here", "_law_k"] spLRun) (FR : Fun K "_law_run" "_law_run" sLRun fR rd) (bR : Binds K rd ["_law_pen_here", "_law_k"] []) (gRn : mg "_law_run" = some (.ref fR)) (gR : mg "range" = none) : FnOk P w K mg base CX0 5 f fd ["_law_pen_here", "_law_k", "_law_many"] spLRuns := by
  refine F.ok scLRuns (fun vs H Q E h => ?_) (fun cdv A outer s H vs Q E hr h => ?_)
  · obtain ⟨p, c, k, m, n, rfl, _⟩ := h
    rfl
  · obtain ⟨p, c, k, m, n, rfl, k1, k2, m2, pn, hn, hQ⟩ := h
    have nd := scLRuns.nd
    refine ⟨_, (pss_cons (ps_set (i := 3) nd rfl (Or.inl rfl) (pe_lst pa_nil))
      (pss_cons (ps_for PassesOwn.never rfl (pi_range1 rfl gR (pa_cons (pv 2) pa_nil)) (pg_name (i := 4) nd rfl (Or.inl rfl))
        (pss_one (ps_expr (pe_bm PySem.F.plainAttrs_list PySem.F.slot_list_append PySem.F.type_list_append mt_append (pv 3) (pa_cons (pe_call GR (hr.mono (by decide)) (by rfl) gRn FR.kp bR .nil pass0 (pa_cons (pv 0) (pa_cons (pv 1) pa_nil))) pa_nil)))))
      (pss_one (ps_ret (pv 3))))), ?_⟩
    -- BODY
    refine ⟨Nat.zero_le _, fun L hL => ?_⟩
    have sL := same_upd (o := .lst []) hL
    refine ⟨_, rfl, _, rfl, by omega, by omega, ?_⟩
    refine for_range (n := ((m : Nat) : Int).toNat) (fun i σ H2 => ∃ (v4 : Option V) (xs : List V) (rs : List (Int × Int × Int)), σ = [some (.ref p), some (.int k), some (.int (m : Nat)), some (.ref L), v4] ∧ rs.length = i ∧ (∀ r ∈ rs, RunOk r k) ∧ But p H H2 ∧ H2 L = some (.lst xs) ∧ RnT H2 xs rs ∧ Pen H2 p c (n + 23 * i)) ⟨none, [], [], rfl, rfl, fun _ h => absurd h List.not_mem_nil, But.same sL, upd_same, .nil, pn.same sL⟩ ?_ ?_
    · rintro i σ H2 hi ⟨v4, xs, rs, rfl, l, ro, b, e, rt, P2⟩
      have lx := rt.any.length
      refine ⟨_, rfl, .inl ⟨rfl, _, SqL.of e⟩, _, rfl, _, rfl, p, c, k, n + 23 * i, rfl, k1, k2, P2, by omega, fun r t H3 rk b3 ht et P3 => ?_⟩
      have e3 := but_lst b3 P2 e
      have k3 := TK.but b3 P2
      refine ⟨L, xs, _, rfl, rfl, e3, Nat.lt_of_lt_of_le (show xs.length < 1000 by omega) kz, ?_⟩
      have b4 : But p H (upd H3 L (.lst (xs ++ [.ref t]))) := fun q u e0 ne => by
        rw [upd_ne (ne_of_none e0 hL)]
        exact (b.trans b3) q u e0 ne
      refine ⟨_, xs ++ [.ref t], rs ++ [r], rfl, by rw [List.length_append, l]; rfl, fun q hq => ?_, b4, upd_same, ?_, ?_⟩
      · rcases List.mem_append.mp hq with hq | hq
        · exact ro q hq
        · rw [List.mem_singleton.mp hq]
          exact rk
      · exact ((rt.keep k3).app (.cons et .nil)).keep (TK.lst e3)
      · exact (P3.upd (fun z => by subst z; obtain ⟨o, eo⟩ := pn.some1; rw [hL] at eo; cases eo) (fun z => by subst z; obtain ⟨o, eo⟩ := pn.some2; rw [hL] at eo; cases eo)).mono (by omega)
    · rintro σ H2 ⟨v4, xs, rs, rfl, l, ro, b, e, rt, P2⟩
      exact ⟨_, rfl, hQ L xs rs H2 (by omega) ro b hL e rt (P2.mono (by omega))⟩
end
end Aw

namespace Aw
open PySem PySem.Spec PyProof.Rows L2 NdefX
theorem putM1 {v : V} : putF "size" v [] = ([("size", v)] : List (Str × V)) := rfl
theorem ne_sd : ¬ (("size" : Str) = "depth") := by decide +kernel
theorem ne_sp : ¬ (("size" : Str) = "pieces") := by decide +kernel
theorem ne_dp : ¬ (("depth" : Str) = "pieces") := by decide +kernel
theorem putM2 {a v : V} : putF "depth" v ([("size", a)] : List (Str × V)) = ([("size", a), ("depth", v)] : List (Str × V)) := by
  show (if ("size" : Str) = "depth" then _ else (("size" : Str), a) :: putF "depth" v []) = _
  rw [if_neg ne_sd]
  rfl
theorem putM3 {a b v : V} : putF "pieces" v ([("size", a), ("depth", b)] : List (Str × V)) = ([("size", a), ("depth", b), ("pieces", v)] : List (Str × V)) := by
  show (if ("size" : Str) = "pieces" then _ else (("size" : Str), a) :: (if ("depth" : Str) = "pieces" then _ else (("depth" : Str), b) :: putF "pieces" v [])) = _
  rw [if_neg ne_sp, if_neg ne_dp]
  rfl
theorem RnA.runV {H : Hp} {s : Int} : ∀ {vs : List V} {rs : List (Int × Int × Int)}, RnA H vs rs → (∀ r ∈ rs, RunOk r s) → ∀ v ∈ vs, RunV H s v true
  | _, _, .nil, _ => fun v h => absurd h List.not_mem_nil
  | _, _, .cons (f := f) (l := l) (c := c) h r, ok => fun v hv => by
    rcases List.mem_cons.mp hv with rfl | hv
    · have e : rB [.int f, .int l, .int c] s = true := rB_run.mpr (ok _ List.mem_cons_self)
      rw [← e]
      refine .seq h fun x hx => ?_
      rcases List.mem_cons.mp hx with rfl | hx
      · exact .int _
      rcases List.mem_cons.mp hx with rfl | hx
      · exact .int _
      rcases List.mem_cons.mp hx with rfl | hx
      · exact .int _
      exact absurd hx List.not_mem_nil
    · exact RnA.runV r (fun x hx => ok x (List.mem_cons_of_mem _ hx)) v hv
/-- Marks with the list of its pieces -/
structure MkL (C : Addr) (H : Hp) (a L : Addr) (P : Pcs) (d : Nat) (s : Int) : Prop where
  ex : ∃ dx xs, H a = some (.ins C dx (mkF s (d : Nat) L)) ∧ H L = some (.lst xs) ∧ PcA H xs P
  few : P.length ≤ 400
  asc : Asc 0 P s
  masks : ∀ x ∈ P, x.2 < 2 ^ (12 * 2 ^ d)
  s0 : 0 < s
  d6 : d ≤ 6
theorem MkL.at_ {C : Addr} {H : Hp} {a L : Addr} {P : Pcs} {d : Nat} {s : Int} (M : MkL C H a L P d s) : MkAt C H a P d s := by
  obtain ⟨dx, xs, h1, h2, h3⟩ := M.ex
  exact ⟨⟨dx, L, xs, h1, h2, h3⟩, M.few, M.asc, M.masks, M.s0, M.d6⟩
theorem MkL.same {C : Addr} {H H' : Hp} {a L : Addr} {P : Pcs} {d : Nat} {s : Int} (M : MkL C H a L P d s) (k : Same H H') : MkL C H' a L P d s := by
  obtain ⟨dx, xs, h1, h2, h3⟩ := M.ex
  exact ⟨⟨dx, xs, k _ _ h1, k _ _ h2, h3.same k⟩, M.few, M.asc, M.masks, M.s0, M.d6⟩
/-- another list may change -/
theorem MkL.lst {C : Addr} {H : Hp} {a L l : Addr} {P : Pcs} {d : Nat} {s : Int} {ys : List V} {o : HO} (M : MkL C H a L P d s) (h : H l = some (.lst ys)) (ne : L ≠ l) : MkL C (upd H l o) a L P d s := by
  obtain ⟨dx, xs, h1, h2, h3⟩ := M.ex
  exact ⟨⟨dx, xs, by rw [upd_ne (ne_of h1 h (fun z => by cases z))]; exact h1, by rw [upd_ne ne]; exact h2, h3.keep (TK.lst h)⟩, M.few, M.asc, M.masks, M.s0, M.d6⟩
theorem MkL.but {C : Addr} {H H' : Hp} {a L p c : Addr} {n : Nat} {P : Pcs} {d : Nat} {s : Int} (M : MkL C H a L P d s) (b : But p H H') (pn : Pen H p c n) : MkL C H' a L P d s := by
  obtain ⟨dx, xs, h1, h2, h3⟩ := M.ex
  obtain ⟨cells, i, l, e1, _⟩ := pn.ex
  exact ⟨⟨dx, xs, b _ _ h1 (ne_of h1 e1 (fun z => by cases z)), b _ _ h2 (ne_of h2 e1 (fun z => by cases z)), h3.keep (TK.but b pn)⟩, M.few, M.asc, M.masks, M.s0, M.d6⟩
theorem MkAt.but {C : Addr} {H H' : Hp} {a p c : Addr} {n : Nat} {P : Pcs} {d : Nat} {s : Int} (M : MkAt C H a P d s) (b : But p H H') (pn : Pen H p c n) : MkAt C H' a P d s := by
  obtain ⟨dx, L, xs, h1, h2, h3⟩ := M.ex
  obtain ⟨cells, i, l, e1, _⟩ := pn.ex
  exact ⟨⟨dx, L, xs, b _ _ h1 (ne_of h1 e1 (fun z => by cases z)), b _ _ h2 (ne_of h2 e1 (fun z => by cases z)), h3.keep (TK.but b pn)⟩, M.few, M.asc, M.masks, M.s0, M.d6⟩
/-- the first i runs are runs, the next one is none -/
def NoRun (H : Hp) (s : Int) (xs : List V) (i : Nat) : Prop := (∀ j v, j < i → xs[j]? = some v → RunV H s v true) ∧ ∃ v, xs[i]? = some v ∧ RunV H s v false
def spMInit (K : PySem.W.Frag) (C CZ CT CN : Addr) : Sp := fun vs H Q E => ∃ (a dx R : Addr) (v : V) (xs : List V), vs = [.ref a, v, .ref R] ∧ H a = some (.ins C dx []) ∧ VOk H v ∧ SeqK K H R xs ∧
  errOf (numB v 1 (10 ^ 30) = false) CZ "size" v H E ∧
  ∀ s : Int, v = .int s → 1 ≤ s → s ≤ 10 ^ 30 → errOf (20 < xs.length) CT "most" (.int 20) H E ∧ (xs.length ≤ 20 →
    (∃ i, NoRun H s xs i ∧ errOf True CN "number" (.int (i : Nat)) H E) ∨
    (∃ rs, RnA H xs rs ∧ (∀ r ∈ rs, RunOk r s) ∧ ∀ H' L, (∀ c o, H c = some o → c ≠ a → H' c = some o) → H L = none → MkL C H' a L (runsP s rs) 0 s → Q .non H'))
section
variable {P : Program} {w : World} {K : PySem.W.Frag} {mg : Str → Option Value} {base : Heap} {C CZ CT CN : Addr}
structure TxtMI (P : Program) (K : PySem.W.Frag) (mg : Str → Option Value) (CT CN fS fR fP : Addr) (sd rd pd : FuncData) (t20 : Tok) : Prop where
  tm : Err P K mg "TooMany" "most" "most" CT
  bn : Err P K mg "BadNumber" "number" "number" CN
  len : mg "len" = none
  enum : mg "enumerate" = none
  FS : Fun K "check_size" "check_size" sChkS fS sd
  bS : Binds K sd ["size"] []
  gS : mg "check_size" = some (.ref fS)
  FR : Fun K "is_run" "is_run" sIsRun fR rd
  bR : Binds K rd ["run", "size"] []
  gR : mg "is_run" = some (.ref fR)
  FP : Fun K "pieces_of_runs" "pieces_of_runs" sPor fP pd
  bP : Binds K pd ["size", "runs"] []
  gP : mg "pieces_of_runs" = some (.ref fP)
  g20 : mg "MOST_RUNS" = some (.int 20 t20)
theorem scMInit : FnScope ["self", "size", "runs", "index", "run"] ["self", "size", "runs"] (defScope sMInit) := ⟨rfl, rfl, rfl, by decide +kernel, rfl, by decide +kernel, by decide +kernel⟩
theorem ok_minit {f fS fR fP : Addr} {fd sd rd pd : FuncData} {dvs : List V} {t20 : Tok} (F : L2.FunD K "__init__" "Marks.__init__" (defArgs sMInit) (defBody sMInit) (defScope sMInit) dvs [] f fd) (W : TxtMI P K mg CT CN fS fR fP sd rd pd t20)
    (GS : FnOk P w K mg base (L2.CX P w) 3 fS sd ["size"] (spChkS CZ)) (GR : FnOk P w K mg base CX0 2 fR rd ["run", "size"] spIsRun) (GP : FnOk P w K mg base CX0 3 fP pd ["size", "runs"] (spPor K)) (M : MkCls K C) : FnOk P w K mg base (L2.CX P w) 4 f fd ["self", "size", "runs"] (spMInit K C CZ CT CN) := by
  refine F.ok scMInit (fun vs H Q E h => ?_) (fun cdv A outer s H vs Q E hr h => ?_)
  · obtain ⟨a, dx, R, v, xs, rfl, _⟩ := h
    rfl
  · obtain ⟨a, dx, R, v, xs, rfl, ha, hv, hR, kZ, k⟩ := h
    have nd := scMInit.nd
    refine ⟨_, (pss_cons (ps_expr (pe_callS GS (hr.mono (by decide)) (by rfl) W.gS W.FS.kp W.bS (fun σ => passAt (takes_of rfl rfl rfl rfl) σ) (pa_cons (pv 1) pa_nil)))
      (pss_cons (ps_if (pt_cmpR op_gt (pe_callB call_len_seq (by rfl) W.len PySem.boot_len (pa_cons (pv 2) pa_nil)) (pe_glob (v := .int 20) (by rfl) W.g20 ⟨_, rfl⟩) (nomark _))
        (pss_one (ps_raise rfl (takes_of rfl rfl rfl rfl) (pmk_err W.tm (hr.mono (by decide)) (by rfl) (pa_cons (pe_glob (v := .int 20) (by rfl) W.g20 ⟨_, rfl⟩) pa_nil)))) pss_nil)
      (pss_cons (ps_for (passes_of rfl) rfl (pi_enumS (by rfl) W.enum (pa_cons (pv 2) pa_nil)) (pg_tup rfl (pgs_cons (pg_name (i := 3) nd rfl (Or.inl rfl)) (pgs_cons (pg_name (i := 4) nd rfl (Or.inl rfl)) pgs_nil)))
        (pss_one (ps_if (pt_not (pt_val (pe_call GR (hr.mono (by decide)) (by rfl) W.gR W.FR.kp W.bR .nil pass0 (pa_cons (pv 4) (pa_cons (pv 1) pa_nil)))))
          (pss_one (ps_raise rfl (takes_of rfl rfl rfl rfl) (pmk_err W.bn (hr.mono (by decide)) (by rfl) (pa_cons (pv 3) pa_nil)))) pss_nil)))
      (pss_cons (ps_fld (pv 0) (pv 1) rfl)
      (pss_cons (ps_fld (pv 0) pe_int rfl)
      (pss_one (ps_fld (pv 0) (pe_call GP (hr.mono (by decide)) (by rfl) W.gP W.FP.kp W.bP .nil pass0 (pa_cons (pv 1) (pa_cons (pv 2) pa_nil))) rfl))))))), ?_⟩
    -- BODY
    refine ⟨_, rfl, v, rfl, hv, kZ, fun hb => ?_⟩
    obtain ⟨sz, rfl, s1, s30⟩ := numB_int hb
    obtain ⟨kT, k⟩ := k sz rfl s1 s30
    refine ⟨_, rfl, R, xs, rfl, hR, (xs.length : Nat), 20, rfl, rfl, _, rfl, ?_⟩
    refine ite_dec (fun h2 => ?_) (fun h2 => ?_)
    · exact mkS_ans fun d hd => kT (by omega) d _ (same_upd hd) hd upd_same
    refine nxt ?_
    dsimp only
    have ln : xs.length ≤ 20 := by omega
    refine ⟨_, rfl, R, rfl, ?_⟩
    rcases k ln with ⟨i, ⟨hp, v0, hv0, r0⟩, kN⟩ | ⟨rs, ra, ro, kQ⟩
    · refine for_enumS (a := R) (xs := xs) (fun j σ H3 => ∃ (v3 v4 : Option V), σ = [some (.ref a), some (.int sz), some (.ref R), v3, v4] ∧ Same H H3 ∧ j ≤ i) ⟨none, none, rfl, fun _ _ e => e, Nat.zero_le _⟩ (hR.all fun j σ H3 p => by
        obtain ⟨_, _, _, s3, _⟩ := p
        exact s3) ?_ ?_
      · rintro j x σ H3 T hx ⟨v3, v4, rfl, s3, hj⟩ hT
        have s4 := s3.trans (same_upd (o := .tup [.int (j : Nat), x]) hT)
        refine ⟨T, _, rfl, SqT.of upd_same, rfl, _, _, rfl, _, _, rfl, rfl, ?_⟩
        rcases Nat.lt_or_ge j i with h | h
        · refine ⟨_, rfl, _, rfl, x, sz, true, rfl, (hp j x h hx).same s4, fun H5 s5 => ⟨_, rfl, iteF ?_⟩⟩
          exact ⟨_, _, rfl, s4.trans s5, h⟩
        · have e : j = i := by omega
          subst e
          rw [hv0] at hx
          cases hx
          refine ⟨_, rfl, _, rfl, v0, sz, false, rfl, r0.same s4, fun H5 s5 => ⟨_, rfl, iteT ?_⟩⟩
          refine ⟨_, rfl, mkS_ans fun d hd => ?_⟩
          exact kN trivial d _ ((s4.trans s5).trans (same_upd hd)) ((s4.trans s5).free hd) upd_same
      · rintro σ H3 ⟨v3, v4, rfl, s3, hj⟩
        have := (List.getElem?_eq_some_iff.mp hv0).1
        omega
    · have rv := ra.runV ro
      refine for_enumS (a := R) (xs := xs) (fun j σ H3 => ∃ (v3 v4 : Option V), σ = [some (.ref a), some (.int sz), some (.ref R), v3, v4] ∧ Same H H3) ⟨none, none, rfl, fun _ _ e => e⟩ (hR.all fun j σ H3 p => by
        obtain ⟨_, _, _, s3⟩ := p
        exact s3) ?_ ?_
      · rintro j x σ H3 T hx ⟨v3, v4, rfl, s3⟩ hT
        have s4 := s3.trans (same_upd (o := .tup [.int (j : Nat), x]) hT)
        refine ⟨T, _, rfl, SqT.of upd_same, rfl, _, _, rfl, _, _, rfl, rfl, ?_⟩
        refine ⟨_, rfl, _, rfl, x, sz, true, rfl, (rv x (List.mem_of_getElem? hx)).same s4, fun H5 s5 => ⟨_, rfl, iteF ?_⟩⟩
        exact ⟨_, _, rfl, s4.trans s5⟩
      · rintro σ H3 ⟨v3, v4, rfl, s3⟩
        have lr := ra.length
        have ha3 := s3 _ _ ha
        refine ⟨_, rfl, _, rfl, a, C, dx, [], rfl, ha3, M.c, M.size, (by show 0 < 1000; decide), ?_⟩
        rw [putM1]
        refine ⟨_, rfl, a, C, dx, _, rfl, upd_same, M.c, M.depth, (by show 1 < 1000; decide), ?_⟩
        rw [putM2]
        have but5 : ∀ c o, H3 c = some o → c ≠ a → upd (upd H3 a (.ins C dx [("size", .int sz)])) a (.ins C dx [("size", .int sz), ("depth", .int 0)]) c = some o := fun c o e ne => by
          rw [upd_ne ne, upd_ne ne]
          exact e
        have ha5 : upd (upd H3 a (.ins C dx [("size", .int sz)])) a (.ins C dx [("size", .int sz), ("depth", .int 0)]) a = some (.ins C dx [("size", .int sz), ("depth", .int 0)]) := upd_same
        generalize upd (upd H3 a (.ins C dx [("size", .int sz)])) a (.ins C dx [("size", .int sz), ("depth", .int 0)]) = H5 at *
        obtain ⟨ok1, _, ok3⟩ := runs_ok (s := sz) (by omega) ro
        refine ⟨_, rfl, _, rfl, R, xs, sz, rs, rfl, (hR.same s3).but ha3 but5, (ra.same s3).but ha3 but5, by omega, by omega, ro, fun L zs H6 s6 hL eL pz => ?_⟩
        have ha6 := s6 _ _ ha5
        refine ⟨_, rfl, a, C, dx, _, rfl, ha6, M.c, M.pieces, (by show 2 < 1000; decide), ?_⟩
        rw [putM3]
        have nLa : L ≠ a := ne_of eL ha6 (fun z => by cases z)
        have but6 : ∀ c o, H6 c = some o → c ≠ a → upd H6 a (.ins C dx [("size", .int sz), ("depth", .int 0), ("pieces", .ref L)]) c = some o := fun c o e ne => by
          rw [upd_ne ne]
          exact e
        have hLH : H L = none := by
          cases hh : H L with
          | none => rfl
          | some o =>
            by_cases z : L = a
            · rw [z, ha5] at hL; cases hL
            · rw [but5 _ _ (s3 _ _ hh) z] at hL; cases hL
        refine kQ _ L (fun c o e ne => but6 c o (s6 _ _ (but5 c o (s3 _ _ e) ne)) ne) hLH ⟨⟨dx, zs, upd_same, but6 _ _ eL nLa, ?_⟩, by omega, ok1.asc, ok1.masks, by omega, by omega⟩
        exact pz.keep ⟨fun c ys e => but6 c _ e (ne_of e ha6 (fun z => by cases z)), fun c o ys e => but6 c _ e (ne_of e ha6 (fun z => by cases z))⟩
end
end Aw

namespace Aw
open PySem PySem.Spec PyProof.Rows L2 NdefX
/-! ### making an instance with defaults, by the class's name or by a local name -/
def tMakeD (C : Addr) (sp : Sp) (dvs : List V) (E : Aw.St → XK) (t : TA) : TE := fun σ H Q => t σ H fun vs H1 => ∀ x dx, H1 x = none → H1 dx = none → dx ≠ x →
  sp (.ref x :: (vs ++ dvs)) (upd (upd H1 dx (.own x)) x (.ins C dx [])) (fun v H2 => v = .non ∧ Q (.ref x) H2) (E σ)
def tMakeL (i : Nat) (C : Addr) (sp : Sp) (dvs : List V) (E : Aw.St → XK) (t : TA) : TE := fun σ H Q => σ[i]? = some (some (.ref C)) ∧ tMakeD C sp dvs E t σ H Q
section
variable {X : Cx} {CX : CXT} {k i : Nat} {f C : Addr} {fd : FuncData} {ps : List Str} {sp : Sp} {dvs : List V} {ds : List Value} {E : Aw.St → XK} {x : Str} {p pos : Pos} {e : Expr} {es : List Expr} {t : TA}
theorem run_makeD {pins : List (Addr × Obj)} {σ : Aw.St} {H : Hp} {s : Shared} {Q : VK} {us : List Value} {vs : List V} (M : Mk X.K C f) (F : FnOk X.prog X.w X.K X.mg X.base CX k f fd ps sp) (hr : Room (k + 1) X.A) (hb : Binds X.K fd ps ds) (hd : Vals dvs ds)
    (hx : ∀ σ, PassesAt CX X σ (E σ)) (I : Inv X pins σ H s) (r : Vals vs us)
    (h : ∀ x dx, H x = none → H dx = none → dx ≠ x → sp (.ref x :: (vs ++ dvs)) (upd (upd H dx (.own x)) x (.ins C dx [])) (fun v H2 => v = .non ∧ Q (.ref x) H2) (E σ)) :
    wpAny (model X.prog X.w) X.A (call (.ref C) us) (EP X pins σ Q) X.xe s := by
  have hq := h (s.heap.objs.size + 1) s.heap.objs.size (I.hok.fresh (Nat.le_succ _)) (I.hok.fresh (Nat.le_refl _)) (Nat.ne_of_lt (Nat.lt_succ_self _))
  have I2 := Inv.made (C := C) I
  have r2 : Vals (V.ref (s.heap.objs.size + 1) :: (vs ++ dvs)) (Value.ref (s.heap.objs.size + 1) :: (us ++ ds)) := .cons rfl (r.append hd)
  have hl : (Value.ref (s.heap.objs.size + 1) :: us ++ ds).length = ps.length := by
    have e := r2.length
    rw [F.len _ _ _ _ hq] at e
    exact e.symm
  refine wpAny_call (make_map (f := f) I.kIn M.makes M.init (beq_iff_eq.mp M.fn) (codeAny_mono (F.run _ X.stack _ _ ⟨Value.ref (s.heap.objs.size + 1) :: us, []⟩ (Value.ref (s.heap.objs.size + 1) :: (us ++ ds)) _ _ (E σ) (hr.make C us [])
    (I2.env0.make C us []) (hb _ (Value.ref (s.heap.objs.size + 1) :: us) I2.kIn hl) r2 hq) fun r s' hq' => ?_))
  cases r with
  | error e => exact hx σ pins _ _ e s' I2 hq'
  | ok fl =>
    cases fl with
    | ret u =>
      obtain ⟨v, H', I3, rv, ev, q3⟩ := I2.after hq'
      subst ev
      exact ⟨rv, ⟨V.ref (s.heap.objs.size + 1), H', I3, rfl, q3⟩⟩
    | next => exact False.elim hq'
    | brk => exact False.elim hq'
    | cont => exact False.elim hq'
theorem pe_makeD (M : Mk X.K C f) (F : FnOk X.prog X.w X.K X.mg X.base CX k f fd ps sp) (hr : Room (k + 1) X.A) (hg : Gl X x) (hm : X.mg x = some (.ref C)) (hb : Binds X.K fd ps ds) (hd : Vals dvs ds) (hx : ∀ σ, PassesAt CX X σ (E σ))
    (ha : PA X (e :: es) t) (hdb : (x == ("__debug__" : Str)) = false := by decide) (he : starEach (e :: es) X.env = (false, eval e X.env) :: starEach es X.env := by rfl) (hpl : (backTo pos (starEach es X.env)).any (·.1) = false := by rfl) :
    PE X (.Call (.Name x p) (e :: es) [] pos) (tMakeD C sp dvs E t) := by
  refine ⟨fun pins s σ H Q I h => ?_⟩
  refine wpAny_Call_Name_kw (ld_glob I hg hm ?_ hdb)
  refine PySem.W.callWith_K (h₀ := X.base) I.ok.mod.kin M.kp (thn (ha.run pos pins s σ H _ I h) fun us s1 ⟨vs, H1, I1, r, q⟩ => ⟨I1.kIn, ?_⟩) he hpl
  exact run_makeD M F hr hb hd hx I1 r q
theorem pe_makeL (M : Mk X.K C f) (F : FnOk X.prog X.w X.K X.mg X.base CX k f fd ps sp) (hr : Room (k + 1) X.A) (hN : X.N[i]? = some x) (hv : Vis X.env.scope x) (hb : Binds X.K fd ps ds) (hd : Vals dvs ds) (hx : ∀ σ, PassesAt CX X σ (E σ))
    (ha : PA X (e :: es) t) (hdb : (x == ("__debug__" : Str)) = false := by decide) (hcd : (x == ("__classdict__" : Str)) = false := by decide)
    (he : starEach (e :: es) X.env = (false, eval e X.env) :: starEach es X.env := by rfl) (hpl : (backTo pos (starEach es X.env)).any (·.1) = false := by rfl) :
    PE X (.Call (.Name x p) (e :: es) [] pos) (tMakeL i C sp dvs E t) := by
  refine ⟨fun pins s σ H Q I h => ?_⟩
  obtain ⟨hs, ht⟩ := h
  refine wpAny_Call_Name_kw (thn ((pe_var (pos := p) hN hv hdb hcd).run pins s σ H (fun v H1 => v = .ref C ∧ H1 = H) I ⟨.ref C, hs, rfl, rfl⟩) fun u s1 ⟨v, H1, I1, r1, q1⟩ => ?_)
  obtain ⟨rfl, rfl⟩ := q1
  cases r1
  refine PySem.W.callWith_K (h₀ := X.base) I.ok.mod.kin M.kp (thn (ha.run pos pins s1 σ _ _ I1 ht) fun us s2 ⟨vs, H2, I2, r, q⟩ => ⟨I2.kIn, ?_⟩) he hpl
  exact run_makeD M F hr hb hd hx I2 r q
end
/-- Marks(k, runs) with good runs -/
theorem make_marks {K : PySem.W.Frag} {C CZ CT CN : Addr} {H : Hp} {R : Addr} {k : Int} {xs : List V} {rs : List (Int × Int × Int)} (k1 : 1 ≤ k) (k2 : k ≤ 10 ^ 30) (hR : SeqK K H R xs) (ra : RnA H xs rs) (ro : ∀ r ∈ rs, RunOk r k) (ln : rs.length ≤ 20) {G : Addr → Hp → Prop} {E : XK}
    (kQ : ∀ a L H', Same H H' → H a = none → H L = none → MkL C H' a L (runsP k rs) 0 k → G a H') : ∀ y dx, H y = none → H dx = none → dx ≠ y →
    spMInit K C CZ CT CN [.ref y, .int k, .ref R] (upd (upd H dx (.own y)) y (.ins C dx [])) (fun v H2 => v = .non ∧ G y H2) E := by
  intro y dx hy hdx ne
  have hy' : upd H dx (.own y) y = none := by rw [upd_ne (Ne.symm ne)]; exact hy
  have s2 := (same_upd (o := .own y) hdx).trans (same_upd (o := .ins C dx []) hy')
  have lx := ra.length
  refine ⟨y, dx, R, .int k, xs, rfl, upd_same, .int k, hR.same s2, fun z => ?_, fun s es h1 h2 => ⟨fun z => absurd z (by omega), fun _ => .inr ⟨rs, ra.same s2, ?_, fun H' L but hL ma => ?_⟩⟩⟩
  · have e : numB (.int k) 1 (10 ^ 30) = (decide (1 ≤ k) && decide (k ≤ 10 ^ 30)) := rfl
    rw [e, decide_eq_true k1, decide_eq_true k2] at z
    cases z
  · cases es
    exact ro
  · cases es
    exact ⟨rfl, kQ y L H' (fun c o e => but c o (s2 c o e) (fun z => by rw [z, hy] at e; cases e)) hy (s2.free hL) ma⟩
end Aw

namespace Aw
open PySem PySem.Spec PyProof.Rows L2 NdefX
/-! ### x op y of one own class, by its own method -/
section
open PySem.W PySem.Calls
variable {prog : Program} {w : World} {A : Around} {E : Value → Shared → Prop} {s : Shared} {K : PySem.W.Frag} {x y C L f : Addr} {h₀ : Heap} {m : Str → Option Value} {ox oy : Obj} {od oe : Option Obj}
theorem bin_same {op : Operator} {Q : Value → Shared → Prop} (F : Fr h₀ L s.heap m) (X₀ : K.In h₀) (I : InstAt s.heap x ox C od) (J : InstAt s.heap y oy C oe) (hc : selfFirst K C = true)
    (hs : findIn K (.ref C) (PySem.dunder op.info.2) = some (some (.ref f))) (hf : isFn K (.ref f) = true)
    (h : wpAny (model prog w) A (call (.ref f) [.ref x, .ref y]) (PySem.W.CmpBack Q) E s) : wpAny (model prog w) A (binaryOp op (.ref x) (.ref y)) Q E s := by
  have X := X₀.keeps F.keep
  obtain ⟨cd, rest, hcd, hm⟩ := ksp_first hc
  rcases hi : op.info with ⟨sym, nm'⟩
  rw [hi] at hs
  dsimp only at hs
  have one := ksp_try X I hs hf h
  obtain ⟨hh, g, d, tt, os⟩ := s
  have L1 : Looks (model prog w) hh (typeOf (.ref x)) (.ref C) := I.type
  have L2 : Looks (model prog w) hh (typeOf (.ref y)) (.ref C) := J.type
  have L3 : Looks (model prog w) hh (fillsNumberSlot (.ref C) nm') true := fills_K X hcd hm hs
  simp only [binaryOp, hi]
  refine wpAny_holding (wpAny_bind ?_)
  unfold binaryOp1
  refine wpAny_bind (L1.at (wpAny_bind (L2.at (wpAny_bind (L3.at ?_)))))
  simp only [beq_self_eq_true, if_true]
  ksp_lk
  refine wpAny_mono one (fun r s' hr' => ?_) fun _ _ e => e
  obtain ⟨v, rfl, hq⟩ := hr'
  ksp_lk
  exact hq
end
section
variable {X : Cx} {CX : CXT} {k : Nat} {C f : Addr} {fd : FuncData} {ps : List Str} {sp : Sp} {E : Aw.St → XK} {a b : Expr} {ta tb : TE} {pos : Pos} {op : Operator}
def tBinO (C : Addr) (sp : Sp) (E : Aw.St → XK) (ta tb : TE) : TE := fun σ H Q => ta σ H fun x H1 => tb σ H1 fun y H2 => ∃ (a dx : Addr) (fs : List (Str × V)) (b dy : Addr) (gs : List (Str × V)), x = .ref a ∧ H2 a = some (.ins C dx fs) ∧ y = .ref b ∧ H2 b = some (.ins C dy gs) ∧ sp [x, y] H2 (fun v H' => (∃ c : Addr, v = .ref c) ∧ Q v H') (E σ)
theorem pe_binO (hs : PySem.W.findIn X.K (.ref C) (PySem.dunder op.info.2) = some (some (.ref f))) (hf : PySem.W.isFn X.K (.ref f) = true) (hc : PySem.W.selfFirst X.K C = true) (F : FnOk X.prog X.w X.K X.mg X.base CX k f fd ps sp) (hr : Room k X.A) (hb : Binds X.K fd ps []) (hx : ∀ σ, PassesAt CX X σ (E σ))
    (ha : PE X a ta) (hb' : PE X b tb) : PE X (.BinOp a op b pos) (tBinO C sp E ta tb) := by
  refine ⟨fun pins s σ H Q I h => ?_⟩
  refine wpAny_BinOp (L2.binT ha hb' I h fun v u s2 x y H2 I2 rx ry q => ?_)
  obtain ⟨xa, dx, fs, yb, dy, gs, rfl, ea, rfl, eb, hsp⟩ := q
  cases rx
  cases ry
  obtain ⟨mA, J1, _⟩ := ins_get I2.hok ea
  obtain ⟨od, J1, _⟩ := J1.look
  obtain ⟨mB, J2, _⟩ := ins_get I2.hok eb
  obtain ⟨oe, J2, _⟩ := J2.look
  obtain ⟨m, hF⟩ := I2.fr
  refine bin_same hF I2.ok.mod.kin J1 J2 hc hs hf ?_
  refine wpAny_mono (run_fnS (us := [Value.ref xa, Value.ref yb]) (vs := [V.ref xa, V.ref yb]) F hr hb (hx σ) I2 (.cons rfl (.cons rfl .nil)) hsp) (fun r s' hq => ?_) fun _ _ z => z
  obtain ⟨z, H', I', rz, ⟨c, rfl⟩, q⟩ := hq
  cases (show r = Value.ref c from rz)
  exact ⟨.ref c, H', I', rfl, q⟩
end
end Aw

namespace Aw
open PySem PySem.Spec PyProof.Rows L2 NdefX
/-- raw pieces of a size and a depth -/
structure RawOk (P : Pcs) (d : Nat) (s : Int) : Prop where
  ends : ∀ x ∈ P, x.1 ≤ s
  last : ∃ x ∈ P, x.1 = s
  masks : ∀ x ∈ P, x.2 < 2 ^ (12 * 2 ^ d)
  few : P.length ≤ 400
def spMOf (C : Addr) : Sp := fun vs H Q _ => ∃ (s : Int) (d : Nat) (L : Addr) (zs : List V) (P : Pcs), vs = [.int s, .int (d : Nat), .ref L] ∧ 1 ≤ s ∧ s ≤ 10 ^ 30 ∧ d ≤ 6 ∧ H L = some (.lst zs) ∧ PcA H zs P ∧ RawOk P d s ∧
  ∀ (a L' : Addr) (H' : Hp), Same H H' → H a = none → H L' = none → MkL C H' a L' (tidyF P) d s → Q (.ref a) H'
theorem putM5 {a b c v : V} : putF "depth" v ([("size", a), ("depth", b), ("pieces", c)] : List (Str × V)) = ([("size", a), ("depth", v), ("pieces", c)] : List (Str × V)) := by
  show (if ("size" : Str) = "depth" then _ else (("size" : Str), a) :: (if ("depth" : Str) = "depth" then (("depth" : Str), v) :: (("pieces" : Str), c) :: [] else _)) = _
  rw [if_neg ne_sd, if_pos rfl]
theorem putM6 {a b c v : V} : putF "pieces" v ([("size", a), ("depth", b), ("pieces", c)] : List (Str × V)) = ([("size", a), ("depth", b), ("pieces", v)] : List (Str × V)) := by
  show (if ("size" : Str) = "pieces" then _ else (("size" : Str), a) :: (if ("depth" : Str) = "pieces" then _ else (("depth" : Str), b) :: (if ("pieces" : Str) = "pieces" then (("pieces" : Str), v) :: [] else _))) = _
  rw [if_neg ne_sp, if_neg ne_dp, if_pos rfl]
section
variable {P : Program} {w : World} {K : PySem.W.Frag} {mg : Str → Option Value} {base : Heap} {C CZ CT CN : Addr}
theorem scMOf : FnScope ["size", "depth", "pieces", "marks"] ["size", "depth", "pieces"] (defScope sMOf) := ⟨rfl, rfl, rfl, by decide +kernel, rfl, by decide +kernel, by decide +kernel⟩
theorem ok_mof {f fI fT E0a : Addr} {fd id td : FuncData} {ds : List Value} (F : Fun K "marks_of" "marks_of" sMOf f fd) (gM : mg "Marks" = some (.ref C)) (mkM : Mk K C fI) (GI : FnOk P w K mg base (L2.CX P w) 4 fI id ["self", "size", "runs"] (spMInit K C CZ CT CN)) (bI : Binds K id ["self", "size", "runs"] ds) (dI : Vals [.ref E0a] ds) (hE : ∀ H, SeqK K H E0a [])
    (FT : Fun K "tidied" "tidied" sTidy fT td) (bT : Binds K td ["pieces"] []) (gT : mg "tidied" = some (.ref fT)) (M : MkCls K C) : FnOk P w K mg base CX0 6 f fd ["size", "depth", "pieces"] (spMOf C) := by
  have GT : FnOk P w K mg base CX0 1 fT td ["pieces"] spTidy := ok_tidy FT
  have GI := quiet GI
  refine F.ok scMOf (fun vs H Q E h => ?_) (fun cdv A outer s H vs Q E hr h => ?_)
  · obtain ⟨s, d, L, zs, P, rfl, _⟩ := h
    rfl
  · obtain ⟨sz, d, L, zs, P, rfl, s1, s30, d6, hL, pa, raw, kQ⟩ := h
    have nd := scMOf.nd
    refine ⟨_, (pss_cons (ps_set (i := 3) nd rfl (Or.inl rfl) (pe_makeD (E := fun _ => E0) mkM GI (hr.mono (by decide)) (by rfl) gM bI dI passA0 (pa_cons (pv 0) pa_nil)))
      (pss_cons (ps_fld (pv 3) (pv 1) rfl)
      (pss_cons (ps_fld (pv 3) (pe_call GT (hr.mono (by decide)) (by rfl) gT FT.kp bT .nil pass0 (pa_cons (pv 2) pa_nil)) rfl)
      (pss_one (ps_ret (pv 3)))))), ?_⟩
    -- BODY
    refine ⟨_, rfl, make_marks (R := E0a) (xs := []) (rs := []) s1 s30 (hE _) .nil (fun r h => absurd h List.not_mem_nil) (by show 0 ≤ 20; decide) fun a L0 H2 s2 ha hL0 ma => ?_⟩
    obtain ⟨dx, ps, hA, _, _⟩ := ma.ex
    refine ⟨_, rfl, _, rfl, a, C, dx, _, rfl, hA, M.c, M.depth, by show 3 < 1000; decide, ?_⟩
    show tSeq _ _ _ _ (upd H2 a (.ins C dx (putF "depth" (.int (d : Nat)) [("size", .int sz), ("depth", .int ((0 : Nat) : Int)), ("pieces", .ref L0)])))
    rw [putM5]
    have but3 : ∀ c o, H2 c = some o → c ≠ a → upd H2 a (.ins C dx [("size", .int sz), ("depth", .int (d : Nat)), ("pieces", .ref L0)]) c = some o := fun c o e ne => by
      rw [upd_ne ne]
      exact e
    have hA3 : upd H2 a (.ins C dx [("size", .int sz), ("depth", .int (d : Nat)), ("pieces", .ref L0)]) a = some (.ins C dx [("size", .int sz), ("depth", .int (d : Nat)), ("pieces", .ref L0)]) := upd_same
    generalize upd H2 a (.ins C dx [("size", .int sz), ("depth", .int (d : Nat)), ("pieces", .ref L0)]) = H3 at *
    have nLa : L ≠ a := fun z => by rw [← z, hL] at ha; cases ha
    have e3 := but3 _ _ (s2 _ _ hL) nLa
    have kT3 : TK H H3 := ⟨fun c ys e => but3 c _ (s2 _ _ e) (fun z => by rw [z, ha] at e; cases e), fun c o ys e => but3 c _ (s2 _ _ e) (fun z => by rw [z, ha] at e; cases e)⟩
    have lz := pa.length
    have few := raw.few
    refine ⟨_, rfl, L, zs, P, rfl, e3, pa.keep kT3, by omega, fun R ys H4 s4 hR e4 p4 => ?_⟩
    have hA4 := s4 _ _ hA3
    refine ⟨_, rfl, a, C, dx, _, rfl, hA4, M.c, M.pieces, by show 3 < 1000; decide, ?_⟩
    show tRet (tVar 3) _ _ (upd H4 a (.ins C dx (putF "pieces" (.ref R) [("size", .int sz), ("depth", .int (d : Nat)), ("pieces", .ref L0)])))
    rw [putM6]
    have nRa : R ≠ a := ne_of e4 hA4 (fun z => by cases z)
    have but : ∀ c o, H4 c = some o → c ≠ a → upd H4 a (.ins C dx [("size", .int sz), ("depth", .int (d : Nat)), ("pieces", .ref R)]) c = some o := fun c o e ne => by
      rw [upd_ne ne]
      exact e
    have hRH : H R = none := by
      cases hh : H R with
      | none => rfl
      | some o => rw [but3 _ _ (s2 _ _ hh) nRa] at hR; cases hR
    obtain ⟨asc, _⟩ := tidy_good raw.ends raw.last (by omega)
    refine ⟨_, rfl, kQ a R _ (fun c o e => ?_) ha hRH ⟨⟨dx, ys, upd_same, but _ _ e4 nRa, p4.keep ⟨fun c ys e => but c _ e (ne_of e hA4 (fun z => by cases z)), fun c o ys e => but c _ e (ne_of e hA4 (fun z => by cases z))⟩⟩, Nat.le_trans tidy_len few, asc, tidy_masks raw.masks, by omega, d6⟩⟩
    have ne : c ≠ a := fun z => by rw [z, ha] at e; cases e
    exact but c o (s4 _ _ (but3 c o (s2 _ _ e) ne)) ne
end
end Aw

namespace Aw
open PySem PySem.Spec PyProof.Rows L2 NdefX
/-- beside: two Marks of one depth -/
def spBes (C CZ : Addr) : Sp := fun vs H Q E => ∃ (a b : Addr) (P O : Pcs) (d : Nat) (s s2 : Int), vs = [.ref a, .ref b] ∧ MkAt C H a P d s ∧ MkAt C H b O d s2 ∧ errOf (s ≠ s2) CZ "size" (.int s2) H E ∧
  (s = s2 → ∀ (R : Addr) (zs : List V) (H' : Hp), Same H H' → H R = none → H' R = some (.lst zs) → TrA H' zs (mergeF P O) → Q (.ref R) H')
def spJnd (C : Addr) : Sp := fun vs H Q _ => ∃ (a b L : Addr) (P O P0 : Pcs) (d : Nat) (s : Int) (zs : List V), vs = [.ref a, .ref b, .ref L] ∧ MkAt C H a P d s ∧ MkAt C H b O d s ∧ s ≤ 10 ^ 30 ∧ H L = some (.lst zs) ∧ PcA H zs P0 ∧ RawOk P0 d s ∧
  ∀ (r L' : Addr) (H' : Hp), Same H H' → H r = none → H L' = none → MkL C H' r L' (tidyF P0) d s → Q (.ref r) H'
/-- a binary operation on the masks -/
def spOpM (C CZ : Addr) (g : Nat → Nat → Nat) : Sp := fun vs H Q E => ∃ (a b : Addr) (P O : Pcs) (d : Nat) (s s2 : Int), vs = [.ref a, .ref b] ∧ MkAt C H a P d s ∧ MkAt C H b O d s2 ∧ s ≤ 10 ^ 30 ∧ P.length + O.length ≤ 400 ∧ errOf (s ≠ s2) CZ "size" (.int s2) H E ∧
  (s = s2 → ∀ (r L' : Addr) (H' : Hp), Same H H' → H r = none → H L' = none → MkL C H' r L' (tidyF (joinF g P O)) d s → Q (.ref r) H')
def gSubM (m n : Nat) : Nat := m ^^^ (m &&& n)
theorem bSub_nat {m n : Nat} : Builtin.bitAnd (m : Nat) (Builtin.bitNot (n : Nat)) = (gSubM m n : Nat) := by
  have h1 : decide ((0 : Int) ≤ (m : Nat)) = true := decide_eq_true (by omega)
  have h2 : decide ((0 : Int) ≤ Builtin.bitNot (n : Nat)) = false := decide_eq_false (by show ¬ (0 : Int) ≤ -((n : Nat) : Int) - 1; omega)
  have h3 : Builtin.bitNot (Builtin.bitNot (n : Nat)) = ((n : Nat) : Int) := by
    show -(-((n : Nat) : Int) - 1) - 1 = _
    omega
  unfold Builtin.bitAnd
  rw [h1, h2]
  show ((m : Nat) : Int) - ((((m : Nat) : Int).toNat &&& (Builtin.bitNot (Builtin.bitNot (n : Nat))).toNat : Nat) : Int) = _
  rw [h3, Int.toNat_natCast, Int.toNat_natCast]
  have e := Bits.nat_xor_add_and m (m &&& n)
  rw [← Nat.and_assoc, Nat.and_self] at e
  unfold gSubM
  omega
theorem bAnd_nat {m n : Nat} : Builtin.bitAnd (m : Nat) (n : Nat) = ((m &&& n : Nat) : Int) := by rw [bitAnd_pp (by omega) (by omega), Int.toNat_natCast, Int.toNat_natCast]
theorem bOr_nat {m n : Nat} : Builtin.bitOr (m : Nat) (n : Nat) = ((m ||| n : Nat) : Int) := by rw [Bits.bitOr_pp (by omega) (by omega), Int.toNat_natCast, Int.toNat_natCast]
theorem gSub_lt {m n w : Nat} (h : m < 2 ^ w) : gSubM m n < 2 ^ w := Nat.xor_lt_two_pow h (Nat.lt_of_le_of_lt Nat.and_le_left h)
theorem raw_join {g : Nat → Nat → Nat} {P O : Pcs} {d : Nat} {s : Int} (hP : Asc 0 P s) (hO : Asc 0 O s) (s0 : 0 < s) (mP : ∀ x ∈ P, x.2 < 2 ^ (12 * 2 ^ d)) (mO : ∀ x ∈ O, x.2 < 2 ^ (12 * 2 ^ d)) (hg : ∀ m n, m < 2 ^ (12 * 2 ^ d) → n < 2 ^ (12 * 2 ^ d) → g m n < 2 ^ (12 * 2 ^ d)) (l : P.length + O.length ≤ 400) : RawOk (joinF g P O) d s := by
  have J := joinI (g := g) hP (Ups.of_asc hO (hO.ne s0)) (fun x hx => Int.le_of_lt (hO.mem_le x hx).1) s0
  refine ⟨J.ends, J.last, fun x hx => ?_, Nat.le_trans J.len l⟩
  obtain ⟨y, hy, rfl⟩ := List.mem_map.mp hx
  obtain ⟨p1, p2⟩ := merge_masks (p := fun m => m < 2 ^ (12 * 2 ^ d)) (Nat.two_pow_pos _) mP mO y hy
  exact hg _ _ p1 p2
section
variable {P : Program} {w : World} {K : PySem.W.Frag} {mg : Str → Option Value} {base : Heap} {C CZ : Addr}
theorem scJnd : FnScope ["one", "other", "pieces"] ["one", "other", "pieces"] (defScope sJnd) := ⟨rfl, rfl, rfl, by decide +kernel, rfl, by decide +kernel, by decide +kernel⟩
theorem ok_beside1 {f fG fD fW : Addr} {fd gd dd wd' : FuncData} {t12 : Tok} (F : Fun K "beside" "beside" sBeside f fd) (W : TxtBes P K mg CZ fG fD fW gd dd wd' t12) (M : MkCls K C) : FnOk P w K mg base (L2.CX P w) 4 f fd ["one", "other"] (spBes C CZ) := by
  have GG : FnOk P w K mg base CX0 1 fG gd ["one", "other"] spMerge := ok_merge W.FG
  have GD : FnOk P w K mg base CX0 2 fD dd ["pieces", "depth", "more"] spDeep0 := ok_deep0 W.FD W.FW W.bW W.gW W.gB W.rg
  refine F.okX scBeside (fun vs H Q E h => ?_) (fun cdv A outer s H vs Q E hr h => ?_)
  · obtain ⟨a, b, P, O, d, s, s2, rfl, _⟩ := h
    rfl
  · obtain ⟨a, b, P, O, d, sz, sz2, rfl, S, T, kE, hQ⟩ := h
    have nd := scBeside.nd
    refine ⟨_, (pss_cons (ps_if (pt_cmpR op_ne (pe_fld (pv 0) rfl) (pe_fld (pv 1) rfl) (nomark _))
        (pss_one (ps_raise rfl (takes_of rfl rfl rfl rfl) (pmk_err W.bz (hr.mono (by decide)) (by rfl) (pa_cons (pe_fld (pv 1) rfl) pa_nil)))) pss_nil)
      (pss_cons (ps_set (i := 2) nd rfl (Or.inl rfl) (pe_callB (call_max2 rfl) (by rfl) W.max (by decide +kernel) (pa_cons (pe_fld (pv 0) rfl) (pa_cons (pe_fld (pv 1) rfl) pa_nil))))
      (pss_one (ps_ret (pe_call GG (hr.mono (by decide)) (by rfl) W.gG W.FG.kp W.bG .nil pass0 (pa_cons (pe_call GD (hr.mono (by decide)) (by rfl) W.gD W.FD.kp W.bD .nil pass0 (pa_cons (pe_fld (pv 0) rfl) (pa_cons (pe_fld (pv 0) rfl) (pa_cons (pv 2) pa_nil)))) (pa_cons (pe_call GD (hr.mono (by decide)) (by rfl) W.gD W.FD.kp W.bD .nil pass0 (pa_cons (pe_fld (pv 1) rfl) (pa_cons (pe_fld (pv 1) rfl) (pa_cons (pv 2) pa_nil)))) pa_nil))))))), ?_⟩
    -- BODY
    obtain ⟨dx, L, xs, hA, hL, pa⟩ := S.ex
    obtain ⟨dy, Lb, ys, hB, hLb, pb⟩ := T.ex
    have fs := S.few
    have ft := T.few
    have hd := S.d6
    refine ⟨_, rfl, a, C, dx, _, .int sz, rfl, hA, M.c, M.size, rfl, _, rfl, b, C, dy, _, .int sz2, rfl, hB, M.c, M.size, rfl, rfl, _, rfl, ite_ndec (fun g => ?_) (fun g => ?_)⟩
    · refine ⟨_, rfl, b, C, dy, _, .int sz2, rfl, hB, M.c, M.size, rfl, mkS_ans fun e he => ?_⟩
      exact kE (fun z => g (by rw [z])) e _ (same_upd he) he upd_same
    obtain rfl := V.int.inj g
    refine nxt ?_
    dsimp only
    have hQ := hQ rfl
    have em : (if ((d : Nat) : Int) > (d : Nat) then ((d : Nat) : Int) else (d : Nat)) = (d : Nat) := if_neg (Int.lt_irrefl _)
    refine ⟨_, rfl, a, C, dx, _, .int (d : Nat), rfl, hA, M.c, M.depth, rfl, _, rfl, b, C, dy, _, .int (d : Nat), rfl, hB, M.c, M.depth, rfl, (d : Nat), (d : Nat), rfl, ?_⟩
    rw [em]
    refine ⟨_, rfl, a, C, dx, _, .ref L, rfl, hA, M.c, M.pieces, rfl, _, rfl, a, C, dx, _, .int (d : Nat), rfl, hA, M.c, M.depth, rfl, _, rfl, L, d, rfl, by omega, ?_⟩
    refine ⟨_, rfl, b, C, dy, _, .ref Lb, rfl, hB, M.c, M.pieces, rfl, _, rfl, b, C, dy, _, .int (d : Nat), rfl, hB, M.c, M.depth, rfl, _, rfl, Lb, d, rfl, by omega, ?_⟩
    exact ⟨L, Lb, xs, ys, P, O, sz, rfl, hL, pa, hLb, pb, fs, ft, Ups.of_asc T.asc (T.asc.ne T.s0), fun x hx => (S.asc.mem_le x hx).2, hQ⟩
theorem ok_jnd {f fO : Addr} {fd od : FuncData} (F : Fun K "joined" "joined" sJnd f fd) (max' : mg "max" = none) (GO : FnOk P w K mg base CX0 6 fO od ["size", "depth", "pieces"] (spMOf C)) (kO : PySem.W.keepIn K (.ref fO) = true) (bO : Binds K od ["size", "depth", "pieces"] []) (gO : mg "marks_of" = some (.ref fO)) (M : MkCls K C) :
    FnOk P w K mg base CX0 7 f fd ["one", "other", "pieces"] (spJnd C) := by
  refine F.ok scJnd (fun vs H Q E h => ?_) (fun cdv A outer s H vs Q E hr h => ?_)
  · obtain ⟨a, b, L, P, O, P0, d, s, zs, rfl, _⟩ := h
    rfl
  · obtain ⟨a, b, L, P, O, P0, d, sz, zs, rfl, S, T, s30, hL, pa, raw, kQ⟩ := h
    have nd := scJnd.nd
    refine ⟨_, (pss_one (ps_ret (pe_call GO (hr.mono (by decide)) (by rfl) gO kO bO .nil pass0 (pa_cons (pe_fld (pv 0) rfl) (pa_cons (pe_callB (call_max2 rfl) (by rfl) max' (by decide +kernel) (pa_cons (pe_fld (pv 0) rfl) (pa_cons (pe_fld (pv 1) rfl) pa_nil))) (pa_cons (pv 2) pa_nil)))))), ?_⟩
    obtain ⟨dx, La, xs, hA, _, _⟩ := S.ex
    obtain ⟨dy, Lb, ys, hB, _, _⟩ := T.ex
    have s0 := S.s0
    have em : (if ((d : Nat) : Int) > (d : Nat) then ((d : Nat) : Int) else (d : Nat)) = (d : Nat) := if_neg (Int.lt_irrefl _)
    refine ⟨_, rfl, a, C, dx, _, .int sz, rfl, hA, M.c, M.size, rfl, _, rfl, a, C, dx, _, .int (d : Nat), rfl, hA, M.c, M.depth, rfl, _, rfl, b, C, dy, _, .int (d : Nat), rfl, hB, M.c, M.depth, rfl, (d : Nat), (d : Nat), rfl, ?_⟩
    rw [em]
    exact ⟨_, rfl, sz, d, L, zs, P0, rfl, by omega, s30, S.d6, hL, pa, raw, kQ⟩
theorem scsMXor : FnScope ["self", "other", "end", "mask", "more"] ["self", "other"] (defScope sMXor) := ⟨rfl, rfl, rfl, by decide +kernel, rfl, by decide +kernel, by decide +kernel⟩
theorem ok_mxor {f fS fJ : Addr} {fd sd jd : FuncData} (F : Fun K "__xor__" "Marks.__xor__" sMXor f fd) (GS : FnOk P w K mg base (L2.CX P w) 4 fS sd ["one", "other"] (spBes C CZ)) (kS : PySem.W.keepIn K (.ref fS) = true) (bS : Binds K sd ["one", "other"] []) (gS : mg "beside" = some (.ref fS))
    (GJ : FnOk P w K mg base CX0 7 fJ jd ["one", "other", "pieces"] (spJnd C)) (kJ : PySem.W.keepIn K (.ref fJ) = true) (bJ : Binds K jd ["one", "other", "pieces"] []) (gJ : mg "joined" = some (.ref fJ)) : FnOk P w K mg base (L2.CX P w) 8 f fd ["self", "other"] (spOpM C CZ (· ^^^ ·)) := by
  refine F.okX scsMXor (fun vs H Q E h => ?_) (fun cdv A outer s H vs Q E hr h => ?_)
  · obtain ⟨a, b, P, O, d, s, s2, rfl, _⟩ := h
    rfl
  · obtain ⟨a, b, P, O, d, sz, sz2, rfl, S, T, s30, lPO, kE, hQ⟩ := h
    have nd := scsMXor.nd
    refine ⟨_, (pss_one (ps_ret (pe_call GJ (hr.mono (by decide)) (by rfl) gJ kJ bJ .nil pass0 (pa_cons (pv 0) (pa_cons (pv 1) (pa_cons (pe_lc (own := [("end", 2), ("mask", 3), ("more", 4)]) (g := (gTup _ 3 (gCons (gName 2) (gCons (gName 3) (gCons (gName 4) gNil))))) (tt := tYes) rfl nd (pi_list (pe_callS GS (hr.mono (by decide)) (by rfl) gS kS bS (fun σ => passAt (takes_of rfl rfl rfl rfl) σ) (pa_cons (pv 0) (pa_cons (pv 1) pa_nil)))) (blkOk_by (own := [("end", 2), ("mask", 3), ("more", 4)]) (N := ["self", "other", "end", "mask", "more"]) (sc := defScope sMXor) (by decide +kernel)) (fun _ _ _ _ _ => (pg_tup rfl (pgs_cons (pg_name (i := 2) nd rfl (Or.inl rfl)) (pgs_cons (pg_name (i := 3) nd rfl (Or.inl rfl)) (pgs_cons (pg_name (i := 4) nd rfl (Or.inl rfl)) pgs_nil))))) (fun _ _ _ _ _ => pts_nil) (fun _ _ _ _ _ => (pe_tup (pa_cons (pv 2) (pa_cons (pe_op op_xor (pv 3) (pv 4)) pa_nil))))) pa_nil)))))), ?_⟩
    have lt := merge_len (P := P) (o := O)
    refine ⟨_, rfl, _, rfl, _, rfl, _, rfl, a, b, P, O, d, sz, sz2, rfl, S, T, kE, fun es R zs H1 s1 hR e1 t1 => ?_⟩
    subst es
    have hQ := hQ rfl
    have lz := t1.length
    refine ⟨R, rfl, ⟨_, SqL.of e1⟩, fun D hD => ?_⟩
    refine lc_list (a := R) (xs := zs) (fun i H2 => Same H1 H2 ∧ ∃ us, H2 D = some (.lst us) ∧ PcA H2 us (((mergeF P O).take i).map fun x => (x.1, (· ^^^ ·) x.2.1 x.2.2))) ⟨same_upd hD, [], upd_same, .nil⟩ (fun i H2 _ z => SqL.of (z.1 _ _ e1)) ?_ ?_
    · rintro i v H2 hv ⟨s2, us, e2, pu⟩
      obtain ⟨t, ⟨e, m, n⟩, rfl, ix, et⟩ := (t1.same s2).get hv
      refine ⟨t, _, rfl, SqT.of et, rfl, _, _, rfl, _, _, rfl, _, _, rfl, rfl, rfl, ?_⟩
      refine ⟨_, rfl, _, rfl, _, rfl, _, _, rfl, rfl, by show 2 ≤ sizeLine; decide, fun X hX => ?_⟩
      have sX := same_upd (o := .tup [.int e, .int (Builtin.bitXor (m : Nat) (n : Nat))]) hX
      have eD := sX _ _ e2
      refine ⟨us, eD, Nat.lt_of_lt_of_le (show us.length < 1000 by
        have := pu.length
        rw [List.length_map, List.length_take] at this
        omega) kz, same_fresh hD (s2.trans sX), _, upd_same, ?_⟩
      have e4 : (mergeF P O).take (i + 1) = (mergeF P O).take i ++ [(e, m, n)] := by rw [List.take_succ, ix]; rfl
      rw [e4, List.map_append]
      refine ((pu.same sX).app (.cons ?_ .nil)).keep (TK.lst eD)
      rw [← bx_nat]
      exact upd_same
    · rintro H2 ⟨s2, us, e2, pu⟩
      rw [List.take_of_length_le (by omega)] at pu
      have s12 := s1.trans s2
      have hD0 : H D = none := s1.free hD
      refine ⟨a, b, D, P, O, joinF (· ^^^ ·) P O, d, sz, us, rfl, S.same s12, T.same s12, s30, e2, pu, raw_join S.asc T.asc S.s0 S.masks T.masks (fun m n h1 h2 => Nat.xor_lt_two_pow h1 h2) lPO, fun r L' H' s' hr' hL' ma => ?_⟩
      exact hQ r L' H' (s12.trans s') (s12.free hr') (s12.free hL') ma
theorem scsMAnd : FnScope ["self", "other", "end", "mask", "more"] ["self", "other"] (defScope sMAnd) := ⟨rfl, rfl, rfl, by decide +kernel, rfl, by decide +kernel, by decide +kernel⟩
theorem ok_mand {f fS fJ : Addr} {fd sd jd : FuncData} (F : Fun K "__and__" "Marks.__and__" sMAnd f fd) (GS : FnOk P w K mg base (L2.CX P w) 4 fS sd ["one", "other"] (spBes C CZ)) (kS : PySem.W.keepIn K (.ref fS) = true) (bS : Binds K sd ["one", "other"] []) (gS : mg "beside" = some (.ref fS))
    (GJ : FnOk P w K mg base CX0 7 fJ jd ["one", "other", "pieces"] (spJnd C)) (kJ : PySem.W.keepIn K (.ref fJ) = true) (bJ : Binds K jd ["one", "other", "pieces"] []) (gJ : mg "joined" = some (.ref fJ)) : FnOk P w K mg base (L2.CX P w) 8 f fd ["self", "other"] (spOpM C CZ (· &&& ·)) := by
  refine F.okX scsMAnd (fun vs H Q E h => ?_) (fun cdv A outer s H vs Q E hr h => ?_)
  · obtain ⟨a, b, P, O, d, s, s2, rfl, _⟩ := h
    rfl
  · obtain ⟨a, b, P, O, d, sz, sz2, rfl, S, T, s30, lPO, kE, hQ⟩ := h
    have nd := scsMAnd.nd
    refine ⟨_, (pss_one (ps_ret (pe_call GJ (hr.mono (by decide)) (by rfl) gJ kJ bJ .nil pass0 (pa_cons (pv 0) (pa_cons (pv 1) (pa_cons (pe_lc (own := [("end", 2), ("mask", 3), ("more", 4)]) (g := (gTup _ 3 (gCons (gName 2) (gCons (gName 3) (gCons (gName 4) gNil))))) (tt := tYes) rfl nd (pi_list (pe_callS GS (hr.mono (by decide)) (by rfl) gS kS bS (fun σ => passAt (takes_of rfl rfl rfl rfl) σ) (pa_cons (pv 0) (pa_cons (pv 1) pa_nil)))) (blkOk_by (own := [("end", 2), ("mask", 3), ("more", 4)]) (N := ["self", "other", "end", "mask", "more"]) (sc := defScope sMAnd) (by decide +kernel)) (fun _ _ _ _ _ => (pg_tup rfl (pgs_cons (pg_name (i := 2) nd rfl (Or.inl rfl)) (pgs_cons (pg_name (i := 3) nd rfl (Or.inl rfl)) (pgs_cons (pg_name (i := 4) nd rfl (Or.inl rfl)) pgs_nil))))) (fun _ _ _ _ _ => pts_nil) (fun _ _ _ _ _ => (pe_tup (pa_cons (pv 2) (pa_cons (pe_op op_and (pv 3) (pv 4)) pa_nil))))) pa_nil)))))), ?_⟩
    have lt := merge_len (P := P) (o := O)
    refine ⟨_, rfl, _, rfl, _, rfl, _, rfl, a, b, P, O, d, sz, sz2, rfl, S, T, kE, fun es R zs H1 s1 hR e1 t1 => ?_⟩
    subst es
    have hQ := hQ rfl
    have lz := t1.length
    refine ⟨R, rfl, ⟨_, SqL.of e1⟩, fun D hD => ?_⟩
    refine lc_list (a := R) (xs := zs) (fun i H2 => Same H1 H2 ∧ ∃ us, H2 D = some (.lst us) ∧ PcA H2 us (((mergeF P O).take i).map fun x => (x.1, (· &&& ·) x.2.1 x.2.2))) ⟨same_upd hD, [], upd_same, .nil⟩ (fun i H2 _ z => SqL.of (z.1 _ _ e1)) ?_ ?_
    · rintro i v H2 hv ⟨s2, us, e2, pu⟩
      obtain ⟨t, ⟨e, m, n⟩, rfl, ix, et⟩ := (t1.same s2).get hv
      refine ⟨t, _, rfl, SqT.of et, rfl, _, _, rfl, _, _, rfl, _, _, rfl, rfl, rfl, ?_⟩
      refine ⟨_, rfl, _, rfl, _, rfl, _, _, rfl, rfl, by show 2 ≤ sizeLine; decide, fun X hX => ?_⟩
      have sX := same_upd (o := .tup [.int e, .int (Builtin.bitAnd (m : Nat) (n : Nat))]) hX
      have eD := sX _ _ e2
      refine ⟨us, eD, Nat.lt_of_lt_of_le (show us.length < 1000 by
        have := pu.length
        rw [List.length_map, List.length_take] at this
        omega) kz, same_fresh hD (s2.trans sX), _, upd_same, ?_⟩
      have e4 : (mergeF P O).take (i + 1) = (mergeF P O).take i ++ [(e, m, n)] := by rw [List.take_succ, ix]; rfl
      rw [e4, List.map_append]
      refine ((pu.same sX).app (.cons ?_ .nil)).keep (TK.lst eD)
      rw [← bAnd_nat]
      exact upd_same
    · rintro H2 ⟨s2, us, e2, pu⟩
      rw [List.take_of_length_le (by omega)] at pu
      have s12 := s1.trans s2
      have hD0 : H D = none := s1.free hD
      refine ⟨a, b, D, P, O, joinF (· &&& ·) P O, d, sz, us, rfl, S.same s12, T.same s12, s30, e2, pu, raw_join S.asc T.asc S.s0 S.masks T.masks (fun m n h1 h2 => Nat.lt_of_le_of_lt Nat.and_le_left h1) lPO, fun r L' H' s' hr' hL' ma => ?_⟩
      exact hQ r L' H' (s12.trans s') (s12.free hr') (s12.free hL') ma
theorem scsMOr : FnScope ["self", "other", "end", "mask", "more"] ["self", "other"] (defScope sMOr) := ⟨rfl, rfl, rfl, by decide +kernel, rfl, by decide +kernel, by decide +kernel⟩
theorem ok_mor {f fS fJ : Addr} {fd sd jd : FuncData} (F : Fun K "__or__" "Marks.__or__" sMOr f fd) (GS : FnOk P w K mg base (L2.CX P w) 4 fS sd ["one", "other"] (spBes C CZ)) (kS : PySem.W.keepIn K (.ref fS) = true) (bS : Binds K sd ["one", "other"] []) (gS : mg "beside" = some (.ref fS))
    (GJ : FnOk P w K mg base CX0 7 fJ jd ["one", "other", "pieces"] (spJnd C)) (kJ : PySem.W.keepIn K (.ref fJ) = true) (bJ : Binds K jd ["one", "other", "pieces"] []) (gJ : mg "joined" = some (.ref fJ)) : FnOk P w K mg base (L2.CX P w) 8 f fd ["self", "other"] (spOpM C CZ (· ||| ·)) := by
  refine F.okX scsMOr (fun vs H Q E h => ?_) (fun cdv A outer s H vs Q E hr h => ?_)
  · obtain ⟨a, b, P, O, d, s, s2, rfl, _⟩ := h
    rfl
  · obtain ⟨a, b, P, O, d, sz, sz2, rfl, S, T, s30, lPO, kE, hQ⟩ := h
    have nd := scsMOr.nd
    refine ⟨_, (pss_one (ps_ret (pe_call GJ (hr.mono (by decide)) (by rfl) gJ kJ bJ .nil pass0 (pa_cons (pv 0) (pa_cons (pv 1) (pa_cons (pe_lc (own := [("end", 2), ("mask", 3), ("more", 4)]) (g := (gTup _ 3 (gCons (gName 2) (gCons (gName 3) (gCons (gName 4) gNil))))) (tt := tYes) rfl nd (pi_list (pe_callS GS (hr.mono (by decide)) (by rfl) gS kS bS (fun σ => passAt (takes_of rfl rfl rfl rfl) σ) (pa_cons (pv 0) (pa_cons (pv 1) pa_nil)))) (blkOk_by (own := [("end", 2), ("mask", 3), ("more", 4)]) (N := ["self", "other", "end", "mask", "more"]) (sc := defScope sMOr) (by decide +kernel)) (fun _ _ _ _ _ => (pg_tup rfl (pgs_cons (pg_name (i := 2) nd rfl (Or.inl rfl)) (pgs_cons (pg_name (i := 3) nd rfl (Or.inl rfl)) (pgs_cons (pg_name (i := 4) nd rfl (Or.inl rfl)) pgs_nil))))) (fun _ _ _ _ _ => pts_nil) (fun _ _ _ _ _ => (pe_tup (pa_cons (pv 2) (pa_cons (pe_op op_or (pv 3) (pv 4)) pa_nil))))) pa_nil)))))), ?_⟩
    have lt := merge_len (P := P) (o := O)
    refine ⟨_, rfl, _, rfl, _, rfl, _, rfl, a, b, P, O, d, sz, sz2, rfl, S, T, kE, fun es R zs H1 s1 hR e1 t1 => ?_⟩
    subst es
    have hQ := hQ rfl
    have lz := t1.length
    refine ⟨R, rfl, ⟨_, SqL.of e1⟩, fun D hD => ?_⟩
    refine lc_list (a := R) (xs := zs) (fun i H2 => Same H1 H2 ∧ ∃ us, H2 D = some (.lst us) ∧ PcA H2 us (((mergeF P O).take i).map fun x => (x.1, (· ||| ·) x.2.1 x.2.2))) ⟨same_upd hD, [], upd_same, .nil⟩ (fun i H2 _ z => SqL.of (z.1 _ _ e1)) ?_ ?_
    · rintro i v H2 hv ⟨s2, us, e2, pu⟩
      obtain ⟨t, ⟨e, m, n⟩, rfl, ix, et⟩ := (t1.same s2).get hv
      refine ⟨t, _, rfl, SqT.of et, rfl, _, _, rfl, _, _, rfl, _, _, rfl, rfl, rfl, ?_⟩
      refine ⟨_, rfl, _, rfl, _, rfl, _, _, rfl, rfl, by show 2 ≤ sizeLine; decide, fun X hX => ?_⟩
      have sX := same_upd (o := .tup [.int e, .int (Builtin.bitOr (m : Nat) (n : Nat))]) hX
      have eD := sX _ _ e2
      refine ⟨us, eD, Nat.lt_of_lt_of_le (show us.length < 1000 by
        have := pu.length
        rw [List.length_map, List.length_take] at this
        omega) kz, same_fresh hD (s2.trans sX), _, upd_same, ?_⟩
      have e4 : (mergeF P O).take (i + 1) = (mergeF P O).take i ++ [(e, m, n)] := by rw [List.take_succ, ix]; rfl
      rw [e4, List.map_append]
      refine ((pu.same sX).app (.cons ?_ .nil)).keep (TK.lst eD)
      rw [← bOr_nat]
      exact upd_same
    · rintro H2 ⟨s2, us, e2, pu⟩
      rw [List.take_of_length_le (by omega)] at pu
      have s12 := s1.trans s2
      have hD0 : H D = none := s1.free hD
      refine ⟨a, b, D, P, O, joinF (· ||| ·) P O, d, sz, us, rfl, S.same s12, T.same s12, s30, e2, pu, raw_join S.asc T.asc S.s0 S.masks T.masks (fun m n h1 h2 => Nat.or_lt_two_pow h1 h2) lPO, fun r L' H' s' hr' hL' ma => ?_⟩
      exact hQ r L' H' (s12.trans s') (s12.free hr') (s12.free hL') ma
theorem scsMSub : FnScope ["self", "other", "end", "mask", "more"] ["self", "other"] (defScope sMSub) := ⟨rfl, rfl, rfl, by decide +kernel, rfl, by decide +kernel, by decide +kernel⟩
theorem ok_msub {f fS fJ : Addr} {fd sd jd : FuncData} (F : Fun K "__sub__" "Marks.__sub__" sMSub f fd) (GS : FnOk P w K mg base (L2.CX P w) 4 fS sd ["one", "other"] (spBes C CZ)) (kS : PySem.W.keepIn K (.ref fS) = true) (bS : Binds K sd ["one", "other"] []) (gS : mg "beside" = some (.ref fS))
    (GJ : FnOk P w K mg base CX0 7 fJ jd ["one", "other", "pieces"] (spJnd C)) (kJ : PySem.W.keepIn K (.ref fJ) = true) (bJ : Binds K jd ["one", "other", "pieces"] []) (gJ : mg "joined" = some (.ref fJ)) : FnOk P w K mg base (L2.CX P w) 8 f fd ["self", "other"] (spOpM C CZ gSubM) := by
  refine F.okX scsMSub (fun vs H Q E h => ?_) (fun cdv A outer s H vs Q E hr h => ?_)
  · obtain ⟨a, b, P, O, d, s, s2, rfl, _⟩ := h
    rfl
  · obtain ⟨a, b, P, O, d, sz, sz2, rfl, S, T, s30, lPO, kE, hQ⟩ := h
    have nd := scsMSub.nd
    refine ⟨_, (pss_one (ps_ret (pe_call GJ (hr.mono (by decide)) (by rfl) gJ kJ bJ .nil pass0 (pa_cons (pv 0) (pa_cons (pv 1) (pa_cons (pe_lc (own := [("end", 2), ("mask", 3), ("more", 4)]) (g := (gTup _ 3 (gCons (gName 2) (gCons (gName 3) (gCons (gName 4) gNil))))) (tt := tYes) rfl nd (pi_list (pe_callS GS (hr.mono (by decide)) (by rfl) gS kS bS (fun σ => passAt (takes_of rfl rfl rfl rfl) σ) (pa_cons (pv 0) (pa_cons (pv 1) pa_nil)))) (blkOk_by (own := [("end", 2), ("mask", 3), ("more", 4)]) (N := ["self", "other", "end", "mask", "more"]) (sc := defScope sMSub) (by decide +kernel)) (fun _ _ _ _ _ => (pg_tup rfl (pgs_cons (pg_name (i := 2) nd rfl (Or.inl rfl)) (pgs_cons (pg_name (i := 3) nd rfl (Or.inl rfl)) (pgs_cons (pg_name (i := 4) nd rfl (Or.inl rfl)) pgs_nil))))) (fun _ _ _ _ _ => pts_nil) (fun _ _ _ _ _ => (pe_tup (pa_cons (pv 2) (pa_cons (pe_op op_and (pv 3) (pe_un un_inv (pv 4))) pa_nil))))) pa_nil)))))), ?_⟩
    have lt := merge_len (P := P) (o := O)
    refine ⟨_, rfl, _, rfl, _, rfl, _, rfl, a, b, P, O, d, sz, sz2, rfl, S, T, kE, fun es R zs H1 s1 hR e1 t1 => ?_⟩
    subst es
    have hQ := hQ rfl
    have lz := t1.length
    refine ⟨R, rfl, ⟨_, SqL.of e1⟩, fun D hD => ?_⟩
    refine lc_list (a := R) (xs := zs) (fun i H2 => Same H1 H2 ∧ ∃ us, H2 D = some (.lst us) ∧ PcA H2 us (((mergeF P O).take i).map fun x => (x.1, gSubM x.2.1 x.2.2))) ⟨same_upd hD, [], upd_same, .nil⟩ (fun i H2 _ z => SqL.of (z.1 _ _ e1)) ?_ ?_
    · rintro i v H2 hv ⟨s2, us, e2, pu⟩
      obtain ⟨t, ⟨e, m, n⟩, rfl, ix, et⟩ := (t1.same s2).get hv
      refine ⟨t, _, rfl, SqT.of et, rfl, _, _, rfl, _, _, rfl, _, _, rfl, rfl, rfl, ?_⟩
      refine ⟨_, rfl, _, rfl, _, rfl, (n : Nat), rfl, _, _, rfl, rfl, by show 2 ≤ sizeLine; decide, fun X hX => ?_⟩
      have sX := same_upd (o := .tup [.int e, .int (Builtin.bitAnd (m : Nat) (Builtin.bitNot (n : Nat)))]) hX
      have eD := sX _ _ e2
      refine ⟨us, eD, Nat.lt_of_lt_of_le (show us.length < 1000 by
        have := pu.length
        rw [List.length_map, List.length_take] at this
        omega) kz, same_fresh hD (s2.trans sX), _, upd_same, ?_⟩
      have e4 : (mergeF P O).take (i + 1) = (mergeF P O).take i ++ [(e, m, n)] := by rw [List.take_succ, ix]; rfl
      rw [e4, List.map_append]
      refine ((pu.same sX).app (.cons ?_ .nil)).keep (TK.lst eD)
      rw [← bSub_nat]
      exact upd_same
    · rintro H2 ⟨s2, us, e2, pu⟩
      rw [List.take_of_length_le (by omega)] at pu
      have s12 := s1.trans s2
      have hD0 : H D = none := s1.free hD
      refine ⟨a, b, D, P, O, joinF gSubM P O, d, sz, us, rfl, S.same s12, T.same s12, s30, e2, pu, raw_join S.asc T.asc S.s0 S.masks T.masks (fun m n h1 h2 => gSub_lt h1) lPO, fun r L' H' s' hr' hL' ma => ?_⟩
      exact hQ r L' H' (s12.trans s') (s12.free hr') (s12.free hL') ma
end
end Aw

namespace Aw
open PySem PySem.Spec PyProof.Rows L2 NdefX
/-- the pieces of the places that are not marked, as they are made -/
def fullP (P : Pcs) (w : Nat) : Pcs := P.map fun x => (x.1, x.2 ^^^ (2 ^ w - 1))
theorem maskAt_map {g : Nat → Nat} : ∀ {P : Pcs} {j : Int}, (∃ x ∈ P, j < x.1) → maskAt (P.map fun x => (x.1, g x.2)) j = g (maskAt P j)
  | [], j, ⟨x, hx, _⟩ => absurd hx List.not_mem_nil
  | (e, m) :: P, j, ⟨x, hx, hj⟩ => by
    show (if j < e then g m else maskAt (P.map fun x => (x.1, g x.2)) j) = g (if j < e then m else maskAt P j)
    by_cases z : j < e
    · rw [if_pos z, if_pos z]
    · rw [if_neg z, if_neg z]
      refine maskAt_map ?_
      rcases List.mem_cons.mp hx with rfl | hx
      · exact absurd hj z
      · exact ⟨x, hx, hj⟩
theorem raw_full {P : Pcs} {d : Nat} {s : Int} (hP : Asc 0 P s) (s0 : 0 < s) (mP : ∀ x ∈ P, x.2 < 2 ^ (12 * 2 ^ d)) (l : P.length ≤ 400) : RawOk (fullP P (12 * 2 ^ d)) d s := by
  refine ⟨fun x hx => ?_, ?_, fun x hx => ?_, by unfold fullP; rw [List.length_map]; exact l⟩
  · obtain ⟨y, hy, rfl⟩ := List.mem_map.mp hx
    exact (hP.mem_le y hy).2
  · obtain ⟨y, hy, e⟩ := last_mem hP s0
    exact ⟨_, List.mem_map.mpr ⟨y, hy, rfl⟩, e⟩
  · obtain ⟨y, hy, rfl⟩ := List.mem_map.mp hx
    exact Nat.xor_lt_two_pow (mP y hy) (Nat.sub_lt (Nat.two_pow_pos _) (by decide))
theorem full_mark {P : Pcs} {w : Nat} {s : Int} (hP : Asc 0 P s) (s0 : 0 < s) (w0 : 0 < w) {j : Int} (j0 : 0 ≤ j) (j1 : j < s) : markF (tidyF (fullP P w)) w j = !markF P w j := by
  obtain ⟨y, hy, e⟩ := last_mem hP s0
  obtain ⟨_, t⟩ := tidy_good (P := fullP P w) (s := s) (fun x hx => by
    obtain ⟨y, hy, rfl⟩ := List.mem_map.mp hx
    exact (hP.mem_le y hy).2) ⟨_, List.mem_map.mpr ⟨y, hy, rfl⟩, e⟩ s0
  unfold markF
  rw [t j j0 j1]
  unfold fullP
  rw [maskAt_map (g := fun m => m ^^^ (2 ^ w - 1)) ⟨y, hy, by omega⟩, Nat.testBit_xor, Nat.testBit_two_pow_sub_one]
  have : (j % ((w : Nat) : Int)).toNat < w := by
    have a := Int.emod_nonneg j (show ((w : Nat) : Int) ≠ 0 by omega)
    have b := Int.emod_lt_of_pos j (show (0 : Int) < (w : Nat) by omega)
    omega
  rw [decide_eq_true this, Bool.xor_true]
def spMInv (C : Addr) : Sp := fun vs H Q _ => ∃ (a : Addr) (P : Pcs) (d : Nat) (s : Int), vs = [.ref a] ∧ MkAt C H a P d s ∧ s ≤ 10 ^ 30 ∧
  ∀ (r L' : Addr) (H' : Hp), Same H H' → H r = none → H L' = none → MkL C H' r L' (tidyF (fullP P (12 * 2 ^ d))) d s → Q (.ref r) H'
section
variable {P : Program} {w : World} {K : PySem.W.Frag} {mg : Str → Option Value} {base : Heap} {C : Addr}
theorem scsMInv : FnScope ["self", "whole", "end", "mask"] ["self"] (defScope sMInv) := ⟨rfl, rfl, rfl, by decide +kernel, rfl, by decide +kernel, by decide +kernel⟩
theorem ok_minv {f fF fW fO : Addr} {fd ffd wd' od : FuncData} {t12 : Tok} (F : Fun K "__invert__" "Marks.__invert__" sMInv f fd) (FF : Fun K "full" "full" sFull fF ffd) (bF : Binds K ffd ["many"] []) (gF : mg "full" = some (.ref fF)) (FW : Fun K "width" "width" sWidth fW wd') (bW : Binds K wd' ["depth"] []) (gW : mg "width" = some (.ref fW)) (gB : mg "BASE" = some (.int 12 t12))
    (GO : FnOk P w K mg base CX0 6 fO od ["size", "depth", "pieces"] (spMOf C)) (kO : PySem.W.keepIn K (.ref fO) = true) (bO : Binds K od ["size", "depth", "pieces"] []) (gO : mg "marks_of" = some (.ref fO)) (M : MkCls K C) : FnOk P w K mg base CX0 7 f fd ["self"] (spMInv C) := by
  have GF : FnOk P w K mg base CX0 1 fF ffd ["many"] spFull := ok_full FF
  have GW : FnOk P w K mg base CX0 1 fW wd' ["depth"] spWidth := ok_width FW gB
  refine F.ok scsMInv (fun vs H Q E h => ?_) (fun cdv A outer s H vs Q E hr h => ?_)
  · obtain ⟨a, P, d, s, rfl, _⟩ := h
    rfl
  · obtain ⟨a, P, d, sz, rfl, S, s30, hQ⟩ := h
    have nd := scsMInv.nd
    refine ⟨_, (pss_cons (ps_set (i := 1) nd rfl (Or.inr rfl) (pe_call GF (hr.mono (by decide)) (by rfl) gF FF.kp bF .nil pass0 (pa_cons (pe_call GW (hr.mono (by decide)) (by rfl) gW FW.kp bW .nil pass0 (pa_cons (pe_fld (pv 0) rfl) pa_nil)) pa_nil)))
      (pss_one (ps_ret (pe_call GO (hr.mono (by decide)) (by rfl) gO kO bO .nil pass0 (pa_cons (pe_fld (pv 0) rfl) (pa_cons (pe_fld (pv 0) rfl) (pa_cons (pe_lc (own := [("end", 2), ("mask", 3)]) (g := (gTup _ 2 (gCons (gName 2) (gCons (gName 3) gNil)))) (tt := tYes) rfl nd (pi_list (pe_fld (pv 0) rfl)) (blkOk_by (own := [("end", 2), ("mask", 3)]) (N := ["self", "whole", "end", "mask"]) (sc := defScope sMInv) (by decide +kernel)) (fun _ _ _ _ _ => (pg_tup rfl (pgs_cons (pg_name (i := 2) nd rfl (Or.inl rfl)) (pgs_cons (pg_name (i := 3) nd rfl (Or.inl rfl)) pgs_nil)))) (fun _ _ _ _ _ => pts_nil) (fun _ _ _ _ _ => (pe_tup (pa_cons (pv 2) (pa_cons (pe_op op_xor (pv 3) (pv 1)) pa_nil))))) pa_nil))))))), ?_⟩
    -- BODY
    obtain ⟨dx, L, xs, hA, hL, pa⟩ := S.ex
    obtain ⟨w0, w9⟩ := wide_le S.d6
    have hd := S.d6
    have fs := S.few
    have lz := pa.length
    refine ⟨_, rfl, a, C, dx, _, .int (d : Nat), rfl, hA, M.c, M.depth, rfl, d, rfl, by omega, 12 * 2 ^ d, rfl, by omega, ?_⟩
    refine ⟨_, rfl, a, C, dx, _, .int sz, rfl, hA, M.c, M.size, rfl, _, rfl, a, C, dx, _, .int (d : Nat), rfl, hA, M.c, M.depth, rfl, _, rfl, a, C, dx, _, .ref L, rfl, hA, M.c, M.pieces, rfl, L, rfl, ⟨_, SqL.of hL⟩, fun D hD => ?_⟩
    refine lc_list (a := L) (xs := xs) (fun i H2 => Same H H2 ∧ ∃ us, H2 D = some (.lst us) ∧ PcA H2 us ((P.take i).map fun x => (x.1, x.2 ^^^ (2 ^ (12 * 2 ^ d) - 1)))) ⟨same_upd hD, [], upd_same, .nil⟩ (fun i H2 _ z => SqL.of (z.1 _ _ hL)) ?_ ?_
    · rintro i v H2 hv ⟨s2, us, e2, pu⟩
      obtain ⟨t, ⟨e, m⟩, rfl, ix, et⟩ := (pa.same s2).get hv
      refine ⟨t, _, rfl, SqT.of et, rfl, _, _, rfl, _, _, rfl, rfl, rfl, ?_⟩
      refine ⟨_, rfl, _, rfl, _, rfl, _, _, rfl, rfl, by show 2 ≤ sizeLine; decide, fun X hX => ?_⟩
      have sX := same_upd (o := .tup [.int e, .int (Builtin.bitXor (m : Nat) ((2 ^ (12 * 2 ^ d) - 1 : Nat) : Int))]) hX
      have eD := sX _ _ e2
      refine ⟨us, eD, Nat.lt_of_lt_of_le (show us.length < 1000 by
        have := pu.length
        rw [List.length_map, List.length_take] at this
        omega) kz, same_fresh hD (s2.trans sX), _, upd_same, ?_⟩
      have e4 : P.take (i + 1) = P.take i ++ [(e, m)] := by rw [List.take_succ, ix]; rfl
      rw [e4, List.map_append]
      refine ((pu.same sX).app (.cons ?_ .nil)).keep (TK.lst eD)
      rw [← bx_nat]
      exact upd_same
    · rintro H2 ⟨s2, us, e2, pu⟩
      rw [List.take_of_length_le (by omega)] at pu
      refine ⟨sz, d, D, us, _, rfl, by have := S.s0; omega, s30, S.d6, e2, pu, raw_full S.asc S.s0 S.masks fs, fun r L' H' s' hr' hL' ma => ?_⟩
      exact hQ r L' H' (s2.trans s') (s2.free hr') (s2.free hL') ma
end
end Aw

namespace Aw
open PySem PySem.Spec PyProof.Rows L2 NdefX
/-! ### a == b for any other value -/
structure TxtEO (K : PySem.W.Frag) (C : Addr) : Prop where
  kI : PySem.W.kitOne K (.type "int") (.ref C) = some false
  kL : PySem.W.kitOne K (.type "list") (.ref C) = some false
  nI : PySem.W.notFirst K C (.type "int") = true
  nL : PySem.W.notFirst K C (.type "list") = true
/-- the other side of a == b -/
def OthW (H : Hp) (y : V) : Prop := (∃ i, y = .int i) ∨ (∃ b zs, y = .ref b ∧ H b = some (.lst zs))
def spMEq (C : Addr) : Sp := fun vs H Q _ => ∃ (a : Addr) (y : V) (P : Pcs) (d : Nat) (s : Int), vs = [.ref a, y] ∧ MkAt C H a P d s ∧
  ((OthW H y ∧ Q (.bl false) H) ∨ ∃ (b : Addr) (O : Pcs) (s2 : Int), y = .ref b ∧ MkAt C H b O d s2 ∧ (s ≠ s2 → Q (.bl false) H) ∧ (s = s2 → ∀ H', Same H H' → Q (.bl (decide (nMk (joinF (· ^^^ ·) P O) (12 * 2 ^ d) s.toNat = 0))) H'))
def rOwnW (C : Addr) (sp : Sp) : R2 := fun x y H Q => ∃ a dx fs, x = .ref a ∧ H a = some (.ins C dx fs) ∧ (OthW H y ∨ ∃ b dx fs, y = .ref b ∧ H b = some (.ins C dx fs)) ∧ sp [x, y] H (fun v H' => ∃ r, v = .bl r ∧ Q (.bl r) H') E0
section
variable {X : Cx} {C f : Addr} {fd : FuncData} {ps : List Str} {sp : Sp} {k : Nat}
theorem op_eqOwnW (T : EqTxt X.K C f) (O : TxtEO X.K C) (F : FnOk X.prog X.w X.K X.mg X.base CX0 k f fd ps sp) (hr : Room k X.A) (hb : Binds X.K fd ps []) : OpR X (compareOp .Eq) (rOwnW C sp) := by
  intro pins s σ H x y v u Q I rx ry h
  obtain ⟨a, dx, fs, rfl, ha, oy, hsp⟩ := h
  cases rx
  obtain ⟨mA, J, _⟩ := ins_get I.hok ha
  obtain ⟨od, J, _⟩ := J.look
  obtain ⟨m, hF⟩ := I.fr
  obtain ⟨tb, lt, nf⟩ : ∃ tb, PySem.W.Looks (model X.prog X.w) s.heap (typeOf u) tb ∧ PySem.W.notFirst X.K C tb = true := by
    rcases oy with (⟨i, rfl⟩ | ⟨b, zs, rfl, hb2⟩) | ⟨b, dx, fs, rfl, hb2⟩
    · obtain ⟨tk, rfl⟩ := (show ∃ tk, u = Value.int i tk from ry)
      exact ⟨.type "int", .of_pure rfl, O.nI⟩
    · cases (show u = Value.ref b from ry)
      obtain ⟨_, _, n, _, h1⟩ := (show ObjOk X.prog X.w H s.heap b (.lst zs) from I.hok b _ hb2)
      exact ⟨.type "list", fun A Q E s' k q => wpAny_typeOf_ref (k _ _ h1) q, O.nL⟩
    · cases (show u = Value.ref b from ry)
      obtain ⟨mB, J', _⟩ := ins_get I.hok hb2
      obtain ⟨od', J', _⟩ := J'.look
      exact ⟨_, J'.type, by simp [PySem.W.notFirst]⟩
  show wpAny (model X.prog X.w) X.A (richCompare .Eq (.ref a) u) _ _ s
  refine PySem.W.cmp_K (op := .Eq) hr.units0 hF I.ok.mod.kin J lt nf T.eq T.fn ?_
  refine wpAny_mono (run_fn (us := [.ref a, u]) (vs := [.ref a, y]) (ds := []) (dvs := []) F hr hb .nil pass0 I (.cons rfl (.cons ry .nil)) hsp) (fun r s' hq => ?_) fun _ _ z => z
  obtain ⟨z, H', I', rz, b, ez, q⟩ := hq
  subst ez
  cases (show r = Value.bool b from rz)
  exact ⟨.bl b, H', I', rfl, q⟩
end
section
variable {P : Program} {w : World} {K : PySem.W.Frag} {mg : Str → Option Value} {base : Heap} {C CZ : Addr}
theorem ok_meqW {f fA : Addr} {fd ad : FuncData} (F : Fun K "__eq__" "Marks.__eq__" sMEq f fd) (GA : FnOk P w K mg base (L2.CX P w) 5 fA ad ["one", "other"] (spAreS0 C)) (FA : Fun K "are_same" "are_same" sAreS fA ad) (bA : Binds K ad ["one", "other"] []) (gA : mg "are_same" = some (.ref fA))
    (M : MkCls K C) (Te : TxtEM K C) (To : TxtEO K C) (isi : mg "isinstance" = none) (gC : mg "Marks" = some (.ref C)) : FnOk P w K mg base (L2.CX P w) 6 f fd ["self", "other"] (spMEq C) := by
  refine F.okX scMEq (fun vs H Q E h => ?_) (fun cdv A outer s H vs Q E hr h => ?_)
  · obtain ⟨a, b, P, d, s, rfl, _⟩ := h
    rfl
  · obtain ⟨a, y, P, d, sz, rfl, S, h⟩ := h
    have nd := scMEq.nd
    refine ⟨_, (pss_one (ps_ret (pe_and (pe_callB call_isi (by rfl) isi (by decide +kernel) (pa_cons (pv 1) (pa_cons (pe_glob (v := .ref C) (by rfl) gC rfl) pa_nil))) (pe_and (pe_cmpR op_eq (pe_fld (pv 0) rfl) (pe_fld (pv 1) rfl) (nomark _)) (pe_one (pe_callS GA (hr.mono (by decide)) (by rfl) gA FA.kp bA (fun σ => passAt (takes_of rfl rfl rfl rfl) σ) (pa_cons (pv 0) (pa_cons (pv 1) pa_nil)))))))), ?_⟩
    -- BODY
    obtain ⟨dx, L, xs, hA, hL, pa⟩ := S.ex
    rcases h with ⟨oy, hQ⟩ | ⟨b, O, s2, rfl, T, q1, q2⟩
    · rcases oy with ⟨i, rfl⟩ | ⟨b, zs, rfl, hb⟩
      · refine ⟨_, rfl, .int i, .ref C, .type "int", .ref C, false, rfl, .own _, .base (.int i), To.kI, _, rfl, ?_⟩
        exact iteF hQ
      · refine ⟨_, rfl, .ref b, .ref C, .type "list", .ref C, false, rfl, .own _, .base (.lst hb), To.kL, _, rfl, ?_⟩
        exact iteF hQ
    · obtain ⟨dy, Lb, ys, hB, hLb, pb⟩ := T.ex
      refine ⟨_, rfl, .ref b, .ref C, .ref C, .ref C, true, rfl, .own _, .base (.ins hB M.c Te.ha Te.hn Te.ht Te.hm), Te.me, _, rfl, ?_⟩
      refine iteT ?_
      refine ⟨_, rfl, a, C, dx, _, .int sz, rfl, hA, M.c, M.size, rfl, _, rfl, b, C, dy, _, .int s2, rfl, hB, M.c, M.size, rfl, rfl, _, rfl, ?_⟩
      by_cases e : sz = s2
      · subst e
        rw [decide_eq_true rfl]
        refine iteT ?_
        exact ⟨_, rfl, _, rfl, a, b, P, O, d, sz, rfl, S, T, q2 rfl⟩
      · rw [decide_eq_false (fun z => e (V.int.inj z))]
        exact iteF (q1 e)
end
end Aw

namespace Aw
open PySem PySem.Spec PyProof.Rows L2 NdefX
/-! ### range(a, b) of any whole numbers -/
theorem turn_long {P : Program} {w : World} {K : PySem.W.Frag} {tg : Expr} (it : Addr) (lo : Int) (n : Nat) : Turn P w K tg (Itr lo n) [it] it (fun i h => IsLongIter h it (lo + (i : Nat) * 1) ((n : Int) - (i : Nat)) 1) where
  mem := by simp
  obj := fun i h st b hb => by
    have e : b = it := by simpa using hb
    subst e
    exact ⟨_, st, fun v z => by
      have z' : Data.fields _ = Data.cell v := z
      cases z'⟩
  keep := fun i h h' st k => k it (by simp) _ st
  item := by
    intro X hP hw hK hc i pins s σ H E I hf st hg
    subst hP hw hK
    obtain ⟨f0, f1, f2, f3, f4, f5⟩ := hf it (by simp)
    have W := Walks.longrange (prog := X.prog) (w := X.w) (I.ok.hd hc) it lo 1 n
    refine W.item i s _ _ hg st fun v h' tk hv st' kk => ?_
    obtain ⟨t, rfl⟩ := hv
    have I1 : Inv X pins σ H { s with heap := h', toks := tk } := I.turned (fun b o hb e => kk b o (by simpa using hb) e) f0 f1 f3 f4 f5
    refine ⟨_, rfl, go_of (s := { s with heap := h', toks := tk }) (n := "longrange_iterator") st' rfl rfl (by decide) ⟨.int (lo + i), H, I1, ⟨t, ?_⟩, ⟨rfl, rfl⟩, st', fun b hb => (hf b hb).1⟩⟩
    rw [Int.mul_one]
  done := by
    intro X hP hw hK hc i pins s σ H E I hf st hg
    subst hP hw hK
    obtain ⟨f0, f1, f2, f3, f4, f5⟩ := hf it (by simp)
    exact wpAny_pyNext_long_end (I.ok.hd hc) st (by have : n ≤ i := hg; omega) fun h' eb => ⟨rfl, I.turned (t' := s.toks) (fun b o hb e => eb b o hb e) f0 f1 f3 f4 f5⟩
  self := fun _ _ _ _ _ st h => wpAny_pyIter_longiter st h
theorem size_oneA {lo hi : Int} : (((hi - lo).toNat : Nat) : Int) = Builtin.Range.rangeSize lo hi 1 := by
  unfold Builtin.Range.rangeSize
  rw [if_pos (by decide)]
  by_cases z : lo < hi
  · rw [if_pos z, Int.ediv_one]
    omega
  · rw [if_neg z]
    omega
theorem range_itA {X : Cx} {tg : Expr} {pins : List (Addr × Obj)} {σ : Aw.St} {H : Hp} {s : Shared} {R : It → Hp → Prop} {E : Value → Shared → Prop} {lo hi : Int} {t u v : Tok} {tk : Nat} (I : Inv X pins σ H s)
    (q : R (Itr lo (hi - lo).toNat) H) : wpAny (model X.prog X.w) X.A (pyIter (.ref s.heap.objs.size)) (PIE X pins σ tg R) E { s with heap := s.heap.push { cls := .type "range", data := .fields #[.int lo t, .int hi u, .int 1 v] }, toks := tk } := by
  have I1 : Inv X pins σ H { s with heap := s.heap.push { cls := .type "range", data := .fields #[.int lo t, .int hi u, .int 1 v] }, toks := tk } := I.kept fun b o e => Heap.get?_push_of_some _ e
  have e1 : lo + ((0 : Nat) : Int) * 1 = lo := by simp
  have e2 : (((hi - lo).toNat : Nat) : Int) - ((0 : Nat) : Int) = Builtin.Range.rangeSize lo hi 1 := by rw [← size_oneA]; omega
  have fr : ∀ b ∈ [(s.heap.push { cls := .type "range", data := .fields #[.int lo t, .int hi u, .int 1 v] }).objs.size], (s.heap.push { cls := .type "range", data := .fields #[.int lo t, .int hi u, .int 1 v] }).objs.size ≤ b := fun b hb => by
    have e : b = (s.heap.push { cls := .type "range", data := .fields #[.int lo t, .int hi u, .int 1 v] }).objs.size := by simpa using hb
    rw [e]
    exact Nat.le_refl _
  cases hs : Builtin.Range.small lo hi 1 with
  | true =>
    refine wpAny_pyIter_range (IsRange.new ..) hs ?_
    refine ⟨(s.heap.push { cls := .type "range", data := .fields #[.int lo t, .int hi u, .int 1 v] }).objs.size, [(s.heap.push { cls := .type "range", data := .fields #[.int lo t, .int hi u, .int 1 v] }).objs.size], _, _, H, rfl,
      I1.kept (t' := tk) fun b o e => Heap.get?_push_of_some _ e, turn_range _ lo (hi - lo).toNat, ?_, fun b hb => I1.fpOk (fr b hb) (I1.hok.fresh (fr b hb)), q⟩
    show IsRangeIter _ _ (lo + ((0 : Nat) : Int) * 1) ((((hi - lo).toNat : Nat) : Int) - ((0 : Nat) : Int)) 1
    rw [e1, e2]
    exact Heap.get?_push_size _ rfl
  | false =>
    refine wpAny_pyIter_longrange (IsRange.new ..) hs ?_
    refine ⟨(s.heap.push { cls := .type "range", data := .fields #[.int lo t, .int hi u, .int 1 v] }).objs.size, [(s.heap.push { cls := .type "range", data := .fields #[.int lo t, .int hi u, .int 1 v] }).objs.size], _, _, H, rfl,
      I1.kept (t' := tk) fun b o e => Heap.get?_push_of_some _ e, turn_long _ lo (hi - lo).toNat, ?_, fun b hb => I1.fpOk (fr b hb) (I1.hok.fresh (fr b hb)), q⟩
    show IsLongIter _ _ (lo + ((0 : Nat) : Int) * 1) ((((hi - lo).toNat : Nat) : Int) - ((0 : Nat) : Int)) 1
    rw [e1, e2]
    exact Heap.get?_push_size _ rfl
def iRngA (ta : TA) : TI := fun σ H R => ta σ H fun vs H1 => ∃ i j : Int, vs = [.int i, .int j] ∧ R (Itr i (j - i).toNat) H1
theorem pi_rangeA {X : Cx} {tg : Expr} {a b : Expr} {ta : TA} {p pos : Pos} (hg : Gl X "range") (hm : X.mg "range" = none) (ha : PA X [a, b] ta) (hs : starEach [a, b] X.env = [(false, eval a X.env), (false, eval b X.env)] := by rfl) (hs2 : starEach [b] X.env = [(false, eval b X.env)] := by rfl) :
    PI X tg (.Call (.Name "range" p) [a, b] [] pos) (iRngA ta) := by
  refine ⟨fun pins s σ H R I h => ?_⟩
  refine Call_ (ld_blt I hg hm boot_range (PyProof.Rows.callWith_type1 (thn (ha.run pos pins s σ H _ I h) fun us s1 ⟨vs, H1, I1, r1, q1⟩ => ?_) (by rw [hs, hs2]) (by rw [hs2]; rfl)))
  obtain ⟨i, j, e, q⟩ := q1
  subst e
  cases r1 with
  | cons r rr =>
    cases rr with
    | cons r' rr =>
      cases rr
      obtain ⟨t, rfl⟩ := r
      obtain ⟨t', rfl⟩ := r'
      exact call_range_2 (range_itA I1 q)
end Aw

namespace Aw
open PySem PySem.Spec PyProof.Rows L2 NdefX
/-! ### two runs meet in a run; counting by weights -/
def stepS : List Nat := [1, 2, 3, 4, 6, 12]
def stepT (a c : Nat) (l : List Nat) : Nat := l.foldl (fun s n => if n % a = 0 ∧ n % c = 0 then n else s) 12
def stepM (a c : Nat) : Nat := stepT a c [6, 4, 3, 2, 1]
theorem stepM_in : ∀ a ∈ stepS, ∀ c ∈ stepS, stepM a c ∈ stepS ∧ stepM a c % a = 0 ∧ stepM a c % c = 0 := by decide +kernel
theorem stepS_pos : ∀ a ∈ stepS, 0 < a ∧ a ≤ 12 := by decide
theorem stepM_lcm {a c : Nat} (ha : a ∈ stepS) (hc : c ∈ stepS) {x : Int} (h1 : ((a : Nat) : Int) ∣ x) (h2 : ((c : Nat) : Int) ∣ x) : ((stepM a c : Nat) : Int) ∣ x := by
  have e : ∀ a ∈ stepS, ∀ c ∈ stepS, stepM a c = Nat.lcm a c := by decide +kernel
  rw [e a ha c hc]
  have h1 := Int.ofNat_dvd_left.mp h1
  have h2 := Int.ofNat_dvd_left.mp h2
  exact Int.ofNat_dvd_left.mpr (Nat.lcm_dvd h1 h2)
/-- the run where two runs meet -/
structure Meets (r q m : Int × Int × Int) : Prop where
  st : ∃ n ∈ stepS, m.2.2 = ((n : Nat) : Int)
  fl : m.1 ≤ m.2.1
  lo : r.1 ≤ m.1 ∧ q.1 ≤ m.1
  hi : m.2.1 ≤ r.2.1 ∧ m.2.1 ≤ q.2.1
  eq : ∀ j, inRun m j = (inRun r j && inRun q j)
theorem inRun_iff {f l j : Int} {c : Nat} : inRun (f, l, (c : Nat)) j = true ↔ f ≤ j ∧ j ≤ l ∧ ((c : Nat) : Int) ∣ j - f := by
  show (decide (f ≤ j) && (decide (j ≤ l) && decide ((j - f) % (c : Nat) = 0))) = true ↔ _
  rw [Bool.and_eq_true, Bool.and_eq_true, decide_eq_true_eq, decide_eq_true_eq, decide_eq_true_eq, Int.dvd_iff_emod_eq_zero]
theorem meets_at {f l f2 l2 j0 : Int} {a c : Nat} (ha : a ∈ stepS) (hc : c ∈ stepS) (h0 : max f f2 ≤ j0) (h1 : j0 < max f f2 + (stepM a c : Nat)) (h2 : j0 ≤ min l l2) (r1 : inRun (f, l, (a : Nat)) j0 = true) (r2 : inRun (f2, l2, (c : Nat)) j0 = true) :
    Meets (f, l, (a : Nat)) (f2, l2, (c : Nat)) (j0, min l l2, (stepM a c : Nat)) := by
  obtain ⟨s0, s1, s2⟩ := stepM_in a ha c hc
  obtain ⟨p1, p2, p3⟩ := inRun_iff.mp r1
  obtain ⟨q1, q2, q3⟩ := inRun_iff.mp r2
  have d1 : ((a : Nat) : Int) ∣ ((stepM a c : Nat) : Int) := Int.natCast_dvd_natCast.mpr (Nat.dvd_of_mod_eq_zero s1)
  have d2 : ((c : Nat) : Int) ∣ ((stepM a c : Nat) : Int) := Int.natCast_dvd_natCast.mpr (Nat.dvd_of_mod_eq_zero s2)
  refine ⟨⟨_, s0, rfl⟩, h2, ⟨by show f ≤ j0; omega, by show f2 ≤ j0; omega⟩, ⟨by show min l l2 ≤ l; omega, by show min l l2 ≤ l2; omega⟩, fun j => ?_⟩
  rw [Bool.eq_iff_iff, Bool.and_eq_true, inRun_iff, inRun_iff, inRun_iff]
  constructor
  · rintro ⟨b1, b2, b3⟩
    refine ⟨⟨by omega, by omega, ?_⟩, ⟨by omega, by omega, ?_⟩⟩
    · have := Int.dvd_add (Int.dvd_trans d1 b3) p3
      rwa [show j - j0 + (j0 - f) = j - f by omega] at this
    · have := Int.dvd_add (Int.dvd_trans d2 b3) q3
      rwa [show j - j0 + (j0 - f2) = j - f2 by omega] at this
  · rintro ⟨⟨b1, b2, b3⟩, ⟨c1, c2, c3⟩⟩
    have e1 : ((a : Nat) : Int) ∣ j - j0 := by
      have := Int.dvd_sub b3 p3
      rwa [show j - f - (j0 - f) = j - j0 by omega] at this
    have e2 : ((c : Nat) : Int) ∣ j - j0 := by
      have := Int.dvd_sub c3 q3
      rwa [show j - f2 - (j0 - f2) = j - j0 by omega] at this
    have e3 := stepM_lcm ha hc e1 e2
    refine ⟨?_, by omega, e3⟩
    by_cases z : j0 ≤ j
    · exact z
    · obtain ⟨k, hk⟩ := e3
      have sp := (stepS_pos _ s0).1
      have kn : k ≤ -1 := by
        by_cases y : 0 ≤ k
        · have := Int.mul_nonneg (show (0 : Int) ≤ ((stepM a c : Nat) : Int) by omega) y
          omega
        · omega
      have := Int.mul_le_mul_of_nonneg_left kn (show (0 : Int) ≤ ((stepM a c : Nat) : Int) by omega)
      omega
theorem meets_no {f l f2 l2 : Int} {a c : Nat} (ha : a ∈ stepS) (hc : c ∈ stepS) (h : ∀ i : Nat, i < stepM a c → ¬ (max f f2 + (i : Nat) ≤ min l l2 ∧ inRun (f, l, (a : Nat)) (max f f2 + (i : Nat)) = true ∧ inRun (f2, l2, (c : Nat)) (max f f2 + (i : Nat)) = true)) (j : Int) :
    (inRun (f, l, (a : Nat)) j && inRun (f2, l2, (c : Nat)) j) = false := by
  obtain ⟨s0, s1, s2⟩ := stepM_in a ha c hc
  have sp := (stepS_pos _ s0).1
  have d1 : ((a : Nat) : Int) ∣ ((stepM a c : Nat) : Int) := Int.natCast_dvd_natCast.mpr (Nat.dvd_of_mod_eq_zero s1)
  have d2 : ((c : Nat) : Int) ∣ ((stepM a c : Nat) : Int) := Int.natCast_dvd_natCast.mpr (Nat.dvd_of_mod_eq_zero s2)
  rw [Bool.eq_false_iff]
  intro z
  rw [Bool.and_eq_true, inRun_iff, inRun_iff] at z
  obtain ⟨⟨b1, b2, b3⟩, ⟨c1, c2, c3⟩⟩ := z
  have m0 := Int.emod_nonneg (j - max f f2) (show ((stepM a c : Nat) : Int) ≠ 0 by omega)
  have m1 := Int.emod_lt_of_pos (j - max f f2) (show (0 : Int) < ((stepM a c : Nat) : Int) by omega)
  have me := Int.mul_ediv_add_emod (j - max f f2) ((stepM a c : Nat) : Int)
  have q0 : 0 ≤ (j - max f f2) / ((stepM a c : Nat) : Int) := Int.ediv_nonneg (by omega) (by omega)
  have q1 := Int.mul_nonneg (show (0 : Int) ≤ ((stepM a c : Nat) : Int) by omega) q0
  obtain ⟨i, hi⟩ : ∃ i : Nat, (j - max f f2) % ((stepM a c : Nat) : Int) = (i : Nat) := ⟨((j - max f f2) % ((stepM a c : Nat) : Int)).toNat, by omega⟩
  refine h i (by omega) ⟨by omega, ?_, ?_⟩
  · refine inRun_iff.mpr ⟨by omega, by omega, ?_⟩
    have := Int.dvd_sub b3 (Int.dvd_trans d1 (Int.dvd_mul_right ((stepM a c : Nat) : Int) ((j - max f f2) / ((stepM a c : Nat) : Int))))
    rwa [show j - f - ((stepM a c : Nat) : Int) * ((j - max f f2) / ((stepM a c : Nat) : Int)) = max f f2 + (i : Nat) - f by omega] at this
  · refine inRun_iff.mpr ⟨by omega, by omega, ?_⟩
    have := Int.dvd_sub c3 (Int.dvd_trans d2 (Int.dvd_mul_right ((stepM a c : Nat) : Int) ((j - max f f2) / ((stepM a c : Nat) : Int))))
    rwa [show j - f2 - ((stepM a c : Nat) : Int) * ((j - max f f2) / ((stepM a c : Nat) : Int)) = max f f2 + (i : Nat) - f2 by omega] at this
end Aw

namespace Aw
open PySem PySem.Spec PyProof.Rows L2 NdefX
def spLMeet : Sp := fun vs H Q _ => ∃ (t u : Addr) (f l f2 l2 : Int) (a c : Nat), vs = [.ref t, .ref u] ∧ H t = some (.tup [.int f, .int l, .int (a : Nat)]) ∧ H u = some (.tup [.int f2, .int l2, .int (c : Nat)]) ∧ a ∈ stepS ∧ c ∈ stepS ∧
  ((∀ j, (inRun (f, l, (a : Nat)) j && inRun (f2, l2, (c : Nat)) j) = false) → ∀ H', Same H H' → Q .non H') ∧
  (∀ (m : Int × Int × Int) (p : Addr) H', Meets (f, l, (a : Nat)) (f2, l2, (c : Nat)) m → Same H H' → H p = none → H' p = some (.tup [.int m.1, .int m.2.1, .int m.2.2]) → Q (.ref p) H')
section
variable {P : Program} {w : World} {K : PySem.W.Frag} {mg : Str → Option Value} {base : Heap}
structure TxtMeet (P : Program) (w : World) (K : PySem.W.Frag) (mg : Str → Option Value) (base : Heap) (fI : Addr) (id : FuncData) : Prop where
  int : mg "int" = none
  max : mg "max" = none
  min : mg "min" = none
  range : mg "range" = none
  GI : FnOk P w K mg base CX0 1 fI id ["_law_run_here", "_law_j"] spInR
  kI : PySem.W.keepIn K (.ref fI) = true
  bI : Binds K id ["_law_run_here", "_law_j"] []
  gI : mg "_law_in_run" = some (.ref fI)
theorem scLMeet : FnScope ["_law_one", "_law_other", "_law_step", "_law_some", "_law_n", "_law_low", "_law_high", "_law_j"] ["_law_one", "_law_other"] (defScope sLMeet) := ⟨rfl, rfl, rfl, by decide +kernel, rfl, by decide +kernel, by decide +kernel⟩
theorem ok_lmeet {f fI : Addr} {fd id : FuncData} (F : Fun K "_law_meeting" "_law_meeting" sLMeet f fd) (W : TxtMeet P w K mg base fI id) : FnOk P w K mg base CX0 2 f fd ["_law_one", "_law_other"] spLMeet := by
  refine F.ok scLMeet (fun vs H Q E h => ?_) (fun cdv A outer s H vs Q E hr h => ?_)
  · obtain ⟨t, u, f, l, f2, l2, a, c, rfl, _⟩ := h
    rfl
  · obtain ⟨t, u, f, l, f2, l2, a, c, rfl, et, eu, ha, hc, kN, kQ⟩ := h
    have nd := scLMeet.nd
    refine ⟨_, (pss_cons (ps_par (i := 2) (j := 3) rfl nd rfl rfl (by decide) rfl rfl (pa_cons pe_int (pa_cons (pe_tup (pa_cons (pe_ix ix_tup (pv 0) pe_int (fun _ _ => rfl)) (pa_cons (pe_ix ix_tup (pv 1) pe_int (fun _ _ => rfl)) pa_nil))) pa_nil)) (by rfl))
      (pss_cons (ps_for PassesOwn.never rfl (pi_tup (pe_tup (pa_cons pe_int (pa_cons pe_int (pa_cons pe_int (pa_cons pe_int (pa_cons pe_int pa_nil))))))) (pg_name (i := 4) nd rfl (Or.inl rfl))
        (pss_one (ps_if (PW.pt (pw_and (pt_cmpR op_eq (pe_op op_mod (pe_callTy call_int1 (by rfl) W.int (by decide +kernel) (pa_cons (pv 4) pa_nil)) (pe_ix ix_tup (pv 3) pe_int (fun _ _ => rfl))) pe_int (nomark _)) (pw_and1 (pt_cmpR op_eq (pe_op op_mod (pe_callTy call_int1 (by rfl) W.int (by decide +kernel) (pa_cons (pv 4) pa_nil)) (pe_ix ix_tup (pv 3) pe_int (fun _ _ => rfl))) pe_int (nomark _)))))
          (pss_one (ps_set (i := 2) nd rfl (Or.inl rfl) (pv 4))) pss_nil)))
      (pss_cons (ps_par (i := 5) (j := 6) rfl nd rfl rfl (by decide) rfl rfl (pa_cons (pe_callB (call_max2 rfl) (by rfl) W.max (by decide +kernel) (pa_cons (pe_ix ix_tup (pv 0) pe_int (fun _ _ => rfl)) (pa_cons (pe_ix ix_tup (pv 1) pe_int (fun _ _ => rfl)) pa_nil))) (pa_cons (pe_callB (call_min2 rfl) (by rfl) W.min (by decide +kernel) (pa_cons (pe_ix ix_tup (pv 0) pe_int (fun _ _ => rfl)) (pa_cons (pe_ix ix_tup (pv 1) pe_int (fun _ _ => rfl)) pa_nil))) pa_nil)) (by rfl))
      (pss_cons (ps_for PassesOwn.never rfl (pi_rangeA (by rfl) W.range (pa_cons (pv 5) (pa_cons (pe_op op_add (pv 5) (pv 2)) pa_nil))) (pg_name (i := 7) nd rfl (Or.inl rfl))
        (pss_one (ps_if (PW.pt (pw_and (pt_cmpR op_le (pv 7) (pv 6) (nomark _)) (pw_and (pt_val (pe_call W.GI (hr.mono (by decide)) (by rfl) W.gI W.kI W.bI .nil pass0 (pa_cons (pv 0) (pa_cons (pv 7) pa_nil)))) (pw_and1 (pt_val (pe_call W.GI (hr.mono (by decide)) (by rfl) W.gI W.kI W.bI .nil pass0 (pa_cons (pv 1) (pa_cons (pv 7) pa_nil))))))))
          (pss_one (ps_ret (pe_tup (pa_cons (pv 7) (pa_cons (pv 6) (pa_cons (pv 2) pa_nil)))))) pss_nil)))
      (pss_one (ps_ret pe_non)))))), ?_⟩
    -- BODY
    obtain ⟨a0, a12⟩ := stepS_pos a ha
    obtain ⟨c0, c12⟩ := stepS_pos c hc
    refine ⟨_, rfl, t, _, 2, _, rfl, rfl, SqT.of et, rfl, _, rfl, u, _, 2, _, rfl, rfl, SqT.of eu, rfl, by show 2 ≤ sizeLine; decide, fun T hT => ⟨_, _, rfl, ?_⟩⟩
    have sT := same_upd (o := .tup [.int (a : Nat), .int (c : Nat)]) hT
    have eT : upd H T (.tup [.int (a : Nat), .int (c : Nat)]) T = some (.tup [.int (a : Nat), .int (c : Nat)]) := upd_same
    generalize upd H T (.tup [.int (a : Nat), .int (c : Nat)]) = H1 at *
    refine ⟨by show 5 ≤ sizeLine; decide, fun T2 hT2 => ⟨T2, rfl, ⟨_, SqT.of upd_same⟩, ?_⟩⟩
    have s2 := same_upd (o := .tup [.int 6, .int 4, .int 3, .int 2, .int 1]) hT2
    have e2 : upd H1 T2 (.tup [.int 6, .int 4, .int 3, .int 2, .int 1]) T2 = some (.tup (([6, 4, 3, 2, 1] : List Nat).map fun n => V.int (n : Nat))) := upd_same
    generalize upd H1 T2 (.tup [.int 6, .int 4, .int 3, .int 2, .int 1]) = H2 at *
    have eT2 := s2 _ _ eT
    have s02 := sT.trans s2
    refine for_tup (a := T2) (xs := ([6, 4, 3, 2, 1] : List Nat).map fun n => V.int (n : Nat)) (fun i σ H3 => ∃ v4 : Option V, σ = [some (.ref t), some (.ref u), some (.int (stepT a c (([6, 4, 3, 2, 1] : List Nat).take i) : Nat)), some (.ref T), v4, none, none, none] ∧ Same H2 H3) ⟨none, rfl, fun _ _ e => e⟩ (fun i σ H3 _ z => by
      obtain ⟨_, _, s3⟩ := z
      exact SqT.of (s3 _ _ e2)) ?_ ?_
    · rintro i v σ H3 hv ⟨v4, rfl, s3⟩
      rw [List.getElem?_map] at hv
      obtain ⟨n, hn, rfl⟩ := Option.map_eq_some_iff.mp hv
      have e3 := s3 _ _ eT2
      have es : stepT a c (([6, 4, 3, 2, 1] : List Nat).take (i + 1)) = if n % a = 0 ∧ n % c = 0 then n else stepT a c (([6, 4, 3, 2, 1] : List Nat).take i) := by
        rw [List.take_succ, hn]
        unfold stepT
        rw [List.foldl_append]
        rfl
      have m1 : ((n : Nat) : Int) % (a : Nat) = ((n % a : Nat) : Int) := (Int.natCast_emod n a).symm
      have m2 : ((n : Nat) : Int) % (c : Nat) = ((n % c : Nat) : Int) := (Int.natCast_emod n c).symm
      refine ⟨_, rfl, .inl ⟨(n : Nat), rfl, _, rfl, T, _, 0, _, rfl, rfl, SqT.of e3, rfl, _, _, rfl, rfl, by omega, rfl, _, rfl, ?_⟩⟩
      refine ite_int (fun g1 => ?_) (fun g1 => ?_)
      · refine ⟨_, rfl, .inl ⟨(n : Nat), rfl, _, rfl, T, _, 1, _, rfl, rfl, SqT.of e3, rfl, _, _, rfl, rfl, by omega, rfl, _, rfl, ?_⟩⟩
        refine ite_int (fun g2 => ?_) (fun g2 => ?_)
        · refine ⟨_, rfl, some (.int (n : Nat)), ?_, s3⟩
          rw [es, if_pos ⟨by omega, by omega⟩]
          rfl
        · refine nxt ?_
          dsimp only
          refine ⟨some (.int (n : Nat)), ?_, s3⟩
          rw [es, if_neg (fun z => g2 (by rw [m2, z.2]; rfl))]
          rfl
      · refine iteF (nxt ?_)
        dsimp only
        refine ⟨some (.int (n : Nat)), ?_, s3⟩
        rw [es, if_neg (fun z => g1 (by rw [m1, z.1]; rfl))]
        rfl
    · rintro σ H3 ⟨v4, rfl, s3⟩
      have s03 := s02.trans s3
      have et3 := s03 _ _ et
      have eu3 := s03 _ _ eu
      have em : (if f2 > f then f2 else f) = max f f2 := by split <;> omega
      have en : (if l2 < l then l2 else l) = min l l2 := by split <;> omega
      refine ⟨_, rfl, t, _, 0, _, rfl, rfl, SqT.of et3, rfl, _, rfl, u, _, 0, _, rfl, rfl, SqT.of eu3, rfl, f, f2, rfl, ?_⟩
      rw [em]
      refine ⟨_, rfl, t, _, 1, _, rfl, rfl, SqT.of et3, rfl, _, rfl, u, _, 1, _, rfl, rfl, SqT.of eu3, rfl, l, l2, rfl, ?_⟩
      rw [en]
      refine ⟨_, _, rfl, ?_⟩
      have est : stepT a c (List.take (([6, 4, 3, 2, 1] : List Nat).map fun n => V.int (n : Nat)).length [6, 4, 3, 2, 1]) = stepM a c := rfl
      rw [est]
      obtain ⟨sS, _, _⟩ := stepM_in a ha c hc
      obtain ⟨sp, s12⟩ := stepS_pos _ sS
      have ecnt : (max f f2 + ((stepM a c : Nat) : Int) - max f f2).toNat = stepM a c := by omega
      refine ⟨_, rfl, _, rfl, _, rfl, _, _, rfl, rfl, _, _, rfl, ?_⟩
      refine for_range (n := (max f f2 + ((stepM a c : Nat) : Int) - max f f2).toNat) (fun i σ H4 => ∃ v7 : Option V, σ = [some (.ref t), some (.ref u), some (.int (stepM a c : Nat)), some (.ref T), v4, some (.int (max f f2)), some (.int (min l l2)), v7] ∧ Same H3 H4 ∧ ∀ i' : Nat, i' < i → ¬ (max f f2 + (i' : Nat) ≤ min l l2 ∧ inRun (f, l, (a : Nat)) (max f f2 + (i' : Nat)) = true ∧ inRun (f2, l2, (c : Nat)) (max f f2 + (i' : Nat)) = true)) ⟨none, rfl, fun _ _ e => e, fun i' h => absurd h (Nat.not_lt_zero _)⟩ ?_ ?_
      · rintro i σ H4 hi ⟨v7, rfl, s4, no⟩
        have s34 := s03.trans s4
        have et4 := s34 _ _ et
        have eu4 := s34 _ _ eu
        have more : ¬ (max f f2 + (i : Nat) ≤ min l l2 ∧ inRun (f, l, (a : Nat)) (max f f2 + (i : Nat)) = true ∧ inRun (f2, l2, (c : Nat)) (max f f2 + (i : Nat)) = true) → ∀ i' : Nat, i' < i + 1 → ¬ (max f f2 + (i' : Nat) ≤ min l l2 ∧ inRun (f, l, (a : Nat)) (max f f2 + (i' : Nat)) = true ∧ inRun (f2, l2, (c : Nat)) (max f f2 + (i' : Nat)) = true) := fun z i' hi' => by
          rcases Nat.lt_or_ge i' i with q | q
          · exact no i' q
          · rw [show i' = i by omega]
            exact z
        refine ⟨_, rfl, _, rfl, _, _, rfl, rfl, _, rfl, ite_dec (fun g => ?_) (fun g => ?_)⟩
        · refine ⟨_, rfl, _, rfl, t, f, l, (a : Nat), _, rfl, et4, by omega, by omega, _, rfl, ?_⟩
          cases r1 : inRun (f, l, (a : Nat)) (max f f2 + (i : Nat)) with
          | false => exact iteF (nxt ⟨_, rfl, s4, more (fun z => by rw [r1] at z; cases z.2.1)⟩)
          | true =>
            refine iteT ?_
            refine ⟨_, rfl, _, rfl, u, f2, l2, (c : Nat), _, rfl, eu4, by omega, by omega, _, rfl, ?_⟩
            cases r2 : inRun (f2, l2, (c : Nat)) (max f f2 + (i : Nat)) with
            | false => exact iteF (nxt ⟨_, rfl, s4, more (fun z => by rw [r2] at z; cases z.2.2)⟩)
            | true =>
              refine iteT ?_
              refine ⟨_, rfl, _, rfl, _, rfl, by show 3 ≤ sizeLine; decide, fun p hp => ?_⟩
              exact kQ (max f f2 + (i : Nat), min l l2, (stepM a c : Nat)) p _ (meets_at ha hc (by omega) (by omega) g r1 r2) (s34.trans (same_upd hp)) (s34.free hp) upd_same
        · exact iteF (nxt ⟨_, rfl, s4, more (fun z => g z.1)⟩)
      · rintro σ H4 ⟨v7, rfl, s4, no⟩
        exact kN (meets_no ha hc fun i hi => no i (by omega)) H4 (s03.trans s4)
end
end Aw

namespace Aw
open PySem PySem.Spec PyProof.Rows L2 NdefX
theorem fil_succ {p : Nat → Bool} {n : Nat} : (List.range (n + 1)).filter p = (List.range n).filter p ++ (if p n then [n] else []) := by
  rw [List.range_succ, List.filter_append]
  congr 1
  cases hb : p n with
  | true => exact List.filter_cons_of_pos hb
  | false => exact List.filter_cons_of_neg (by rw [hb]; exact Bool.noConfusion)
end Aw

namespace Aw
open PySem PySem.Spec PyProof.Rows L2 NdefX
/-! ### sums of weights -/
def b2i (b : Bool) : Int := if b then 1 else 0
abbrev Trm : Type := (Int × Int × Int) × Int
def wS (ts : List Trm) (j : Int) : Int := ts.foldr (fun t s => t.2 * b2i (inRun t.1 j) + s) 0
def wR (ts : List Trm) (q : Int × Int × Int) (j : Int) : Int := ts.foldr (fun t s => t.2 * b2i (inRun t.1 j && inRun q j) + s) 0
def cardR (r : Int × Int × Int) : Int := (r.2.1 - r.1) / r.2.2 + 1
def wC (ts : List Trm) : Int := ts.foldr (fun t s => t.2 * cardR t.1 + s) 0
def sumI (f : Nat → Int) : Nat → Int
  | 0 => 0
  | n + 1 => sumI f n + f n
theorem sumI_congr {f g : Nat → Int} : ∀ {n : Nat}, (∀ j, j < n → f j = g j) → sumI f n = sumI g n
  | 0, _ => rfl
  | n + 1, h => by
    show sumI f n + f n = sumI g n + g n
    rw [sumI_congr fun j hj => h j (Nat.lt_succ_of_lt hj), h n (Nat.lt_succ_self n)]
theorem sumI_add {f g : Nat → Int} : ∀ {n : Nat}, sumI (fun j => f j + g j) n = sumI f n + sumI g n
  | 0 => rfl
  | n + 1 => by
    show sumI (fun j => f j + g j) n + (f n + g n) = (sumI f n + f n) + (sumI g n + g n)
    rw [sumI_add]
    omega
theorem sumI_mul {f : Nat → Int} {w : Int} : ∀ {n : Nat}, sumI (fun j => w * f j) n = w * sumI f n
  | 0 => (Int.mul_zero w).symm
  | n + 1 => by
    show sumI (fun j => w * f j) n + w * f n = w * (sumI f n + f n)
    rw [sumI_mul, Int.mul_add]
theorem sumI_zero : ∀ {n : Nat}, sumI (fun _ => 0) n = 0
  | 0 => rfl
  | n + 1 => by
    show sumI (fun _ => 0) n + 0 = 0
    rw [sumI_zero]
    rfl
theorem sumI_fil {p : Nat → Bool} : ∀ {n : Nat}, sumI (fun j => b2i (p j)) n = (((List.range n).filter p).length : Nat)
  | 0 => rfl
  | n + 1 => by
    show sumI (fun j => b2i (p j)) n + b2i (p n) = _
    rw [sumI_fil, fil_succ, List.length_append]
    cases p n <;> simp [b2i]
theorem div12 {c : Nat} (hc : c ∈ stepS) (x : Int) : (x + 1) / (c : Nat) = x / (c : Nat) + b2i (decide ((x + 1) % (c : Nat) = 0)) := by
  have h : c = 1 ∨ c = 2 ∨ c = 3 ∨ c = 4 ∨ c = 6 ∨ c = 12 := by simpa [stepS] using hc
  unfold b2i
  simp only [decide_eq_true_eq]
  rcases h with rfl | rfl | rfl | rfl | rfl | rfl <;> split <;> omega
theorem sum_ind {f l : Int} {c : Nat} (hc : c ∈ stepS) (f0 : 0 ≤ f) (fl : f ≤ l) : ∀ n : Nat, sumI (fun j => b2i (inRun (f, l, (c : Nat)) (j : Nat))) n = if (n : Int) ≤ f then 0 else (min ((n : Int) - 1) l - f) / (c : Nat) + 1
  | 0 => by rw [if_pos (by omega)]; rfl
  | n + 1 => by
    have ih := sum_ind hc f0 fl n
    show sumI _ n + b2i (inRun (f, l, (c : Nat)) (n : Nat)) = _
    rw [ih]
    show _ + b2i (decide (f ≤ (n : Nat)) && (decide (((n : Nat) : Int) ≤ l) && decide ((((n : Nat) : Int) - f) % (c : Nat) = 0))) = _
    by_cases z1 : ((n + 1 : Nat) : Int) ≤ f
    · rw [if_pos z1, if_pos (by omega), decide_eq_false (show ¬ f ≤ ((n : Nat) : Int) by omega)]
      rfl
    · rw [if_neg z1]
      by_cases z2 : ((n : Nat) : Int) = f
      · rw [if_pos (by omega), z2, decide_eq_true (Int.le_refl f), decide_eq_true fl, Int.sub_self, Int.zero_emod, show min (((n + 1 : Nat) : Int) - 1) l - f = 0 by omega, Int.zero_ediv]
        rfl
      · rw [if_neg (by omega), decide_eq_true (show f ≤ ((n : Nat) : Int) by omega), Bool.true_and]
        by_cases z3 : ((n : Nat) : Int) ≤ l
        · rw [decide_eq_true z3, Bool.true_and, show min (((n : Nat) : Int) - 1) l - f = ((n : Nat) : Int) - 1 - f by omega, show min (((n + 1 : Nat) : Int) - 1) l - f = (((n : Nat) : Int) - 1 - f) + 1 by omega, div12 hc, show ((n : Nat) : Int) - 1 - f + 1 = ((n : Nat) : Int) - f by omega]
          omega
        · rw [decide_eq_false z3, Bool.false_and, show min (((n : Nat) : Int) - 1) l = l by omega, show min (((n + 1 : Nat) : Int) - 1) l = l by omega]
          exact Int.add_zero _
structure TrmOk (b : Int) (B : Nat) (t : Trm) : Prop where
  st : ∃ c ∈ stepS, t.1.2.2 = ((c : Nat) : Int)
  f0 : 0 ≤ t.1.1
  fl : t.1.1 ≤ t.1.2.1
  lb : t.1.2.1 < b
  w1 : -(B : Int) ≤ t.2
  w2 : t.2 ≤ B
theorem card_sum {b : Int} {B : Nat} {t : Trm} (h : TrmOk b B t) : sumI (fun j => b2i (inRun t.1 (j : Nat))) b.toNat = cardR t.1 := by
  obtain ⟨⟨f, l, c⟩, w⟩ := t
  obtain ⟨⟨cn, hc, e⟩, f0, fl, lb, _, _⟩ := h
  dsimp only at e f0 fl lb
  subst e
  have s := sum_ind hc f0 fl b.toNat
  rw [if_neg (by omega), show min (((b.toNat : Nat) : Int) - 1) l = l by omega] at s
  exact s
theorem wS_sum {b : Int} {B : Nat} : ∀ {ts : List Trm}, (∀ t ∈ ts, TrmOk b B t) → sumI (fun j => wS ts (j : Nat)) b.toNat = wC ts
  | [], _ => sumI_zero
  | t :: ts, h => by
    have ih := wS_sum (b := b) (B := B) (ts := ts) fun x hx => h x (List.mem_cons_of_mem _ hx)
    show sumI (fun j => t.2 * b2i (inRun t.1 (j : Nat)) + wS ts (j : Nat)) b.toNat = t.2 * cardR t.1 + wC ts
    rw [sumI_add, sumI_mul, card_sum (h t List.mem_cons_self), ih]
theorem wS_app {ts us : List Trm} {j : Int} : wS (ts ++ us) j = wS ts j + wS us j := by
  induction ts with
  | nil => exact (Int.zero_add _).symm
  | cons t ts ih =>
    show t.2 * _ + wS (ts ++ us) j = t.2 * _ + wS ts j + wS us j
    rw [ih]
    omega
theorem wR_app {ts us : List Trm} {q : Int × Int × Int} {j : Int} : wR (ts ++ us) q j = wR ts q j + wR us q j := by
  induction ts with
  | nil => exact (Int.zero_add _).symm
  | cons t ts ih =>
    show t.2 * _ + wR (ts ++ us) q j = t.2 * _ + wR ts q j + wR us q j
    rw [ih]
    omega
theorem wC_app {ts us : List Trm} : wC (ts ++ us) = wC ts + wC us := by
  induction ts with
  | nil => exact (Int.zero_add _).symm
  | cons t ts ih =>
    show t.2 * _ + wC (ts ++ us) = t.2 * _ + wC ts + wC us
    rw [ih]
    omega
theorem wR_mul {ts : List Trm} {q : Int × Int × Int} {j : Int} : wR ts q j = wS ts j * b2i (inRun q j) := by
  induction ts with
  | nil => exact (Int.zero_mul _).symm
  | cons t ts ih =>
    show t.2 * b2i (inRun t.1 j && inRun q j) + wR ts q j = (t.2 * b2i (inRun t.1 j) + wS ts j) * b2i (inRun q j)
    rw [ih, Int.add_mul]
    cases inRun t.1 j <;> cases inRun q j <;> simp [b2i]
theorem xor_sum (x r : Bool) : b2i x + (b2i r + -2 * (b2i x * b2i r)) = b2i (x ^^ r) := by cases x <;> cases r <;> rfl
/-- how many places below n are in an odd number of runs -/
def cntO (rs : List (Int × Int × Int)) (n : Nat) : Nat := ((List.range n).filter fun j : Nat => oddR rs (j : Nat)).length
theorem wC_cnt {b : Int} {B : Nat} {ts : List Trm} {rs : List (Int × Int × Int)} (h : ∀ t ∈ ts, TrmOk b B t) (e : ∀ j, 0 ≤ j → j < b → wS ts j = b2i (oddR rs j)) : wC ts = (cntO rs b.toNat : Nat) := by
  rw [← wS_sum h, sumI_congr (g := fun j => b2i (oddR rs ((j : Nat) : Int))) fun j hj => e (j : Nat) (by omega) (by omega), sumI_fil]
  rfl
/-- a run, cut at b -/
theorem cut_in {f l c b j : Int} (hj : j < b) : inRun (f, min l (b - 1), c) j = inRun (f, l, c) j := by
  show (decide (f ≤ j) && (decide (j ≤ min l (b - 1)) && _)) = (decide (f ≤ j) && (decide (j ≤ l) && _))
  rw [show decide (j ≤ min l (b - 1)) = decide (j ≤ l) by rw [decide_eq_decide]; omega]
theorem oddR_snoc {rs : List (Int × Int × Int)} {r : Int × Int × Int} {j : Int} : oddR (rs ++ [r]) j = (oddR rs j ^^ inRun r j) := by
  unfold oddR
  rw [List.foldl_append]
  rfl
end Aw

namespace Aw
open PySem PySem.Spec PyProof.Rows L2 NdefX
/-- weighted runs in the heap -/
inductive TmA (H : Hp) : List V → List Trm → Prop
  | nil : TmA H [] []
  | cons {p t : Addr} {f l c w : Int} {vs : List V} {ts : List Trm} : H p = some (.tup [.ref t, .int w]) → H t = some (.tup [.int f, .int l, .int c]) → TmA H vs ts → TmA H (.ref p :: vs) (((f, l, c), w) :: ts)
theorem TmA.keep {H H' : Hp} (k : TK H H') : ∀ {vs : List V} {ts : List Trm}, TmA H vs ts → TmA H' vs ts
  | _, _, .nil => .nil
  | _, _, .cons h g r => .cons (k.1 _ _ h) (k.1 _ _ g) (TmA.keep k r)
theorem TmA.same {H H' : Hp} (s : Same H H') {vs : List V} {ts : List Trm} (h : TmA H vs ts) : TmA H' vs ts := h.keep (TK.same s)
theorem TmA.length {H : Hp} : ∀ {vs : List V} {ts : List Trm}, TmA H vs ts → vs.length = ts.length
  | _, _, .nil => rfl
  | _, _, .cons _ _ r => congrArg (· + 1) (TmA.length r)
theorem TmA.app {H : Hp} : ∀ {vs ws : List V} {P Q : List Trm}, TmA H vs P → TmA H ws Q → TmA H (vs ++ ws) (P ++ Q)
  | _, _, _, _, .nil, s => s
  | _, _, _, _, .cons h g r, s => .cons h g (TmA.app r s)
theorem TmA.get {H : Hp} : ∀ {vs : List V} {ts : List Trm} {i : Nat} {v : V}, TmA H vs ts → vs[i]? = some v → ∃ (p t : Addr) (x : Trm), v = .ref p ∧ ts[i]? = some x ∧ H p = some (.tup [.ref t, .int x.2]) ∧ H t = some (.tup [.int x.1.1, .int x.1.2.1, .int x.1.2.2])
  | _, _, _, _, .nil, e => by simp at e
  | _, _, 0, _, .cons h g _, e => by
    cases Option.some.inj e
    exact ⟨_, _, _, rfl, rfl, h, g⟩
  | _, _, i + 1, _, .cons _ _ r, e => TmA.get (i := i) r (by simpa using e)
def spLCnt : Sp := fun vs H Q _ => ∃ (R : Addr) (b s : Int) (xs : List V) (rs : List (Int × Int × Int)), vs = [.ref R, .int b] ∧ H R = some (.lst xs) ∧ RnT H xs rs ∧ rs.length ≤ 8 ∧ (∀ r ∈ rs, RunOk r s) ∧ 0 ≤ b ∧
  ∀ H', Same H H' → Q (.int (cntO rs b.toNat : Nat)) H'
section
variable {P : Program} {w : World} {K : PySem.W.Frag} {mg : Str → Option Value} {base : Heap}
theorem scLCnt : FnScope ["_law_runs_here", "_law_below", "_law_terms", "_law_first", "_law_last", "_law_step", "_law_run_here", "_law_more", "_law_told", "_law_weight", "_law_both", "_law_total"] ["_law_runs_here", "_law_below"] (defScope sLCnt) := ⟨rfl, rfl, rfl, by decide +kernel, rfl, by decide +kernel, by decide +kernel⟩
theorem ok_lcnt {f fM : Addr} {fd md : FuncData} (F : Fun K "_law_count" "_law_count" sLCnt f fd) (GM : FnOk P w K mg base CX0 2 fM md ["_law_one", "_law_other"] spLMeet) (kM : PySem.W.keepIn K (.ref fM) = true) (bM : Binds K md ["_law_one", "_law_other"] []) (gM : mg "_law_meeting" = some (.ref fM)) (min' : mg "min" = none) :
    FnOk P w K mg base CX0 3 f fd ["_law_runs_here", "_law_below"] spLCnt := by
  refine F.ok scLCnt (fun vs H Q E h => ?_) (fun cdv A outer s H vs Q E hr h => ?_)
  · obtain ⟨R, b, s, xs, rs, rfl, _⟩ := h
    rfl
  · obtain ⟨R, b, sz, xs, rs, rfl, eR, rt, lr, ro, b0, hQ⟩ := h
    have nd := scLCnt.nd
    refine ⟨_, (pss_cons (ps_set (i := 2) nd rfl (Or.inl rfl) (pe_lst pa_nil))
      (pss_cons (ps_for PassesOwn.never rfl (pi_list (pv 0)) (pg_tup rfl (pgs_cons (pg_name (i := 3) nd rfl (Or.inl rfl)) (pgs_cons (pg_name (i := 4) nd rfl (Or.inl rfl)) (pgs_cons (pg_name (i := 5) nd rfl (Or.inl rfl)) pgs_nil))))
        (pss_one (ps_if (pt_cmpR op_lt (pv 3) (pv 1) (nomark _))
          (pss_cons (ps_set (i := 6) nd rfl (Or.inl rfl) (pe_tup (pa_cons (pv 3) (pa_cons (pe_callB (call_min2 rfl) (by rfl) min' (by decide +kernel) (pa_cons (pv 4) (pa_cons (pe_op op_sub (pv 1) pe_int) pa_nil))) (pa_cons (pv 5) pa_nil)))))
          (pss_cons (ps_set (i := 7) nd rfl (Or.inl rfl) (pe_lst (pa_cons (pe_tup (pa_cons (pv 6) (pa_cons pe_int pa_nil))) pa_nil)))
          (pss_cons (ps_for PassesOwn.never rfl (pi_list (pv 2)) (pg_tup rfl (pgs_cons (pg_name (i := 8) nd rfl (Or.inl rfl)) (pgs_cons (pg_name (i := 9) nd rfl (Or.inl rfl)) pgs_nil)))
            (pss_cons (ps_set (i := 10) nd rfl (Or.inl rfl) (pe_call GM (hr.mono (by decide)) (by rfl) gM kM bM .nil pass0 (pa_cons (pv 8) (pa_cons (pv 6) pa_nil))))
            (pss_one (ps_if (pt_cmpR op_notN (pv 10) pe_non (nomark _))
              (pss_one (ps_expr (pe_bm PySem.F.plainAttrs_list PySem.F.slot_list_append PySem.F.type_list_append mt_append (pv 7) (pa_cons (pe_tup (pa_cons (pv 10) (pa_cons (pe_op op_mul (pe_un un_neg pe_int) (pv 9)) pa_nil))) pa_nil)))) pss_nil))))
          (pss_one (ps_set (i := 2) nd rfl (Or.inl rfl) (pe_op op_cat (pv 2) (pv 7))))))) pss_nil)))
      (pss_cons (ps_set (i := 11) nd rfl (Or.inl rfl) pe_int)
      (pss_cons (ps_for PassesOwn.never rfl (pi_list (pv 2)) (pg_tup rfl (pgs_cons (pg_name (i := 6) nd rfl (Or.inl rfl)) (pgs_cons (pg_name (i := 9) nd rfl (Or.inl rfl)) pgs_nil)))
        (pss_one (ps_set (i := 11) nd rfl (Or.inl rfl) (pe_op op_add (pv 11) (pe_op op_mul (pv 9) (pe_op op_add (pe_op op_fdiv (pe_op op_sub (pe_ix ix_tup (pv 6) pe_int (fun _ _ => rfl)) (pe_ix ix_tup (pv 6) pe_int (fun _ _ => rfl))) (pe_ix ix_tup (pv 6) pe_int (fun _ _ => rfl))) pe_int))))))
      (pss_one (ps_ret (pv 11))))))), ?_⟩
    -- BODY
    have lx := rt.any.length
    refine ⟨Nat.zero_le _, fun T0 hT0 => ?_⟩
    have s0 := same_upd (o := .lst []) hT0
    refine ⟨_, rfl, R, rfl, ⟨_, SqL.of (s0 _ _ eR)⟩, ?_⟩
    refine for_list (a := R) (xs := xs) (fun i σ H2 => ∃ (T : Addr) (v3 v4 v5 v6 v7 v8 v9 v10 : Option V) (zs : List V) (ts : List Trm), σ = [some (.ref R), some (.int b), some (.ref T), v3, v4, v5, v6, v7, v8, v9, v10, none] ∧ Same H H2 ∧ H2 T = some (.lst zs) ∧ TmA H2 zs ts ∧ ts.length + 1 ≤ 2 ^ i ∧ (∀ t ∈ ts, TrmOk b (2 ^ i) t) ∧ ∀ j, 0 ≤ j → j < b → wS ts j = b2i (oddR (rs.take i) j)) ⟨T0, none, none, none, none, none, none, none, none, [], [], rfl, s0, upd_same, .nil, by decide, fun _ h => absurd h List.not_mem_nil, fun _ _ _ => rfl⟩ (fun i σ H2 _ z => by
      obtain ⟨_, _, _, _, _, _, _, _, _, _, _, _, s2, _⟩ := z
      exact SqL.of (s2 _ _ eR)) ?_ ?_
    · rintro i v σ H2 hv ⟨T, v3, v4, v5, v6, v7, v8, v9, v10, zs, ts, rfl, s2, eT, ta, lt, tk, wk⟩
      obtain ⟨t, ⟨f, l, c⟩, rfl, ix, et⟩ := (rt.keep (TK.same s2)).get hv
      have hi := (List.getElem?_eq_some_iff.mp ix).1
      have etk : rs.take (i + 1) = rs.take i ++ [(f, l, c)] := by rw [List.take_succ, ix]; rfl
      obtain ⟨f0, fl, ls, c1, c4⟩ := ro _ (List.mem_of_getElem? ix)
      dsimp only at f0 fl ls c1 c4 et
      obtain ⟨cn, rfl⟩ : ∃ cn : Nat, c = (cn : Nat) := ⟨c.toNat, by omega⟩
      have hcn : cn ∈ stepS := (by decide : ∀ n, n < 5 → 1 ≤ n → n ∈ stepS) cn (by omega) (by omega)
      have p2 : (2 : Nat) ^ (i + 1) = 2 * 2 ^ i := by rw [Nat.pow_succ, Nat.mul_comm]
      have p8 : (2 : Nat) ^ i ≤ 2 ^ 8 := Nat.pow_le_pow_right (by decide) (by omega)
      have e8 : (2 : Nat) ^ 8 = 256 := by decide
      refine ⟨t, _, rfl, SqT.of et, rfl, _, _, rfl, _, _, rfl, _, _, rfl, rfl, ?_⟩
      refine ⟨_, rfl, _, rfl, f, b, rfl, rfl, _, rfl, ite_dec (fun g => ?_) (fun g => ?_)⟩
      · have em : (if b - 1 < l then b - 1 else l) = min l (b - 1) := by split <;> omega
        refine ⟨_, rfl, _, rfl, _, rfl, b, 1, rfl, rfl, l, b - 1, rfl, ?_⟩
        rw [em]
        refine ⟨_, rfl, by show 3 ≤ sizeLine; decide, fun U hU => ?_⟩
        have sU := same_upd (o := .tup [.int f, .int (min l (b - 1)), .int (cn : Nat)]) hU
        have eU : upd H2 U (.tup [.int f, .int (min l (b - 1)), .int (cn : Nat)]) U = some (.tup [.int f, .int (min l (b - 1)), .int (cn : Nat)]) := upd_same
        generalize upd H2 U (.tup [.int f, .int (min l (b - 1)), .int (cn : Nat)]) = H3 at *
        refine ⟨_, rfl, by show 2 ≤ sizeLine; decide, fun W0 hW0 => ⟨by show 1 ≤ sizeLine; decide, fun Mo hMo => ?_⟩⟩
        have sW := same_upd (o := .tup [.ref U, .int 1]) hW0
        have sM := same_upd (o := .lst [.ref W0]) hMo
        have sWM := sW.trans sM
        have eW : upd (upd H3 W0 (.tup [.ref U, .int 1])) Mo (.lst [.ref W0]) W0 = some (.tup [.ref U, .int 1]) := sM _ _ upd_same
        have eM : upd (upd H3 W0 (.tup [.ref U, .int 1])) Mo (.lst [.ref W0]) Mo = some (.lst [.ref W0]) := upd_same
        have hMo3 : H3 Mo = none := sW.free hMo
        generalize upd (upd H3 W0 (.tup [.ref U, .int 1])) Mo (.lst [.ref W0]) = H4 at *
        have s4 := sU.trans sWM
        have s04 := s2.trans s4
        have hMo2 : H2 Mo = none := sU.free hMo3
        have hMoH : H Mo = none := s2.free hMo2
        have nTM : T ≠ Mo := fun z => by rw [z, hMo2] at eT; cases eT
        have ta4 := ta.same s4
        have eT4 := s4 _ _ eT
        have eU4 := sWM _ _ eU
        have ltz := ta.length
        have q0 : TrmOk b (2 ^ (i + 1)) ((f, min l (b - 1), ((cn : Nat) : Int)), 1) := ⟨⟨cn, hcn, rfl⟩, f0, by show f ≤ min l (b - 1); omega, by show min l (b - 1) < b; omega, by show -((2 ^ (i + 1) : Nat) : Int) ≤ 1; omega, by
          have := Nat.one_le_two_pow (n := i + 1)
          show (1 : Int) ≤ ((2 ^ (i + 1) : Nat) : Int)
          omega⟩
        refine ⟨_, rfl, T, rfl, ⟨_, SqL.of eT4⟩, ?_⟩
        refine for_list (a := T) (xs := zs) (fun k σ H5 => ∃ (v8 v9 v10 : Option V) (ms : List V) (us : List Trm), σ = [some (.ref R), some (.int b), some (.ref T), some (.int f), some (.int l), some (.int (cn : Nat)), some (.ref U), some (.ref Mo), v8, v9, v10, none] ∧ Same H2 H5 ∧ H5 T = some (.lst zs) ∧ TmA H5 zs ts ∧ H5 U = some (.tup [.int f, .int (min l (b - 1)), .int (cn : Nat)]) ∧ H5 Mo = some (.lst ms) ∧ TmA H5 ms us ∧ us.length ≤ 1 + k ∧ (∀ u ∈ us, TrmOk b (2 ^ (i + 1)) u) ∧
          ∀ j, 0 ≤ j → j < b → wS us j = b2i (inRun (f, min l (b - 1), ((cn : Nat) : Int)) j) + -2 * wR (ts.take k) (f, min l (b - 1), ((cn : Nat) : Int)) j) ⟨v8, v9, v10, [.ref W0], [((f, min l (b - 1), ((cn : Nat) : Int)), 1)], rfl, s4, eT4, ta4, eU4, eM, .cons eW eU4 .nil, by show 1 ≤ 1 + 0; omega, fun u hu => by rw [List.mem_singleton.mp hu]; exact q0, fun j _ _ => by
            show 1 * b2i _ + 0 = b2i _ + -2 * 0
            rw [Int.one_mul, Int.mul_zero]⟩ (fun k σ H5 _ z => by
          obtain ⟨_, _, _, _, _, _, _, e, _⟩ := z
          exact SqL.of e) ?_ ?_
        · rintro k v σ H5 hv ⟨v8, v9, v10, ms, us, rfl, s5, eT5, ta5, eU5, eM5, um, lu, uk, wu⟩
          obtain ⟨p, tt, ⟨⟨f', l', c'⟩, w'⟩, rfl, ix', ep, ett⟩ := ta5.get hv
          have hk := (List.getElem?_eq_some_iff.mp ix').1
          have tok := tk _ (List.mem_of_getElem? ix')
          obtain ⟨⟨a', ha', ea'⟩, g0, gl, gb, gw1, gw2⟩ := tok
          dsimp only at ea' g0 gl gb gw1 gw2 ep ett
          subst ea'
          have etk' : ts.take (k + 1) = ts.take k ++ [((f', l', ((a' : Nat) : Int)), w')] := by rw [List.take_succ, ix']; rfl
          have ew : ∀ j, wR (ts.take (k + 1)) (f, min l (b - 1), ((cn : Nat) : Int)) j = wR (ts.take k) (f, min l (b - 1), ((cn : Nat) : Int)) j + w' * b2i (inRun (f', l', ((a' : Nat) : Int)) j && inRun (f, min l (b - 1), ((cn : Nat) : Int)) j) := fun j => by
            rw [etk', wR_app]
            show _ + (w' * _ + 0) = _
            rw [Int.add_zero]
          have lmu := um.length
          refine ⟨p, _, rfl, SqT.of ep, rfl, _, _, rfl, _, _, rfl, rfl, ?_⟩
          refine ⟨_, rfl, _, rfl, tt, U, f', l', f, min l (b - 1), a', cn, rfl, ett, eU5, ha', hcn, fun no H6 s6 => ?_, fun m pm H6 mt s6 hpm epm => ?_⟩
          · refine ⟨_, rfl, rfl, _, rfl, ?_⟩
            rw [decide_eq_true rfl]
            refine iteF (nxt ⟨_, _, _, ms, us, rfl, s5.trans s6, s6 _ _ eT5, ta5.same s6, s6 _ _ eU5, s6 _ _ eM5, um.same s6, by omega, uk, fun j j0 j1 => ?_⟩)
            rw [ew, no j, wu j j0 j1]
            show _ = _ + -2 * (_ + w' * 0)
            rw [Int.mul_zero, Int.add_zero]
          · refine ⟨_, rfl, rfl, _, rfl, ?_⟩
            rw [decide_eq_false (fun z => by cases z)]
            refine iteT ?_
            have eM6 := s6 _ _ eM5
            refine ⟨_, rfl, .inl ⟨rfl, _, SqL.of eM6⟩, _, rfl, 2, rfl, _, rfl, -2, w', rfl, rfl, .inl ⟨by decide, by decide⟩, by show 2 ≤ sizeLine; decide, fun Z hZ => ?_⟩
            have sZ := same_upd (o := .tup [.ref pm, .int (-2 * w')]) hZ
            have eM7 := sZ _ _ eM6
            refine ⟨Mo, ms, .ref Z, rfl, rfl, eM7, Nat.lt_of_lt_of_le (by omega : ms.length < 1000) kz, ?_⟩
            have s67 := s6.trans sZ
            have kM := TK.lst (o := .lst (ms ++ [.ref Z])) eM7
            obtain ⟨⟨an, han, ean⟩, mfl, ⟨lo1, lo2⟩, ⟨hi1, hi2⟩, meq⟩ := mt
            obtain ⟨mf, ml, mc⟩ := m
            dsimp only at ean mfl lo1 lo2 hi1 hi2 epm
            refine ⟨_, _, _, ms ++ [.ref Z], us ++ [((mf, ml, mc), -2 * w')], rfl, same_fresh hMo2 (s5.trans s67), by rw [upd_ne nTM]; exact s67 _ _ eT5, (ta5.same s67).keep kM, kM.1 _ _ (s67 _ _ eU5), upd_same, ((um.same s67).app (.cons upd_same (sZ _ _ epm) .nil)).keep kM, by rw [List.length_append]; show us.length + 1 ≤ _; omega, fun u hu => ?_, fun j j0 j1 => ?_⟩
            · rcases List.mem_append.mp hu with hu | hu
              · exact uk u hu
              · rw [List.mem_singleton.mp hu]
                exact ⟨⟨an, han, ean⟩, by show 0 ≤ mf; omega, mfl, by show ml < b; omega, by show -((2 ^ (i + 1) : Nat) : Int) ≤ -2 * w'; omega, by show -2 * w' ≤ ((2 ^ (i + 1) : Nat) : Int); omega⟩
            · rw [ew, wS_app, wu j j0 j1, ← meq j]
              show _ + (-2 * w' * b2i (inRun (mf, ml, mc) j) + 0) = _
              rw [Int.mul_add, ← Int.mul_assoc]
              omega
        · rintro σ H5 ⟨v8, v9, v10, ms, us, rfl, s5, eT5, ta5, eU5, eM5, um, lu, uk, wu⟩
          have lmu := um.length
          rw [List.take_of_length_le (by omega)] at wu
          refine ⟨_, rfl, _, rfl, T, Mo, zs, ms, rfl, rfl, eT5, eM5, Nat.le_trans (by omega : zs.length + ms.length ≤ 1000) kz, fun N hN => ?_⟩
          have sN := same_upd (o := .lst (zs ++ ms)) hN
          refine ⟨N, _, _, _, _, _, _, _, _, zs ++ ms, ts ++ us, rfl, s2.trans (s5.trans sN), upd_same, (ta5.app um).same sN, by rw [List.length_append]; omega, fun u hu => ?_, fun j j0 j1 => ?_⟩
          · rcases List.mem_append.mp hu with hu | hu
            · obtain ⟨a1, a2, a3, a4, a5, a6⟩ := tk u hu
              exact ⟨a1, a2, a3, a4, by omega, by omega⟩
            · exact uk u hu
          · rw [wS_app, wu j j0 j1, wR_mul, wk j j0 j1, etk, oddR_snoc, cut_in j1]
            exact xor_sum _ _
      · refine nxt ⟨T, _, _, _, v6, v7, v8, v9, v10, zs, ts, rfl, s2, eT, ta, by omega, fun t ht => ?_, fun j j0 j1 => ?_⟩
        · obtain ⟨a1, a2, a3, a4, a5, a6⟩ := tk t ht
          exact ⟨a1, a2, a3, a4, by omega, by omega⟩
        · rw [wk j j0 j1, etk, oddR_snoc]
          have e : inRun (f, l, ((cn : Nat) : Int)) j = false := by
            show (decide (f ≤ j) && _) = false
            rw [decide_eq_false (by omega)]
            rfl
          rw [e, Bool.xor_false]
    · rintro σ H2 ⟨T, v3, v4, v5, v6, v7, v8, v9, v10, zs, ts, rfl, s2, eT, ta, lt, tk, wk⟩
      rw [List.take_of_length_le (by omega)] at wk
      have ltz := ta.length
      have p8 : (2 : Nat) ^ xs.length ≤ 2 ^ 8 := Nat.pow_le_pow_right (by decide) (by omega)
      have e8 : (2 : Nat) ^ 8 = 256 := by decide
      refine ⟨_, rfl, T, rfl, ⟨_, SqL.of eT⟩, ?_⟩
      refine for_list (a := T) (xs := zs) (fun k σ H3 => ∃ (v6 v9 : Option V), σ = [some (.ref R), some (.int b), some (.ref T), v3, v4, v5, v6, v7, v8, v9, v10, some (.int (wC (ts.take k)))] ∧ Same H2 H3) ⟨v6, v9, rfl, fun _ _ e => e⟩ (fun k σ H3 _ z => by
        obtain ⟨_, _, _, s3⟩ := z
        exact SqL.of (s3 _ _ eT)) ?_ ?_
      · rintro k v σ H3 hv ⟨v6, v9, rfl, s3⟩
        obtain ⟨p, tt, ⟨⟨f', l', c'⟩, w'⟩, rfl, ix', ep, ett⟩ := (ta.same s3).get hv
        obtain ⟨⟨a', ha', ea'⟩, g0, gl, gb, gw1, gw2⟩ := tk _ (List.mem_of_getElem? ix')
        dsimp only at ea' g0 gl gb gw1 gw2 ep ett
        subst ea'
        obtain ⟨a0, a12⟩ := stepS_pos a' ha'
        have ew : wC (ts.take (k + 1)) = wC (ts.take k) + w' * ((l' - f') / ((a' : Nat) : Int) + 1) := by
          rw [show ts.take (k + 1) = ts.take k ++ [((f', l', ((a' : Nat) : Int)), w')] by rw [List.take_succ, ix']; rfl, wC_app]
          show _ + (w' * cardR _ + 0) = _
          rw [Int.add_zero]
          rfl
        refine ⟨p, _, rfl, SqT.of ep, rfl, _, _, rfl, _, _, rfl, rfl, ?_⟩
        refine ⟨_, rfl, _, rfl, _, rfl, tt, _, 1, _, rfl, rfl, SqT.of ett, rfl, _, rfl, tt, _, 0, _, rfl, rfl, SqT.of ett, rfl, l', f', rfl, rfl, _, rfl, tt, _, 2, _, rfl, rfl, SqT.of ett, rfl, _, _, rfl, rfl, ⟨by omega, by omega⟩, _, 1, rfl, rfl, w', _, rfl, rfl, .inl ⟨by omega, by omega⟩, _, _, rfl, rfl, ?_⟩
        exact ⟨_, _, by rw [ew]; rfl, s3⟩
      · rintro σ H3 ⟨v6, v9, rfl, s3⟩
        rw [List.take_of_length_le (by omega), wC_cnt tk wk]
        exact ⟨_, rfl, hQ H3 (s2.trans s3)⟩
end
end Aw

namespace Aw
open PySem PySem.Spec PyProof.Rows L2 NdefX
theorem inRun_out {r : Int × Int × Int} {s j : Int} (h : RunOk r s) (hj : ¬ (0 ≤ j ∧ j < s)) : inRun r j = false := by
  obtain ⟨f, l, c⟩ := r
  obtain ⟨h0, h1, h2, h3, h4⟩ := h
  dsimp only at h0 h1 h2 h3 h4
  show (decide (f ≤ j) && (decide (j ≤ l) && decide ((j - f) % c = 0))) = false
  by_cases z : f ≤ j
  · rw [decide_eq_false (show ¬ j ≤ l by omega), Bool.false_and, Bool.and_false]
  · rw [decide_eq_false z, Bool.false_and]
theorem oddR_out {s j : Int} (hj : ¬ (0 ≤ j ∧ j < s)) : ∀ {rs : List (Int × Int × Int)}, (∀ r ∈ rs, RunOk r s) → oddR rs j = false := by
  have go : ∀ (rs : List (Int × Int × Int)) (b : Bool), (∀ r ∈ rs, RunOk r s) → rs.foldl (fun b r => b ^^ inRun r j) b = b := fun rs => by
    induction rs with
    | nil => exact fun b _ => rfl
    | cons r rs ih =>
      intro b h
      rw [List.foldl_cons, inRun_out (h r List.mem_cons_self) hj, Bool.xor_false]
      exact ih b fun x hx => h x (List.mem_cons_of_mem _ hx)
  exact fun {rs} h => go rs false h
/-- the marks are those of runs -/
def Told (P : Pcs) (w : Nat) (k : Int) (rs : List (Int × Int × Int)) : Prop := ∀ j, 0 ≤ j → j < k → markF P w j = oddR rs j
theorem Told.in_ {P : Pcs} {w : Nat} {k : Int} {rs : List (Int × Int × Int)} (h : Told P w k rs) (ro : ∀ r ∈ rs, RunOk r k) (j : Int) : inM P w k (.int j) = oddR rs j := by
  show ((decide (0 ≤ j) && decide (j ≤ k - 1)) && markF P w j) = _
  by_cases z : 0 ≤ j ∧ j < k
  · rw [decide_eq_true z.1, decide_eq_true (show j ≤ k - 1 by omega), h j z.1 z.2]
    rfl
  · rw [oddR_out z ro]
    by_cases y : 0 ≤ j
    · rw [decide_eq_false (show ¬ j ≤ k - 1 by omega), Bool.and_false, Bool.false_and]
    · rw [decide_eq_false y, Bool.false_and, Bool.false_and]
end Aw

namespace Aw
open PySem PySem.Spec PyProof.Rows L2 NdefX
/-! ### Marks of depth 0 told by a function -/
def cB (f : Int → Bool) (n : Nat) : Nat := ((List.range n).filter fun j : Nat => f (j : Nat)).length
theorem cB_succ (f : Int → Bool) (n : Nat) : cB f (n + 1) = cB f n + (if f (n : Nat) = true then 1 else 0) := by
  unfold cB
  rw [List.range_succ, List.filter_append, List.length_append]
  congr 1
  cases e : f (n : Nat) with
  | true => rw [if_pos rfl, List.filter_cons_of_pos (p := fun j : Nat => f (j : Nat)) (a := n) e]; rfl
  | false => rw [if_neg (by decide), List.filter_cons_of_neg (p := fun j : Nat => f (j : Nat)) (a := n) (by rw [e]; decide)]; rfl
theorem cB_rel (f g : Int → Bool) : ∀ n, cB f n + cB g n = cB (fun j => f j ^^ g j) n + 2 * cB (fun j => f j && g j) n ∧ cB (fun j => f j || g j) n = cB (fun j => f j ^^ g j) n + cB (fun j => f j && g j) n ∧
    cB (fun j => f j && !g j) n + cB (fun j => f j && g j) n = cB f n ∧ cB (fun j => !f j) n + cB f n = n
  | 0 => ⟨rfl, rfl, rfl, rfl⟩
  | n + 1 => by
    obtain ⟨h1, h2, h3, h4⟩ := cB_rel f g n
    rw [cB_succ f, cB_succ g, cB_succ (fun j => f j ^^ g j), cB_succ (fun j => f j && g j), cB_succ (fun j => f j || g j), cB_succ (fun j => f j && !g j), cB_succ (fun j => !f j)]
    cases e1 : f (n : Nat) <;> cases e2 : g (n : Nat) <;> simp only [Bool.xor_true, Bool.xor_false, Bool.not_true, Bool.not_false, Bool.and_true, Bool.and_false, Bool.or_true, Bool.or_false, Bool.true_and, Bool.false_and, Bool.true_or, Bool.false_or, if_true, if_false, Bool.false_eq_true] <;> omega
theorem cB_congr {f g : Int → Bool} {n : Nat} (h : ∀ j : Nat, j < n → f (j : Nat) = g (j : Nat)) : cB f n = cB g n := by
  unfold cB
  congr 1
  exact List.filter_congr fun j hj => h j (List.mem_range.mp hj)
theorem cB_zero {f : Int → Bool} {n : Nat} (h : ∀ j : Nat, j < n → f (j : Nat) = false) : cB f n = 0 := by
  rw [cB_congr (g := fun _ => false) h]
  unfold cB
  rw [List.filter_eq_nil_iff.mpr fun _ _ => Bool.false_ne_true]
  rfl
theorem cB_all {f : Int → Bool} {n : Nat} (h : ∀ j : Nat, j < n → f (j : Nat) = true) : cB f n = n := by
  rw [cB_congr (g := fun _ => true) h]
  unfold cB
  rw [List.filter_eq_self.mpr fun _ _ => rfl, List.length_range]
theorem oddR_app (rs qs : List (Int × Int × Int)) (j : Int) : oddR (rs ++ qs) j = (oddR rs j ^^ oddR qs j) := by
  have go : ∀ (qs : List (Int × Int × Int)) (b : Bool), qs.foldl (fun b r => b ^^ inRun r j) b = (b ^^ qs.foldl (fun b r => b ^^ inRun r j) false) := by
    intro qs
    induction qs with
    | nil => intro b; exact (Bool.xor_false b).symm
    | cons r qs ih =>
      intro b
      rw [List.foldl_cons, ih, List.foldl_cons, ih (false ^^ inRun r j), Bool.false_xor, Bool.xor_assoc]
  show (rs ++ qs).foldl (fun b r => b ^^ inRun r j) false = (rs.foldl (fun b r => b ^^ inRun r j) false ^^ qs.foldl (fun b r => b ^^ inRun r j) false)
  rw [List.foldl_append, go]
structure FMk (C : Addr) (H : Hp) (a : Addr) (k : Int) (f : Int → Bool) (n : Nat) : Prop where
  ex : ∃ P : Pcs, MkAt C H a P 0 k ∧ P.length ≤ n ∧ ∀ j, 0 ≤ j → j < k → markF P 12 j = f j
theorem FMk.same {C : Addr} {H H' : Hp} {a : Addr} {k : Int} {f : Int → Bool} {n : Nat} (m : FMk C H a k f n) (s : Same H H') : FMk C H' a k f n := by
  obtain ⟨P, h1, h2, h3⟩ := m.ex
  exact ⟨P, h1.same s, h2, h3⟩
theorem FMk.but {C p c : Addr} {H H' : Hp} {a : Addr} {k : Int} {f : Int → Bool} {n t : Nat} (m : FMk C H a k f n) (b : But p H H') (pn : Pen H p c t) : FMk C H' a k f n := by
  obtain ⟨P, h1, h2, h3⟩ := m.ex
  exact ⟨P, h1.but b pn, h2, h3⟩
theorem FMk.imp {C : Addr} {H : Hp} {a : Addr} {k : Int} {f g : Int → Bool} {n : Nat} (m : FMk C H a k f n) (h : ∀ j, 0 ≤ j → j < k → f j = g j) : FMk C H a k g n := by
  obtain ⟨P, h1, h2, h3⟩ := m.ex
  exact ⟨P, h1, h2, fun j j0 j1 => by rw [h3 j j0 j1, h j j0 j1]⟩
theorem FMk.obj {C : Addr} {H : Hp} {a : Addr} {k : Int} {f : Int → Bool} {n : Nat} (m : FMk C H a k f n) : ∃ dx L, H a = some (.ins C dx (mkF k ((0 : Nat) : Int) L)) := by
  obtain ⟨P, h1, _⟩ := m.ex
  obtain ⟨dx, L, xs, e, _⟩ := h1.ex
  exact ⟨dx, L, e⟩
theorem join_mark {g : Nat → Nat → Nat} {gb : Bool → Bool → Bool} {P O : Pcs} {k : Int} {f h : Int → Bool} (hP : Asc 0 P k) (hO : Asc 0 O k) (s0 : 0 < k) (hf : ∀ j, 0 ≤ j → j < k → markF P 12 j = f j) (hh : ∀ j, 0 ≤ j → j < k → markF O 12 j = h j)
    (hg : ∀ m n i, (g m n).testBit i = gb (m.testBit i) (n.testBit i)) : (∀ j, 0 ≤ j → j < k → markF (joinF g P O) 12 j = gb (f j) (h j)) ∧ (∀ j, 0 ≤ j → j < k → markF (tidyF (joinF g P O)) 12 j = gb (f j) (h j)) := by
  have J := joinI (g := g) hP (Ups.of_asc hO (hO.ne s0)) (fun x hx => Int.le_of_lt (hO.mem_le x hx).1) s0
  have one : ∀ j, 0 ≤ j → j < k → markF (joinF g P O) 12 j = gb (f j) (h j) := fun j j0 j1 => by
    rw [← hf j j0 j1, ← hh j j0 j1]
    unfold markF
    rw [J.at_ j j0 j1, hg]
  obtain ⟨_, t⟩ := tidy_good J.ends J.last s0
  refine ⟨one, fun j j0 j1 => ?_⟩
  rw [← one j j0 j1]
  unfold markF
  rw [t j j0 j1]
theorem nMk_cB {P : Pcs} {k : Int} {f : Int → Bool} (h : ∀ j, 0 ≤ j → j < k → markF P 12 j = f j) : nMk P (12 * 2 ^ 0) k.toNat = cB f k.toNat := by
  show nMk P 12 k.toNat = _
  unfold nMk
  exact cB_congr (f := fun j => markF P 12 j) fun j hj => h (j : Nat) (by omega) (by omega)
theorem FMk.eqv {C : Addr} {H : Hp} {a b : Addr} {k : Int} {f h : Int → Bool} {n m : Nat} (x : FMk C H a k f n) (y : FMk C H b k h m) : ∃ P O, MkAt C H a P 0 k ∧ MkAt C H b O 0 k ∧ nMk (joinF (· ^^^ ·) P O) (12 * 2 ^ 0) k.toNat = cB (fun j => f j ^^ h j) k.toNat := by
  obtain ⟨P, h1, h2, h3⟩ := x.ex
  obtain ⟨O, k1, k2, k3⟩ := y.ex
  exact ⟨P, O, h1, k1, nMk_cB (join_mark (g := (· ^^^ ·)) (gb := fun a b => a ^^ b) h1.asc k1.asc h1.s0 h3 k3 fun m n i => Nat.testBit_xor ..).1⟩
theorem FMk.op {C CZ : Addr} {H : Hp} {a b : Addr} {k : Int} {f h : Int → Bool} {n m : Nat} {g : Nat → Nat → Nat} {gb : Bool → Bool → Bool} {Q : VK} {E : XK} (x : FMk C H a k f n) (y : FMk C H b k h m) (k30 : k ≤ 10 ^ 30) (l : n + m ≤ 400)
    (hg : ∀ m n i, (g m n).testBit i = gb (m.testBit i) (n.testBit i)) (hQ : ∀ (r : Addr) (H' : Hp), Same H H' → H r = none → FMk C H' r k (fun j => gb (f j) (h j)) (n + m) → Q (.ref r) H') : spOpM C CZ g [.ref a, .ref b] H Q E := by
  obtain ⟨P, h1, h2, h3⟩ := x.ex
  obtain ⟨O, k1, k2, k3⟩ := y.ex
  refine ⟨a, b, P, O, 0, k, k, rfl, h1, k1, k30, by omega, fun z => absurd rfl z, fun _ r L' H' s hr hL ma => hQ r H' s hr ⟨_, ma.at_, ?_, (join_mark h1.asc k1.asc h1.s0 h3 k3 hg).2⟩⟩
  have J := joinI (g := g) h1.asc (Ups.of_asc k1.asc (k1.asc.ne h1.s0)) (fun x hx => Int.le_of_lt (k1.asc.mem_le x hx).1) h1.s0
  exact Nat.le_trans tidy_len (Nat.le_trans J.len (by omega))
theorem FMk.inv {C : Addr} {H : Hp} {a : Addr} {k : Int} {f : Int → Bool} {n : Nat} {Q : VK} {E : XK} (x : FMk C H a k f n) (k30 : k ≤ 10 ^ 30) (hQ : ∀ (r : Addr) (H' : Hp), Same H H' → H r = none → FMk C H' r k (fun j => !f j) n → Q (.ref r) H') : spMInv C [.ref a] H Q E := by
  obtain ⟨P, h1, h2, h3⟩ := x.ex
  refine ⟨a, P, 0, k, rfl, h1, k30, fun r L' H' s hr hL ma => hQ r H' s hr ⟨_, ma.at_, ?_, fun j j0 j1 => ?_⟩⟩
  · refine Nat.le_trans tidy_len ?_
    unfold fullP
    rw [List.length_map]
    exact h2
  · rw [show 12 * 2 ^ 0 = 12 from rfl, full_mark h1.asc h1.s0 (by decide) j0 j1, h3 j j0 j1]
theorem FMk.of_runs {C : Addr} {H : Hp} {a : Addr} {k : Int} {rs : List (Int × Int × Int)} (m : MkAt C H a (runsP k rs) 0 k) (k0 : 0 < k) (ro : ∀ r ∈ rs, RunOk r k) : FMk C H a k (oddR rs) (1 + 3 * rs.length) := by
  obtain ⟨_, t, l⟩ := runs_ok k0 ro
  exact ⟨_, m, l, t⟩
end Aw

namespace Aw
open PySem PySem.Spec PyProof.Rows L2 NdefX
/-! ### several except clauses, some with 'as n' (one name n for all, at slot i) -/
def unE (i : Nat) (D : Ends) : Ends := { nx := fun σ' H' => D.nx (σ'.set i none) H', rt := D.rt, bk := fun σ' H' => D.bk (σ'.set i none) H', ct := fun σ' H' => D.ct (σ'.set i none) H' }
def wAsM (K : PySem.W.Frag) (i : Nat) (Wout : WX) (D : Ends) : List (Value × (Addr → Value → Option Addr → TS) × Bool) → WX
  | [] => Wout
  | (c, ts, true) :: r => fun cls d σ H => ∃ b, PySem.W.exmOne K cls c = some b ∧ (b = true → ∀ a, H a = none → ts a cls d (unE i D) (σ.set i (some (.ref a))) H) ∧ (b = false → wAsM K i Wout D r cls d σ H)
  | (c, ts, false) :: r => fun cls d σ H => ∃ b, PySem.W.exmOne K cls c = some b ∧ (b = true → ∀ a, H a = none → ts a cls d D σ H) ∧ (b = false → wAsM K i Wout D r cls d σ H)
inductive HdsA (X : Cx) (n : Str) : List ExceptHandler → List (Value × (Addr → Value → Option Addr → TS) × Bool) → Prop
  | nil : HdsA X n [] []
  | as_ {x : Str} {c : Value} {ts : Addr → Value → Option Addr → TS} {b₀ : Stmt} {suite : List Stmt} {np pos' : Pos} {hds : List ExceptHandler} {l : List (Value × (Addr → Value → Option Addr → TS) × Bool)} (hc : Names X x c)
      (hsu : ∀ (a : Addr) (oe : Obj) (cls : Value) (d : Option Addr) (pn : List (Addr × Obj)), Zc cls d oe → (∃ vs, oe.data = .fields vs) → PSs (X.suite a ((a, oe) :: pn)) (b₀ :: suite) (ts a cls d)) (r : HdsA X n hds l) :
      HdsA X n (.ExceptHandler (some (.Name x np)) (some n) (b₀ :: suite) pos' :: hds) ((c, ts, true) :: l)
  | no {x : Str} {c : Value} {ts : Addr → Value → Option Addr → TS} {b₀ : Stmt} {suite : List Stmt} {np pos' : Pos} {hds : List ExceptHandler} {l : List (Value × (Addr → Value → Option Addr → TS) × Bool)} (hc : Names X x c)
      (hsu : ∀ (a : Addr) (oe : Obj) (cls : Value) (d : Option Addr) (pn : List (Addr × Obj)), Zc cls d oe → (∃ vs, oe.data = .fields vs) → PSs (X.suite a ((a, oe) :: pn)) (b₀ :: suite) (ts a cls d)) (r : HdsA X n hds l) :
      HdsA X n (.ExceptHandler (some (.Name x np)) none (b₀ :: suite) pos' :: hds) ((c, ts, false) :: l)
section
variable {X : Cx} {n : Str} {i : Nat} {body : List Stmt} {h₀ : ExceptHandler} {hds : List ExceptHandler} {l : List (Value × (Addr → Value → Option Addr → TS) × Bool)} {pos : Pos} {tb : WX → TS} {Wout : WX}
theorem ps_try_asM (hs : X.stack = X.env :: X.outer) (hf : X.env.frame = some X.env.locals) (hN : X.N.Nodup) (hi : X.N[i]? = some n) (hln : X.env.kindOf n = some .local) (tk : Takes X Wout)
    (hb : ∀ (W : WX) (pn : List (Addr × Obj)) (xe : Value → Shared → Prop), Takes (X.tr pn xe) W → PassesOwn (model X.prog X.w) X.A X.env xe → PSs (X.tr pn xe) body (tb W))
    (hh : HdsA X n (h₀ :: hds) l) : PS X (.Try body (h₀ :: hds) [] [] pos) (fun D σ H => tb (wAsM X.K i Wout D l) D σ H) := by
  refine ⟨fun pins s σ H D I h => ?_⟩
  have ok := I.ok
  have hfr : X.A.frames = some (X.env :: X.outer) := by rw [ok.frames, hs]
  have hloc : Loc X.env.scope n := .inl hln
  refine wpAny_Try_except ?_
  refine wpAny_mono ((hb (wAsM X.K i Wout D l) (X.pn ++ pins) (fun e s₁ => wpAny (model X.prog X.w) X.A (noteFrame e X.env) (fun _ s₂ => wpAny (model X.prog X.w) X.A (setFlight e none) (fun _ s₃ =>
    wpAny (model X.prog X.w) X.A (handleBy e X.env (h₀ :: hds)) (SP X pins D) X.xe s₃) X.xe s₂) X.xe s₁) (fun u s' xx => ?_) PassesOwn.looking).run [] s σ H D (I.toTry _) h) (fun f s1 hsp => ?_) (fun e s1 he => he)
  · obtain ⟨a, B, sI, pins', σ', H', cls, d, rfl, J', nb, up, sky, na, os, ag, w⟩ := xx
    have J : Inv X pins σ' H' sI := J'.ofTry ok
    have sky' : Sky B (X.env :: X.outer) a (Zc cls d) X.env.locals s'.heap := by rw [← hs]; exact sky
    show wpAny (model X.prog X.w) X.A (noteFrame (.ref a) X.env) _ _ _
    refine Sky.land Zc.steady hfr hf sky' fun h3 fl3 up3 => ?_
    have J3 : Inv X pins σ' H' { s' with heap := h3 } := J.landed nb fl3.1 (up.trans up3) os ag
    obtain ⟨oe3, vs3, he3, hz3, hd3⟩ := fl3.there
    have notFr : ∀ {h : Heap} {o : Obj} {vs : Array Value}, h.FunFrames B (X.env :: X.outer) → h.get? a = some o → o.data = .fields vs → a ∉ frs (X.env :: X.outer) := fun {h o vs} ff e dd hm => by
      obtain ⟨_, o', e', hnf⟩ := ff.mem hm
      rw [e] at e'; cases e'
      exact hnf _ dd
    have nfr := notFr fl3.2.2.1 he3 hd3
    have nL : a ≠ X.env.locals := fun z => nfr (List.mem_filterMap.mpr ⟨X.env, List.mem_cons_self, by rw [hf, z]⟩)
    have nF : a ∉ X.fs := fun hm => by
      obtain ⟨e, he, q⟩ := List.mem_filterMap.mp hm
      exact nfr (List.mem_filterMap.mpr ⟨e, List.mem_cons_of_mem _ he, q⟩)
    have S3 := J3.suite he3 hd3 na nL nF
    have go : ∀ {hds' : List ExceptHandler} {l' : List (Value × (Addr → Value → Option Addr → TS) × Bool)}, HdsA X n hds' l' → wAsM X.K i Wout D l' cls d σ' H' →
        wpAny (model X.prog X.w) X.A (handleBy (.ref a) X.env hds') (SP X pins D) X.xe { s' with heap := h3 } := by
      intro hds' l' hk
      induction hk with
      | nil =>
        intro w
        refine wpAny_handleBy_nil ?_
        obtain ⟨k1, k2, k3, oe, vs, T, oT, ts', he, hz, hd, h1, hr⟩ := id fl3
        unfold PySem.passOn
        refine wpAny_bind (wpAny_field he hd h1 ?_)
        rw [if_neg (show ¬ ((Value.ref T == Value.none) = true) from by simp)]
        have fin : wpAny (model X.prog X.w) X.A (setFlight (.ref a) X.env.frame) (fun _ s4 => wpAny (model X.prog X.w) X.A (throw (.ref a) : Sem Flow) (SP X pins D) X.xe s4) X.xe { s' with heap := h3 } := by
          rw [hf]
          refine HandSPX.setFlight_upZ fl3 fun h4 hh4 up4 => wpAny_throw (tk _ _ ?_)
          exact ⟨a, B, sI, pins, σ', H', cls, d, rfl, J, nb, (up.trans up3).trans up4, .inr (.inr (by rw [hs]; exact hh4)), na, os, ag, w⟩
        first
          | exact wpAny_bind (wpAny_pure (wpAny_bind fin))
          | exact wpAny_bind fin
      | @as_ x c ts b₀ suite np pos' hds2 l2 hc hsu r ih =>
        intro w
        obtain ⟨b, hb1, hyes, hno⟩ := w
        refine wpAny_handleBy_cons (codeAny_handlers_test ?_) (by intro q; cases q)
        have LT : PySem.W.Looks (model X.prog X.w) h3 (typeOf (.ref a)) cls := fun A Q E s k q => wpAny_typeOf_ref (k _ _ he3) (by rw [hz3.1]; exact q)
        have LM := PySem.W.exm_one (M := model X.prog X.w) (J3.kIn) LT hb1
        have test : ∀ {Q : Value → Shared → Prop} {E : Value → Shared → Prop}, Q c { s' with heap := h3 } → wpAny (model X.prog X.w) (X.A.mark (some (.ref a))) (eval (.Name x np) X.env) Q E { s' with heap := h3 } := fun {Q E} q => by
          obtain ⟨hg, hdbg, hm | ⟨hm, hv, hnn⟩⟩ := hc
          · exact ld_glob (X := X.suite a ((a, oe3) :: (X.pn ++ pins))) S3 hg hm q hdbg
          · exact ld_blt (X := X.suite a ((a, oe3) :: (X.pn ++ pins))) S3 hg hm hv q hnn hdbg
        refine test (LM.here ?_)
        cases b with
        | true =>
          refine codeAny_handlers_suite_as ?_
          refine HandSPX.lands_againZ fl3 fun h4 fl4 up4 => ?_
          have J4 : Inv X pins σ' H' { s' with heap := h4 } := J.landed nb fl4.1 ((up.trans up3).trans up4) os ag
          obtain ⟨oe4, vs4, he4, hz4, hd4⟩ := fl4.there
          have S4 := J4.suite he4 hd4 na nL nF
          refine store_ok (X := X.suite a ((a, oe4) :: (X.pn ++ pins))) (v := .ref a) S4 hN hi hloc rfl (fun s5 S5 => ?_) (.inr hln)
          refine wpAny_mono ((hsu a oe4 cls d (X.pn ++ pins) hz4 ⟨_, hd4⟩).run [] s5 _ H' _ S5 (hyes rfl a na)) (fun f s6 hsp => ?_) (fun _ _ z => False.elim z)
          have end_ : ∀ {σ6 : Aw.St} {H6 : Hp} {Q : Shared → Prop}, Inv (X.suite a ((a, oe4) :: (X.pn ++ pins))) [] σ6 H6 s6 → (∀ s7, Inv X pins (σ6.set i none) H6 s7 → Q s7) →
              wpAny (model X.prog X.w) X.A (do bindName X.env n .none; unbindBehindTheSuite X.env n pos') (fun _ s7 => Q s7) X.xe s6 := fun {σ6 H6 Q} S6 hq => gone_ok (S6.unsuite ok) hN hi hln hq
          cases f with
          | next =>
            obtain ⟨σ6, H6, S6, q6⟩ := hsp
            exact end_ S6 fun s7 J7 => ⟨_, _, J7, q6⟩
          | brk =>
            obtain ⟨σ6, H6, S6, q6⟩ := hsp
            exact end_ S6 fun s7 J7 => ⟨_, _, J7, q6⟩
          | cont =>
            obtain ⟨σ6, H6, S6, q6⟩ := hsp
            exact end_ S6 fun s7 J7 => ⟨_, _, J7, q6⟩
          | ret u =>
            obtain ⟨v6, σ6, H6, S6, r6, q6⟩ := hsp
            exact end_ S6 fun s7 J7 => ⟨_, _, _, J7, r6, q6⟩
        | false =>
          show wpAny _ X.A (handleBy (.ref a) X.env hds2) _ _ _
          exact ih (hno rfl)
      | @no x c ts b₀ suite np pos' hds2 l2 hc hsu r ih =>
        intro w
        obtain ⟨b, hb1, hyes, hno⟩ := w
        refine wpAny_handleBy_cons (codeAny_handlers_test ?_) (by intro q; cases q)
        have LT : PySem.W.Looks (model X.prog X.w) h3 (typeOf (.ref a)) cls := fun A Q E s k q => wpAny_typeOf_ref (k _ _ he3) (by rw [hz3.1]; exact q)
        have LM := PySem.W.exm_one (M := model X.prog X.w) (J3.kIn) LT hb1
        have test : ∀ {Q : Value → Shared → Prop} {E : Value → Shared → Prop}, Q c { s' with heap := h3 } → wpAny (model X.prog X.w) (X.A.mark (some (.ref a))) (eval (.Name x np) X.env) Q E { s' with heap := h3 } := fun {Q E} q => by
          obtain ⟨hg, hdbg, hm | ⟨hm, hv, hnn⟩⟩ := hc
          · exact ld_glob (X := X.suite a ((a, oe3) :: (X.pn ++ pins))) S3 hg hm q hdbg
          · exact ld_blt (X := X.suite a ((a, oe3) :: (X.pn ++ pins))) S3 hg hm hv q hnn hdbg
        refine test (LM.here ?_)
        cases b with
        | true =>
          refine codeAny_handlers_suite ?_
          refine HandSPX.lands_againZ fl3 fun h4 fl4 up4 => ?_
          have J4 : Inv X pins σ' H' { s' with heap := h4 } := J.landed nb fl4.1 ((up.trans up3).trans up4) os ag
          obtain ⟨oe4, vs4, he4, hz4, hd4⟩ := fl4.there
          have S4 := J4.suite he4 hd4 na nL nF
          refine wpAny_mono ((hsu a oe4 cls d (X.pn ++ pins) hz4 ⟨_, hd4⟩).run [] _ _ H' _ S4 (hyes rfl a na)) (fun f s6 hsp => ?_) (fun _ _ z => False.elim z)
          cases f with
          | next =>
            obtain ⟨σ6, H6, S6, q6⟩ := hsp
            exact ⟨_, _, S6.unsuite ok, q6⟩
          | brk =>
            obtain ⟨σ6, H6, S6, q6⟩ := hsp
            exact ⟨_, _, S6.unsuite ok, q6⟩
          | cont =>
            obtain ⟨σ6, H6, S6, q6⟩ := hsp
            exact ⟨_, _, S6.unsuite ok, q6⟩
          | ret u =>
            obtain ⟨v6, σ6, H6, S6, r6, q6⟩ := hsp
            exact ⟨_, _, _, S6.unsuite ok, r6, q6⟩
        | false =>
          show wpAny _ X.A (handleBy (.ref a) X.env hds2) _ _ _
          exact ih (hno rfl)
    exact go hh w
  · cases f with
    | next =>
      obtain ⟨σ', H', J', q⟩ := hsp
      exact wpAny_execs_nil ⟨σ', H', J'.ofTry ok, q⟩
    | brk =>
      obtain ⟨σ', H', J', q⟩ := hsp
      exact ⟨σ', H', J'.ofTry ok, q⟩
    | cont =>
      obtain ⟨σ', H', J', q⟩ := hsp
      exact ⟨σ', H', J'.ofTry ok, q⟩
    | ret u =>
      obtain ⟨v, σ', H', J', r, q⟩ := hsp
      exact ⟨v, σ', H', J'.ofTry ok, r, q⟩
end
end Aw

namespace Aw
open PySem PySem.Spec PyProof.Rows L2 NdefX LamX
/-! ### a def of the top that makes lambdas: its code object and its table -/
theorem code_of {K : PySem.W.Frag} {x : Str} {f c P : Addr} {oc : Value} {od : Option Addr} {fd : FuncData} {osl : Array (Option Value)} (hn : PySem.W.nsIn K mainGlobals x = some (some (.ref f))) (lk : K.lookup f = some ⟨oc, od, .func fd, osl⟩) (ht : PySem.W.tabIn K x = some (c, P)) : fd.code = .ref c := by
  unfold PySem.W.tabIn at ht
  rw [hn] at ht
  dsimp only at ht
  rw [lk] at ht
  dsimp only at ht
  split at ht
  · rename_i c2 hc
    split at ht
    · split at ht
      · cases ht
        exact hc
      · cases ht
    · cases ht
  · cases ht
section
variable {P : Program} {w : World} {K : PySem.W.Frag} {mg : Str → Option Value} {base : Heap}
/-- as Fun.ok, with the code object told -/
theorem Fun_okC {x qual : Str} {st : Stmt} {f c : Addr} {fd : FuncData} {N ps : List Str} {k : Nat} {sp : Sp} (F : Fun K x qual st f fd) (hc : fd.code = .ref c) (S : FnScope N ps (defScope st)) (len : ∀ vs H Q E, sp vs H Q E → vs.length = ps.length)
    (hbody : ∀ (A : Around) (outer : List Env) (s : Shared) (H : Hp) (vs : List V) (Q : VK) (E : XK), Room k (A.deeper (envOfC qual (defScope st) s.heap.objs.size f (.ref c))) → sp vs H Q E →
      ∃ t, PSs (cxOf CX0 P w K mg base N qual (defScope st) f (.ref c) A outer s H E).nox (defBody st) t ∧ t { nx := fun _ H' => Q .non H', rt := Q } (start N vs) H) : FnOk P w K mg base CX0 (k + 1) f fd ps sp := by
  obtain ⟨oc, od, kV, doc, pm, an, cdv, ct, osl, rfl, lk, hcd⟩ := F.ex
  obtain rfl : cdv = .ref c := hc
  refine fn_of lk hcd S len fun A outer s H vs Q E hr hsp => ?_
  obtain ⟨t, h, q⟩ := hbody A outer s H vs Q E hr hsp
  exact ⟨t, h.nox, q⟩
end
theorem takes_len {X : Cx} {W : WX} (t : Takes X W) : Takes X (fun cls d σ H => σ.length = X.N.length → W cls d σ H) := fun u s' ⟨a, B, sI, pins, σ, H, cls, d, e, I, nb, up, sky, na, os, ag, w⟩ =>
  t u s' ⟨a, B, sI, pins, σ, H, cls, d, e, I, nb, up, sky, na, os, ag, w I.len⟩
theorem MkAt.extN {C : Addr} {H H' : Hp} {a : Addr} {P : Pcs} {d : Nat} {s : Int} (M : MkAt C H a P d s) (k : ExtN H H') : MkAt C H' a P d s := by
  obtain ⟨dx, L, xs, h1, h2, h3⟩ := M.ex
  have n1 : ∀ {b : Addr} {o : HO}, H b = some o → (∀ ps, o ≠ .tbl ps) → H' b = some o := fun e n => k _ _ e n
  exact ⟨⟨dx, L, xs, n1 h1 (fun ps z => by cases z), n1 h2 (fun ps z => by cases z), h3.keep ⟨fun c ys e => n1 e (fun ps z => by cases z), fun c o ys e => n1 e (fun ps z => by cases z)⟩⟩, M.few, M.asc, M.masks, M.s0, M.d6⟩
end Aw

namespace Aw
open PySem PySem.Spec PyProof.Rows L2 NdefX LamX
theorem scLRef : FnScope ["_law_ask", "e"] ["_law_ask"] (defScope sLRef) := ⟨rfl, rfl, rfl, by decide +kernel, rfl, by decide +kernel, by decide +kernel⟩
def tb_ref (f c' : Addr) (q : Str) (tl : XK → Hp → VK → Prop) (W : WX) : TS := fun D σ H => ∃ Ech : XK, (∀ cls d σ' H', Ech cls d H' → σ'.length = 2 → W cls d σ' H') ∧ σ[0]? = some (some (.ref f)) ∧ H c' = some (CodeO c' q) ∧ tl Ech H (fun _ H' => D.nx σ H')
def ts_ref (K : PySem.W.Frag) (a : Addr) (cls : Value) (d : Option Addr) : TS := tRet (tXp K a cls d "size" (tVar 1))
/-- what is told of the lambda's body: nothing, or the size of the error -/
def TTRef (CZ : Addr) : (XK → Hp → VK → Prop) → Hp → VK → Prop := fun tl H Q =>
  tl (fun cls d H' => cls = .ref CZ ∧ ∃ (dd : Addr) (v : V), d = some dd ∧ H' dd = some (.xd [("size", v)]) ∧ Q v H') H (fun _ H' => Q .non H')
theorem ref_gives {X : Cx} {g CZ CW : Addr} {cdg : Value} {q : Str} (eZ : Err X.prog X.K X.mg "BadSize" "size" "size" CZ) (gW : X.mg "WordsError" = some (.ref CW)) (xZ : PySem.W.exmOne X.K (.ref CZ) (.ref CZ) = some true) :
    GivesTo X ["_law_ask", "e"] "_law_refused" (defScope sLRef) g cdg (defBody sLRef) "_law_ask" q (TTRef CZ) := by
  intro f c' s H Q tl act hc h
  have nd := scLRef.nd
  refine ⟨_, pss_cons (ps_try_asM (X := (cxOf C8.CX0 X.prog X.w X.K X.mg X.base ["_law_ask", "e"] "_law_refused" (defScope sLRef) g cdg X.A X.stack s H C8.E0).nox) (i := 1) (n := "e") (tb := tb_ref f c' q tl) (Wout := fun _ _ _ _ => False)
      (l := [(.ref CZ, fun a cls d => ts_ref X.K a cls d, true), (.ref CW, fun a cls d => tRet (tUn (rU fun i => V.int (-i)) (tC (.int 1))), false)])
      rfl rfl nd rfl rfl L2.takes0 (fun W pn xe tk _ => ?_)
      (.as_ ⟨rfl, by decide, .inl eZ.g⟩ (fun a oe cls d pn hz hf => pss_one (ps_ret (pe_xp (List.mem_cons_self ..) hz hf (pv 1))))
        (.no ⟨rfl, by decide, .inl gW⟩ (fun a oe cls d pn hz hf => pss_one (ps_ret (pe_un un_neg pe_int))) .nil))) (pss_one (ps_ret pe_non)), ?_⟩
  · refine ⟨fun pins s' σ H' D I h' => ?_⟩
    obtain ⟨Ech, hW, h1, h2, h3⟩ := h'
    refine PSs.run (pss_one (ps_expr (act _ pn xe Ech _ _ (takes_len tk) (fun cls d σ' H' z len => hW cls d σ' H' z len)))) pins s' σ H' D I ⟨h1, h2, h3⟩
  · refine ⟨fun cls d H' => cls = .ref CZ ∧ ∃ (dd : Addr) (v : V), d = some dd ∧ H' dd = some (.xd [("size", v)]) ∧ Q v H', fun cls d σ' H' z len => ?_, rfl, hc, h⟩
    obtain ⟨rfl, dd, v, rfl, hd, hq⟩ := z
    refine ⟨true, xZ, fun _ a ha => ?_, fun z => Bool.noConfusion z⟩
    refine ⟨_, ?_, rfl, CZ, dd, _, _, rfl, eZ.D, eZ.hno, rfl, hd, rfl, hq⟩
    match σ', len with
    | [_, _], _ => rfl
end Aw

namespace Aw
open PySem PySem.Spec PyProof.Rows L2 NdefX LamX
def szQ (c : Addr) : Str := (envOfC "_law_sizes_right" (defScope sLSz) 0 0 (.ref c)).qual ++ "<lambda>"
def spLSz (C PT : Addr) : Sp := fun vs H Q _ => ∃ (a b : Addr) (k k2 : Int) (f h : Int → Bool) (n m : Nat), vs = [.ref a, .ref b] ∧ FMk C H a k f n ∧ FMk C H b k2 h m ∧ k ≤ 10 ^ 30 ∧ n + m ≤ 400 ∧ k ≠ k2 ∧ H PT = some (.tbl #[]) ∧ ∀ H', Q (.bl true) H'
def tLamO (C CZ : Addr) (g : Nat → Nat → Nat) (E : XK) : TE := tBinO C (spOpM C CZ g) (fun σ => WE (fun cls d _ H => E cls d H) σ) (tVar 0) (tVar 1)
theorem FMk.extN {C : Addr} {H H' : Hp} {a : Addr} {k : Int} {f : Int → Bool} {n : Nat} (m : FMk C H a k f n) (s : ExtN H H') : FMk C H' a k f n := by
  obtain ⟨P, h1, h2, h3⟩ := m.ex
  exact ⟨P, h1.extN s, h2, h3⟩
/-- marks & far of unlike sizes, by a lambda: the size of far -/
theorem lam_op {C CZ : Addr} {g : Nat → Nat → Nat} {T : List (Addr × Str)} {σ : Aw.St} {H : Hp} {a b : Addr} {k k2 : Int} {f h : Int → Bool} {n m : Nat} {Q : VK} (h0 : σ[0]? = some (some (.ref a))) (h1 : σ[1]? = some (some (.ref b)))
    (x : FMk C H a k f n) (y : FMk C H b k2 h m) (k30 : k ≤ 10 ^ 30) (l : n + m ≤ 400) (ne : k ≠ k2) (hT : Tabs T H) (hQ : ∀ H', ExtN H H' → Tabs T H' → Q (.int k2) H') : tLam T (TTRef CZ) (tLamO C CZ g) σ H Q := by
  refine ⟨hT, fun H1 eN T1 => ?_⟩
  obtain ⟨P, p1, p2, p3⟩ := (x.extN eN).ex
  obtain ⟨O, q1, q2, q3⟩ := (y.extN eN).ex
  obtain ⟨dx, L, xs, hA, _, _⟩ := p1.ex
  obtain ⟨dy, Lb, ys, hB, _, _⟩ := q1.ex
  refine ⟨_, h0, _, h1, a, dx, _, b, dy, _, rfl, hA, rfl, hB, a, b, P, O, 0, k, k2, rfl, p1, q1, k30, by omega, fun _ d H2 s2 hd0 hd => ⟨rfl, d, _, rfl, hd, ?_⟩, fun e => absurd e ne⟩
  exact hQ H2 (eN.trans (ExtN.of s2)) (T1.ext s2)
section
variable {P : Program} {w : World} {K : PySem.W.Frag} {mg : Str → Option Value} {base : Heap} {C CZ CW cc PT : Addr}
structure TxtSz (P : Program) (w : World) (K : PySem.W.Frag) (mg : Str → Option Value) (base : Heap) (C CZ CW cc PT fR fX fA fO fS fE : Addr) (rd d1 d2 d3 d4 ed : FuncData) : Prop where
  TB : TabB base mg cc PT
  FR_ : Fun K "_law_refused" "_law_refused" sLRef fR rd
  bR : Binds K rd ["_law_ask"] []
  gR : mg "_law_refused" = some (.ref fR)
  eZ : Err P K mg "BadSize" "size" "size" CZ
  gW : mg "WordsError" = some (.ref CW)
  xZ : PySem.W.exmOne K (.ref CZ) (.ref CZ) = some true
  sf : PySem.W.selfFirst K C = true
  iX : PySem.W.findIn K (.ref C) "__xor__" = some (some (.ref fX))
  jX : PySem.W.isFn K (.ref fX) = true
  GX : FnOk P w K mg base (L2.CX P w) 8 fX d1 ["self", "other"] (spOpM C CZ (· ^^^ ·))
  bX : Binds K d1 ["self", "other"] []
  iA : PySem.W.findIn K (.ref C) "__and__" = some (some (.ref fA))
  jA : PySem.W.isFn K (.ref fA) = true
  GA : FnOk P w K mg base (L2.CX P w) 8 fA d2 ["self", "other"] (spOpM C CZ (· &&& ·))
  bA : Binds K d2 ["self", "other"] []
  iO : PySem.W.findIn K (.ref C) "__or__" = some (some (.ref fO))
  jO : PySem.W.isFn K (.ref fO) = true
  GO : FnOk P w K mg base (L2.CX P w) 8 fO d3 ["self", "other"] (spOpM C CZ (· ||| ·))
  bO : Binds K d3 ["self", "other"] []
  iS : PySem.W.findIn K (.ref C) "__sub__" = some (some (.ref fS))
  jS : PySem.W.isFn K (.ref fS) = true
  GS : FnOk P w K mg base (L2.CX P w) 8 fS d4 ["self", "other"] (spOpM C CZ gSubM)
  bS : Binds K d4 ["self", "other"] []
  TE : EqTxt K C fE
  TO : TxtEO K C
  GE : FnOk P w K mg base (L2.CX P w) 6 fE ed ["self", "other"] (spMEq C)
  bE : Binds K ed ["self", "other"] []
  M : MkCls K C
theorem scLSz : FnScope ["_law_marks", "_law_far", "_law_told"] ["_law_marks", "_law_far"] (defScope sLSz) := ⟨rfl, rfl, rfl, by decide +kernel, rfl, by decide +kernel, by decide +kernel⟩
theorem ok_lsz {f fR fX fA fO fS fE : Addr} {fd rd d1 d2 d3 d4 ed : FuncData} (F : Fun K "_law_sizes_right" "_law_sizes_right" sLSz f fd) (hc : fd.code = .ref cc) (W : TxtSz P w K mg base C CZ CW cc PT fR fX fA fO fS fE rd d1 d2 d3 d4 ed) :
    FnOk P w K mg base CX0 11 f fd ["_law_marks", "_law_far"] (spLSz C PT) := by
  have GE := quiet W.GE
  obtain ⟨ocR, odR, kVR, docR, pmR, anR, cdR, ctR, oslR, eR, lkR, hcR⟩ := W.FR_.ex
  subst eR
  have bR := W.bR
  refine Fun_okC F hc scLSz (fun vs H Q E h => ?_) (fun A outer s H vs Q E hr h => ?_)
  · obtain ⟨a, b, k, k2, f, h, n, m, rfl, _⟩ := h
    rfl
  · obtain ⟨a, b, k, k2, f, h, n, m, rfl, x, y, k30, l, ne, hPT, hQ⟩ := h
    have nd := scLSz.nd
    refine ⟨_, (pss_cons (ps_set (i := 2) nd rfl (Or.inl rfl) (pe_lst (pa_cons (pe_lamcall (T := [(PT, szQ cc)]) (TT := TTRef CZ) (t := tLamO C CZ (· ^^^ ·)) (k := 8) rfl W.gR W.FR_.kp lkR hcR bR scLRef rfl (.inl rfl) (ref_gives W.eZ W.gW W.xZ) W.TB rfl (List.mem_cons_self ..) (fun p hp _ => by rw [List.mem_singleton.mp hp] <;> rfl) hr (lamS_by (by show lamSB (defScope sLSz) _ = true; decide +kernel)) rfl (fun _ _ _ _ _ => rfl) (fun A outer s H E f c' hr2 => pe_binO W.iX W.jX W.sf W.GX hr2 W.bX (fun σ => passAt (takes_of rfl rfl rfl rfl) σ) (pe_var (i := 0) rfl (.inr (.inr rfl))) (pe_var (i := 1) rfl (.inr (.inr rfl))))) pa_nil)))
      (pss_cons (ps_expr (pe_bm PySem.F.plainAttrs_list PySem.F.slot_list_append PySem.F.type_list_append mt_append (pv 2) (pa_cons (pe_lamcall (T := [(PT, szQ cc)]) (TT := TTRef CZ) (t := tLamO C CZ (· &&& ·)) (k := 8) rfl W.gR W.FR_.kp lkR hcR bR scLRef rfl (.inl rfl) (ref_gives W.eZ W.gW W.xZ) W.TB rfl (List.mem_cons_self ..) (fun p hp _ => by rw [List.mem_singleton.mp hp] <;> rfl) hr (lamS_by (by show lamSB (defScope sLSz) _ = true; decide +kernel)) rfl (fun _ _ _ _ _ => rfl) (fun A outer s H E f c' hr2 => pe_binO W.iA W.jA W.sf W.GA hr2 W.bA (fun σ => passAt (takes_of rfl rfl rfl rfl) σ) (pe_var (i := 0) rfl (.inr (.inr rfl))) (pe_var (i := 1) rfl (.inr (.inr rfl))))) pa_nil)))
      (pss_cons (ps_expr (pe_bm PySem.F.plainAttrs_list PySem.F.slot_list_append PySem.F.type_list_append mt_append (pv 2) (pa_cons (pe_lamcall (T := [(PT, szQ cc)]) (TT := TTRef CZ) (t := tLamO C CZ (· ||| ·)) (k := 8) rfl W.gR W.FR_.kp lkR hcR bR scLRef rfl (.inl rfl) (ref_gives W.eZ W.gW W.xZ) W.TB rfl (List.mem_cons_self ..) (fun p hp _ => by rw [List.mem_singleton.mp hp] <;> rfl) hr (lamS_by (by show lamSB (defScope sLSz) _ = true; decide +kernel)) rfl (fun _ _ _ _ _ => rfl) (fun A outer s H E f c' hr2 => pe_binO W.iO W.jO W.sf W.GO hr2 W.bO (fun σ => passAt (takes_of rfl rfl rfl rfl) σ) (pe_var (i := 0) rfl (.inr (.inr rfl))) (pe_var (i := 1) rfl (.inr (.inr rfl))))) pa_nil)))
      (pss_cons (ps_expr (pe_bm PySem.F.plainAttrs_list PySem.F.slot_list_append PySem.F.type_list_append mt_append (pv 2) (pa_cons (pe_lamcall (T := [(PT, szQ cc)]) (TT := TTRef CZ) (t := tLamO C CZ gSubM) (k := 8) rfl W.gR W.FR_.kp lkR hcR bR scLRef rfl (.inl rfl) (ref_gives W.eZ W.gW W.xZ) W.TB rfl (List.mem_cons_self ..) (fun p hp _ => by rw [List.mem_singleton.mp hp] <;> rfl) hr (lamS_by (by show lamSB (defScope sLSz) _ = true; decide +kernel)) rfl (fun _ _ _ _ _ => rfl) (fun A outer s H E f c' hr2 => pe_binO W.iS W.jS W.sf W.GS hr2 W.bS (fun σ => passAt (takes_of rfl rfl rfl rfl) σ) (pe_var (i := 0) rfl (.inr (.inr rfl))) (pe_var (i := 1) rfl (.inr (.inr rfl))))) pa_nil)))
      (pss_one (ps_ret (pe_and (pe_cmpR (op_eqD hr.units) (pv 2) (pe_op op_rep (pe_lst (pa_cons (pe_fld (pv 1) rfl) pa_nil)) pe_int) (nomark _)) (pe_and (pe_not (pe_cmpR (op_eqOwnW W.TE W.TO GE (hr.mono (by decide)) W.bE) (pv 0) (pv 1) (nomark _))) (pe_one (pe_not (pe_cmpR (op_eqOwnW W.TE W.TO GE (hr.mono (by decide)) W.bE) (pv 1) (pv 0) (nomark _)))))))))))), ?_⟩
    -- BODY
    have hT : Tabs [(PT, szQ cc)] H := fun p hp => by
      rw [List.mem_singleton.mp hp]
      exact .nil hPT
    have key : ∀ {H2 : Hp} {D : Addr} {o : HO}, Tabs [(PT, szQ cc)] H2 → H2 D = none → (∀ ps, o ≠ .tbl ps) → Tabs [(PT, szQ cc)] (upd H2 D o) := fun t hD _ => t.ext (same_upd hD)
    have wr : ∀ {H2 : Hp} {D : Addr} {ys zs : List V}, Tabs [(PT, szQ cc)] H2 → H2 D = some (.lst ys) → Tabs [(PT, szQ cc)] (upd H2 D (.lst zs)) := fun {H2 D ys zs} t eD p hp => by
      obtain ⟨ps, h1, h2, h3⟩ := t p hp
      have n1 : p.1 ≠ D := fun z => by rw [z, eD] at h1; cases h1
      refine ⟨ps, by rw [upd_ne n1]; exact h1, h2, fun pos cv hcv => ?_⟩
      obtain ⟨c0, e1, e2⟩ := h3 pos cv hcv
      have n2 : c0 ≠ D := fun z => by
        rw [z, eD] at e2
        cases e2
      exact ⟨c0, e1, by rw [upd_ne n2]; exact e2⟩
    have up : ∀ {H0 H2 : Hp} {D : Addr} {o : HO}, H0 D = none → ExtN H0 H2 → ExtN H0 (upd H2 D o) := fun {H0 H2 D o} n0 e0 b o' e nn => by
      have ne : b ≠ D := fun z => by rw [z, n0] at e; cases e
      rw [upd_ne ne]
      exact e0 b o' e nn
    refine lam_op rfl rfl x y k30 l ne hT fun H1 s1 T1 => ?_
    refine ⟨by show 1 ≤ sizeLine; decide, fun D hD => ?_⟩
    have x1 := x.extN s1
    have y1 := y.extN s1
    have e2 := up (o := .lst [.int k2]) hD (ExtN.refl H1)
    have T2 := key (o := .lst [.int k2]) T1 hD (fun ps z => by cases z)
    have eD2 : upd H1 D (.lst [.int k2]) D = some (.lst [.int k2]) := upd_same
    generalize upd H1 D (.lst [.int k2]) = H2 at *
    have lst : ∀ {H H' : Hp} {D : Addr} {ys : List V}, ExtN H H' → H D = some (.lst ys) → H' D = some (.lst ys) := fun e h => e _ _ h (fun ps z => by cases z)
    refine ⟨_, rfl, .inl ⟨rfl, _, SqL.of eD2⟩, lam_op rfl rfl (x1.extN e2) (y1.extN e2) k30 l ne T2 fun H3 s3 T3 => ⟨D, _, .int k2, rfl, rfl, lst s3 eD2, Nat.lt_of_lt_of_le (by show 1 < 1000; decide) kz, ?_⟩⟩
    have e3 := up (o := .lst ([.int k2] ++ [.int k2])) hD (e2.trans s3)
    have T3' := wr (zs := [.int k2] ++ [.int k2]) T3 (lst s3 eD2)
    have eD3 : upd H3 D (.lst ([.int k2] ++ [.int k2])) D = some (.lst ([.int k2] ++ [.int k2])) := upd_same
    generalize upd H3 D (.lst ([.int k2] ++ [.int k2])) = H4 at *
    refine ⟨_, rfl, .inl ⟨rfl, _, SqL.of eD3⟩, lam_op rfl rfl (x1.extN e3) (y1.extN e3) k30 l ne T3' fun H5 s5 T5 => ⟨D, _, .int k2, rfl, rfl, lst s5 eD3, Nat.lt_of_lt_of_le (by show 2 < 1000; decide) kz, ?_⟩⟩
    have e5 := up (o := .lst ([.int k2] ++ [.int k2] ++ [.int k2])) hD (e3.trans s5)
    have T5' := wr (zs := [.int k2] ++ [.int k2] ++ [.int k2]) T5 (lst s5 eD3)
    have eD5 : upd H5 D (.lst ([.int k2] ++ [.int k2] ++ [.int k2])) D = some (.lst ([.int k2] ++ [.int k2] ++ [.int k2])) := upd_same
    generalize upd H5 D (.lst ([.int k2] ++ [.int k2] ++ [.int k2])) = H6 at *
    refine ⟨_, rfl, .inl ⟨rfl, _, SqL.of eD5⟩, lam_op rfl rfl (x1.extN e5) (y1.extN e5) k30 l ne T5' fun H7 s7 T7 => ⟨D, _, .int k2, rfl, rfl, lst s7 eD5, Nat.lt_of_lt_of_le (by show 3 < 1000; decide) kz, ?_⟩⟩
    have e7 := up (o := .lst ([.int k2] ++ [.int k2] ++ [.int k2] ++ [.int k2])) hD (e5.trans s7)
    have eD7 : upd H7 D (.lst ([.int k2] ++ [.int k2] ++ [.int k2] ++ [.int k2])) D = some (.lst ([.int k2] ++ [.int k2] ++ [.int k2] ++ [.int k2])) := upd_same
    generalize upd H7 D (.lst ([.int k2] ++ [.int k2] ++ [.int k2] ++ [.int k2])) = H8 at *
    have x8 := x1.extN e7
    have y8 := y1.extN e7
    obtain ⟨dy, Lb, hB⟩ := y8.obj
    obtain ⟨dx, La, hA⟩ := x8.obj
    refine ⟨_, rfl, _, rfl, b, C, dy, _, .int k2, rfl, hB, W.M.c, W.M.size, rfl, by show 1 ≤ sizeLine; decide, fun Z hZ => ?_⟩
    have sZ := same_upd (o := .lst [.int k2]) hZ
    have eZ : upd H8 Z (.lst [.int k2]) Z = some (.lst [.int k2]) := upd_same
    generalize upd H8 Z (.lst [.int k2]) = H9 at *
    refine ⟨Z, 4, _, rfl, rfl, eZ, by decide, by decide, by show 1 * 4 ≤ sizeLine; decide, fun Y hY => ?_⟩
    have sY := same_upd (o := .lst (List.replicate (4 : Int).toNat [.int k2]).flatten) hY
    have eY : upd H9 Y (.lst (List.replicate (4 : Int).toNat [.int k2]).flatten) Y = some (.lst [.int k2, .int k2, .int k2, .int k2]) := upd_same
    generalize upd H9 Y (.lst (List.replicate (4 : Int).toNat [.int k2]).flatten) = H10 at *
    have sA := sZ.trans sY
    have x9 := x8.same sA
    have y9 := y8.same sA
    refine ⟨.list [.int k2, .int k2, .int k2, .int k2], .list [.int k2, .int k2, .int k2, .int k2], .lst (SqL.of (sA _ _ eD7)) (.cons (.int _) (.cons (.int _) (.cons (.int _) (.cons (.int _) .nil)))), .lst (SqL.of eY) (.cons (.int _) (.cons (.int _) (.cons (.int _) (.cons (.int _) .nil)))), by rfl, by rfl, ?_⟩
    have ev : PyData.eqv (.list [.int k2, .int k2, .int k2, .int k2]) (.list [.int k2, .int k2, .int k2, .int k2]) = true := by simp [PyData.eqv, PyData.eqvAll]
    rw [ev]
    refine ⟨_, rfl, iteT ?_⟩
    obtain ⟨P9, p1, p2, p3⟩ := x9.ex
    obtain ⟨O9, q1, q2, q3⟩ := y9.ex
    obtain ⟨dx, La, xs, hA, _, _⟩ := p1.ex
    obtain ⟨dy, Lb, ys, hB, _, _⟩ := q1.ex
    refine ⟨_, rfl, _, rfl, a, dx, _, rfl, hA, .inr ⟨b, dy, _, rfl, hB⟩, a, .ref b, P9, 0, k, rfl, p1, .inr ⟨b, O9, k2, rfl, q1, fun _ => ⟨_, rfl, _, rfl, _, rfl, iteT ?_⟩, fun e => absurd e ne⟩⟩
    exact ⟨_, rfl, _, rfl, b, dy, _, rfl, hB, .inr ⟨a, dx, _, rfl, hA⟩, b, .ref a, O9, 0, k2, rfl, q1, .inr ⟨a, P9, k, rfl, p1, fun _ => ⟨_, rfl, _, rfl, hQ _⟩, fun e => absurd e.symm ne⟩⟩
end
end Aw

namespace Aw
open PySem PySem.Spec PyProof.Rows L2 NdefX
/-! ### y in x by an own __contains__ that tells a bool -/
section
variable {X : Cx} {C f : Addr} {fd : FuncData} {ps : List Str} {sp : Sp} {k : Nat}
def rInO (C : Addr) (sp : Sp) : R2 := fun x y H Q => ∃ (a dx : Addr) (fs : List (Str × V)), y = .ref a ∧ H a = some (.ins C dx fs) ∧ sp [.ref a, x] H (fun v H' => ∃ b, v = .bl b ∧ Q (.bl b) H') E0
theorem op_inO (hs : PySem.W.findIn X.K (.ref C) "__contains__" = some (some (.ref f))) (hf : PySem.W.isFn X.K (.ref f) = true) (F : FnOk X.prog X.w X.K X.mg X.base CX0 k f fd ps sp) (hr : Room k X.A) (hb : Binds X.K fd ps []) : OpR X (compareOp .In) (rInO C sp) := by
  intro pins s σ H x y v u Q I rx ry h
  obtain ⟨a, dx, fs, rfl, ha, hsp⟩ := h
  cases ry
  obtain ⟨mA, J, _⟩ := ins_get I.hok ha
  obtain ⟨od, J, _⟩ := J.look
  obtain ⟨m, hF⟩ := I.fr
  refine PySem.W.in_K hF I.ok.mod.kin J hs hf (wpAny_mono (run_fn (vs := [V.ref a, x]) (us := [Value.ref a, v]) (ds := []) (dvs := []) F hr hb .nil pass0 I (.cons rfl (.cons rx .nil)) hsp) (fun r s' hq => ?_) fun _ _ z => z)
  obtain ⟨z, H', I', rz, b, rfl, q⟩ := hq
  cases (show r = Value.bool b from rz)
  exact wpAny_truthy_bool ⟨.bl b, H', I', rfl, q⟩
end
end Aw

namespace Aw
open PySem PySem.Spec PyProof.Rows L2 NdefX
/-- a row of Marks of one size, told by functions -/
inductive MadeA (C : Addr) (H : Hp) (k : Int) (n : Nat) : List V → List (Int → Bool) → Prop
  | nil : MadeA C H k n [] []
  | cons {m : Addr} {f : Int → Bool} {vs : List V} {fs : List (Int → Bool)} : FMk C H m k f n → MadeA C H k n vs fs → MadeA C H k n (.ref m :: vs) (f :: fs)
theorem MadeA.same {C : Addr} {H H' : Hp} {k : Int} {n : Nat} (s : Same H H') : ∀ {vs : List V} {fs : List (Int → Bool)}, MadeA C H k n vs fs → MadeA C H' k n vs fs
  | _, _, .nil => .nil
  | _, _, .cons h r => .cons (h.same s) (MadeA.same s r)
theorem MadeA.but {C p c : Addr} {H H' : Hp} {k : Int} {n t : Nat} (b : But p H H') (pn : Pen H p c t) : ∀ {vs : List V} {fs : List (Int → Bool)}, MadeA C H k n vs fs → MadeA C H' k n vs fs
  | _, _, .nil => .nil
  | _, _, .cons h r => .cons (h.but b pn) (MadeA.but b pn r)
theorem MadeA.length {C : Addr} {H : Hp} {k : Int} {n : Nat} : ∀ {vs : List V} {fs : List (Int → Bool)}, MadeA C H k n vs fs → vs.length = fs.length
  | _, _, .nil => rfl
  | _, _, .cons _ r => congrArg (· + 1) (MadeA.length r)
theorem MadeA.get {C : Addr} {H : Hp} {k : Int} {n : Nat} : ∀ {vs : List V} {fs : List (Int → Bool)} {i : Nat} {v : V}, MadeA C H k n vs fs → vs[i]? = some v → ∃ m f, v = .ref m ∧ fs[i]? = some f ∧ FMk C H m k f n
  | _, _, 0, v, .cons h r, e => by
    cases e
    exact ⟨_, _, rfl, rfl, h⟩
  | _, _, i + 1, v, .cons h r, e => MadeA.get (i := i) r e
def rngB (k j : Int) : Bool := decide (0 ≤ j) && decide (j < k)
theorem in_rng {P : Pcs} {k : Int} {f : Int → Bool} (h : ∀ j, 0 ≤ j → j < k → markF P 12 j = f j) (j : Int) : inM P (12 * 2 ^ 0) k (.int j) = (rngB k j && f j) := by
  show ((decide (0 ≤ j) && decide (j ≤ k - 1)) && markF P 12 j) = (decide (0 ≤ j) && decide (j < k) && f j)
  by_cases z : 0 ≤ j ∧ j < k
  · rw [h j z.1 z.2, decide_eq_true z.1, decide_eq_true z.2, decide_eq_true (show j ≤ k - 1 by omega)]
  · by_cases y : 0 ≤ j
    · rw [decide_eq_false (show ¬ j ≤ k - 1 by omega), decide_eq_false (show ¬ j < k by omega), Bool.and_false, Bool.false_and, Bool.false_and]
    · rw [decide_eq_false y, Bool.false_and, Bool.false_and, Bool.false_and, Bool.false_and]
/-- xor, and, or, less, none of the first -/
def fiveF (f g : Int → Bool) : List (Int → Bool) := [fun j => f j ^^ g j, fun j => f j && g j, fun j => f j || g j, fun j => f j && !g j, fun j => !f j]
def dueB (o t r : Bool) : List Bool := [o ^^ t, o && t, o || t, o && !t, r && !o]
theorem five_due {f g : Int → Bool} {k j : Int} (h : rngB k j = false → f j = false ∧ g j = false) : (fiveF f g).map (fun h => rngB k j && h j) = dueB (f j) (g j) (rngB k j) := by
  show [rngB k j && (f j ^^ g j), rngB k j && (f j && g j), rngB k j && (f j || g j), rngB k j && (f j && !g j), rngB k j && !f j] = [f j ^^ g j, f j && g j, f j || g j, f j && !g j, rngB k j && !f j]
  cases e : rngB k j with
  | true => simp only [Bool.true_and]
  | false =>
    obtain ⟨h1, h2⟩ := h e
    rw [h1, h2]
    rfl
theorem rng_out {k j : Int} {rs : List (Int × Int × Int)} (ro : ∀ r ∈ rs, RunOk r k) (h : rngB k j = false) : oddR rs j = false := by
  refine oddR_out (s := k) (fun z => ?_) ro
  unfold rngB at h
  rw [decide_eq_true z.1, decide_eq_true z.2] at h
  cases h
theorem dp_bools {K : PySem.W.Frag} {H : Hp} : ∀ bs : List Bool, DpAll K H (bs.map V.bl) (bs.map PyData.bool)
  | [] => .nil
  | b :: bs => .cons (.bl b) (dp_bools bs)
section
variable {σ : Aw.St} {H : Hp} {Q : VK} {a b : Nat} {o t : Bool}
theorem ne_v (h : σ[a]? = some (some (.bl o))) (h' : σ[b]? = some (some (.bl t))) (hq : Q (.bl (o ^^ t)) H) : tOp rNe (tVar a) (tVar b) σ H Q := by
  refine ⟨_, h, _, h', rfl, ?_⟩
  have e : (!decide (V.bl o = V.bl t)) = (o ^^ t) := by
    cases o <;> cases t <;> first | (rw [decide_eq_true rfl]; rfl) | (rw [decide_eq_false (fun z => by cases z)]; rfl)
  rw [e]
  exact hq
theorem and_v (h : σ[a]? = some (some (.bl o))) (h' : σ[b]? = some (some (.bl t))) (hq : Q (.bl (o && t)) H) : tAndV (tVar a) (tVar b) σ H Q := by
  refine ⟨_, h, o, rfl, ?_⟩
  cases o with
  | true => exact iteT ⟨_, h', hq⟩
  | false => exact iteF hq
theorem or_v (h : σ[a]? = some (some (.bl o))) (h' : σ[b]? = some (some (.bl t))) (hq : Q (.bl (o || t)) H) : tOrV (tVar a) (tVar b) σ H Q := by
  refine ⟨_, h, o, rfl, ?_⟩
  cases o with
  | true => exact iteT hq
  | false => exact iteF ⟨_, h', hq⟩
theorem andn_v (h : σ[a]? = some (some (.bl o))) (h' : σ[b]? = some (some (.bl t))) (hq : Q (.bl (o && !t)) H) : tAndV (tVar a) (tNotV (tVar b)) σ H Q := by
  refine ⟨_, h, o, rfl, ?_⟩
  cases o with
  | true => exact iteT ⟨_, h', _, rfl, hq⟩
  | false => exact iteF hq
theorem rng_v {k j : Int} {c : Nat} (h1 : σ[a]? = some (some (.int j))) (h2 : σ[b]? = some (some (.int k))) (h3 : σ[c]? = some (some (.bl o))) (hq : Q (.bl (rngB k j && !o)) H) :
    tAndV (tChain (rI0 fun i j => V.bl (decide (i ≤ j))) (rI0 fun i j => V.bl (decide (i < j))) (tC (V.int 0)) (tVar a) (tVar b)) (tNotV (tVar c)) σ H Q := by
  refine ⟨_, h1, 0, j, rfl, rfl, _, rfl, ?_⟩
  unfold rngB at hq
  cases e : decide ((0 : Int) ≤ j) with
  | false =>
    rw [e] at hq
    exact iteF ⟨false, rfl, iteF hq⟩
  | true =>
    rw [e] at hq
    refine iteT ⟨_, h2, j, k, rfl, rfl, _, rfl, ?_⟩
    cases e2 : decide (j < k) with
    | false =>
      rw [e2] at hq
      exact iteF hq
    | true =>
      rw [e2] at hq
      exact iteT ⟨_, h3, _, rfl, hq⟩
end
theorem sh_bools {bs : List Bool} : SeqAt.shaped (.list (bs.map PyData.bool)) = true := by
  have h1 : PyData.canLayAll0 (bs.map PyData.bool) = true := by
    induction bs with
    | nil => rfl
    | cons b bs ih => simp [PyData.canLayAll0, PyData.canLay0, ih] <;> exact ih
  have h2 : PyData.depthAll (bs.map PyData.bool) ≤ 1 := by
    clear h1
    induction bs with
    | nil => exact Nat.zero_le _
    | cons b bs ih =>
      simp only [List.map_cons, PyData.depthAll, PyData.depth]
      omega
  unfold SeqAt.shaped
  refine Bool.and_eq_true_iff.mpr ⟨?_, decide_eq_true ?_⟩
  · simp only [PyData.canLay0, h1]
  · simp only [PyData.depth]
    omega
theorem eqv_bools : ∀ bs : List Bool, PyData.eqv (.list (bs.map PyData.bool)) (.list (bs.map PyData.bool)) = true := by
  have go : ∀ bs : List Bool, PyData.eqvAll (bs.map PyData.bool) (bs.map PyData.bool) = true := fun bs => by
    induction bs with
    | nil => rfl
    | cons b bs ih => simp [PyData.eqvAll, PyData.eqv, ih]
  exact fun bs => by
    have := go bs
    simp [PyData.eqv, this]
def spLPR (C : Addr) : Sp := fun vs H Q _ => ∃ (p c R S D : Addr) (k : Int) (n : Nat) (xs ys ms : List V) (rs qs : List (Int × Int × Int)), vs = [.ref p, .int k, .ref R, .ref S, .ref D] ∧ 1 ≤ k ∧ k ≤ T30 ∧ Pen H p c n ∧ n ≤ 700000 ∧
  H R = some (.lst xs) ∧ RnT H xs rs ∧ rs.length ≤ 20 ∧ (∀ r ∈ rs, RunOk r k) ∧ H S = some (.lst ys) ∧ RnT H ys qs ∧ qs.length ≤ 20 ∧ (∀ r ∈ qs, RunOk r k) ∧ H D = some (.lst ms) ∧ MadeA C H k 40 ms (fiveF (oddR rs) (oddR qs)) ∧
  ∀ H', But p H H' → Pen H' p c (n + 10) → Q (.bl true) H'
section
variable {P : Program} {w : World} {K : PySem.W.Frag} {mg : Str → Option Value} {base : Heap} {C : Addr}
structure TxtPR (K : PySem.W.Frag) (mg : Str → Option Value) (C fC fL fO : Addr) (cd ld od : FuncData) : Prop where
  hs : PySem.W.findIn K (.ref C) "__contains__" = some (some (.ref fC))
  hf : PySem.W.isFn K (.ref fC) = true
  bC : Binds K cd ["self", "x"] []
  FL : Fun K "_law_place" "_law_place" sLPlace fL ld
  bL : Binds K ld ["_law_pen_here", "_law_k"] []
  gL : mg "_law_place" = some (.ref fL)
  FO : Fun K "_law_odd" "_law_odd" sOdd fO od
  bO : Binds K od ["_law_runs_here", "_law_j"] []
  gO : mg "_law_odd" = some (.ref fO)
theorem scLPR : FnScope ["_law_pen_here", "_law_k", "_law_runs_here", "_law_others", "_law_made", "_law_places", "_law_first", "_law_last", "_law_step", "_law_j", "_law_one", "_law_other", "_law_due", "_law_marks"] ["_law_pen_here", "_law_k", "_law_runs_here", "_law_others", "_law_made"] (defScope sLPR) := ⟨rfl, rfl, rfl, by decide +kernel, rfl, by decide +kernel, by decide +kernel⟩
theorem ok_lpr {f fC fL fO : Addr} {fd cd ld od : FuncData} (F : Fun K "_law_places_right" "_law_places_right" sLPR f fd) (W : TxtPR K mg C fC fL fO cd ld od) (GC : FnOk P w K mg base CX0 2 fC cd ["self", "x"] (spMCon C))
    (GL : FnOk P w K mg base CX0 3 fL ld ["_law_pen_here", "_law_k"] spLPlace) (GO : FnOk P w K mg base CX0 2 fO od ["_law_runs_here", "_law_j"] spOdd) :
    FnOk P w K mg base CX0 4 f fd ["_law_pen_here", "_law_k", "_law_runs_here", "_law_others", "_law_made"] (spLPR C) := by
  refine F.ok scLPR (fun vs H Q E h => ?_) (fun cdv A outer s H vs Q E hr h => ?_)
  · obtain ⟨p, c, R, S, D, k, n, xs, ys, ms, rs, qs, rfl, _⟩ := h
    rfl
  · obtain ⟨p, c, R, S, D, k, n, xs, ys, ms, rs, qs, rfl, k1, k2, pn, hn, hR, rt, lr, ro, hS, qt, lq, qo, hD, md, hQ⟩ := h
    have nd := scLPR.nd
    refine ⟨_, (pss_cons (ps_set (i := 5) nd rfl (Or.inl rfl) (pe_lst (pa_cons pe_int (pa_cons (pe_op op_sub (pv 1) pe_int) (pa_cons (pv 1) (pa_cons (pe_un un_neg pe_int) (pa_cons (pe_call GL (hr.mono (by decide)) (by rfl) W.gL W.FL.kp W.bL .nil pass0 (pa_cons (pv 0) (pa_cons (pv 1) pa_nil))) pa_nil)))))))
      (pss_cons (ps_for PassesOwn.never rfl (pi_list (pe_op op_cat (pv 2) (pv 3))) (pg_tup rfl (pgs_cons (pg_name (i := 6) nd rfl (Or.inl rfl)) (pgs_cons (pg_name (i := 7) nd rfl (Or.inl rfl)) (pgs_cons (pg_name (i := 8) nd rfl (Or.inl rfl)) pgs_nil))))
        (pss_one (ps_set (i := 5) nd rfl (Or.inl rfl) (pe_op op_cat (pv 5) (pe_lst (pa_cons (pv 6) (pa_cons (pe_op op_sub (pv 6) pe_int) (pa_cons (pe_op op_add (pv 6) pe_int) (pa_cons (pv 7) (pa_cons (pe_op op_sub (pv 7) pe_int) (pa_cons (pe_op op_add (pv 7) pe_int) pa_nil)))))))))))
      (pss_cons (ps_for PassesOwn.never rfl (pi_list (pv 5)) (pg_name (i := 9) nd rfl (Or.inr rfl))
        (pss_cons (ps_par (i := 10) (j := 11) rfl nd rfl rfl (by decide) rfl rfl (pa_cons (pe_call GO (hr.mono (by decide)) (by rfl) W.gO W.FO.kp W.bO .nil pass0 (pa_cons (pv 2) (pa_cons (pv 9) pa_nil))) (pa_cons (pe_call GO (hr.mono (by decide)) (by rfl) W.gO W.FO.kp W.bO .nil pass0 (pa_cons (pv 3) (pa_cons (pv 9) pa_nil))) pa_nil)) (by rfl))
        (pss_cons (ps_set (i := 12) nd rfl (Or.inl rfl) (pe_lst (pa_cons (pe_cmpR op_ne (pv 10) (pv 11) (nomark _)) (pa_cons (pe_and (pv 10) (pe_one (pv 11))) (pa_cons (pe_or (pv 10) (pe_one (pv 11))) (pa_cons (pe_and (pv 10) (pe_one (pe_not (pv 11)))) (pa_cons (pe_and (pe_chain op_le op_lt pe_int (pv 9) (pv 1)) (pe_one (pe_not (pv 10)))) pa_nil)))))))
        (pss_one (ps_if (pt_cmpR (op_neD hr.units) (pe_lc (own := [("_law_marks", 13)]) (g := (gName 13)) (tt := tYes) rfl nd (pi_list (pv 4)) (blkOk_by (own := [("_law_marks", 13)]) (N := ["_law_pen_here", "_law_k", "_law_runs_here", "_law_others", "_law_made", "_law_places", "_law_first", "_law_last", "_law_step", "_law_j", "_law_one", "_law_other", "_law_due", "_law_marks"]) (sc := defScope sLPR) (by decide +kernel)) (fun _ _ _ _ _ => (pg_name (i := 13) nd rfl (Or.inl rfl))) (fun _ _ _ _ _ => pts_nil) (fun _ _ _ _ _ => (pe_cmpR (op_inO (C := C) W.hs W.hf GC (hr.mono (by decide)) W.bC) (pv 9) (pv 13) (by rfl)))) (pv 12) (nomark _))
          (pss_one (ps_ret pe_bl)) pss_nil)))))
      (pss_one (ps_ret pe_bl))))), ?_⟩
    -- BODY
    have lx := rt.any.length
    have ly := qt.any.length
    have lm := md.length
    refine ⟨_, rfl, k, 1, rfl, rfl, _, rfl, 1, rfl, _, rfl, _, rfl, p, c, k, n, rfl, k1, k2, pn, by omega, fun j1 H1 _ _ b1 P1 => ⟨by show 5 ≤ sizeLine; decide, fun Z hZ => ?_⟩⟩
    have b3 : But p H (upd H1 Z (.lst [.int 0, .int (k - 1), .int k, .int (-1), .int j1])) := b1.trans (But.same (same_upd hZ))
    have P3 : Pen (upd H1 Z (.lst [.int 0, .int (k - 1), .int k, .int (-1), .int j1])) p c (n + 10) := (P1.new hZ).mono (by omega)
    have eZ : upd H1 Z (.lst [.int 0, .int (k - 1), .int k, .int (-1), .int j1]) Z = some (.lst (([0, k - 1, k, -1, j1] : List Int).map V.int)) := upd_same
    have hR1 := but_lst b3 pn hR
    have hS1 := but_lst b3 pn hS
    have hD1 := but_lst b3 pn hD
    have rt1 := rt.keep (TK.but b3 pn)
    have qt1 := qt.keep (TK.but b3 pn)
    have md1 := md.but b3 pn
    generalize upd H1 Z (.lst [.int 0, .int (k - 1), .int k, .int (-1), .int j1]) = H2 at *
    refine ⟨_, rfl, _, rfl, R, S, xs, ys, rfl, rfl, hR1, hS1, ?_, fun U hU => ?_⟩
    · exact Nat.le_trans (show xs.length + ys.length ≤ 1000 by omega) kz
    have sU := same_upd (o := .lst (xs ++ ys)) hU
    have eU : upd H2 U (.lst (xs ++ ys)) U = some (.lst (xs ++ ys)) := upd_same
    generalize upd H2 U (.lst (xs ++ ys)) = H3 at *
    have at3 : RnT H3 (xs ++ ys) (rs ++ qs) := (rt1.keep (TK.same sU)).app (qt1.keep (TK.same sU))
    have b4 := b3.trans (But.same sU)
    have P4 : Pen H3 p c (n + 10) := P3.same sU
    have eZ4 := sU _ _ eZ
    have lu : (xs ++ ys).length ≤ 40 := by rw [List.length_append]; omega
    refine ⟨U, rfl, ⟨_, SqL.of eU⟩, ?_⟩
    refine for_list (a := U) (xs := xs ++ ys) (fun i σ H4 => ∃ (Z : Addr) (js : List Int) (v6 v7 v8 : Option V), σ = [some (.ref p), some (.int k), some (.ref R), some (.ref S), some (.ref D), some (.ref Z), v6, v7, v8, none, none, none, none, none] ∧ Same H3 H4 ∧ H4 Z = some (.lst (js.map V.int)) ∧ js.length = 5 + 6 * i) ⟨Z, _, none, none, none, rfl, fun _ _ e => e, eZ4, rfl⟩ (fun i σ H2 _ z => by
      obtain ⟨_, _, _, _, _, _, s, _⟩ := z
      exact SqL.of (s _ _ eU)) ?_ ?_
    · rintro i v σ H4 hv ⟨Z, js, v6, v7, v8, rfl, s4, eZ, lj⟩
      obtain ⟨t, ⟨f, l, st⟩, rfl, ix, et⟩ := (at3.keep (TK.same s4)).get hv
      have hi : i < (xs ++ ys).length := (List.getElem?_eq_some_iff.mp hv).1
      dsimp only at et
      refine ⟨t, _, rfl, SqT.of et, rfl, _, _, rfl, _, _, rfl, _, _, rfl, rfl, ?_⟩
      refine ⟨_, rfl, _, rfl, _, rfl, f, 1, rfl, rfl, _, rfl, f, 1, rfl, rfl, _, rfl, _, rfl, l, 1, rfl, rfl, _, rfl, l, 1, rfl, rfl, by show 6 ≤ sizeLine; decide, fun Y hY => ?_⟩
      have sY := same_upd (o := .lst [.int f, .int (f - 1), .int (f + 1), .int l, .int (l - 1), .int (l + 1)]) hY
      refine ⟨Z, Y, js.map V.int, _, rfl, rfl, sY _ _ eZ, upd_same, ?_, fun X hX => ?_⟩
      · rw [List.length_map]
        exact Nat.le_trans (show js.length + 6 ≤ 1000 by omega) kz
      · refine ⟨X, js ++ [f, f - 1, f + 1, l, l - 1, l + 1], _, _, _, rfl, (s4.trans sY).trans (same_upd hX), ?_, ?_⟩
        · rw [upd_same, List.map_append]
          rfl
        · rw [List.length_append, lj]
          show 5 + 6 * i + 6 = _
          omega
    · rintro σ H4 ⟨Z, js, v6, v7, v8, rfl, s4, eZ, lj⟩
      refine ⟨_, rfl, Z, rfl, ⟨_, SqL.of eZ⟩, ?_⟩
      refine for_list (a := Z) (xs := js.map V.int) (fun i σ H5 => ∃ (v9 v10 v11 v12 v13 : Option V), σ = [some (.ref p), some (.int k), some (.ref R), some (.ref S), some (.ref D), some (.ref Z), v6, v7, v8, v9, v10, v11, v12, v13] ∧ Same H4 H5) ⟨none, none, none, none, none, rfl, fun _ _ e => e⟩ (fun i σ H2 _ z => by
        obtain ⟨_, _, _, _, _, _, s2⟩ := z
        exact SqL.of (s2 _ _ eZ)) ?_ ?_
      · rintro i v σ H5 hv ⟨v9, v10, v11, v12, v13, rfl, s5⟩
        rw [List.getElem?_map] at hv
        obtain ⟨j, _, rfl⟩ := Option.map_eq_some_iff.mp hv
        have s35 := s4.trans s5
        have s25 := sU.trans s35
        have stp : ∀ {rs : List (Int × Int × Int)}, (∀ r ∈ rs, RunOk r k) → ∀ r ∈ rs, 0 < r.2.2 ∧ r.2.2 < 1000000 := fun h r hr => ⟨by have := (h r hr).c1; omega, by have := (h r hr).c4; omega⟩
        refine ⟨_, rfl, _, rfl, R, xs, rs, j, rfl, s25 _ _ hR1, rt1.keep (TK.same s25), by omega, stp ro, fun H6 s6 => ?_⟩
        have s26 := s25.trans s6
        refine ⟨_, rfl, _, rfl, S, ys, qs, j, rfl, s26 _ _ hS1, qt1.keep (TK.same s26), by omega, stp qo, fun H7 s7 => ?_⟩
        have s27 := s26.trans s7
        have fd := five_due (k := k) (j := j) (f := oddR rs) (g := oddR qs) (fun z => ⟨rng_out ro z, rng_out qo z⟩)
        refine ⟨_, _, rfl, ?_⟩
        refine ne_v rfl rfl (and_v rfl rfl (or_v rfl rfl (andn_v rfl rfl (rng_v rfl rfl rfl ⟨by show 5 ≤ sizeLine; decide, fun Y hY => ?_⟩))))
        have sY := same_upd (o := .lst [.bl (oddR rs j ^^ oddR qs j), .bl (oddR rs j && oddR qs j), .bl (oddR rs j || oddR qs j), .bl (oddR rs j && !oddR qs j), .bl (rngB k j && !oddR rs j)]) hY
        have eY : upd H7 Y (.lst [.bl (oddR rs j ^^ oddR qs j), .bl (oddR rs j && oddR qs j), .bl (oddR rs j || oddR qs j), .bl (oddR rs j && !oddR qs j), .bl (rngB k j && !oddR rs j)]) Y = some (.lst ((dueB (oddR rs j) (oddR qs j) (rngB k j)).map V.bl)) := upd_same
        generalize upd H7 Y (.lst [.bl (oddR rs j ^^ oddR qs j), .bl (oddR rs j && oddR qs j), .bl (oddR rs j || oddR qs j), .bl (oddR rs j && !oddR qs j), .bl (rngB k j && !oddR rs j)]) = H8 at *
        have s28 := s27.trans sY
        have md8 := md1.same s28
        refine ⟨_, rfl, D, rfl, ⟨_, SqL.of (s28 _ _ hD1)⟩, fun B hB => ?_⟩
        refine lc_list (a := D) (xs := ms) (fun i H9 => Same H8 H9 ∧ H9 B = some (.lst (((fiveF (oddR rs) (oddR qs)).take i).map fun f => V.bl (rngB k j && f j)))) ⟨same_upd hB, upd_same⟩ (fun i H9 _ z => SqL.of (z.1 _ _ (s28 _ _ hD1))) ?_ ?_
        · rintro i v H9 hv ⟨s9, eB⟩
          obtain ⟨m, f, rfl, ix, fm⟩ := (md8.same s9).get hv
          obtain ⟨P9, p1, p2, p3⟩ := fm.ex
          obtain ⟨dx, L9, zs, hA, _, _⟩ := p1.ex
          refine ⟨rfl, _, rfl, _, rfl, m, dx, _, rfl, hA, m, .int j, P9, 0, k, rfl, p1, .int j, ?_⟩
          rw [in_rng p3 j]
          refine ⟨_, rfl, _, eB, ?_, ?_⟩
          · refine Nat.lt_of_lt_of_le ?_ kz
            rw [List.length_map, List.length_take]
            show min i 5 < 1000
            omega
          refine ⟨same_fresh hB s9, ?_⟩
          rw [upd_same, List.take_succ, ix, List.map_append]
          rfl
        · rintro H9 ⟨s9, eB⟩
          rw [List.take_of_length_le (by rw [lm] <;> exact Nat.le_refl _)] at eB
          have e5 : ((fiveF (oddR rs) (oddR qs)).map fun f => V.bl (rngB k j && f j)) = (dueB (oddR rs j) (oddR qs j) (rngB k j)).map V.bl := by
            rw [← fd, List.map_map]
            rfl
          rw [e5] at eB
          refine ⟨_, rfl, _, _, .lst (SqL.of eB) (dp_bools _), .lst (SqL.of (s9 _ _ eY)) (dp_bools _), sh_bools, sh_bools, ?_⟩
          rw [eqv_bools]
          refine ⟨_, rfl, iteF (nxt ?_)⟩
          exact ⟨_, _, _, _, _, rfl, ((s5.trans s6).trans s7).trans (sY.trans s9)⟩
      · rintro σ H5 ⟨v9, v10, v11, v12, v13, rfl, s5⟩
        exact hQ H5 (b4.trans (But.same (s4.trans s5))) (P4.same (s4.trans s5))
end
end Aw

namespace Aw
open PySem PySem.Spec PyProof.Rows L2 NdefX
/-! ### ~x by an own __invert__ -/
section
variable {X : Cx} {C f : Addr} {fd : FuncData} {ps : List Str} {sp : Sp} {k : Nat} {CX : CXT}
def rInvO (C : Addr) (sp : Sp) : V → Hp → VK → Prop := fun x H Q => ∃ (a dx : Addr) (fs : List (Str × V)), x = .ref a ∧ H a = some (.ins C dx fs) ∧ sp [.ref a] H Q E0
theorem un_invO (hs : PySem.W.findIn X.K (.ref C) "__invert__" = some (some (.ref f))) (hf : PySem.W.isFn X.K (.ref f) = true) (F : FnOk X.prog X.w X.K X.mg X.base CX0 k f fd ps sp) (hr : Room k X.A) (hb : Binds X.K fd ps []) : UnR X (unaryOp .Invert) (rInvO C sp) := by
  intro pins s σ H x v Q I rx h
  obtain ⟨a, dx, fs, rfl, ha, hsp⟩ := h
  cases rx
  obtain ⟨mA, J, _⟩ := ins_get I.hok ha
  obtain ⟨od, J, _⟩ := J.look
  obtain ⟨m, hF⟩ := I.fr
  exact PySem.W.ksp_inv hF I.ok.mod.kin J hs hf (run_fn (vs := [V.ref a]) (us := [Value.ref a]) (ds := []) (dvs := []) F hr hb .nil pass0 I (.cons rfl .nil) hsp)
end
end Aw

namespace Aw
open PySem PySem.Spec PyProof.Rows L2 NdefX
def spLaw (K : PySem.W.Frag) (PT : Addr) : Sp := fun vs H Q _ => ∃ (a : Addr) (ns : List Int), vs = [.ref a] ∧ SqL K H a (ns.map V.int) ∧ ns.length ≤ 63 ∧ H PT = some (.tbl #[]) ∧ ∀ H', Q (.bl true) H'
theorem but_tbl {H H' : Hp} {p c R : Addr} {n : Nat} {ps : Array Value} (b : But p H H') (pn : Pen H p c n) (h : H R = some (.tbl ps)) : H' R = some (.tbl ps) := by
  obtain ⟨cells, i, l, e1, _⟩ := pn.ex
  exact b _ _ h (ne_of h e1 (fun z => by cases z))
theorem FMk.mono {C : Addr} {H : Hp} {a : Addr} {k : Int} {f : Int → Bool} {n m : Nat} (x : FMk C H a k f n) (h : n ≤ m) : FMk C H a k f m := by
  obtain ⟨P, h1, h2, h3⟩ := x.ex
  exact ⟨P, h1, Nat.le_trans h2 h, h3⟩
theorem made5 {C : Addr} {H : Hp} {k : Int} {n : Nat} {a b c d e : Addr} {f1 f2 f3 f4 f5 : Int → Bool} (h : MadeA C H k n [.ref a, .ref b, .ref c, .ref d, .ref e] [f1, f2, f3, f4, f5]) : FMk C H a k f1 n ∧ FMk C H b k f2 n ∧ FMk C H c k f3 n ∧ FMk C H e k f5 n := by
  cases h with
  | cons h1 h => cases h with
    | cons h2 h => cases h with
      | cons h3 h => cases h with
        | cons h4 h => cases h with
          | cons h5 h => exact ⟨h1, h2, h3, h5⟩
theorem bin_use {C CZ : Addr} {H9 : Hp} {k : Int} {g : Nat → Nat → Nat} {gb : Bool → Bool → Bool} {Q : VK} {a b : Addr} {f h : Int → Bool} {i j : Nat} (x : FMk C H9 a k f i) (y : FMk C H9 b k h j) (k30 : k ≤ 10 ^ 30) (le : i + j ≤ 400) (hg : ∀ m n i, (g m n).testBit i = gb (m.testBit i) (n.testBit i))
    (hq : ∀ (r : Addr) (H' : Hp), Same H9 H' → H9 r = none → FMk C H' r k (fun j => gb (f j) (h j)) (i + j) → Q (.ref r) H') : ∃ (a' dx : Addr) (fs : List (Str × V)) (b' dy : Addr) (gs : List (Str × V)), V.ref a = .ref a' ∧ H9 a' = some (.ins C dx fs) ∧ V.ref b = .ref b' ∧ H9 b' = some (.ins C dy gs) ∧
      spOpM C CZ g [.ref a, .ref b] H9 (fun v H' => (∃ c : Addr, v = .ref c) ∧ Q v H') E0 := by
  obtain ⟨dx, L9, hA⟩ := x.obj
  obtain ⟨dy, M9, hB⟩ := y.obj
  exact ⟨a, dx, _, b, dy, _, rfl, hA, rfl, hB, FMk.op x y k30 le hg fun r H' s hr m => ⟨⟨r, rfl⟩, hq r H' s hr m⟩⟩
theorem inv_use {C : Addr} {H9 : Hp} {k : Int} {Q : VK} {a : Addr} {f : Int → Bool} {i : Nat} (x : FMk C H9 a k f i) (k30 : k ≤ 10 ^ 30) (hq : ∀ (r : Addr) (H' : Hp), Same H9 H' → H9 r = none → FMk C H' r k (fun j => !f j) i → Q (.ref r) H') : rInvO C (spMInv C) (.ref a) H9 Q := by
  obtain ⟨dx, L9, hA⟩ := x.obj
  exact ⟨a, dx, _, rfl, hA, FMk.inv x k30 hq⟩
theorem RnT.take {H : Hp} : ∀ {vs : List V} {rs : List (Int × Int × Int)} (i : Nat), RnT H vs rs → RnT H (vs.take i) (rs.take i)
  | _, _, 0, _ => .nil
  | _, _, i + 1, .nil => .nil
  | _, _, i + 1, .cons h r => .cons h (RnT.take i r)
theorem cut_one : ∀ xs : List V, cutV xs none (some 1) = xs.take 1
  | [] => rfl
  | x :: xs => by
    have e1 : HT.sIx (x :: xs).length 0 none = 0 := rfl
    have e2 : HT.sIx (x :: xs).length (x :: xs).length (some 1) = 1 := by
      simp [HT.sIx] <;> omega
    unfold cutV
    rw [e1, e2, List.drop_zero, Nat.sub_zero]
/-- what the law holds in a heap -/
structure Gd (C PT p c M N R S : Addr) (k : Int) (xs ys : List V) (rs qs : List (Int × Int × Int)) (H : Hp) (n : Nat) : Prop where
  m1 : FMk C H M k (oddR rs) 10
  m2 : FMk C H N k (oddR qs) 10
  eR : H R = some (.lst xs)
  rt : RnT H xs rs
  eS : H S = some (.lst ys)
  qt : RnT H ys qs
  pn : Pen H p c n
  pt : H PT = some (.tbl #[])
section
variable {C PT p c M N R S : Addr} {k : Int} {xs ys : List V} {rs qs : List (Int × Int × Int)} {H H' : Hp} {n m : Nat}
theorem Gd.same (g : Gd C PT p c M N R S k xs ys rs qs H n) (s : Same H H') : Gd C PT p c M N R S k xs ys rs qs H' n := ⟨g.m1.same s, g.m2.same s, s _ _ g.eR, g.rt.keep (TK.same s), s _ _ g.eS, g.qt.keep (TK.same s), g.pn.same s, s _ _ g.pt⟩
theorem Gd.but (g : Gd C PT p c M N R S k xs ys rs qs H n) (b : But p H H') (pn : Pen H' p c m) : Gd C PT p c M N R S k xs ys rs qs H' m := ⟨g.m1.but b g.pn, g.m2.but b g.pn, but_lst b g.pn g.eR, g.rt.keep (TK.but b g.pn), but_lst b g.pn g.eS, g.qt.keep (TK.but b g.pn), pn, but_tbl b g.pn g.pt⟩
end
section
variable {C : Addr} {H : Hp} {a b : Addr} {k : Int} {f g : Int → Bool} {n m : Nat} {Q : VK}
theorem eq_use (x : FMk C H a k f n) (y : FMk C H b k g m) (hQ : ∀ H', Same H H' → Q (.bl (decide (cB (fun j => f j ^^ g j) k.toNat = 0))) H') : rOwnW C (fun vs H Q _ => spMEq C vs H Q E0) (.ref a) (.ref b) H Q := by
  obtain ⟨P, O, p1, q1, e⟩ := x.eqv y
  obtain ⟨dx, L, hA⟩ := x.obj
  obtain ⟨dy, M, hB⟩ := y.obj
  refine ⟨a, dx, _, rfl, hA, .inr ⟨b, dy, _, rfl, hB⟩, a, .ref b, P, 0, k, rfl, p1, .inr ⟨b, O, k, rfl, q1, fun z => absurd rfl z, fun _ H' s => ⟨_, rfl, ?_⟩⟩⟩
  rw [e]
  exact hQ H' s
theorem eqT_use (x : FMk C H a k f n) (y : FMk C H b k g m) (h : ∀ j, f j = g j) (hQ : ∀ H', Same H H' → Q (.bl true) H') : rOwnW C (fun vs H Q _ => spMEq C vs H Q E0) (.ref a) (.ref b) H Q :=
  eq_use x y fun H' s => by
    rw [cB_zero fun j _ => by show (f (j : Nat) ^^ g (j : Nat)) = false; rw [h, Bool.xor_self]]
    exact hQ H' s
theorem eqN_use {y : V} (x : FMk C H a k f n) (o : OthW H y) (hQ : Q (.bl false) H) : rOwnW C (fun vs H Q _ => spMEq C vs H Q E0) (.ref a) y H Q := by
  obtain ⟨P, p1, _⟩ := x.ex
  obtain ⟨dx, L, hA⟩ := x.obj
  exact ⟨a, dx, _, rfl, hA, .inl o, a, y, P, 0, k, rfl, p1, .inl ⟨o, _, rfl, hQ⟩⟩
end
section
variable {P : Program} {w : World} {K : PySem.W.Frag} {mg : Str → Option Value} {base : Heap} {C CZ CT CN PT : Addr}
structure TxtLw (P : Program) (w : World) (K : PySem.W.Frag) (mg : Str → Option Value) (base : Heap) (C CZ CT CN PT fI fX fA fO fS fV fE fN fM fPen fD fSz fRu fCn fPr fSr : Addr) (id dX dA dO dS dV dE dN dM dPen dD dSz dRu dCn dPr dSr : FuncData) : Prop where
  list : mg "list" = none
  M : MkCls K C
  gM : mg "Marks" = some (.ref C)
  mkc : Mk K C fI
  GI : FnOk P w K mg base (L2.CX P w) 4 fI id ["self", "size", "runs"] (spMInit K C CZ CT CN)
  bI : Binds K id ["self", "size", "runs"] []
  sf : PySem.W.selfFirst K C = true
  iX : PySem.W.findIn K (.ref C) "__xor__" = some (some (.ref fX))
  jX : PySem.W.isFn K (.ref fX) = true
  GX : FnOk P w K mg base (L2.CX P w) 8 fX dX ["self", "other"] (spOpM C CZ (· ^^^ ·))
  bX : Binds K dX ["self", "other"] []
  iA : PySem.W.findIn K (.ref C) "__and__" = some (some (.ref fA))
  jA : PySem.W.isFn K (.ref fA) = true
  GA : FnOk P w K mg base (L2.CX P w) 8 fA dA ["self", "other"] (spOpM C CZ (· &&& ·))
  bA : Binds K dA ["self", "other"] []
  iO : PySem.W.findIn K (.ref C) "__or__" = some (some (.ref fO))
  jO : PySem.W.isFn K (.ref fO) = true
  GO : FnOk P w K mg base (L2.CX P w) 8 fO dO ["self", "other"] (spOpM C CZ (· ||| ·))
  bO : Binds K dO ["self", "other"] []
  iS : PySem.W.findIn K (.ref C) "__sub__" = some (some (.ref fS))
  jS : PySem.W.isFn K (.ref fS) = true
  GS : FnOk P w K mg base (L2.CX P w) 8 fS dS ["self", "other"] (spOpM C CZ gSubM)
  bS : Binds K dS ["self", "other"] []
  iV : PySem.W.findIn K (.ref C) "__invert__" = some (some (.ref fV))
  jV : PySem.W.isFn K (.ref fV) = true
  GV : FnOk P w K mg base CX0 7 fV dV ["self"] (spMInv C)
  bV : Binds K dV ["self"] []
  TE : EqTxt K C fE
  TO : TxtEO K C
  GE : FnOk P w K mg base (L2.CX P w) 6 fE dE ["self", "other"] (spMEq C)
  bE : Binds K dE ["self", "other"] []
  mN : Meth K C "is_none" fN
  GN : FnOk P w K mg base CX0 5 fN dN ["self"] (spNone C)
  bN : Binds K dN ["self"] []
  mM : Meth K C "many" fM
  GM : FnOk P w K mg base CX0 4 fM dM ["self"] (spMany C)
  bM : Binds K dM ["self"] []
  GPen : FnOk P w K mg base CX0 1 fPen dPen ["_law_script"] (spPen K)
  kPen : PySem.W.keepIn K (.ref fPen) = true
  bPen : Binds K dPen ["_law_script"] []
  gPen : mg "_law_pen" = some (.ref fPen)
  GD : FnOk P w K mg base CX0 1 fD dD ["_law_pen_here", "_law_many"] spDraw
  kD : PySem.W.keepIn K (.ref fD) = true
  bD : Binds K dD ["_law_pen_here", "_law_many"] []
  gD : mg "_law_draw" = some (.ref fD)
  GSz : FnOk P w K mg base CX0 3 fSz dSz ["_law_pen_here"] spLSize
  kSz : PySem.W.keepIn K (.ref fSz) = true
  bSz : Binds K dSz ["_law_pen_here"] []
  gSz : mg "_law_size" = some (.ref fSz)
  GRu : FnOk P w K mg base CX0 5 fRu dRu ["_law_pen_here", "_law_k", "_law_many"] spLRuns
  kRu : PySem.W.keepIn K (.ref fRu) = true
  bRu : Binds K dRu ["_law_pen_here", "_law_k", "_law_many"] []
  gRu : mg "_law_runs" = some (.ref fRu)
  GCn : FnOk P w K mg base CX0 3 fCn dCn ["_law_runs_here", "_law_below"] spLCnt
  kCn : PySem.W.keepIn K (.ref fCn) = true
  bCn : Binds K dCn ["_law_runs_here", "_law_below"] []
  gCn : mg "_law_count" = some (.ref fCn)
  GPr : FnOk P w K mg base CX0 4 fPr dPr ["_law_pen_here", "_law_k", "_law_runs_here", "_law_others", "_law_made"] (spLPR C)
  kPr : PySem.W.keepIn K (.ref fPr) = true
  bPr : Binds K dPr ["_law_pen_here", "_law_k", "_law_runs_here", "_law_others", "_law_made"] []
  gPr : mg "_law_places_right" = some (.ref fPr)
  GSr : FnOk P w K mg base CX0 11 fSr dSr ["_law_marks", "_law_far"] (spLSz C PT)
  kSr : PySem.W.keepIn K (.ref fSr) = true
  bSr : Binds K dSr ["_law_marks", "_law_far"] []
  gSr : mg "_law_sizes_right" = some (.ref fSr)
theorem scLaw : FnScope ["_law_script", "_law_pen_here", "_law_k", "_law_runs_here", "_law_others", "_law_one", "_law_other", "_law_made", "_law_marks", "_law_few", "_law_some", "_law_apart", "_law_both", "_law_size_here"] ["_law_script"] (defScope sLaw) := ⟨rfl, rfl, rfl, by decide +kernel, rfl, by decide +kernel, by decide +kernel⟩
theorem ok_law {f fI fX fA fO fS fV fE fN fM fPen fD fSz fRu fCn fPr fSr : Addr} {fd id dX dA dO dS dV dE dN dM dPen dD dSz dRu dCn dPr dSr : FuncData} (F : Fun K "law" "law" sLaw f fd) (W : TxtLw P w K mg base C CZ CT CN PT fI fX fA fO fS fV fE fN fM fPen fD fSz fRu fCn fPr fSr id dX dA dO dS dV dE dN dM dPen dD dSz dRu dCn dPr dSr) : FnOk P w K mg base CX0 12 f fd ["_law_script"] (spLaw K PT) := by
  have GI := quiet W.GI
  have GX := quiet W.GX
  have GA := quiet W.GA
  have GO := quiet W.GO
  have GS := quiet W.GS
  have GE := quiet W.GE
  refine F.ok scLaw (fun vs H Q E h => ?_) (fun cdv A outer s H vs Q E hr h => ?_)
  · obtain ⟨a, ns, rfl, _⟩ := h
    rfl
  · obtain ⟨a0, ns, rfl, ha, hn, hPT, hQ⟩ := h
    have nd := scLaw.nd
    refine ⟨_, (pss_cons (ps_set (i := 1) nd rfl (Or.inl rfl) (pe_call W.GPen (hr.mono (by decide)) (by rfl) W.gPen W.kPen W.bPen .nil pass0 (pa_cons (pv 0) pa_nil)))
      (pss_cons (ps_set (i := 2) nd rfl (Or.inl rfl) (pe_call W.GSz (hr.mono (by decide)) (by rfl) W.gSz W.kSz W.bSz .nil pass0 (pa_cons (pv 1) pa_nil)))
      (pss_cons (ps_par (i := 3) (j := 4) rfl nd rfl rfl (by decide) rfl rfl (pa_cons (pe_call W.GRu (hr.mono (by decide)) (by rfl) W.gRu W.kRu W.bRu .nil pass0 (pa_cons (pv 1) (pa_cons (pv 2) (pa_cons (pe_call W.GD (hr.mono (by decide)) (by rfl) W.gD W.kD W.bD .nil pass0 (pa_cons (pv 1) (pa_cons pe_int pa_nil))) pa_nil)))) (pa_cons (pe_call W.GRu (hr.mono (by decide)) (by rfl) W.gRu W.kRu W.bRu .nil pass0 (pa_cons (pv 1) (pa_cons (pv 2) (pa_cons (pe_call W.GD (hr.mono (by decide)) (by rfl) W.gD W.kD W.bD .nil pass0 (pa_cons (pv 1) (pa_cons pe_int pa_nil))) pa_nil)))) pa_nil)) (by rfl))
      (pss_cons (ps_par (i := 5) (j := 6) rfl nd rfl rfl (by decide) rfl rfl (pa_cons (pe_makeD (E := fun _ => E0) W.mkc GI (hr.mono (by decide)) (by rfl) W.gM W.bI .nil passA0 (pa_cons (pv 2) (pa_cons (pv 3) pa_nil))) (pa_cons (pe_makeD (E := fun _ => E0) W.mkc GI (hr.mono (by decide)) (by rfl) W.gM W.bI .nil passA0 (pa_cons (pv 2) (pa_cons (pv 4) pa_nil))) pa_nil)) (by rfl))
      (pss_cons (ps_set (i := 7) nd rfl (Or.inl rfl) (pe_lst (pa_cons (pe_binO (E := fun _ => E0) W.iX W.jX W.sf GX (hr.mono (by decide)) W.bX passA0 (pv 5) (pv 6)) (pa_cons (pe_binO (E := fun _ => E0) W.iA W.jA W.sf GA (hr.mono (by decide)) W.bA passA0 (pv 5) (pv 6)) (pa_cons (pe_binO (E := fun _ => E0) W.iO W.jO W.sf GO (hr.mono (by decide)) W.bO passA0 (pv 5) (pv 6)) (pa_cons (pe_binO (E := fun _ => E0) W.iS W.jS W.sf GS (hr.mono (by decide)) W.bS passA0 (pv 5) (pv 6)) (pa_cons (pe_un (un_invO W.iV W.jV W.GV (hr.mono (by decide)) W.bV) (pv 5)) pa_nil)))))))
      (pss_cons (ps_if (PW.pt (pw_or (pt_not (pt_val (pe_call W.GPr (hr.mono (by decide)) (by rfl) W.gPr W.kPr W.bPr .nil pass0 (pa_cons (pv 1) (pa_cons (pv 2) (pa_cons (pv 3) (pa_cons (pv 4) (pa_cons (pv 7) pa_nil)))))))) (pw_or1 (pt_cmpR (op_neD hr.units) (pe_lc (own := [("_law_marks", 8)]) (g := (gName 8)) (tt := tYes) (te := tFld K (tVar 8) "size") rfl nd (pi_list (pv 7)) (blkOk_by (own := [("_law_marks", 8)]) (N := ["_law_script", "_law_pen_here", "_law_k", "_law_runs_here", "_law_others", "_law_one", "_law_other", "_law_made", "_law_marks", "_law_few", "_law_some", "_law_apart", "_law_both", "_law_size_here"]) (sc := defScope sLaw) (by decide +kernel)) (fun _ _ _ _ _ => (pg_name (i := 8) nd rfl (Or.inl rfl))) (fun _ _ _ _ _ => pts_nil) (fun _ _ _ _ _ => (pe_fld (pv 8) rfl))) (pe_op op_rep (pe_lst (pa_cons (pv 2) pa_nil)) pe_int) (nomark _)))))
        (pss_one (ps_ret pe_bl)) pss_nil)
      (pss_cons (ps_par3 (i := 9) (j := 10) (l := 11) rfl nd rfl rfl rfl (by decide) (by decide) (by decide) rfl rfl rfl (pa_cons (pe_call W.GCn (hr.mono (by decide)) (by rfl) W.gCn W.kCn W.bCn .nil pass0 (pa_cons (pv 3) (pa_cons (pv 2) pa_nil))) (pa_cons (pe_call W.GCn (hr.mono (by decide)) (by rfl) W.gCn W.kCn W.bCn .nil pass0 (pa_cons (pv 4) (pa_cons (pv 2) pa_nil))) (pa_cons (pe_call W.GCn (hr.mono (by decide)) (by rfl) W.gCn W.kCn W.bCn .nil pass0 (pa_cons (pe_op op_cat (pv 3) (pv 4)) (pa_cons (pv 2) pa_nil))) pa_nil))) (by rfl))
      (pss_cons (ps_set (i := 12) nd rfl (Or.inl rfl) (pe_op op_fdiv (pe_op op_sub (pe_op op_add (pv 9) (pv 10)) (pv 11)) pe_int))
      (pss_cons (ps_if (pt_cmpR (op_neD hr.units) (pe_lc (own := [("_law_marks", 8)]) (g := (gName 8)) (tt := tYes) (te := tMeth C "many" (spMany C) [] E0 (tVar 8) tNil) rfl nd (pi_list (pv 7)) (blkOk_by (own := [("_law_marks", 8)]) (N := ["_law_script", "_law_pen_here", "_law_k", "_law_runs_here", "_law_others", "_law_one", "_law_other", "_law_made", "_law_marks", "_law_few", "_law_some", "_law_apart", "_law_both", "_law_size_here"]) (sc := defScope sLaw) (by decide +kernel)) (fun _ _ _ _ _ => (pg_name (i := 8) nd rfl (Or.inl rfl))) (fun _ _ _ _ _ => pts_nil) (fun _ _ _ _ _ => (pe_meth0 (pv 8) W.M.c W.mM W.GM (hr.mono (by decide)) W.bM .nil pass0))) (pe_lst (pa_cons (pv 11) (pa_cons (pv 12) (pa_cons (pe_op op_add (pv 11) (pv 12)) (pa_cons (pe_op op_sub (pv 9) (pv 12)) (pa_cons (pe_op op_sub (pv 2) (pv 9)) pa_nil)))))) (nomark _))
        (pss_one (ps_ret pe_bl)) pss_nil)
      (pss_cons (ps_if (PW.pt (pw_or (pt_cmpR (op_neD hr.units) (pe_lc (own := [("_law_marks", 8)]) (g := (gName 8)) (tt := tYes) (te := tFld K (tVar 8) "depth") rfl nd (pi_list (pv 7)) (blkOk_by (own := [("_law_marks", 8)]) (N := ["_law_script", "_law_pen_here", "_law_k", "_law_runs_here", "_law_others", "_law_one", "_law_other", "_law_made", "_law_marks", "_law_few", "_law_some", "_law_apart", "_law_both", "_law_size_here"]) (sc := defScope sLaw) (by decide +kernel)) (fun _ _ _ _ _ => (pg_name (i := 8) nd rfl (Or.inl rfl))) (fun _ _ _ _ _ => pts_nil) (fun _ _ _ _ _ => (pe_fld (pv 8) rfl))) (pe_op op_rep (pe_lst (pa_cons pe_int pa_nil)) pe_int) (nomark _)) (pw_or (pt_cmpR op_ne (pe_meth0 (pv 5) W.M.c W.mM W.GM (hr.mono (by decide)) W.bM .nil pass0) (pv 9) (nomark _)) (pw_or1 (pt_cmpR op_ne (pe_meth0 (pv 6) W.M.c W.mM W.GM (hr.mono (by decide)) W.bM .nil pass0) (pv 10) (nomark _))))))
        (pss_one (ps_ret pe_bl)) pss_nil)
      (pss_cons (ps_if (PW.pt (pw_or (pt_not (pt_cmpR (op_eqOwnW W.TE W.TO GE (hr.mono (by decide)) W.bE) (pe_ix ix_list (pv 7) pe_int (fun _ _ => rfl)) (pe_makeD (E := fun _ => E0) W.mkc GI (hr.mono (by decide)) (by rfl) W.gM W.bI .nil passA0 (pa_cons (pv 2) (pa_cons (pe_op op_cat (pv 3) (pv 4)) pa_nil))) (nomark _))) (pw_or (pt_not (pt_cmpR (op_eqOwnW W.TE W.TO GE (hr.mono (by decide)) W.bE) (pe_ix ix_list (pv 7) pe_int (fun _ _ => rfl)) (pe_binO (E := fun _ => E0) W.iS W.jS W.sf GS (hr.mono (by decide)) W.bS passA0 (pe_ix ix_list (pv 7) pe_int (fun _ _ => rfl)) (pe_ix ix_list (pv 7) pe_int (fun _ _ => rfl))) (nomark _))) (pw_or1 (pt_not (pt_cmpR (op_eqOwnW W.TE W.TO GE (hr.mono (by decide)) W.bE) (pe_un (un_invO W.iV W.jV W.GV (hr.mono (by decide)) W.bV) (pe_ix ix_list (pv 7) pe_int (fun _ _ => rfl))) (pv 5) (nomark _)))))))
        (pss_one (ps_ret pe_bl)) pss_nil)
      (pss_cons (ps_if (PW.pt (pw_or (pt_not (pt_cmpR (op_eqOwnW W.TE W.TO GE (hr.mono (by decide)) W.bE) (pe_un (un_invO W.iV W.jV W.GV (hr.mono (by decide)) W.bV) (pe_binO (E := fun _ => E0) W.iA W.jA W.sf GA (hr.mono (by decide)) W.bA passA0 (pe_un (un_invO W.iV W.jV W.GV (hr.mono (by decide)) W.bV) (pv 5)) (pe_un (un_invO W.iV W.jV W.GV (hr.mono (by decide)) W.bV) (pv 6)))) (pe_ix ix_list (pv 7) pe_int (fun _ _ => rfl)) (nomark _))) (pw_or (pt_not (pt_val (pe_meth0 (pe_binO (E := fun _ => E0) W.iX W.jX W.sf GX (hr.mono (by decide)) W.bX passA0 (pv 5) (pv 5)) W.M.c W.mN W.GN (hr.mono (by decide)) W.bN .nil pass0))) (pw_or1 (pt_cmpR op_ne (pe_cmpR (op_eqOwnW W.TE W.TO GE (hr.mono (by decide)) W.bE) (pv 5) (pv 6) (nomark _)) (pe_cmpR op_eq (pv 11) pe_int (nomark _)) (nomark _))))))
        (pss_one (ps_ret pe_bl)) pss_nil)
      (pss_cons (ps_if (PW.pt (pw_or (pt_cmpR (op_eqOwnW W.TE W.TO GE (hr.mono (by decide)) W.bE) (pv 5) (pv 3) (nomark _)) (pw_or (pt_cmpR (op_eqOwnW W.TE W.TO GE (hr.mono (by decide)) W.bE) (pv 5) (pv 2) (nomark _)) (pw_or (pt_cmpR (op_eqOwnW W.TE W.TO GE (hr.mono (by decide)) W.bE) (pv 5) (pe_un (un_invO W.iV W.jV W.GV (hr.mono (by decide)) W.bV) (pv 5)) (nomark _)) (pw_or1 (pt_not (pt_cmpR (op_eqOwnW W.TE W.TO GE (hr.mono (by decide)) W.bE) (pv 5) (pe_makeD (E := fun _ => E0) W.mkc GI (hr.mono (by decide)) (by rfl) W.gM W.bI .nil passA0 (pa_cons (pv 2) (pa_cons (pe_callTy call_list_of (by rfl) W.list (by decide +kernel) (pa_cons (pv 3) pa_nil)) pa_nil))) (nomark _))))))))
        (pss_one (ps_ret pe_bl)) pss_nil)
      (pss_cons (ps_set (i := 13) nd rfl (Or.inl rfl) (pe_ifExp (pt_cmpR op_lt (pv 2) (pe_op op_sub (pe_op op_pow pe_int pe_int) pe_int) (nomark _)) (pe_op op_add (pe_op op_add (pv 2) pe_int) (pe_call W.GD (hr.mono (by decide)) (by rfl) W.gD W.kD W.bD .nil pass0 (pa_cons (pv 1) (pa_cons pe_int pa_nil)))) (pe_op op_sub (pe_op op_sub (pv 2) pe_int) (pe_call W.GD (hr.mono (by decide)) (by rfl) W.gD W.kD W.bD .nil pass0 (pa_cons (pv 1) (pa_cons pe_int pa_nil))))))
      (pss_one (ps_ret (pe_call W.GSr (hr.mono (by decide)) (by rfl) W.gSr W.kSr W.bSr .nil pass0 (pa_cons (pv 5) (pa_cons (pe_makeD (E := fun _ => E0) W.mkc GI (hr.mono (by decide)) (by rfl) W.gM W.bI .nil passA0 (pa_cons (pv 13) (pa_cons (pe_ifExp (pt_cmpR op_gt (pv 13) (pv 2) (nomark _)) (pe_slice sl_list (pv 3) po_none (po_some pe_int)) (pe_lst pa_nil)) pa_nil))) pa_nil))))))))))))))))))), ?_⟩
    -- BODY
    refine ⟨_, rfl, a0, ns, rfl, ha, hn, fun p c H1 s01 hp0 hc0 p1 => ?_⟩
    refine ⟨_, rfl, p, c, _, rfl, p1, by omega, fun k H2 k1 k2 b2 p2 => ?_⟩
    obtain ⟨kn, rfl⟩ : ∃ kn : Nat, k = (kn : Nat) := ⟨k.toNat, by omega⟩
    refine ⟨_, rfl, _, rfl, _, rfl, p, c, 4, _, rfl, p2, by omega, by decide, by decide, fun r H3 r0 r1 b3 p3 => ?_⟩
    obtain ⟨m, rfl⟩ : ∃ m : Nat, r = (m : Nat) := ⟨r.toNat, by omega⟩
    refine ⟨p, c, (kn : Nat), m, _, rfl, k1, k2, by omega, p3, by omega, fun R xs rs H4 lrs ro b4 hR eR rt p4 => ?_⟩
    refine ⟨_, rfl, _, rfl, _, rfl, p, c, 4, _, rfl, p4, by omega, by decide, by decide, fun r H5 r0 r1 b5 p5 => ?_⟩
    obtain ⟨m2, rfl⟩ : ∃ m : Nat, r = (m : Nat) := ⟨r.toNat, by omega⟩
    refine ⟨p, c, (kn : Nat), m2, _, rfl, k1, k2, by omega, p5, by omega, fun S ys qs H6 lqs qo b6 hS eS qt p6 => ?_⟩
    refine ⟨_, _, rfl, ?_⟩
    have k0 : (0 : Int) < (kn : Nat) := by omega
    have eR6 := but_lst b6 p5 (but_lst b5 p4 eR)
    have rt6 := (rt.keep (TK.but b5 p4)).keep (TK.but b6 p5)
    have pt6 := but_tbl b6 p5 (but_tbl b5 p4 (but_tbl b4 p3 (but_tbl b3 p2 (but_tbl b2 p1 (s01 _ _ hPT)))))
    have lx := rt.any.length
    have ly := qt.any.length
    refine ⟨_, rfl, _, rfl, make_marks k1 k2 (.inl (SqL.of eR6)) rt6.any ro (by omega) fun M L H7 s7 hM hL mL => ?_⟩
    refine ⟨_, rfl, _, rfl, make_marks k1 k2 (.inl (SqL.of (s7 _ _ eS))) (qt.same s7).any qo (by omega) fun N L2 H8 s8 hN hL2 mL2 => ?_⟩
    refine ⟨_, _, rfl, ?_⟩
    have s68 := s7.trans s8
    have g8 : Gd C PT p c M N R S (kn : Nat) xs ys rs qs H8 250 := ⟨(FMk.of_runs (mL.at_.same s8) k0 ro).mono (by omega), (FMk.of_runs mL2.at_ k0 qo).mono (by omega), s68 _ _ eR6, rt6.keep (TK.same s68), s68 _ _ eS, qt.keep (TK.same s68), (p6.same s68).mono (by omega), s68 _ _ pt6⟩
    have k30 : ((kn : Nat) : Int) ≤ 10 ^ 30 := k2
    have bin : ∀ {H9 : Hp} {g : Nat → Nat → Nat} {gb : Bool → Bool → Bool} {Q : VK} {a b : Addr} {f h : Int → Bool} {i j : Nat}, FMk C H9 a (kn : Nat) f i → FMk C H9 b (kn : Nat) h j → i + j ≤ 40 → (∀ m n i, (g m n).testBit i = gb (m.testBit i) (n.testBit i)) →
        (∀ (r : Addr) (H' : Hp), Same H9 H' → H9 r = none → FMk C H' r (kn : Nat) (fun j => gb (f j) (h j)) 40 → Q (.ref r) H') → ∃ (a' dx : Addr) (fs : List (Str × V)) (b' dy : Addr) (gs : List (Str × V)), V.ref a = .ref a' ∧ H9 a' = some (.ins C dx fs) ∧ V.ref b = .ref b' ∧ H9 b' = some (.ins C dy gs) ∧ spOpM C CZ g [.ref a, .ref b] H9 (fun v H' => (∃ c : Addr, v = .ref c) ∧ Q v H') E0 := fun {H9 g gb Q a b f h i j} x y le hg hq => by
      obtain ⟨dx, L9, hA⟩ := x.obj
      obtain ⟨dy, M9, hB⟩ := y.obj
      exact ⟨a, dx, _, b, dy, _, rfl, hA, rfl, hB, FMk.op x y k30 (by omega) hg fun r H' s hr m => ⟨⟨r, rfl⟩, hq r H' s hr (m.mono le)⟩⟩
    have tX : ∀ m n i, (m ^^^ n : Nat).testBit i = ((m.testBit i) ^^ (n.testBit i)) := fun m n i => Nat.testBit_xor ..
    have tA : ∀ m n i, (m &&& n : Nat).testBit i = ((m.testBit i) && (n.testBit i)) := fun m n i => Nat.testBit_and ..
    have tO : ∀ m n i, (m ||| n : Nat).testBit i = ((m.testBit i) || (n.testBit i)) := fun m n i => Nat.testBit_or ..
    have tS : ∀ m n i, (gSubM m n).testBit i = ((m.testBit i) && !(n.testBit i)) := fun m n i => by
      unfold gSubM
      rw [Nat.testBit_xor, Nat.testBit_and]
      cases m.testBit i <;> cases n.testBit i <;> rfl
    refine ⟨_, rfl, _, rfl, bin (g := (· ^^^ ·)) (gb := fun a b => a ^^ b) g8.m1 g8.m2 (by decide) tX fun r1 H9 s9 n9 f1 => ?_⟩
    have g9 := g8.same s9
    refine ⟨_, rfl, _, rfl, bin (g := (· &&& ·)) (gb := fun a b => a && b) g9.m1 g9.m2 (by decide) tA fun r2 H10 s10 n10 f2 => ?_⟩
    have g10 := g9.same s10
    refine ⟨_, rfl, _, rfl, bin (g := (· ||| ·)) (gb := fun a b => a || b) g10.m1 g10.m2 (by decide) tO fun r3 H11 s11 n11 f3 => ?_⟩
    have g11 := g10.same s11
    refine ⟨_, rfl, _, rfl, bin (g := gSubM) (gb := fun a b => a && !b) g11.m1 g11.m2 (by decide) tS fun r4 H12 s12 n12 f4 => ?_⟩
    have g12 := g11.same s12
    obtain ⟨dx12, L12, hA12⟩ := g12.m1.obj
    refine ⟨_, rfl, M, dx12, _, rfl, hA12, FMk.inv g12.m1 k30 fun r5 H13 s13 n13 f5 => ?_⟩
    refine ⟨by show 5 ≤ sizeLine; decide, fun D hD => ?_⟩
    have s14 := same_upd (o := .lst [.ref r1, .ref r2, .ref r3, .ref r4, .ref r5]) hD
    have eD : upd H13 D (.lst [.ref r1, .ref r2, .ref r3, .ref r4, .ref r5]) D = some (.lst [.ref r1, .ref r2, .ref r3, .ref r4, .ref r5]) := upd_same
    generalize upd H13 D (.lst [.ref r1, .ref r2, .ref r3, .ref r4, .ref r5]) = H14 at *
    have g14 := (g12.same s13).same s14
    have md : MadeA C H14 (kn : Nat) 40 [.ref r1, .ref r2, .ref r3, .ref r4, .ref r5] (fiveF (oddR rs) (oddR qs)) :=
      .cons (f1.same (s10.trans (s11.trans (s12.trans (s13.trans s14))))) (.cons (f2.same (s11.trans (s12.trans (s13.trans s14)))) (.cons (f3.same (s12.trans (s13.trans s14))) (.cons (f4.same (s13.trans s14)) (.cons ((f5.mono (by decide)).same s14) .nil))))
    refine ⟨_, rfl, _, rfl, _, rfl, _, rfl, _, rfl, p, c, R, S, D, (kn : Nat), 250, xs, ys, _, rs, qs, rfl, k1, k2, g14.pn, by omega, g14.eR, g14.rt, by omega, ro, g14.eS, g14.qt, by omega, qo, eD, md, fun H15 b15 p15 => ⟨_, rfl, iteF ?_⟩⟩
    have g15 := g14.but b15 p15
    have eD15 := but_lst b15 g14.pn eD
    have md15 := md.but b15 g14.pn
    have comp : ∀ {H16 : Hp}, Same H15 H16 → H16 D = some (.lst [.ref r1, .ref r2, .ref r3, .ref r4, .ref r5]) ∧ MadeA C H16 (kn : Nat) 40 [.ref r1, .ref r2, .ref r3, .ref r4, .ref r5] (fiveF (oddR rs) (oddR qs)) := fun s => ⟨s _ _ eD15, md15.same s⟩
    refine ⟨_, rfl, D, rfl, ⟨_, SqL.of eD15⟩, fun B hB => ?_⟩
    refine lc_list (a := D) (xs := [.ref r1, .ref r2, .ref r3, .ref r4, .ref r5]) (fun i H9 => Same H15 H9 ∧ H9 B = some (.lst (List.replicate i (.int (kn : Nat))))) ⟨same_upd hB, upd_same⟩ (fun i H9 _ z => SqL.of (z.1 _ _ eD15)) ?_ ?_
    · rintro i v H9 hv ⟨s9, eB⟩
      have hi : i < 5 := (List.getElem?_eq_some_iff.mp hv).1
      obtain ⟨m, f, rfl, ix, fm⟩ := (md15.same s9).get hv
      obtain ⟨dx, L9, hA⟩ := fm.obj
      refine ⟨rfl, _, rfl, m, C, dx, _, .int (kn : Nat), rfl, hA, W.M.c, W.M.size, rfl, _, eB, ?_, same_fresh hB s9, ?_⟩
      · refine Nat.lt_of_lt_of_le ?_ kz
        rw [List.length_replicate]
        omega
      · rw [upd_same, List.replicate_succ']
    · rintro H16 ⟨s16, eB⟩
      rw [show (List.replicate ([.ref r1, .ref r2, .ref r3, .ref r4, .ref r5] : List V).length (V.int (kn : Nat))) = [.int (kn : Nat), .int (kn : Nat), .int (kn : Nat), .int (kn : Nat), .int (kn : Nat)] from rfl] at eB
      refine ⟨_, rfl, by show 1 ≤ sizeLine; decide, fun Z hZ => ⟨Z, 5, _, rfl, rfl, upd_same, by decide, by decide, by show 1 * 5 ≤ sizeLine; decide, fun Y hY => ?_⟩⟩
      have s17 := (same_upd (o := .lst [.int (kn : Nat)]) hZ).trans (same_upd (o := .lst (List.replicate (5 : Int).toNat [.int (kn : Nat)]).flatten) hY)
      have eY : upd (upd H16 Z (.lst [.int (kn : Nat)])) Y (.lst (List.replicate (5 : Int).toNat [.int (kn : Nat)]).flatten) Y = some (.lst [.int (kn : Nat), .int (kn : Nat), .int (kn : Nat), .int (kn : Nat), .int (kn : Nat)]) := upd_same
      generalize upd (upd H16 Z (.lst [.int (kn : Nat)])) Y (.lst (List.replicate (5 : Int).toNat [.int (kn : Nat)]).flatten) = H17 at *
      refine ⟨.list [.int (kn : Nat), .int (kn : Nat), .int (kn : Nat), .int (kn : Nat), .int (kn : Nat)], .list [.int (kn : Nat), .int (kn : Nat), .int (kn : Nat), .int (kn : Nat), .int (kn : Nat)], .lst (SqL.of (s17 _ _ eB)) (.cons (.int _) (.cons (.int _) (.cons (.int _) (.cons (.int _) (.cons (.int _) .nil))))), .lst (SqL.of eY) (.cons (.int _) (.cons (.int _) (.cons (.int _) (.cons (.int _) (.cons (.int _) .nil))))), by rfl, by rfl, ?_⟩
      have ev : ∀ a b c d e : Int, PyData.eqv (.list [.int a, .int b, .int c, .int d, .int e]) (.list [.int a, .int b, .int c, .int d, .int e]) = true := fun a b c d e => by simp [PyData.eqv, PyData.eqvAll]
      rw [ev]
      refine ⟨_, rfl, iteF (nxt ?_)⟩
      dsimp only
      have g17 := g15.same (s16.trans s17)
      have l8 : rs.length ≤ 8 := by omega
      have l8' : qs.length ≤ 8 := by omega
      refine ⟨_, rfl, _, rfl, R, (kn : Nat), (kn : Nat), xs, rs, rfl, g17.eR, g17.rt, l8, ro, by omega, fun H18 s18 => ?_⟩
      have g18 := g17.same s18
      refine ⟨_, rfl, _, rfl, S, (kn : Nat), (kn : Nat), ys, qs, rfl, g18.eS, g18.qt, l8', qo, by omega, fun H19 s19 => ?_⟩
      have g19 := g18.same s19
      have roq : ∀ r ∈ rs ++ qs, RunOk r (kn : Nat) := fun r h => (List.mem_append.mp h).elim (ro r) (qo r)
      refine ⟨_, rfl, _, rfl, R, S, xs, ys, rfl, rfl, g19.eR, g19.eS, Nat.le_trans (show xs.length + ys.length ≤ 1000 by omega) kz, fun U hU => ?_⟩
      have s20 := same_upd (o := .lst (xs ++ ys)) hU
      have g20 := g19.same s20
      refine ⟨_, rfl, U, (kn : Nat), (kn : Nat), xs ++ ys, rs ++ qs, rfl, upd_same, g20.rt.app g20.qt, by rw [List.length_append]; omega, roq, by omega, fun H21 s21 => ?_⟩
      have g21 := g20.same s21
      rw [Int.toNat_natCast]
      refine ⟨_, _, _, rfl, ?_⟩
      have e1 : cntO rs kn = cB (oddR rs) kn := rfl
      have e2 : cntO qs kn = cB (oddR qs) kn := rfl
      have e3 : cntO (rs ++ qs) kn = cB (fun j => oddR rs j ^^ oddR qs j) kn := cB_congr (f := oddR (rs ++ qs)) fun j _ => oddR_app rs qs _
      obtain ⟨q1, q2, q3, q4⟩ := cB_rel (oddR rs) (oddR qs) kn
      rw [e1, e2, e3]
      obtain ⟨few, hfew⟩ : ∃ n, cB (oddR rs) kn = n := ⟨_, rfl⟩
      obtain ⟨some_, hsome⟩ : ∃ n, cB (oddR qs) kn = n := ⟨_, rfl⟩
      obtain ⟨apart, hap⟩ : ∃ n, cB (fun j => oddR rs j ^^ oddR qs j) kn = n := ⟨_, rfl⟩
      obtain ⟨both, hbo⟩ : ∃ n, cB (fun j => oddR rs j && oddR qs j) kn = n := ⟨_, rfl⟩
      obtain ⟨nor, hor⟩ : ∃ n, cB (fun j => oddR rs j || oddR qs j) kn = n := ⟨_, rfl⟩
      obtain ⟨nsu, hsu⟩ : ∃ n, cB (fun j => oddR rs j && !oddR qs j) kn = n := ⟨_, rfl⟩
      obtain ⟨nno, hno⟩ : ∃ n, cB (fun j => !oddR rs j) kn = n := ⟨_, rfl⟩
      rw [hfew, hsome, hap, hbo] at q1
      rw [hor, hap, hbo] at q2
      rw [hsu, hbo, hfew] at q3
      rw [hno, hfew] at q4
      rw [hfew, hsome, hap]
      refine ⟨_, rfl, _, rfl, (few : Nat), (some_ : Nat), rfl, rfl, _, rfl, _, (apart : Nat), rfl, rfl, ?_⟩
      have eb : ((few : Int) + (some_ : Nat) - (apart : Nat)) / 2 = (both : Nat) := by omega
      refine ⟨_, 2, rfl, rfl, ⟨by decide, by decide⟩, ?_⟩
      show gName 12 (V.int (((few : Int) + (some_ : Nat) - (apart : Nat)) / 2)) _ _ _
      rw [eb]
      have s1521 := ((s16.trans s17).trans (s18.trans s19)).trans (s20.trans s21)
      obtain ⟨eD21, md21⟩ := comp s1521
      refine ⟨_, rfl, D, rfl, ⟨_, SqL.of eD21⟩, fun B2 hB2 => ?_⟩
      refine lc_list (a := D) (xs := [.ref r1, .ref r2, .ref r3, .ref r4, .ref r5]) (fun i H9 => Same H21 H9 ∧ H9 B2 = some (.lst (((fiveF (oddR rs) (oddR qs)).take i).map fun f => V.int (cB f kn : Nat)))) ⟨same_upd hB2, upd_same⟩ (fun i H9 _ z => SqL.of (z.1 _ _ eD21)) ?_ ?_
      · rintro i v H9 hv ⟨s9, eB⟩
        have hi : i < 5 := (List.getElem?_eq_some_iff.mp hv).1
        obtain ⟨m, f, rfl, ix, fm⟩ := (md21.same s9).get hv
        obtain ⟨P9, p1, p2, p3⟩ := fm.ex
        obtain ⟨dx, L9, zs, hA, _, _⟩ := p1.ex
        refine ⟨rfl, _, rfl, m, dx, _, rfl, hA, rfl, m, P9, 0, (kn : Nat), rfl, p1, fun H10 s10 => ?_⟩
        rw [nMk_cB p3, Int.toNat_natCast]
        have eB10 := s10 _ _ eB
        refine ⟨_, eB10, ?_, same_fresh hB2 (s9.trans s10), ?_⟩
        · refine Nat.lt_of_lt_of_le ?_ kz
          rw [List.length_map, List.length_take]
          show min i 5 < 1000
          omega
        · rw [upd_same, List.take_succ, ix, List.map_append]
          rfl
      · rintro H22 ⟨s22, eB⟩
        rw [show ((fiveF (oddR rs) (oddR qs)).take ([.ref r1, .ref r2, .ref r3, .ref r4, .ref r5] : List V).length) = fiveF (oddR rs) (oddR qs) from rfl] at eB
        have e5 : ((fiveF (oddR rs) (oddR qs)).map fun f => V.int (cB f kn : Nat)) = [.int (apart : Nat), .int (both : Nat), .int ((apart : Nat) + (both : Nat)), .int ((few : Nat) - (both : Nat)), .int ((kn : Nat) - (few : Nat))] := by
          show [V.int (cB (fun j => oddR rs j ^^ oddR qs j) kn : Nat), V.int (cB (fun j => oddR rs j && oddR qs j) kn : Nat), V.int (cB (fun j => oddR rs j || oddR qs j) kn : Nat), V.int (cB (fun j => oddR rs j && !oddR qs j) kn : Nat), V.int (cB (fun j => !oddR rs j) kn : Nat)] = _
          rw [hap, hbo, hor, hsu, hno, show ((nor : Nat) : Int) = (apart : Nat) + (both : Nat) by omega, show ((nsu : Nat) : Int) = (few : Nat) - (both : Nat) by omega, show ((nno : Nat) : Int) = (kn : Nat) - (few : Nat) by omega]
        rw [e5] at eB
        refine ⟨_, rfl, _, rfl, _, rfl, _, rfl, (apart : Nat), (both : Nat), rfl, rfl, _, rfl, _, rfl, (few : Nat), (both : Nat), rfl, rfl, _, rfl, _, rfl, (kn : Nat), (few : Nat), rfl, rfl, by show 5 ≤ sizeLine; decide, fun Y2 hY2 => ?_⟩
        have s23 := same_upd (o := .lst [.int (apart : Nat), .int (both : Nat), .int ((apart : Nat) + (both : Nat)), .int ((few : Nat) - (both : Nat)), .int ((kn : Nat) - (few : Nat))]) hY2
        refine ⟨.list [.int (apart : Nat), .int (both : Nat), .int ((apart : Nat) + (both : Nat)), .int ((few : Nat) - (both : Nat)), .int ((kn : Nat) - (few : Nat))], .list [.int (apart : Nat), .int (both : Nat), .int ((apart : Nat) + (both : Nat)), .int ((few : Nat) - (both : Nat)), .int ((kn : Nat) - (few : Nat))], .lst (SqL.of (s23 _ _ eB)) (.cons (.int _) (.cons (.int _) (.cons (.int _) (.cons (.int _) (.cons (.int _) .nil))))), .lst (SqL.of upd_same) (.cons (.int _) (.cons (.int _) (.cons (.int _) (.cons (.int _) (.cons (.int _) .nil))))), by rfl, by rfl, ?_⟩
        rw [ev]
        refine ⟨_, rfl, iteF (nxt ?_)⟩
        dsimp only
        have eY23 : upd H22 Y2 (.lst [.int (apart : Nat), .int (both : Nat), .int ((apart : Nat) + (both : Nat)), .int ((few : Nat) - (both : Nat)), .int ((kn : Nat) - (few : Nat))]) Y2 = some (.lst [.int (apart : Nat), .int (both : Nat), .int ((apart : Nat) + (both : Nat)), .int ((few : Nat) - (both : Nat)), .int ((kn : Nat) - (few : Nat))]) := upd_same
        generalize upd H22 Y2 (.lst [.int (apart : Nat), .int (both : Nat), .int ((apart : Nat) + (both : Nat)), .int ((few : Nat) - (both : Nat)), .int ((kn : Nat) - (few : Nat))]) = H23 at *
        have s1523 := s1521.trans (s22.trans s23)
        have g23 := g15.same s1523
        obtain ⟨eD23, md23⟩ := comp s1523
        clear eY23 eB e5
        refine ⟨_, rfl, D, rfl, ⟨_, SqL.of eD23⟩, fun B3 hB3 => ?_⟩
        refine lc_list (a := D) (xs := [.ref r1, .ref r2, .ref r3, .ref r4, .ref r5]) (fun i H9 => Same H23 H9 ∧ H9 B3 = some (.lst (List.replicate i (.int ((0 : Nat) : Int))))) ⟨same_upd hB3, upd_same⟩ (fun i H9 _ z => SqL.of (z.1 _ _ eD23)) ?_ ?_
        · rintro i v H9 hv ⟨s9, eB⟩
          have hi : i < 5 := (List.getElem?_eq_some_iff.mp hv).1
          obtain ⟨m, f, rfl, ix, fm⟩ := (md23.same s9).get hv
          obtain ⟨dx, L9, hA⟩ := fm.obj
          refine ⟨rfl, _, rfl, m, C, dx, _, .int ((0 : Nat) : Int), rfl, hA, W.M.c, W.M.depth, rfl, _, eB, ?_, same_fresh hB3 s9, ?_⟩
          · refine Nat.lt_of_lt_of_le ?_ kz
            rw [List.length_replicate]
            omega
          · rw [upd_same, List.replicate_succ']
        · rintro H24 ⟨s24, eB⟩
          have eB : H24 B3 = some (.lst [.int 0, .int 0, .int 0, .int 0, .int 0]) := eB
          refine ⟨by show 1 ≤ sizeLine; decide, fun Z3 hZ3 => ⟨Z3, 5, _, rfl, rfl, upd_same, by decide, by decide, by show 1 * 5 ≤ sizeLine; decide, fun Y3 hY3 => ?_⟩⟩
          have s25 := (same_upd (o := .lst [.int 0]) hZ3).trans (same_upd (o := .lst (List.replicate (5 : Int).toNat [.int 0]).flatten) hY3)
          have eY : upd (upd H24 Z3 (.lst [.int 0])) Y3 (.lst (List.replicate (5 : Int).toNat [.int 0]).flatten) Y3 = some (.lst [.int 0, .int 0, .int 0, .int 0, .int 0]) := upd_same
          generalize upd (upd H24 Z3 (.lst [.int 0])) Y3 (.lst (List.replicate (5 : Int).toNat [.int 0]).flatten) = H25 at *
          refine ⟨.list [.int 0, .int 0, .int 0, .int 0, .int 0], .list [.int 0, .int 0, .int 0, .int 0, .int 0], .lst (SqL.of (s25 _ _ eB)) (.cons (.int _) (.cons (.int _) (.cons (.int _) (.cons (.int _) (.cons (.int _) .nil))))), .lst (SqL.of eY) (.cons (.int _) (.cons (.int _) (.cons (.int _) (.cons (.int _) (.cons (.int _) .nil))))), by rfl, by rfl, ?_⟩
          rw [ev]
          refine ⟨_, rfl, iteF ?_⟩
          have bnot : ∀ x : V, (!decide (x = x)) = false := fun x => by rw [decide_eq_true rfl]; rfl
          have s1525 := s1523.trans (s24.trans s25)
          have g25 := g15.same s1525
          obtain ⟨P1, p1, _, p3⟩ := g25.m1.ex
          obtain ⟨dx, L9, zs, hA, _, _⟩ := p1.ex
          refine ⟨_, rfl, M, dx, _, rfl, hA, rfl, M, P1, 0, (kn : Nat), rfl, p1, fun H26 s26 => ⟨_, rfl, rfl, _, rfl, ?_⟩⟩
          rw [nMk_cB p3, Int.toNat_natCast, hfew, bnot]
          refine iteF ?_
          have g26 := g25.same s26
          obtain ⟨P2, p1, _, p3⟩ := g26.m2.ex
          obtain ⟨dx, L9, zs, hA, _, _⟩ := p1.ex
          refine ⟨_, rfl, N, dx, _, rfl, hA, rfl, N, P2, 0, (kn : Nat), rfl, p1, fun H27 s27 => ⟨_, rfl, rfl, _, rfl, ?_⟩⟩
          rw [nMk_cB p3, Int.toNat_natCast, hsome, bnot]
          refine iteF (nxt ?_)
          dsimp only
          have s1527 := s1525.trans (s26.trans s27)
          have g27 := g15.same s1527
          obtain ⟨eD27, md27⟩ := comp s1527
          obtain ⟨m1, m2, m3, m5⟩ := made5 md27
          -- made[0] == Marks(k, runs + others)
          refine ⟨_, rfl, D, _, 0, _, rfl, rfl, SqL.of eD27, rfl, _, rfl, _, rfl, _, rfl, R, S, xs, ys, rfl, rfl, g27.eR, g27.eS, Nat.le_trans (show xs.length + ys.length ≤ 1000 by omega) kz, fun U2 hU2 => ?_⟩
          have s28 := same_upd (o := .lst (xs ++ ys)) hU2
          have g28 := g27.same s28
          refine make_marks k1 k2 (.inl (SqL.of upd_same)) (g28.rt.app g28.qt).any roq (by rw [List.length_append]; omega) fun M2 L3 H29 s29 hM2 hL3 mL3 => ?_
          have s2729 := s28.trans s29
          refine eqT_use (m1.same s2729) (FMk.of_runs mL3.at_ k0 roq) (fun j => (oddR_app rs qs j).symm) fun H30 s30 => ⟨_, rfl, iteF ?_⟩
          have s2730 := s2729.trans s30
          -- made[0] == made[2] - made[1]
          refine ⟨_, rfl, D, _, 0, _, rfl, rfl, SqL.of (s2730 _ _ eD27), rfl, _, rfl, D, _, 2, _, rfl, rfl, SqL.of (s2730 _ _ eD27), rfl, _, rfl, D, _, 1, _, rfl, rfl, SqL.of (s2730 _ _ eD27), rfl, bin_use (g := gSubM) (gb := fun a b => a && !b) (m3.same s2730) (m2.same s2730) k30 (by decide) tS fun ra H31 s31 n31 f31 => ?_⟩
          have s2731 := s2730.trans s31
          refine eqT_use (m1.same s2731) f31 (fun j => by cases oddR rs j <;> cases oddR qs j <;> rfl) fun H32 s32 => ⟨_, rfl, iteF ?_⟩
          have s2732 := s2731.trans s32
          -- ~made[4] == one
          refine ⟨_, rfl, D, _, 4, _, rfl, rfl, SqL.of (s2732 _ _ eD27), rfl, inv_use (m5.same s2732) k30 fun rb H33 s33 n33 f33 => ?_⟩
          have s2733 := s2732.trans s33
          refine ⟨_, rfl, eqT_use f33 (g27.m1.same s2733) (fun j => Bool.not_not _) fun H34 s34 => ⟨_, rfl, iteF (nxt ?_)⟩⟩
          have s2734 := s2733.trans s34
          have g34 := g27.same s2734
          -- ~(~one & ~other) == made[2]
          refine ⟨_, rfl, inv_use g34.m1 k30 fun rc H35 s35 n35 f35 => ?_⟩
          refine ⟨_, rfl, inv_use (g34.m2.same s35) k30 fun rd H36 s36 n36 f36 => ?_⟩
          refine bin_use (g := (· &&& ·)) (gb := fun a b => a && b) (f35.same s36) f36 k30 (by decide) tA fun re H37 s37 n37 f37 => ?_
          refine inv_use f37 k30 fun rf H38 s38 n38 f38 => ?_
          have s2738 := s2734.trans (s35.trans (s36.trans (s37.trans s38)))
          refine ⟨_, rfl, D, _, 2, _, rfl, rfl, SqL.of (s2738 _ _ eD27), rfl, eqT_use f38 (m3.same s2738) (fun j => by cases oddR rs j <;> cases oddR qs j <;> rfl) fun H39 s39 => ⟨_, rfl, iteF ?_⟩⟩
          have s2739 := s2738.trans s39
          have g39 := g27.same s2739
          -- (one ^ one).is_none()
          refine ⟨_, rfl, _, rfl, bin_use (g := (· ^^^ ·)) (gb := fun a b => a ^^ b) g39.m1 g39.m1 k30 (by decide) tX fun rg H40 s40 n40 f40 => ?_⟩
          obtain ⟨P4, p1, _, p3⟩ := f40.ex
          obtain ⟨dx4, L4, zs4, hA4, _, _⟩ := p1.ex
          have e0 : decide (nMk P4 (12 * 2 ^ 0) ((kn : Nat) : Int).toNat = 0) = true := by
            rw [nMk_cB p3, cB_zero fun j _ => Bool.xor_self _]
            rfl
          refine ⟨rg, dx4, _, rfl, hA4, rfl, rg, P4, 0, (kn : Nat), rfl, p1, fun H41 s41 => ⟨true, congrArg V.bl e0, iteF ?_⟩⟩
          have s2741 := s2739.trans (s40.trans s41)
          have g41 := g27.same s2741
          -- (one == other) != (apart == 0)
          refine ⟨_, rfl, _, rfl, eq_use g41.m1 g41.m2 fun H42 s42 => ?_⟩
          have e1 : (!decide (V.bl (decide (cB (fun j => oddR rs j ^^ oddR qs j) ((kn : Nat) : Int).toNat = 0)) = V.bl (decide (V.int (apart : Nat) = V.int 0)))) = false := by
            rw [Int.toNat_natCast, hap]
            have z : decide (apart = 0) = decide (V.int (apart : Nat) = V.int 0) := by
              rw [decide_eq_decide]
              exact ⟨fun z => by rw [z]; rfl, fun z => by have := V.int.inj z; omega⟩
            rw [z, decide_eq_true rfl]
            rfl
          refine ⟨_, rfl, rfl, rfl, false, congrArg V.bl e1, iteF (nxt ?_)⟩
          have g42 := g41.same s42
          -- one == runs, one == k, one == ~one
          refine ⟨_, rfl, _, rfl, eqN_use g42.m1 (.inr ⟨R, xs, rfl, g42.eR⟩) ⟨_, rfl, iteF ?_⟩⟩
          refine ⟨_, rfl, _, rfl, eqN_use g42.m1 (.inl ⟨_, rfl⟩) ⟨_, rfl, iteF ?_⟩⟩
          refine ⟨_, rfl, _, rfl, inv_use g42.m1 k30 fun rh H43 s43 n43 f43 => ?_⟩
          have e2 : decide (cB (fun j => oddR rs j ^^ !oddR rs j) ((kn : Nat) : Int).toNat = 0) = false := by
            rw [cB_all fun j _ => by show (oddR rs j ^^ !oddR rs j) = true; cases oddR rs j <;> rfl]
            exact decide_eq_false (by omega)
          refine eq_use (g42.m1.same s43) f43 fun H44 s44 => ⟨false, congrArg V.bl e2, iteF ?_⟩
          have g44 := (g42.same s43).same s44
          -- one == Marks(k, list(runs))
          refine ⟨_, rfl, _, rfl, _, rfl, R, xs, rfl, .inl (SqL.of g44.eR), fun D2 hD2 => ?_⟩
          have s45 := same_upd (o := .lst xs) hD2
          have g45 := g44.same s45
          refine make_marks k1 k2 (.inl (SqL.of upd_same)) g45.rt.any ro (by omega) fun M3 L5 H46 s46 hM3 hL5 mL5 => ?_
          refine eqT_use (g45.m1.same s46) (FMk.of_runs mL5.at_ k0 ro) (fun j => rfl) fun H47 s47 => ⟨_, rfl, iteF (nxt ?_)⟩
          have g47 := (g45.same s46).same s47
          -- the size of a third one
          refine ⟨_, rfl, 10, 30, rfl, rfl, ⟨by decide, by decide, by decide⟩, _, 5, rfl, rfl, _, _, rfl, rfl, decide (((kn : Nat) : Int) < 10 ^ (30 : Nat) - 5), rfl, ?_⟩
          cases hb5 : decide (((kn : Nat) : Int) < 10 ^ (30 : Nat) - 5)
          rotate_left
          · have e' : ((kn : Nat) : Int) < 10 ^ 30 - 5 := of_decide_eq_true hb5
            refine iteT ?_
            refine ⟨_, rfl, _, 1, rfl, rfl, _, rfl, p, c, 5, _, rfl, g47.pn, by omega, by decide, by decide, fun r H48 r0 r1 b48 p48 => ⟨_, _, rfl, rfl, ?_⟩⟩
            have g48 := g47.but b48 p48
            refine ⟨_, rfl, _, rfl, _, rfl, _, rfl, _, _, rfl, rfl, _, rfl, ite_dec (fun _ => ?_) (fun z => absurd (show ((kn : Nat) : Int) + 1 + r > (kn : Nat) by omega) z)⟩
            refine ⟨_, rfl, 1, rfl, R, xs, rfl, SqL.of g48.eR, fun Y5 hY5 => ?_⟩
            have s49 := same_upd (o := .lst (cutV xs none (some 1))) hY5
            have g49 := g48.same s49
            have rot : ∀ r' ∈ rs.take 1, RunOk r' ((kn : Nat) + 1 + r) := fun r' h' => by
              have q := ro r' (List.mem_of_mem_take h')
              exact ⟨q.f0, q.fl, by have := q.ls; omega, q.c1, q.c4⟩
            have e9 : upd H48 Y5 (.lst (cutV xs none (some 1))) Y5 = some (.lst (xs.take 1)) := by rw [upd_same, cut_one]
            refine make_marks (by omega) (by omega) (.inl (SqL.of e9)) (g49.rt.take 1).any rot (by rw [List.length_take]; omega) fun M4 L6 H50 s50 hM4 hL6 mL6 => ?_
            have g50 := g49.same s50
            exact ⟨M, M4, _, _, _, _, _, _, rfl, g50.m1, FMk.of_runs mL6.at_ (by omega) rot, k30, by rw [List.length_take]; omega, by omega, g50.pt, fun H' => hQ H'⟩
          · have e' : ¬ ((kn : Nat) : Int) < 10 ^ 30 - 5 := of_decide_eq_false hb5
            refine iteF ?_
            refine ⟨_, rfl, _, 1, rfl, rfl, _, rfl, p, c, 5, _, rfl, g47.pn, by omega, by decide, by decide, fun r H48 r0 r1 b48 p48 => ⟨_, _, rfl, rfl, ?_⟩⟩
            have g48 := g47.but b48 p48
            refine ⟨_, rfl, _, rfl, _, rfl, _, rfl, _, _, rfl, rfl, _, rfl, ite_dec (fun z => absurd z (show ¬ ((kn : Nat) : Int) - 1 - r > (kn : Nat) by omega)) (fun _ => ?_)⟩
            refine ⟨by show 0 ≤ sizeLine; decide, fun Y5 hY5 => ?_⟩
            have s49 := same_upd (o := .lst []) hY5
            have g49 := g48.same s49
            refine make_marks (rs := []) (by omega) (by omega) (.inl (SqL.of upd_same)) .nil (fun r' h' => absurd h' List.not_mem_nil) (by show 0 ≤ 20; decide) fun M4 L6 H50 s50 hM4 hL6 mL6 => ?_
            have g50 := g49.same s50
            exact ⟨M, M4, _, _, _, _, _, _, rfl, g50.m1, FMk.of_runs mL6.at_ (by omega) (fun r' h' => absurd h' List.not_mem_nil), k30, by decide, by omega, g50.pt, fun H' => hQ H'⟩
end
end Aw

namespace Aw
open PySem PySem.Spec PyProof.Rows L2 LamX
/-- the end of a law with tables, the top's facts told -/
theorem walk_T {l : PySem.W.OpenLaw} {n k : Nat} {q : Program} {loose : List Str} {XP : (Str → Option Value) → Heap → Prop} {YP : World → Heap → Prop} {d : DefRec} {CX : World → CXT} {x : Str}
    (hn : l.most = some n) (hn2 : n ≤ sizeLine) (hdf : d.params.defaults = []) (hr : Room k callerA)
    (F : ∀ (w : World) (mg mb : Str → Option Value) (fa : Addr) (h : Heap) (mean : ExcName → Option Value), YP w h → Top q (PySem.W.looseW q loose) mean mg mb h → mg d.name = some (.ref fa) → ∃ K : PySem.W.Frag, K.In h ∧ LawAtS l w K (CX w) k n x mg fa h)
    (hCX : ∀ (w : World) (H : Hp) (s : Shared) (e : Value) (s' : Shared), CX w [] H s (fun _ _ _ => False) e s' → False) :
    PySem.W.WalkO q loose XP YP l.row.toRowW d [] (fun f vs => PySem.call f vs) := by
  refine Att.attach_callB hn hdf fun w s₀ s₁ mg mb fa o pm cd doc a vs ns G Y ho hd hcd hmg hobj hints hlen hbits hg => ?_
  obtain ⟨K, KX, fd, cs, sp, hT, nT, C, hb, hsp, hF⟩ := F w mg mb fa _ _ Y G.T hmg
  exact law_callTs KX G.T.g G.T.b G.T.builtins G.T.nolimit hg hT nT C G.T.bmain hobj hints (Nat.le_trans hlen hn2) hr hF hb (fun H hH hS => hsp H a ns hlen hbits hH hS) fun H e s' => hCX w H s₁ e s'
end Aw

namespace Aw
open PySem PySem.Spec PyProof.Rows L2 NdefX He5
open He (eqO eqO_ok ga ma Fa cls_ok noat_ok meth_ok mkr_ok exm_ok int_ok tupB tupB_ok valsB valsB_ok Dv relAll relAll_ok)
-- LATE
theorem eoB_ok {K : PySem.W.Frag} {C : Addr} (h : eoB K C = true) : TxtEO K C := by
  obtain ⟨h1, h⟩ := bo h
  obtain ⟨h2, h⟩ := bo h
  obtain ⟨h3, h4⟩ := bo h
  exact ⟨of_decide_eq_true h1, of_decide_eq_true h2, h3, h4⟩
theorem tabB_ok {K : PySem.W.Frag} {x : Str} (h : tabB K x = true) : PySem.W.nsIn K mainGlobals x = some (some (.ref (ga K x))) ∧ PySem.W.tabIn K x = some (tabP K x) ∧ K.lookup (tabP K x).2 = none := by
  obtain ⟨h1, h⟩ := bo h
  obtain ⟨h2, h3⟩ := bo h
  exact ⟨eqO_ok h1, of_decide_eq_true h2, Option.isNone_iff_eq_none.mp h3⟩
theorem owneqB_ok {K : PySem.W.Frag} {C : Addr} (h : owneqB K C = true) : EqTxt K C (ma K C "__eq__") ∧ PySem.W.notFirst K C (.type "str") = true ∧ PySem.W.notFirst K C (.type "NoneType") = true := by
  obtain ⟨h1, h⟩ := bo h
  obtain ⟨h2, h⟩ := bo h
  obtain ⟨h3, h⟩ := bo h
  obtain ⟨h4, h⟩ := bo h
  obtain ⟨h5, h6⟩ := bo h
  exact ⟨⟨eqO_ok h1, h2, eqO_ok h3, of_decide_eq_true h4⟩, h5, h6⟩
theorem emB_ok {K : PySem.W.Frag} {C : Addr} (h : emB K C = true) : TxtEM K C := by
  obtain ⟨h1, h⟩ := bo h
  obtain ⟨h2, h⟩ := bo h
  obtain ⟨h3, h⟩ := bo h
  obtain ⟨h4, h5⟩ := bo h
  exact ⟨eqO_ok h1, eqO_ok h2, of_decide_eq_true h3, of_decide_eq_true h4, of_decide_eq_true h5⟩
theorem facts {w : World} {K : PySem.W.Frag} {h : Heap} {mg : Str → Option Value} {f : Addr} (X : K.In h) (G : h.Ns mainGlobals mg) (hfa : mg ("law" : Str) = some (.ref f)) (c : SaysZ fns sus tabs exB w K) :
    PySem.W.tabIn K "_law_sizes_right" = some (tabP K "_law_sizes_right") ∧ K.lookup (tabP K "_law_sizes_right").2 = none ∧ ∃ fd : FuncData, (∀ (s : Shared) (v : Value), BindsTo s fd ⟨[v], []⟩ [("_law_script", v)]) ∧ ∀ base : Heap, K.In base → base.Ns mainGlobals mg → LamX.TabB base mg (tabP K "_law_sizes_right").1 (tabP K "_law_sizes_right").2 → FnOk (PySem.Challenge.rw_allwordlengths_k15_whole_marks_from_mark).prog w K mg base CX0 13 f fd ["_law_script"] (spLaw K (tabP K "_law_sizes_right").2) := by
  obtain ⟨c1, m⟩ := bo c.more
  obtain ⟨c2, m⟩ := bo m
  obtain ⟨c3, m⟩ := bo m
  obtain ⟨c4, c5⟩ := bo m
  have gl : ∀ x ∈ globs, mg x = some (.ref (ga K x)) := fun x hx => glo_of X G (List.all_eq_true.mp c1 x hx)
  have fr : ∀ x ∈ frees, mg x = none := fun x hx => fre_of X G (List.all_eq_true.mp c2 x hx)
  have so : ∀ d ∈ sus, d.ok PySem.Challenge.pw_allwordlengths_k15_whole_marks_from_mark.main.file K = true := fun d hd => List.all_eq_true.mp c3 d hd
  have fa : ∀ x ∈ fas, x.ok K = true := fun x hx => List.all_eq_true.mp c4 x hx
  have exk : ∀ f ∈ exs, f K = true := fun f hf => List.all_eq_true.mp c5 f hf
  have htop : ((PySem.Challenge.rw_allwordlengths_k15_whole_marks_from_mark).prog.main.scope.names.lookup ("super" : Str)).isSome = false := by decide +kernel
  have E0 : Err (PySem.Challenge.rw_allwordlengths_k15_whole_marks_from_mark).prog K mg "BadNumber" "number" "number" (ga K "BadNumber") := sup_err X G ss0 htop (c.sup 0) (so su0 (by simp [sus]))
  have E1 : Err (PySem.Challenge.rw_allwordlengths_k15_whole_marks_from_mark).prog K mg "BadSize" "size" "size" (ga K "BadSize") := sup_err X G ss1 htop (c.sup 1) (so su1 (by simp [sus]))
  have E2 : Err (PySem.Challenge.rw_allwordlengths_k15_whole_marks_from_mark).prog K mg "TooMany" "most" "most" (ga K "TooMany") := sup_err X G ss2 htop (c.sup 2) (so su2 (by simp [sus]))
  have T : TxtP mg (ga K "_law_draw") := ⟨fr _ (by simp [frees]), fr _ (by simp [frees]), fr _ (by simp [frees]), gl _ (by simp [globs])⟩
  have h_xCon : xCon K = true := exk _ (by simp [exs])
  have h_xXor : xXor K = true := exk _ (by simp [exs])
  have h_xAnd : xAnd K = true := exk _ (by simp [exs])
  have h_xOr : xOr K = true := exk _ (by simp [exs])
  have h_xSub : xSub K = true := exk _ (by simp [exs])
  have h_xInv : xInv K = true := exk _ (by simp [exs])
  have h_xSf : xSf K = true := exk _ (by simp [exs])
  have h_xEq : xEq K = true := exk _ (by simp [exs])
  have h_xEm : xEm K = true := exk _ (by simp [exs])
  have h_xEo : xEo K = true := exk _ (by simp [exs])
  have h_xMt : xMt K = true := exk _ (by simp [exs])
  have h_xTab : xTab K = true := exk _ (by simp [exs])
  obtain ⟨dPen, DPen⟩ := c.def_ 0 (d := defG "_law_pen" sPen) rfl
  have FPen : Fun K "_law_pen" "_law_pen" sPen (ga K "_law_pen") dPen := fun_of (kws := []) DPen
  have bPen := FPen.binds (ps := ["_law_script"]) fun _ _ _ _ _ _ us hl => match us, hl with | [_], _ => rfl
  obtain ⟨dDraw, DDraw⟩ := c.def_ 1 (d := defG "_law_draw" sDraw) rfl
  have FDraw : Fun K "_law_draw" "_law_draw" sDraw (ga K "_law_draw") dDraw := fun_of (kws := []) DDraw
  have bDraw := FDraw.binds (ps := ["_law_pen_here", "_law_many"]) fun _ _ _ _ _ _ us hl => match us, hl with | [_, _], _ => rfl
  obtain ⟨dBig, DBig⟩ := c.def_ 2 (d := defG "_law_big" sLBig) rfl
  have FBig : Fun K "_law_big" "_law_big" sLBig (ga K "_law_big") dBig := fun_of (kws := []) DBig
  have bBig := FBig.binds (ps := ["_law_pen_here", "_law_many"]) fun _ _ _ _ _ _ us hl => match us, hl with | [_, _], _ => rfl
  obtain ⟨dLSize, DLSize⟩ := c.def_ 3 (d := defG "_law_size" sLSize) rfl
  have FLSize : Fun K "_law_size" "_law_size" sLSize (ga K "_law_size") dLSize := fun_of (kws := []) DLSize
  have bLSize := FLSize.binds (ps := ["_law_pen_here"]) fun _ _ _ _ _ _ us hl => match us, hl with | [_], _ => rfl
  obtain ⟨dLPlace, DLPlace⟩ := c.def_ 4 (d := defG "_law_place" sLPlace) rfl
  have FLPlace : Fun K "_law_place" "_law_place" sLPlace (ga K "_law_place") dLPlace := fun_of (kws := []) DLPlace
  have bLPlace := FLPlace.binds (ps := ["_law_pen_here", "_law_k"]) fun _ _ _ _ _ _ us hl => match us, hl with | [_, _], _ => rfl
  obtain ⟨dLRun, DLRun⟩ := c.def_ 5 (d := defG "_law_run" sLRun) rfl
  have FLRun : Fun K "_law_run" "_law_run" sLRun (ga K "_law_run") dLRun := fun_of (kws := []) DLRun
  have bLRun := FLRun.binds (ps := ["_law_pen_here", "_law_k"]) fun _ _ _ _ _ _ us hl => match us, hl with | [_, _], _ => rfl
  obtain ⟨dLRuns, DLRuns⟩ := c.def_ 6 (d := defG "_law_runs" sLRuns) rfl
  have FLRuns : Fun K "_law_runs" "_law_runs" sLRuns (ga K "_law_runs") dLRuns := fun_of (kws := []) DLRuns
  have bLRuns := FLRuns.binds (ps := ["_law_pen_here", "_law_k", "_law_many"]) fun _ _ _ _ _ _ us hl => match us, hl with | [_, _, _], _ => rfl
  obtain ⟨dInR, DInR⟩ := c.def_ 7 (d := defG "_law_in_run" sInR) rfl
  have FInR : Fun K "_law_in_run" "_law_in_run" sInR (ga K "_law_in_run") dInR := fun_of (kws := []) DInR
  have bInR := FInR.binds (ps := ["_law_run_here", "_law_j"]) fun _ _ _ _ _ _ us hl => match us, hl with | [_, _], _ => rfl
  obtain ⟨dOdd, DOdd⟩ := c.def_ 8 (d := defG "_law_odd" sOdd) rfl
  have FOdd : Fun K "_law_odd" "_law_odd" sOdd (ga K "_law_odd") dOdd := fun_of (kws := []) DOdd
  have bOdd := FOdd.binds (ps := ["_law_runs_here", "_law_j"]) fun _ _ _ _ _ _ us hl => match us, hl with | [_, _], _ => rfl
  obtain ⟨dLMeet, DLMeet⟩ := c.def_ 9 (d := defG "_law_meeting" sLMeet) rfl
  have FLMeet : Fun K "_law_meeting" "_law_meeting" sLMeet (ga K "_law_meeting") dLMeet := fun_of (kws := []) DLMeet
  have bLMeet := FLMeet.binds (ps := ["_law_one", "_law_other"]) fun _ _ _ _ _ _ us hl => match us, hl with | [_, _], _ => rfl
  obtain ⟨dLCnt, DLCnt⟩ := c.def_ 10 (d := defG "_law_count" sLCnt) rfl
  have FLCnt : Fun K "_law_count" "_law_count" sLCnt (ga K "_law_count") dLCnt := fun_of (kws := []) DLCnt
  have bLCnt := FLCnt.binds (ps := ["_law_runs_here", "_law_below"]) fun _ _ _ _ _ _ us hl => match us, hl with | [_, _], _ => rfl
  obtain ⟨dLPR, DLPR⟩ := c.def_ 11 (d := defG "_law_places_right" sLPR) rfl
  have FLPR : Fun K "_law_places_right" "_law_places_right" sLPR (ga K "_law_places_right") dLPR := fun_of (kws := []) DLPR
  have bLPR := FLPR.binds (ps := ["_law_pen_here", "_law_k", "_law_runs_here", "_law_others", "_law_made"]) fun _ _ _ _ _ _ us hl => match us, hl with | [_, _, _, _, _], _ => rfl
  obtain ⟨dLRef, DLRef⟩ := c.def_ 12 (d := defG "_law_refused" sLRef) rfl
  have FLRef : Fun K "_law_refused" "_law_refused" sLRef (ga K "_law_refused") dLRef := fun_of (kws := []) DLRef
  have bLRef := FLRef.binds (ps := ["_law_ask"]) fun _ _ _ _ _ _ us hl => match us, hl with | [_], _ => rfl
  obtain ⟨dLSz, DLSz⟩ := c.def_ 13 (d := defG "_law_sizes_right" sLSz) rfl
  have FLSz : Fun K "_law_sizes_right" "_law_sizes_right" sLSz (ga K "_law_sizes_right") dLSz := fun_of (kws := []) DLSz
  have bLSz := FLSz.binds (ps := ["_law_marks", "_law_far"]) fun _ _ _ _ _ _ us hl => match us, hl with | [_, _], _ => rfl
  obtain ⟨dLaw, DLaw⟩ := c.def_ 14 (d := defG "law" sLaw) rfl
  have FLaw : Fun K "law" "law" sLaw (ga K "law") dLaw := fun_of (kws := []) DLaw
  have bLaw := FLaw.binds (ps := ["_law_script"]) fun _ _ _ _ _ _ us hl => match us, hl with | [_], _ => rfl
  obtain ⟨dFull, DFull⟩ := c.def_ 15 (d := defG "full" sFull) rfl
  have FFull : Fun K "full" "full" sFull (ga K "full") dFull := fun_of (kws := []) DFull
  have bFull := FFull.binds (ps := ["many"]) fun _ _ _ _ _ _ us hl => match us, hl with | [_], _ => rfl
  obtain ⟨dManyB, DManyB⟩ := c.def_ 16 (d := defG "many_bits" sManyB) rfl
  have FManyB : Fun K "many_bits" "many_bits" sManyB (ga K "many_bits") dManyB := fun_of (kws := []) DManyB
  have bManyB := FManyB.binds (ps := ["mask"]) fun _ _ _ _ _ _ us hl => match us, hl with | [_], _ => rfl
  obtain ⟨dNum, DNum⟩ := c.def_ 17 (d := defG "is_number" sNum) rfl
  have FNum : Fun K "is_number" "is_number" sNum (ga K "is_number") dNum := fun_of (kws := []) DNum
  have bNum := FNum.binds (ps := ["value", "low", "high"]) fun _ _ _ _ _ _ us hl => match us, hl with | [_, _, _], _ => rfl
  obtain ⟨dChkS, DChkS⟩ := c.def_ 18 (d := defG "check_size" sChkS) rfl
  have FChkS : Fun K "check_size" "check_size" sChkS (ga K "check_size") dChkS := fun_of (kws := []) DChkS
  have bChkS := FChkS.binds (ps := ["size"]) fun _ _ _ _ _ _ us hl => match us, hl with | [_], _ => rfl
  obtain ⟨dWidth, DWidth⟩ := c.def_ 19 (d := defG "width" sWidth) rfl
  have FWidth : Fun K "width" "width" sWidth (ga K "width") dWidth := fun_of (kws := []) DWidth
  have bWidth := FWidth.binds (ps := ["depth"]) fun _ _ _ _ _ _ us hl => match us, hl with | [_], _ => rfl
  obtain ⟨dClassm, DClassm⟩ := c.def_ 20 (d := defG "class_mask" sClassm) rfl
  have FClassm : Fun K "class_mask" "class_mask" sClassm (ga K "class_mask") dClassm := fun_of (kws := []) DClassm
  have bClassm := FClassm.binds (ps := ["wide", "at", "of"]) fun _ _ _ _ _ _ us hl => match us, hl with | [_, _, _], _ => rfl
  obtain ⟨dTidy, DTidy⟩ := c.def_ 21 (d := defG "tidied" sTidy) rfl
  have FTidy : Fun K "tidied" "tidied" sTidy (ga K "tidied") dTidy := fun_of (kws := []) DTidy
  have bTidy := FTidy.binds (ps := ["pieces"]) fun _ _ _ _ _ _ us hl => match us, hl with | [_], _ => rfl
  obtain ⟨dDeep, DDeep⟩ := c.def_ 22 (d := defG "deepened" sDeep) rfl
  have FDeep : Fun K "deepened" "deepened" sDeep (ga K "deepened") dDeep := fun_of (kws := []) DDeep
  have bDeep := FDeep.binds (ps := ["pieces", "depth", "more"]) fun _ _ _ _ _ _ us hl => match us, hl with | [_, _, _], _ => rfl
  obtain ⟨dMerge, DMerge⟩ := c.def_ 23 (d := defG "merged" sMerge) rfl
  have FMerge : Fun K "merged" "merged" sMerge (ga K "merged") dMerge := fun_of (kws := []) DMerge
  have bMerge := FMerge.binds (ps := ["one", "other"]) fun _ _ _ _ _ _ us hl => match us, hl with | [_, _], _ => rfl
  obtain ⟨dAdded, DAdded⟩ := c.def_ 24 (d := defG "added" sAdded) rfl
  have FAdded : Fun K "added" "added" sAdded (ga K "added") dAdded := fun_of (kws := []) DAdded
  have bAdded := FAdded.binds (ps := ["one", "other"]) fun _ _ _ _ _ _ us hl => match us, hl with | [_, _], _ => rfl
  obtain ⟨dIsMk, DIsMk⟩ := c.def_ 25 (d := defG "is_marked" sIsMk) rfl
  have FIsMk : Fun K "is_marked" "is_marked" sIsMk (ga K "is_marked") dIsMk := fun_of (kws := []) DIsMk
  have bIsMk := FIsMk.binds (ps := ["pieces", "wide", "place"]) fun _ _ _ _ _ _ us hl => match us, hl with | [_, _, _], _ => rfl
  obtain ⟨dUpto, DUpto⟩ := c.def_ 26 (d := defG "many_upto" sUpto) rfl
  have FUpto : Fun K "many_upto" "many_upto" sUpto (ga K "many_upto") dUpto := fun_of (kws := []) DUpto
  have bUpto := FUpto.binds (ps := ["mask", "wide", "place"]) fun _ _ _ _ _ _ us hl => match us, hl with | [_, _, _], _ => rfl
  obtain ⟨dLow, DLow⟩ := c.def_ 27 (d := defG "many_below" sLow) rfl
  have FLow : Fun K "many_below" "many_below" sLow (ga K "many_below") dLow := fun_of (kws := []) DLow
  have bLow := FLow.binds (ps := ["pieces", "wide", "place"]) fun _ _ _ _ _ _ us hl => match us, hl with | [_, _, _], _ => rfl
  obtain ⟨dIsRun, DIsRun⟩ := c.def_ 28 (d := defG "is_run" sIsRun) rfl
  have FIsRun : Fun K "is_run" "is_run" sIsRun (ga K "is_run") dIsRun := fun_of (kws := []) DIsRun
  have bIsRun := FIsRun.binds (ps := ["run", "size"]) fun _ _ _ _ _ _ us hl => match us, hl with | [_, _], _ => rfl
  obtain ⟨dPor, DPor⟩ := c.def_ 29 (d := defG "pieces_of_runs" sPor) rfl
  have FPor : Fun K "pieces_of_runs" "pieces_of_runs" sPor (ga K "pieces_of_runs") dPor := fun_of (kws := []) DPor
  have bPor := FPor.binds (ps := ["size", "runs"]) fun _ _ _ _ _ _ us hl => match us, hl with | [_, _], _ => rfl
  obtain ⟨dMOf, DMOf⟩ := c.def_ 30 (d := defG "marks_of" sMOf) rfl
  have FMOf : Fun K "marks_of" "marks_of" sMOf (ga K "marks_of") dMOf := fun_of (kws := []) DMOf
  have bMOf := FMOf.binds (ps := ["size", "depth", "pieces"]) fun _ _ _ _ _ _ us hl => match us, hl with | [_, _, _], _ => rfl
  obtain ⟨dJnd, DJnd⟩ := c.def_ 31 (d := defG "joined" sJnd) rfl
  have FJnd : Fun K "joined" "joined" sJnd (ga K "joined") dJnd := fun_of (kws := []) DJnd
  have bJnd := FJnd.binds (ps := ["one", "other", "pieces"]) fun _ _ _ _ _ _ us hl => match us, hl with | [_, _, _], _ => rfl
  obtain ⟨dBeside, DBeside⟩ := c.def_ 32 (d := defG "beside" sBeside) rfl
  have FBeside : Fun K "beside" "beside" sBeside (ga K "beside") dBeside := fun_of (kws := []) DBeside
  have bBeside := FBeside.binds (ps := ["one", "other"]) fun _ _ _ _ _ _ us hl => match us, hl with | [_, _], _ => rfl
  obtain ⟨dAreS, DAreS⟩ := c.def_ 33 (d := defG "are_same" sAreS) rfl
  have FAreS : Fun K "are_same" "are_same" sAreS (ga K "are_same") dAreS := fun_of (kws := []) DAreS
  have bAreS := FAreS.binds (ps := ["one", "other"]) fun _ _ _ _ _ _ us hl => match us, hl with | [_, _], _ => rfl
  obtain ⟨dMCon, DMCon⟩ := c.def_ 34 (d := defM "Marks" "__contains__" "Marks.__contains__" sMCon) rfl
  have FMCon : Fun K "__contains__" "Marks.__contains__" sMCon (ma K (ga K "Marks") "__contains__") dMCon := fun_of (kws := []) DMCon
  have bMCon := FMCon.binds (ps := ["self", "x"]) fun _ _ _ _ _ _ us hl => match us, hl with | [_, _], _ => rfl
  obtain ⟨dMEq, DMEq⟩ := c.def_ 35 (d := defM "Marks" "__eq__" "Marks.__eq__" sMEq) rfl
  have FMEq : Fun K "__eq__" "Marks.__eq__" sMEq (ma K (ga K "Marks") "__eq__") dMEq := fun_of (kws := []) DMEq
  have bMEq := FMEq.binds (ps := ["self", "other"]) fun _ _ _ _ _ _ us hl => match us, hl with | [_, _], _ => rfl
  obtain ⟨dMXor, DMXor⟩ := c.def_ 36 (d := defM "Marks" "__xor__" "Marks.__xor__" sMXor) rfl
  have FMXor : Fun K "__xor__" "Marks.__xor__" sMXor (ma K (ga K "Marks") "__xor__") dMXor := fun_of (kws := []) DMXor
  have bMXor := FMXor.binds (ps := ["self", "other"]) fun _ _ _ _ _ _ us hl => match us, hl with | [_, _], _ => rfl
  obtain ⟨dMAnd, DMAnd⟩ := c.def_ 37 (d := defM "Marks" "__and__" "Marks.__and__" sMAnd) rfl
  have FMAnd : Fun K "__and__" "Marks.__and__" sMAnd (ma K (ga K "Marks") "__and__") dMAnd := fun_of (kws := []) DMAnd
  have bMAnd := FMAnd.binds (ps := ["self", "other"]) fun _ _ _ _ _ _ us hl => match us, hl with | [_, _], _ => rfl
  obtain ⟨dMOr, DMOr⟩ := c.def_ 38 (d := defM "Marks" "__or__" "Marks.__or__" sMOr) rfl
  have FMOr : Fun K "__or__" "Marks.__or__" sMOr (ma K (ga K "Marks") "__or__") dMOr := fun_of (kws := []) DMOr
  have bMOr := FMOr.binds (ps := ["self", "other"]) fun _ _ _ _ _ _ us hl => match us, hl with | [_, _], _ => rfl
  obtain ⟨dMSub, DMSub⟩ := c.def_ 39 (d := defM "Marks" "__sub__" "Marks.__sub__" sMSub) rfl
  have FMSub : Fun K "__sub__" "Marks.__sub__" sMSub (ma K (ga K "Marks") "__sub__") dMSub := fun_of (kws := []) DMSub
  have bMSub := FMSub.binds (ps := ["self", "other"]) fun _ _ _ _ _ _ us hl => match us, hl with | [_, _], _ => rfl
  obtain ⟨dMInv, DMInv⟩ := c.def_ 40 (d := defM "Marks" "__invert__" "Marks.__invert__" sMInv) rfl
  have FMInv : Fun K "__invert__" "Marks.__invert__" sMInv (ma K (ga K "Marks") "__invert__") dMInv := fun_of (kws := []) DMInv
  have bMInv := FMInv.binds (ps := ["self"]) fun _ _ _ _ _ _ us hl => match us, hl with | [_], _ => rfl
  obtain ⟨dMany, DMany⟩ := c.def_ 41 (d := defM "Marks" "many" "Marks.many" sMany) rfl
  have FMany : Fun K "many" "Marks.many" sMany (ma K (ga K "Marks") "many") dMany := fun_of (kws := []) DMany
  have bMany := FMany.binds (ps := ["self"]) fun _ _ _ _ _ _ us hl => match us, hl with | [_], _ => rfl
  obtain ⟨dMNone, DMNone⟩ := c.def_ 42 (d := defM "Marks" "is_none" "Marks.is_none" sNone) rfl
  have FMNone : Fun K "is_none" "Marks.is_none" sNone (ma K (ga K "Marks") "is_none") dMNone := fun_of (kws := []) DMNone
  have bMNone := FMNone.binds (ps := ["self"]) fun _ _ _ _ _ _ us hl => match us, hl with | [_], _ => rfl
  obtain ⟨dMInit, DMInit0⟩ := c.def_ 43 (d := ddMInit) rfl
  have FMInit : L2.FunD K "__init__" "Marks.__init__" (defArgs sMInit) (defBody sMInit) (defScope sMInit) [V.ref (He.dflAt ("Marks", some "__init__") 0 K)] [] (ma K (ga K "Marks") "__init__") dMInit := DMInit0
  have e := hfa.symm.trans (gl "law" (by simp [globs]))
  cases e
  obtain ⟨tn, ti, tl⟩ := tabB_ok h_xTab
  refine ⟨ti, tl, dLaw, fun s v => by
      have hb := FunD.bindsA (ps := ["_law_script"]) DLaw fun _ _ _ _ _ _ us hl => match us, hl with | [_], _ => rfl
      exact hb s [v] rfl, fun base _ _ TB => ?_⟩
  have MC : MkCls K (ga K "Marks") := { c := cls_ok (fa (.cls "Marks") (by simp [fas])), size := noat_ok (fa (.noat "Marks" "size") (by simp [fas])), depth := noat_ok (fa (.noat "Marks" "depth") (by simp [fas])), pieces := noat_ok (fa (.noat "Marks" "pieces") (by simp [fas])) }
  have mMany : Meth K (ga K "Marks") "many" (ma K (ga K "Marks") "many") := meth_ok (fa (.meth "Marks" "many") (by simp [fas]))
  have mNone : Meth K (ga K "Marks") "is_none" (ma K (ga K "Marks") "is_none") := meth_ok (fa (.meth "Marks" "is_none") (by simp [fas]))
  obtain ⟨t30, g30⟩ := int_ok X G (fa (.int "MOST_SIZE" (10 ^ 30)) (by simp [fas]))
  obtain ⟨t12, g12⟩ := int_ok X G (fa (.int "BASE" 12) (by simp [fas]))
  obtain ⟨t20, g20⟩ := int_ok X G (fa (.int "MOST_RUNS" 20) (by simp [fas]))
  obtain ⟨t4, g4⟩ := int_ok X G (fa (.int "MOST_STEP" 4) (by simp [fas]))
  obtain ⟨iC, fiC, _⟩ := spmB_ok h_xCon
  obtain ⟨TE, nS, nN⟩ := owneqB_ok h_xEq
  have Em := emB_ok h_xEm
  have Eo := eoB_ok h_xEo
  obtain ⟨iX, jX, _⟩ := spmB_ok h_xXor
  obtain ⟨iA, jA, _⟩ := spmB_ok h_xAnd
  obtain ⟨iO, jO, _⟩ := spmB_ok h_xOr
  obtain ⟨iS, jS, _⟩ := spmB_ok h_xSub
  obtain ⟨iV, jV, _⟩ := spmB_ok h_xInv
  have mkM : Mk K (ga K "Marks") (ma K (ga K "Marks") "__init__") := mkr_ok (fa (.mkr "Marks") (by simp [fas]))
  obtain ⟨dsA, dA, bA⟩ := FunD.binds1 (ps := ["self", "size", "runs"]) FMInit 3 1 (fun z => by cases z) rfl (fun T kV doc pm an cdv ct us its hu hi => match us, hu, its, hi with | [_, _, _], _, [_], _ => ⟨_, rfl, rfl⟩)
  cases dA
  obtain ⟨dsD, dD, bD⟩ := FunD.binds1 (ps := ["self", "size", "runs"]) FMInit 2 0 (fun z => by cases z) rfl (fun T kV doc pm an cdv ct us its hu hi => match us, hu, its, hi with | [_, _], _, [_], _ => ⟨_, rfl, rfl⟩)
  have hE : ∀ H, SeqK K H (He.dflAt ("Marks", some "__init__") 0 K) [] := fun H => .inr (mtB_ok h_xMt H)
  have GNum := ok_num (P := (PySem.Challenge.rw_allwordlengths_k15_whole_marks_from_mark).prog) (w := w) (base := base) FNum (fr _ (by simp [frees])) (fr _ (by simp [frees])) (fr _ (by simp [frees]))
  have GChkS := ok_chkS (w := w) (base := base) FChkS E1 g30 GNum FNum bNum (gl _ (by simp [globs]))
  have WUp : TxtUp K mg (ga K "many_bits") (ga K "full") dManyB dFull := { dm := (fr _ (by simp [frees])), FB := FManyB, bB := bManyB, gB := (gl _ (by simp [globs])), FF := FFull, bF := bFull, gF := (gl _ (by simp [globs])) }
  have WLow : TxtLow K mg (ga K "many_upto") (ga K "many_bits") (ga K "full") dUpto dManyB dFull := { U := WUp, FU := FUpto, bU := bUpto, gU := (gl _ (by simp [globs])), min := (fr _ (by simp [frees])) }
  have WMany : TxtMany K mg (ga K "many_below") (ga K "many_upto") (ga K "many_bits") (ga K "full") (ga K "width") dLow dUpto dManyB dFull dWidth t12 := { L := WLow, FL := FLow, bL := bLow, gL := (gl _ (by simp [globs])), FW := FWidth, bW := bWidth, gW := (gl _ (by simp [globs])), gB := g12 }
  have WPor : TxtPor K mg (ga K "class_mask") (ga K "added") (ga K "tidied") (ga K "merged") dClassm dAdded dTidy dMerge t12 := ⟨⟨(fr _ (by simp [frees])), (fr _ (by simp [frees]))⟩, FClassm, bClassm, (gl _ (by simp [globs])), FAdded, bAdded, (gl _ (by simp [globs])), FTidy, bTidy, (gl _ (by simp [globs])), FMerge, bMerge, (gl _ (by simp [globs])), g12⟩
  have GPor := ok_por (P := (PySem.Challenge.rw_allwordlengths_k15_whole_marks_from_mark).prog) (w := w) (base := base) FPor WPor
  have WRun : TxtRun K mg (ga K "is_number") dNum t4 := { isi := (fr _ (by simp [frees])), list := (fr _ (by simp [frees])), tup := (fr _ (by simp [frees])), len := (fr _ (by simp [frees])), int := (fr _ (by simp [frees])), bool := (fr _ (by simp [frees])), FN := FNum, bN := bNum, gN := (gl _ (by simp [globs])), g4 := g4 }
  have GRun := ok_isrun (P := (PySem.Challenge.rw_allwordlengths_k15_whole_marks_from_mark).prog) (w := w) (base := base) FIsRun WRun
  have WMI : TxtMI (PySem.Challenge.rw_allwordlengths_k15_whole_marks_from_mark).prog K mg (ga K "TooMany") (ga K "BadNumber") (ga K "check_size") (ga K "is_run") (ga K "pieces_of_runs") dChkS dIsRun dPor t20 := ⟨E2, E0, (fr _ (by simp [frees])), (fr _ (by simp [frees])), FChkS, bChkS, (gl _ (by simp [globs])), FIsRun, bIsRun, (gl _ (by simp [globs])), FPor, bPor, (gl _ (by simp [globs])), g20⟩
  have GI := ok_minit (w := w) (base := base) FMInit WMI GChkS GRun GPor MC
  have WMCon : TxtMCon K mg (ga K "is_number") (ga K "is_marked") (ga K "width") dNum dIsMk dWidth t12 := { isi := (fr _ (by simp [frees])), int := (fr _ (by simp [frees])), bool := (fr _ (by simp [frees])), FN := FNum, bN := bNum, gN := (gl _ (by simp [globs])), FM := FIsMk, bM := bIsMk, gM := (gl _ (by simp [globs])), FW := FWidth, bW := bWidth, gW := (gl _ (by simp [globs])), gB := g12 }
  have GC := ok_mcon (P := (PySem.Challenge.rw_allwordlengths_k15_whole_marks_from_mark).prog) (w := w) (base := base) FMCon WMCon MC
  have GNo := ok_none (P := (PySem.Challenge.rw_allwordlengths_k15_whole_marks_from_mark).prog) (w := w) (base := base) FMNone FMany bMany WMany MC mMany
  have WBes : TxtBes (PySem.Challenge.rw_allwordlengths_k15_whole_marks_from_mark).prog K mg (ga K "BadSize") (ga K "merged") (ga K "deepened") (ga K "width") dMerge dDeep dWidth t12 := { bz := E1, max := (fr _ (by simp [frees])), FG := FMerge, bG := bMerge, gG := (gl _ (by simp [globs])), FD := FDeep, bD := bDeep, gD := (gl _ (by simp [globs])), FW := FWidth, bW := bWidth, gW := (gl _ (by simp [globs])), gB := g12, rg := (fr _ (by simp [frees])) }
  have GD := ok_draw (P := (PySem.Challenge.rw_allwordlengths_k15_whole_marks_from_mark).prog) (w := w) (base := base) FDraw T
  have GPen := ok_pen (P := (PySem.Challenge.rw_allwordlengths_k15_whole_marks_from_mark).prog) (w := w) (base := base) FPen T
  have B : TxtL mg := { str := (fr _ (by simp [frees])), len := (fr _ (by simp [frees])), int := (fr _ (by simp [frees])), range := (fr _ (by simp [frees])) }
  have GBig := ok_lbigN (P := (PySem.Challenge.rw_allwordlengths_k15_whole_marks_from_mark).prog) (w := w) (base := base) FBig B GD (gl _ (by simp [globs])) FDraw bDraw
  have N : TxtN (PySem.Challenge.rw_allwordlengths_k15_whole_marks_from_mark).prog w K mg base (ga K "_law_draw") (ga K "_law_big") dDraw dBig := { GD := GD, gD := (gl _ (by simp [globs])), FD := FDraw, bD := bDraw, GB := GBig, gB := (gl _ (by simp [globs])), FB := FBig, bB := bBig, max := (fr _ (by simp [frees])), min := (fr _ (by simp [frees])) }
  have GSz := ok_lsize FLSize N
  have GPl := ok_lplace FLPlace N
  have GRu1 := ok_lrun FLRun N FLPlace bLPlace (gl _ (by simp [globs]))
  have GRus := ok_lruns FLRuns GRu1 FLRun bLRun (gl _ (by simp [globs])) (fr _ (by simp [frees]))
  have GIn := ok_inr (P := (PySem.Challenge.rw_allwordlengths_k15_whole_marks_from_mark).prog) (w := w) (base := base) FInR (fr _ (by simp [frees]))
  have GOd := ok_odd (P := (PySem.Challenge.rw_allwordlengths_k15_whole_marks_from_mark).prog) (w := w) (base := base) FOdd FInR bInR (gl _ (by simp [globs])) (fr _ (by simp [frees])) (fr _ (by simp [frees]))
  have GMa := ok_many (P := (PySem.Challenge.rw_allwordlengths_k15_whole_marks_from_mark).prog) (w := w) (base := base) FMany WMany MC
  have GBs := ok_beside1 (w := w) (base := base) FBeside WBes MC
  have GSame := ok_ares0 (w := w) (base := base) FAreS FBeside bBeside (gl _ (by simp [globs])) WBes WMany MC
  have GEq := ok_meqW (w := w) (base := base) FMEq GSame FAreS bAreS (gl _ (by simp [globs])) MC Em Eo (fr _ (by simp [frees])) (gl _ (by simp [globs]))
  have GOf := ok_mof FMOf (gl _ (by simp [globs])) mkM GI bD dD hE FTidy bTidy (gl _ (by simp [globs])) MC
  have GJn := ok_jnd FJnd (fr _ (by simp [frees])) GOf FMOf.kp bMOf (gl _ (by simp [globs])) MC
  have GXr := ok_mxor FMXor GBs FBeside.kp bBeside (gl _ (by simp [globs])) GJn FJnd.kp bJnd (gl _ (by simp [globs]))
  have GAn := ok_mand FMAnd GBs FBeside.kp bBeside (gl _ (by simp [globs])) GJn FJnd.kp bJnd (gl _ (by simp [globs]))
  have GOr := ok_mor FMOr GBs FBeside.kp bBeside (gl _ (by simp [globs])) GJn FJnd.kp bJnd (gl _ (by simp [globs]))
  have GSb := ok_msub FMSub GBs FBeside.kp bBeside (gl _ (by simp [globs])) GJn FJnd.kp bJnd (gl _ (by simp [globs]))
  have GIv := ok_minv FMInv FFull bFull (gl _ (by simp [globs])) FWidth bWidth (gl _ (by simp [globs])) g12 GOf FMOf.kp bMOf (gl _ (by simp [globs])) MC
  have WMe : TxtMeet (PySem.Challenge.rw_allwordlengths_k15_whole_marks_from_mark).prog w K mg base (ga K "_law_in_run") dInR := ⟨(fr _ (by simp [frees])), (fr _ (by simp [frees])), (fr _ (by simp [frees])), (fr _ (by simp [frees])), GIn, FInR.kp, bInR, (gl _ (by simp [globs]))⟩
  have GMe := ok_lmeet FLMeet WMe
  have GCn := ok_lcnt FLCnt GMe FLMeet.kp bLMeet (gl _ (by simp [globs])) (fr _ (by simp [frees]))
  have GPR := ok_lpr FLPR { hs := iC, hf := fiC, bC := bMCon, FL := FLPlace, bL := bLPlace, gL := (gl _ (by simp [globs])), FO := FOdd, bO := bOdd, gO := (gl _ (by simp [globs])) } GC GPl GOd
  obtain ⟨ocZ, odZ, kVZ, docZ, pmZ, anZ, cdZ, ctZ, oslZ, _, lkZ, _⟩ := FLSz.ex
  have hcZ := code_of tn lkZ ti
  have GSz2 := ok_lsz FLSz hcZ { TB := TB, FR_ := FLRef, bR := bLRef, gR := (gl _ (by simp [globs])), eZ := E1, gW := (gl _ (by simp [globs])), xZ := exm_ok (fa (.exm "BadSize" "BadSize" true) (by simp [fas])), sf := h_xSf, iX := iX, jX := jX, GX := GXr, bX := bMXor, iA := iA, jA := jA, GA := GAn, bA := bMAnd, iO := iO, jO := jO, GO := GOr, bO := bMOr, iS := iS, jS := jS, GS := GSb, bS := bMSub, TE := TE, TO := Eo, GE := GEq, bE := bMEq, M := MC }
  exact (ok_law FLaw { list := (fr _ (by simp [frees])), M := MC, gM := (gl _ (by simp [globs])), mkc := mkM, GI := GI, bI := bA, sf := h_xSf, iX := iX, jX := jX, GX := GXr, bX := bMXor, iA := iA, jA := jA, GA := GAn, bA := bMAnd, iO := iO, jO := jO, GO := GOr, bO := bMOr, iS := iS, jS := jS, GS := GSb, bS := bMSub, iV := iV, jV := jV, GV := GIv, bV := bMInv, TE := TE, TO := Eo, GE := GEq, bE := bMEq, mN := mNone, GN := GNo, bN := bMNone, mM := mMany, GM := GMa, bM := bMany, GPen := GPen, kPen := FPen.kp, bPen := bPen, gPen := (gl _ (by simp [globs])), GD := GD, kD := FDraw.kp, bD := bDraw, gD := (gl _ (by simp [globs])), GSz := GSz, kSz := FLSize.kp, bSz := bLSize, gSz := (gl _ (by simp [globs])), GRu := GRus, kRu := FLRuns.kp, bRu := bLRuns, gRu := (gl _ (by simp [globs])), GCn := GCn, kCn := FLCnt.kp, bCn := bLCnt, gCn := (gl _ (by simp [globs])), GPr := GPR, kPr := FLPR.kp, bPr := bLPR, gPr := (gl _ (by simp [globs])), GSr := GSz2, kSr := FLSz.kp, bSr := bLSz, gSr := (gl _ (by simp [globs])) }).mono (by decide)
end Aw

open PySem PySem.W PySem.Calls PyProof.Rows
set_option maxRecDepth 100000 in
set_option maxHeartbeats 0 in
theorem PySem.Challenge.cw_allwordlengths_k15_whole_marks_from_mark_holds : PySem.Challenge.rw_allwordlengths_k15_whole_marks_from_mark.Holds := by
  w_on; o_law
  refine HandSHeadRun.head_any (r := OpenLaw.row PySem.Challenge.rw_allwordlengths_k15_whole_marks_from_mark) (q := view (OpenLaw.row PySem.Challenge.rw_allwordlengths_k15_whole_marks_from_mark).prog [49, 50]) (H := Aw.hk) (ob := Aw.ob) (M := 12000) (loose := Aw.loose) (d := HandSHeadRun.topDef (OpenLaw.row PySem.Challenge.rw_allwordlengths_k15_whole_marks_from_mark).prog 50) (kwd := []) Aw.ob_eq
    (by kernel_rfl) (fun s => by kernel_rfl) Aw.run (by kernel_rfl) (by kernel_rfl) (by kernel_rfl) (by rfl) (by first | assumption | decide +kernel) (by decide +kernel) ⟨rfl, rfl, rfl, rfl, rfl, by decide +kernel⟩ ?hw ?hc
  case hw => w_witness2
  case hc =>
    refine Aw.walk_T (l := PySem.Challenge.rw_allwordlengths_k15_whole_marks_from_mark) (n := 63) (k := 13) (x := "_law_script") (CX := fun _ => L2.CX0) rfl (by decide) (by kernel_rfl) ⟨rfl, by decide, by decide⟩ ?F (fun _ _ _ _ _ z => z)
    intro w mg mb fa h mean Y T hmg0
    obtain ⟨K, KX, c⟩ := Y
    have hmg : mg ("law" : PySem.Str) = some (.ref fa) := by
      have e : (HandSHeadRun.topDef (OpenLaw.row PySem.Challenge.rw_allwordlengths_k15_whole_marks_from_mark).prog 50).name = ("law" : PySem.Str) := by kernel_rfl
      rw [← e]
      exact hmg0
    obtain ⟨ti, tl, fd, hb, hF⟩ := Aw.facts (w := w) KX T.g hmg c
    have hd : (recsOf (view (OpenLaw.row PySem.Challenge.rw_allwordlengths_k15_whole_marks_from_mark).prog [49, 50])).find? (fun e => e.name == ("_law_sizes_right" : PySem.Str)) = some (HandSHeadRun.topDef (OpenLaw.row PySem.Challenge.rw_allwordlengths_k15_whole_marks_from_mark).prog 49) := by kernel_rfl
    obtain ⟨t1, t2⟩ := tab_of T KX hd ti
    refine ⟨K, KX, fd, [Aw.tabP K "_law_sizes_right"], Aw.spLaw K (Aw.tabP K "_law_sizes_right").2, fun p hp => ?_, fun p hp => ?_, fun p hp => ?_, hb, fun H a ns hl _ hT hS => ⟨a, ns, rfl, hS, hl, hT _ List.mem_cons_self, fun _ => rfl⟩, fun base b1 b2 b3 => hF base b1 b2 (b3 _ List.mem_cons_self)⟩
    · rw [List.mem_singleton.mp hp]
      exact t2
    · rw [List.mem_singleton.mp hp]
      exact tl
    · rw [List.mem_singleton.mp hp]
      exact t1
#print axioms PySem.Challenge.cw_allwordlengths_k15_whole_marks_from_mark_holds

