import PyProof.Rows.All
import Wide.All
import OpenK.AllK
import Wide.FinOn
import KE.KExcSuper
import KE.KExcIs
import HandS.ForMost
import HandS.ForSpec
import HandS.ExcInit
import HandS.Nested
import HandS.IsInst
import HandS.HotCalls
import HandS.ExcValue
import HandS.ExcIs
import HandS.ExcField
import HandS.Head0
import HandS.Head1
import HandS.Head2
import HandS.HeadNt
import HandS.HeadEnd
import HandS.HeadHook4
import HandS.WrittenGet
import HandS.Style
import HandS.FStr
import HandS.Conv
import HandS.OwnEq
import HandS.Defaults
import HandS.MakeKw
import KE.GoesMore
import HandS.ClsMeth
import HandS.IterVal
import HandS.CallSlots
import HandS.Star
import HandS.More
import HandS.WideBits
import HandS.TupAny
import HandS.Codes
import HandS.Property
import HandS.Strs
import HandS.Gcd
import KE.KMathGC
import HandS.Head3
import PySem.Challenge.RW_allwordlengths_k11_whole_times_until_all
set_option Elab.async false
set_option linter.all false
set_option maxRecDepth 100000
set_option maxHeartbeats 4000000
namespace Aw
open PySem PySem.Spec PyProof.Rows L2 NdefX

def supBody (z y fld : Str) (j : Nat) (p0 p1 p2 p3 p4 p5 p6 p7 p8 p9 : Pos) : List Stmt :=
  [.Expr (.Call (.Attribute (.Call (.Name "super" p0) [] [] p1) "__init__" p2) [.Constant (.str z) j p3] [] p4) p5,
   .Assign [.Attribute (.Name "self" p6) fld p7] (.Name y p8) p9]

/-- the promise of such an __init__ -/
def spSup (C : Addr) (fld : Str) : Sp := fun vs H Q _ => ∃ (a : Addr) (v : V), vs = [.ref a, v] ∧ H a = some (exo a C none) ∧
  ∀ dx, H dx = none → dx ≠ a → Q .non (upd (upd H dx (exd dx [(fld, v)])) a (exo a C (some dx)))

/-- what the written part says of the class's __init__ -/
structure SupTxt (P : Program) (K : PySem.W.Frag) (mg : Str → Option Value) (C f cc cda : Addr) (qual y fld : Str) (args : Arguments) (body : List Stmt) (scope : Scope) (fd : FuncData) : Prop where
  T : OexC K C
  fdE : ∃ dV kV doc pm an ct, fd = PySem.W.fnX "__init__" qual args body scope [("__class__", cc)] dV kV doc pm an (.ref cda) ct
  lk : ∃ oc od osl, K.lookup f = some ⟨oc, od, .func fd, osl⟩
  cd : PySem.W.codeIn K (.ref cda) qual = true
  file : ∃ ccl cdd vs ccs fl tf, K.lookup cda = some ⟨ccl, cdd, .fields vs, ccs⟩ ∧ vs[2]? = some (.str fl tf) ∧ ((P.main.file : Str) == fl) = true
  cell : ∃ cl cld csl, K.lookup cc = some ⟨cl, cld, .cell (some (.ref C)), csl⟩
  hm : PySem.W.ks_superIn K C C "__init__" = some (some (.builtin "ValueError.__init__"))
  hB : PySem.W.subIn K (.ref C) (.type "ValueError") = some true
  hself : PySem.W.mroIn K C (.ref C) = some true
  ho : PySem.W.nsIn K cStatics "thirdparty.any" = some none
  hno : PySem.W.findIn K (.ref C) fld = some none
  hsup : mg "super" = none
  htop : (P.main.scope.names.lookup ("super" : Str)).isSome = false
  bd : ∃ z j p0 p1 p2 p3 p4 p5 p6 p7 p8 p9, body = supBody z y fld j p0 p1 p2 p3 p4 p5 p6 p7 p8 p9 ∧ (p2.endLine == p4.line) = true
  ar : (args.posonlyargs ++ args.args).head?.map (·.arg) = some "self"
  sc : NScope ["self", y, "__class__"] ["self", y] ["__class__"] scope
  scs : scope.names.lookup ("super" : Str) = some .globalImplicit
  ny : (y == ("__debug__" : Str)) = false ∧ (y == ("__classdict__" : Str)) = false

section
variable {X : Cx} {C f cc cda a : Addr} {v : V} {y fld z : Str} {j : Nat} {p0 p1 p2 p3 p4 p5 p6 p7 p8 p9 : Pos} {H : Hp} {s : Shared} {fd : FuncData} {body : List Stmt} {D : Ends} {Q : Flow → Shared → Prop}
/-- what the body's context is -/
structure SupCx (X : Cx) (C f cc cda : Addr) (y : Str) (fd : FuncData) : Prop where
  n0 : X.N[0]? = some ("self" : Str)
  n1 : X.N[1]? = some y
  ks : X.env.kindOf "super" = some .globalImplicit
  kc : X.env.kindOf "__class__" = some .free
  k0 : X.env.kindOf "self" = some .local
  k1 : X.env.kindOf y = some .local
  fn : X.env.func = some f
  co : X.env.code = .ref cda
  ce : X.env.cells = ([("__class__", cc)] : List (Str × Addr))
  lk : ∃ oc od osl, X.K.lookup f = some ⟨oc, od, .func fd, osl⟩
  ar : (fd.params.posonlyargs ++ fd.params.args).head?.map (·.arg) = some "self"
  file : ∃ ccl cdd vs ccs fl tf, X.K.lookup cda = some ⟨ccl, cdd, .fields vs, ccs⟩ ∧ vs[2]? = some (.str fl tf) ∧ ((X.prog.main.file : Str) == fl) = true
  cell : ∃ cl cld csl, X.K.lookup cc = some ⟨cl, cld, .cell (some (.ref C)), csl⟩
  hm : PySem.W.ks_superIn X.K C C "__init__" = some (some (.builtin "ValueError.__init__"))
  hB : PySem.W.subIn X.K (.ref C) (.type "ValueError") = some true
  hself : PySem.W.mroIn X.K C (.ref C) = some true
  ho : PySem.W.nsIn X.K cStatics "thirdparty.any" = some none
  hsup : X.mg "super" = none
  htop : (X.prog.main.scope.names.lookup ("super" : Str)).isSome = false
  T : OexC X.K C

theorem sup_eval {env : Env} (hp : (p2.endLine == p4.line) = true) : eval (.Call (.Attribute (.Call (.Name "super" p0) [] [] p1) "__init__" p2) [.Constant (.str z) j p3] [] p4) env = (do
      let ov ← attributeBase (.Call (.Name "super" p0) [] [] p1) "__init__" env (eval (.Call (.Name "super" p0) [] [] p1) env)
      standAt p2.atName
      let (f, first) ← holding [ov] (getMethod ov "__init__" (do return (← importBound (.Call (.Name "super" p0) [] [] p1) env).getD true))
      callWith p4 f first (backTo p4 (starEach [.Constant (.str z) j p3] env)) []) := by
  have e : ∀ few, methodCallPos few (.Call (.Name "super" p0) [] [] p1) env p2 p4 = pure p4 := fun few => by
    unfold methodCallPos
    rw [hp, Bool.or_true]
    rfl
  rw [eval]
  unfold methodCall
  simp only [e]
  rfl
theorem sup_first (hp4 : (p2.endLine == p4.line) = true) (S : SupCx X C f cc cda y fd) (I : Inv X [] [some (V.ref a), some v, some (V.ref C)] H s) (ha : H a = some (exo a C none))
    (h : ∀ s', Inv X [] [some (V.ref a), some v, some (V.ref C)] H s' → Q .next s') : 
    PySem.wpAt (model X.prog X.w) X.A (.func body X.env) (exec (.Expr (.Call (.Attribute (.Call (.Name "super" p0) [] [] p1) "__init__" p2) [.Constant (.str z) j p3] [] p4) p5) X.env) Q X.xe s := by
  obtain ⟨oc, od, osl, lk⟩ := S.lk
  obtain ⟨ccl, cdd, fvs, ccs, fl, tf, lkc, hvs, hfile⟩ := S.file
  obtain ⟨cl, cld, csl, lkcc⟩ := S.cell
  obtain ⟨ar, har, harg⟩ : ∃ ar : Arg, (fd.params.posonlyargs ++ fd.params.args).head? = some ar ∧ ar.arg = "self" := by
    have h := S.ar
    cases e : (fd.params.posonlyargs ++ fd.params.args).head? with
    | none => rw [e] at h; cases h
    | some ar => rw [e] at h; exact ⟨ar, rfl, Option.some.inj h⟩
  obtain ⟨nm, q, N, bs, bm, sn, sub, ab, col, dd, k0, k1, k2, k3, k5, hC, hbm⟩ := S.T.cls
  have hcl : PySem.W.clsIn X.K C = some { name := nm, bases := bs, mro := .ref C :: bm, ns := N, qualname := q, hasDict := true, slotNames := sn, subclasses := sub, abstract := ab, collection := col, hasDel := false } := by unfold PySem.W.clsIn; rw [hC] <;> rfl
  have KX := I.kIn
  have hCs := KX _ _ hC
  obtain ⟨t1, hoa⟩ := exo_at I.hok ha
  refine PySem.ks_wpAt_Expr_any (PySem.ks_wpAt_MethodCall (PySem.ks_wpAt_super_base S.ks S.kc (by decide) S.fn (KX _ _ lk) rfl har S.co (KX _ _ lkc) rfl hvs hfile S.htop ?_) (sup_eval hp4)) I.quiet (by rfl)
  obtain ⟨mb, hb1, hb2⟩ := I.mod.blt
  refine PySem.W.ks_loadName_global I.ok.kind S.ks (Calls.loadGlobal_builtin (by rw [I.ok.glob]; exact I.mod.glob.keeps I.bk) S.hsup (by rw [I.ok.blt]; exact hb1.keeps I.bk) ((hb2 _ (by decide)).trans (by decide +kernel : bootBuiltins "super" = some (.type "super"))) ⟨rfl, ?_⟩)
  refine wpAny_loadName_free I.ok.kind S.kc (by rw [S.ce]; rfl) ⟨_, KX _ _ lkcc, rfl⟩ ?_
  rw [harg]
  obtain ⟨m, hm, hl⟩ := I.loc
  obtain ⟨u0, ru0, lu0⟩ := hl 0 "self" (V.ref a) S.n0 rfl (.inl S.k0)
  obtain rfl : u0 = Value.ref a := ru0
  have hms : m "self" = some (.ref a) := by
    rcases lu0 with ⟨_, h⟩ | ⟨h, _⟩
    · exact h
    · rw [S.k0] at h
      rcases h with h | h <;> cases h
  refine wpAny_loadName_local I.ok.kind S.k0 hm hms ?_
  refine PySem.ks_wpAny_isType_cls hCs rfl ⟨rfl, ?_⟩
  obtain ⟨hp, g, dr, tk, os⟩ := s
  refine PySem.ks_wpAny_call_super hCs rfl hoa rfl (fun c e => by cases e) (PySem.W.looks_mroIn KX S.hself) (fun h' e k => ?_)
  have I1 := I.kept (t' := tk) k
  have hoa' := k _ _ hoa
  have KX' := I1.kIn
  have hnaC : a ≠ C := fun z => by
    have q1 := (I.bs C _ (I.ok.mod.kin _ _ hC)).2
    rw [← z, ha] at q1
    cases q1
  have J : PySem.W.InstAt h' a { cls := .ref C, dict := none, data := .fields #[.ref t1, .none, .none, .none, .bool false, .none] } C none := ⟨hoa', rfl, rfl, trivial⟩
  have hsup := S.hm
  unfold PySem.W.ks_superIn at hsup
  rw [hcl] at hsup
  refine PySem.W.kxs_getMethod PySem.W.kxs_ValueError e (PySem.W.looks_opaque KX' S.ho) (fun A Q E s k q => wpAny_bind ((PySem.W.looks_clsIn KX' hcl) A _ E s k (wpAny_pure q))) rfl KX' hsup (J.type.andThen (PySem.W.looks_subIn KX' S.hB)) hnaC (by decide) ?_
  have k2 : ∀ b o, h'.get? b = some o → (h'.push (PySem.W.kxs_mw "ValueError.__init__" a)).get? b = some o := fun b o e => Heap.get?_push_of_some _ e
  have hu : (h'.push (PySem.W.kxs_mw "ValueError.__init__" a)).get? h'.objs.size = some (PySem.W.kxs_mw "ValueError.__init__" a) := Heap.get?_push_at rfl rfl
  have I2 := I1.kept (t' := tk + 1) k2
  have I3 : Inv X [(h'.objs.size, PySem.W.kxs_mw "ValueError.__init__" a)] [some (V.ref a), some v, some (V.ref C)] H ⟨h'.push (PySem.W.kxs_mw "ValueError.__init__" a), g, dr, tk + 1, os⟩ := I2.pins_of fun p hp => by
    have ep : p = (h'.objs.size, PySem.W.kxs_mw "ValueError.__init__" a) := by simpa using hp
    subst ep
    exact ⟨hu, I1.hok.fresh (Nat.le_refl _), Nat.ne_of_gt I1.lt, I1.nofs (Nat.le_refl _), fun v => by simp [PySem.W.kxs_mw]⟩
  refine PySem.W.kxs_callWith (i := "ValueError.__init__") (x := a) rfl (PySem.Calls.evalArgs_plain (thn ((pa_cons pe_str pa_nil).run p4 [(h'.objs.size, PySem.W.kxs_mw "ValueError.__init__" a)] _ _ H (fun vs H1 => H1 = H ∧ vs = [V.str z]) I3 ⟨rfl, rfl⟩) fun us s1 hq => ?_))
  obtain ⟨vs, H1, I4, rv, rfl, rfl⟩ := hq
  have hu4 := (I4.pin (h'.objs.size, PySem.W.kxs_mw "ValueError.__init__" a) (List.mem_append_right _ List.mem_cons_self)).1
  refine ⟨hu4, ?_⟩
  have I5 : Inv X [] [some (V.ref a), some v, some (V.ref C)] H1 s1 := I4.pins_of fun p hp => by cases hp
  obtain ⟨t5, hoa5⟩ := exo_at I5.hok ha
  have hC5 := I5.kIn _ _ hC
  have hlen : us.length ≤ sizeLine := by
    rw [← Paired.length rv, sizeLine_eq]
    show 1 ≤ 16777216
    decide
  obtain ⟨hp5, g5, dr5, tk5, os5⟩ := s1
  show wpAny (model X.prog X.w) X.A (call (Value.ref h'.objs.size) us) _ _ _
  refine wpAny_call (codeAny_of_tree ?_)
  show wpAny _ X.A.in1 (callAny (.ref h'.objs.size) ⟨us, []⟩) _ _ _
  simp only [callAny]
  refine wpAny_bind (wpAny_load hu4 ?_)
  simp only [PySem.W.kxs_mw, show (Value.type "method-wrapper" == Value.type "method" || Value.type "method-wrapper" == Value.type "builtin_function_or_method" || Value.type "method-wrapper" == Value.type "method-wrapper") = true by decide, if_true]
  refine PySem.W.KFB.if_so (by decide) ?_
  refine wpAny_bind (PySem.W.check_bound_init F.excBase_ValueError.toExcCallFacts hC5 hoa5 rfl ?_)
  refine wpAny_bind (wpAny_pure (wpAny_pure ?_))
  refine ⟨plainId_quiet F.excBase_ValueError.init.plain _, codeAny_builtin F.excBase_ValueError.initEntry ?_⟩
  refine PySem.W.exc_init_tree (cls := .ref C) (t0 := t5) (dv := none) (c2 := .none) (c3 := .none) (b4 := .bool false) hoa5 hlen fun h6 k6 e6 _ => ?_
  have J6 := I5.write (t' := tk5) (x := a) (e := a) (o := exo a C none) (by rw [ha]; exact True.intro) (.inl rfl) k6 ⟨_, e6⟩ (exo_ok e6)
  have eu : upd H1 a (exo a C none) = H1 := by
    funext b
    by_cases hb : b = a
    · rw [hb, upd_same, ha]
    · rw [upd_ne hb]
  rw [eu] at J6
  exact h _ J6
end

section
variable {P : Program} {w : World} {K : PySem.W.Frag} {mg : Str → Option Value} {base : Heap} {C f cc cda : Addr} {qual y fld : Str} {args : Arguments} {body : List Stmt} {scope : Scope} {fd : FuncData}
theorem ok_sup (S : SupTxt P K mg C f cc cda qual y fld args body scope fd) : FnOk P w K mg base CX0 1 f fd ["self", y] (spSup C fld) := by
  refine ⟨fun vs H Q E h => ?_, fun A outer s H as us vs Q E hr e0 hb r hsp => ?_⟩
  · obtain ⟨a, v, rfl, _⟩ := h
    rfl
  obtain ⟨a, v, rfl, ha, q⟩ := hsp
  obtain ⟨dV, kV, doc, pm, an, ct, rfl⟩ := S.fdE
  obtain ⟨oc, od, osl, lk⟩ := S.lk
  obtain ⟨ccl, cdd, fvs, ccs, fl, tf, lkc, hvs, hfile⟩ := S.file
  obtain ⟨cl, cld, csl, lkcc⟩ := S.cell
  obtain ⟨z, j, p0, p1, p2, p3, p4, p5, p6, p7, p8, p9, rfl, hp4⟩ := S.bd
  obtain ⟨ar, har, harg⟩ : ∃ ar : Arg, (args.posonlyargs ++ args.args).head? = some ar ∧ ar.arg = "self" := by
    have h := S.ar
    cases e : (args.posonlyargs ++ args.args).head? with
    | none => rw [e] at h; cases h
    | some ar => rw [e] at h; exact ⟨ar, rfl, Option.some.inj h⟩
  have KX : K.In s.heap := e0.mod.kin.keeps fun b o e => (e0.bs b o e).1
  have lim : s.heap.NoLimit := e0.mod.nolimit.keeps fun b o e => (e0.bs b o e).1
  have hcc : H cc = none := (e0.bs cc _ (e0.mod.kin _ _ lkcc)).2
  have hC0 : H C = none := by
    obtain ⟨nm, q, N, bs, bm, sn, sub, ab, col, dd, k0, k1, k2, k3, k5, hC, hbm⟩ := S.T.cls
    exact (e0.bs C _ (e0.mod.kin _ _ hC)).2
  have r' := r
  let F : NF := ⟨"__init__", qual, args, supBody z y fld j p0 p1 p2 p3 p4 p5 p6 p7 p8 p9, scope, [("__class__", cc)], cda⟩
  have Ce : CellsAt F.cl ["__class__"] [some (V.ref C)] s.heap H := by
    have one : ∀ (x : Str) (c : Addr), ([("__class__", cc)] : List (Str × Addr)).lookup x = some c → x = "__class__" ∧ c = cc := fun x c e => by
      have h := PySem.mem_of_lookup e
      simp at h
      exact h
    refine ⟨rfl, fun x c e => ?_, fun x1 x2 c e1 e2 => ?_, fun i x e => ?_⟩
    · obtain ⟨_, rfl⟩ := one x c e
      exact ⟨hcc, _, _, KX _ _ lkcc, rfl⟩
    · rw [(one _ _ e1).1, (one _ _ e2).1]
    · cases i with
      | zero =>
        have e' : ("__class__" : Str) = x := Option.some.inj e
        subst e'
        refine ⟨cc, by simp [F, List.lookup], fun v e => ?_⟩
        have e'' : V.ref C = v := Option.some.inj (Option.some.inj e)
        subst e''
        exact ⟨.ref C, rfl, _, KX _ _ lkcc, rfl⟩
      | succ i => simp at e
  refine PySem.ks_codeAny_call_defAt (fd := PySem.W.fnX "__init__" qual args (supBody z y fld j p0 p1 p2 p3 p4 p5 p6 p7 p8 p9) scope [("__class__", cc)] dV kV doc pm an (.ref cda) ct) (body := supBody z y fld j p0 p1 p2 p3 p4 p5 p6 p7 p8 p9) (binds := (["self", y] : List Str).zip us)
    hr.depth (KX _ _ lk) rfl lim (PySem.W.codeRec_of KX S.cd) rfl hb S.sc.nocell (fun ⟨n, _⟩ hy => S.sc.par n (List.of_mem_zip hy).1) (fun h₁ hns kp => ?_) S.sc.co S.sc.gen S.sc.kind
  have I : Inv (ncx CX0 P w K mg base ["self", y, "__class__"] F f A outer s H E) [] (startF ["self", y, "__class__"] [V.ref a, v] [some (V.ref C)]) H { s with heap := h₁, toks := s.toks + ((["self", y] : List Str).zip us).length } := inv_startN S.sc hr.hd e0 rfl r Ce hns kp
  show PySem.wpAt (model P w) (A.deeper (envF F f s.heap.objs.size)) (.func F.body (envF F f s.heap.objs.size)) (execs F.body (envF F f s.heap.objs.size)) _ (ncx CX0 P w K mg base ["self", y, "__class__"] F f A outer s H E).xe _
  have SC : SupCx (ncx CX0 P w K mg base ["self", y, "__class__"] F f A outer s H E) C f cc cda y (PySem.W.fnX "__init__" qual args (supBody z y fld j p0 p1 p2 p3 p4 p5 p6 p7 p8 p9) scope [("__class__", cc)] dV kV doc pm an (.ref cda) ct) := {
    n0 := rfl, n1 := rfl, ks := S.scs, kc := S.sc.frk _ List.mem_cons_self, k0 := S.sc.par _ List.mem_cons_self, k1 := S.sc.par _ (List.mem_cons_of_mem _ List.mem_cons_self), fn := rfl, co := rfl, ce := rfl,
    lk := ⟨oc, od, osl, lk⟩, ar := S.ar, file := ⟨ccl, cdd, fvs, ccs, fl, tf, lkc, hvs, hfile⟩, cell := ⟨cl, cld, csl, lkcc⟩, hm := S.hm, hB := S.hB, hself := S.hself, ho := S.ho, hsup := S.hsup, htop := S.htop, T := S.T }
  refine PySem.ks_wpAt_execs_cons (sup_first hp4 SC I ha fun s' I' => ?_)
  refine PySem.ks_wpAt_execs_cons (wpAt_of_wpAny (wpAny_mono ((ps_ost (f := fld) (pe_var (i := 0) rfl (.inl SC.k0)) (pe_var (i := 1) rfl (.inl SC.k1) S.ny.1 S.ny.2)).run [] s' _ H { nx := fun _ H' => Q .non H', rt := fun _ _ => False } I' ?_) (fun fl s2 hs => ?_) fun _ _ z => z))
  · exact ⟨v, rfl, V.ref a, rfl, a, C, rfl, S.T, S.hno, .inl ⟨ha, fun dx hd hne => q dx hd hne⟩⟩
  · cases fl with
    | next =>
      obtain ⟨σ', H', J, hq⟩ := hs
      refine wpAt_of_wpAny (wpAny_pure ?_)
      exact ⟨V.non, H', J.os, J.bare, J.base, J.hok, rfl, hq⟩
    | ret u => obtain ⟨_, _, _, _, _, q⟩ := hs; exact False.elim q
    | brk => obtain ⟨_, _, _, q⟩ := hs; exact False.elim q
    | cont => obtain ⟨_, _, _, q⟩ := hs; exact False.elim q
end
end Aw

namespace Aw
open PySem PySem.Spec PyProof.Rows L2 NdefX
abbrev St := L2.St

/-! ### X(v) made: raised, or held as a value -/
/-- what pmk_oex asks behind the argument, answered -/
theorem mkS_ans {C : Addr} {fld : Str} {v : V} {H1 : Hp} {Q : XK} (q : ∀ d, H1 d = none → Q (.ref C) (some d) (upd H1 d (.xd [(fld, v)]))) :
    ([v] : List V).length ≤ 1000 ∧ ∀ a, H1 a = none → spSup C fld (.ref a :: ([v] ++ [])) (upd H1 a (exo a C none))
      (fun v H2 => v = .non ∧ ∃ (d : Addr) (fs : List (Str × V)), H2 a = some (exo a C (some d)) ∧ H2 d = some (exd d fs) ∧ H1 d = none ∧ Q (.ref C) (some d) (upd (del H2 a) d (.xd fs))) (fun _ _ _ => False) := by
  refine ⟨by show 1 ≤ 1000; decide, fun a hn => ⟨a, v, rfl, upd_same, fun dx hd hne => ⟨rfl, dx, [(fld, v)], upd_same, ?_, ?_, ?_⟩⟩⟩
  · rw [upd_ne hne, upd_same]
  · have := hd
    rw [upd_ne hne] at this
    exact this
  · have hd' : H1 dx = none := by
      have := hd
      rw [upd_ne hne] at this
      exact this
    have eh : upd (del (upd (upd (upd H1 a (exo a C none)) dx (exd dx [(fld, v)])) a (exo a C (some dx))) a) dx (.xd [(fld, v)]) = upd H1 dx (.xd [(fld, v)]) := by
      funext b
      by_cases hb : b = dx
      · rw [hb, upd_same, upd_same]
      · rw [upd_ne hb, upd_ne hb]
        by_cases hba : b = a
        · rw [hba, del_same, hn]
        · rw [del_ne hba, upd_ne hba, upd_ne hb, upd_ne hba]
    rw [eh]
    exact q dx hd'
section
variable {X : Cx} {C f cc cda : Addr} {qual y fld x : Str} {args : Arguments} {body : List Stmt} {scope : Scope} {fd : FuncData} {e : Expr} {es : List Expr} {ta : TA} {p pos : Pos}
/-- X(v), to be raised: the reading is tMkO C (spSup C fld) [] ta; behind the argument: mkS_ans -/
theorem pmk_sup (S : SupTxt X.prog X.K X.mg C f cc cda qual y fld args body scope fd) (iC : PySem.W.findIn X.K (.ref C) "__init__" = some (some (.ref f))) (tI : PySem.W.typeIn X.K (.ref f) = some (.type "function"))
    (hb : Binds X.K fd ["self", y] []) (hr : Room 2 X.A) (hg : Gl X x) (hm : X.mg x = some (.ref C)) (ha : PA X (e :: es) ta)
    (hdb : (x == ("__debug__" : Str)) = false := by decide) (he : starEach (e :: es) X.env = (false, eval e X.env) :: starEach es X.env := by rfl) (hpl : (backTo pos (starEach es X.env)).any (·.1) = false := by rfl) :
    PMk X (.Call (.Name x p) (e :: es) [] pos) (tMkO C (spSup C fld) [] ta) :=
  pmk_oex (ds := []) (dvs := []) (CX := CX0) S.T iC tI (ok_sup S) hr hb .nil pass0 hg hm ha hdb he hpl

/-- X(v) as a value -/
def tVaS (C : Addr) (fld : Str) (ta : TA) : TE := fun σ H Q => ta σ H fun vs H1 => ∃ v, vs = [v] ∧ ∀ a d, H1 a = none → H1 d = none → d ≠ a → Q (.ref a) (upd (upd H1 d (exd d [(fld, v)])) a (exo a C (some d)))
theorem pe_sup (S : SupTxt X.prog X.K X.mg C f cc cda qual y fld args body scope fd) (iC : PySem.W.findIn X.K (.ref C) "__init__" = some (some (.ref f))) (tI : PySem.W.typeIn X.K (.ref f) = some (.type "function"))
    (hb : Binds X.K fd ["self", y] []) (hr : Room 2 X.A) (hg : Gl X x) (hm : X.mg x = some (.ref C)) (ha : PA X (e :: es) ta)
    (hdb : (x == ("__debug__" : Str)) = false := by decide) (he : starEach (e :: es) X.env = (false, eval e X.env) :: starEach es X.env := by rfl) (hpl : (backTo pos (starEach es X.env)).any (·.1) = false := by rfl) :
    PE X (.Call (.Name x p) (e :: es) [] pos) (tVaS C fld ta) := by
  have T := S.T
  have F1 : FnOk X.prog X.w X.K X.mg X.base CX0 1 f fd ["self", y] (spSup C fld) := ok_sup S
  refine ⟨fun pins s σ H Q I h => ?_⟩
  obtain ⟨nm, q, N, bs, bm, sn, sub, ab, col, dd, k0, k1, k2, k3, k5, hC, hbm⟩ := T.cls
  refine wpAny_Call_Name_kw (ld_glob I hg hm ?_ hdb)
  refine PySem.W.callWith_K (h₀ := X.base) I.ok.mod.kin T.kC (thn (ha.run pos pins s σ H _ I h) fun us s1 ⟨vs, H1, I1, r1, v, ev, q1⟩ => ⟨I1.kIn, ?_⟩) he hpl
  subst ev
  show wpAny _ _ (call (.ref C) us) _ _ _
  obtain ⟨hp, g, dr, tk, os⟩ := s1
  have hsz : hp.objs.size ≤ hp.objs.size + 1 := Nat.le_succ _
  have hn : H1 (hp.objs.size + 1) = none := I1.hok.fresh hsz
  have kk : ∀ b o, hp.get? b = some o → ((hp.push (PySem.W.kdv_tup us)).push (PySem.HandSPX.excO C hp.objs.size)).get? b = some o := fun b o e => Heap.get?_push_of_some _ (Heap.get?_push_of_some _ e)
  have hget : ((hp.push (PySem.W.kdv_tup us)).push (PySem.HandSPX.excO C hp.objs.size)).get? (hp.objs.size + 1) = some (PySem.HandSPX.excO C hp.objs.size) := by heap_get
  have I2 : Inv X pins σ (upd H1 (hp.objs.size + 1) (exo (hp.objs.size + 1) C none)) ⟨(hp.push (PySem.W.kdv_tup us)).push (PySem.HandSPX.excO C hp.objs.size), g, dr, tk, os⟩ :=
    I1.laid (t' := tk) (a := hp.objs.size + 1) (o := exo (hp.objs.size + 1) C none) (h' := (hp.push (PySem.W.kdv_tup us)).push (PySem.HandSPX.excO C hp.objs.size)) kk hsz (exo_ok hget)
  have r2 : Vals (V.ref (hp.objs.size + 1) :: [v]) (Value.ref (hp.objs.size + 1) :: us) := .cons rfl r1
  have hus : us.length ≤ sizeLine := by
    rw [← Paired.length r1, sizeLine_eq]
    show 1 ≤ 16777216
    decide
  have hq : spSup C fld (V.ref (hp.objs.size + 1) :: [v]) (upd H1 (hp.objs.size + 1) (exo (hp.objs.size + 1) C none)) (fun w H2 => w = .non ∧ Q (.ref (hp.objs.size + 1)) H2) (fun _ _ _ => False) := by
    refine ⟨hp.objs.size + 1, v, rfl, upd_same, fun dx hd hne => ⟨rfl, ?_⟩⟩
    have hd' : H1 dx = none := by
      have := hd
      rw [upd_ne hne] at this
      exact this
    have eh : upd (upd (upd H1 (hp.objs.size + 1) (exo (hp.objs.size + 1) C none)) dx (exd dx [(fld, v)])) (hp.objs.size + 1) (exo (hp.objs.size + 1) C (some dx)) = upd (upd H1 dx (exd dx [(fld, v)])) (hp.objs.size + 1) (exo (hp.objs.size + 1) C (some dx)) := by
      funext b
      by_cases hb : b = hp.objs.size + 1
      · rw [hb, upd_same, upd_same]
      · rw [upd_ne hb, upd_ne hb]
        by_cases hbd : b = dx
        · rw [hbd, upd_same, upd_same]
        · rw [upd_ne hbd, upd_ne hbd, upd_ne hb]
    rw [eh]
    exact q1 _ dx hn hd' hne
  have hl : (Value.ref (hp.objs.size + 1) :: us ++ []).length = (["self", y] : List Str).length := by
    have e := r2.length
    rw [List.append_nil]
    rw [← e]
    rfl
  have bb := hb _ (Value.ref (hp.objs.size + 1) :: us) I2.kIn hl
  rw [List.append_nil] at bb
  refine wpAny_call (PySem.HandSPX.call_own F.excBase_ValueError (fun Y => PySem.HandSPX.refsVE_contains Y bm hbm) (I1.kIn _ _ hC) (PySem.W.looks_findIn I1.kIn iC) (fun self => PySem.W.bind_fn I1.kIn self tI) hus
    (codeAny_mono (F1.run _ X.stack _ _ ⟨Value.ref (hp.objs.size + 1) :: us, []⟩ (Value.ref (hp.objs.size + 1) :: us) _ _ (fun _ _ _ => False) (hr.make C us []) (I2.env0.make C us []) bb r2 hq) fun r s' hq' => ?_))
  cases r with
  | error er => exact pass0 pins σ _ _ er s' I2 hq'
  | ok fl =>
    cases fl with
    | ret u =>
      have ea := I2.after hq'
      obtain ⟨w', H2, I3, rv, ew, q2⟩ := ea
      subst ew
      exact ⟨rv, .ref (hp.objs.size + 1), H2, I3, rfl, q2⟩
    | next => exact False.elim hq'
    | brk => exact False.elim hq'
    | cont => exact False.elim hq'
end
end Aw

namespace Aw
open PySem PySem.Spec PyProof.Rows L2 NdefX

/-! ### what an exception class says, for isinstance and for its fields -/
structure ExcD (K : PySem.W.Frag) (C : Addr) : Prop where
  ga : PySem.W.findIn K (.ref C) "__getattribute__" = some (some (.builtin "BaseException.__getattribute__"))
  gg : PySem.W.findIn K (.ref C) "__getattr__" = some none
  exC : PySem.W.subIn K (.ref C) (.type "BaseException") = some true
  hdC : PySem.W.hasDictIn K C = true
  ha : PySem.W.findIn K (.ref C) "__class__" = some (some (.builtin "object.__class__"))
  hn : PySem.W.specialIn K (.builtin "object.__class__") "__get__" = some (some (.builtin "getset_descriptor.__get__"))
  ht : PySem.W.takesIn K (.builtin "object.__class__") = some true
  hm : PySem.W.mroIn K C (.type "object") = some true
theorem ExcD.cl {K : PySem.W.Frag} {C : Addr} (E : ExcD K C) : (PySem.W.clsIn K C).isSome = true := by
  obtain ⟨cd, hc, _⟩ := PySem.W.any_some E.hdC
  rw [hc]
  rfl
section
variable {K : PySem.W.Frag} {X : Cx} {a C d : Addr} {fs : List (Str × V)} {f : Str} {v : V} {oe : Obj} {H : Hp} {pins : List (Addr × Obj)} {σ : Aw.St} {s : Shared} {A : Around} {E : Value → Shared → Prop}
/-- isinstance(e, c) of an exception in hand, at a -/
def rIsV (K : PySem.W.Frag) : List V → Hp → VK → Prop := fun xs H Q => ∃ (a C : Addr) (d : Option Addr) (c : V) (cv : Value) (b : Bool), xs = [.ref a, c] ∧ ExcD K C ∧ H a = some (exo a C d) ∧ (∀ dd, d = some dd → ∃ fs, H dd = some (exd dd fs)) ∧ ClsV c cv ∧ PySem.W.kitOne K (.ref C) cv = some b ∧ Q (.bl b) H
theorem inst_exo (I : Inv X pins σ H s) {d : Option Addr} (ha : H a = some (exo a C d)) (hd : ∀ dd, d = some dd → ∃ fs, H dd = some (exd dd fs)) : ∃ oe od, PySem.W.InstAt s.heap a oe C od := by
  obtain ⟨t1, ho⟩ := exo_at I.hok ha
  cases d with
  | none => exact ⟨_, none, ho, rfl, rfl, trivial⟩
  | some dd =>
    obtain ⟨fs, hf⟩ := hd dd rfl
    obtain ⟨mA, hns, rel⟩ := exd_at I.hok hf
    obtain ⟨o, es, ep, ho', _⟩ := hns
    exact ⟨_, some o, ho, rfl, rfl, ho'⟩
theorem call_isV : CallR X (.builtin "isinstance") (rIsV X.K) := by
  intro pins s σ H xs us Q I r h
  obtain ⟨a, C, d, c, cv, b, rfl, D, ha, hd, hc, e, q⟩ := h
  cases r with
  | cons rx rr =>
    cases rr with
    | cons rt rr =>
      cases rr
      cases rx
      have ec := hc.eq rt
      subst ec
      obtain ⟨oe, od, J⟩ := inst_exo I ha hd
      exact PySem.W.kia_one (PySem.W.kitx_exc D.cl D.ga D.gg D.exC D.ha D.hn D.ht D.hm) I.kIn J e (fun z => nomatch z) fun tk => ⟨.bl b, H, I.kept (t' := tk) fun _ _ z => z, rfl, q⟩
/-- e.f of an exception in hand -/
def tXv (K : PySem.W.Frag) (f : Str) (te : TE) : TE := fun σ H Q => te σ H fun x H1 => ∃ (a C d : Addr) (fs : List (Str × V)) (v : V), x = .ref a ∧ ExcD K C ∧ PySem.W.findIn K (.ref C) f = some none ∧ H1 a = some (exo a C (some d)) ∧ H1 d = some (exd d fs) ∧ fs.lookup f = some v ∧ Q v H1
theorem pe_xv {e : Expr} {te : TE} {pos : Pos} {n : Str} (he : PE X e te) (hb : attributeBase e n X.env (eval e X.env) = eval e X.env := by rfl) : PE X (.Attribute e n pos) (tXv X.K n te) := by
  refine ⟨fun pins s σ H Q I h => ?_⟩
  refine attr_of hb (thn (he.run pins s σ H _ I h) fun u s1 hh => ?_)
  obtain ⟨x, H1, I1, rx, a, C, d, fs, v, ex, D, hno, ha, hd, l, q⟩ := hh
  subst ex
  obtain rfl : u = Value.ref a := rx
  obtain ⟨t1, ho⟩ := exo_at I1.hok ha
  obtain ⟨mA, hns, hr⟩ := exd_at I1.hok hd
  obtain ⟨od, hod, hl⟩ := lookIn_ns hns
  obtain ⟨u, hu, ru⟩ := RelO.some_of (v := v) (o := mA n) (by rw [← l]; exact hr n)
  have J : PySem.W.InstAt s1.heap a _ C (some od) := ⟨ho, rfl, rfl, hod⟩
  exact HandSPX.exc_get I1.kIn J D.ga D.gg D.exC (PySem.W.findObj_own D.hdC hno rfl (by rw [hl, hu])) (handed_of ru) ⟨v, H1, I1.tok _, ru, q⟩

/-! ### the same of an exception that is handled (pinned) -/
theorem inst_pin (I : Inv X pins σ H s) (hp : (a, oe) ∈ X.pn) {cls : Value} {d : Option Addr} (hz : Zc cls d oe) (hf : ∃ vs, oe.data = .fields vs) (ec : cls = .ref C) (hd : ∀ dd, d = some dd → ∃ fs, H dd = some (.xd fs)) : ∃ od, PySem.W.InstAt s.heap a oe C od := by
  obtain ⟨ha, _⟩ := I.pin (a, oe) (List.mem_append_left _ hp)
  obtain ⟨vs, hv⟩ := hf
  obtain ⟨z1, z2⟩ := hz
  have hn : PySem.W.notCls oe = true := by unfold PySem.W.notCls; rw [hv] <;> rfl
  cases d with
  | none => exact ⟨none, ha, z1.trans ec, hn, by rw [z2]; exact trivial⟩
  | some dd =>
    obtain ⟨fs, h⟩ := hd dd rfl
    have hx : ObjOk X.prog X.w H s.heap dd (.xd fs) := I.hok dd _ h
    obtain ⟨mA, ⟨o, es, ep, ho, _⟩, _⟩ := hx
    exact ⟨some o, ha, z1.trans ec, hn, by rw [z2]; exact ho⟩
def rIsP (K : PySem.W.Frag) (a : Addr) (cls : Value) (d : Option Addr) : List V → Hp → VK → Prop := fun xs H Q => ∃ (C : Addr) (c : V) (cv : Value) (b : Bool), xs = [.ref a, c] ∧ cls = .ref C ∧ ExcD K C ∧ (∀ dd, d = some dd → ∃ fs, H dd = some (.xd fs)) ∧ ClsV c cv ∧ PySem.W.kitOne K (.ref C) cv = some b ∧ Q (.bl b) H
theorem call_isP {cls : Value} {d : Option Addr} (hp : (a, oe) ∈ X.pn) (hz : Zc cls d oe) (hf : ∃ vs, oe.data = .fields vs) : CallR X (.builtin "isinstance") (rIsP X.K a cls d) := by
  intro pins s σ H xs us Q I r h
  obtain ⟨C, c, cv, b, rfl, ec, D, hd, hc, e, q⟩ := h
  cases r with
  | cons rx rr =>
    cases rr with
    | cons rt rr =>
      cases rr
      cases rx
      have eq := hc.eq rt
      subst eq
      obtain ⟨od, J⟩ := inst_pin I hp hz hf ec hd
      exact PySem.W.kia_one (PySem.W.kitx_exc D.cl D.ga D.gg D.exC D.ha D.hn D.ht D.hm) I.kIn J e (fun z => nomatch z) fun tk => ⟨.bl b, H, I.kept (t' := tk) fun _ _ z => z, rfl, q⟩
def tXp (K : PySem.W.Frag) (a : Addr) (cls : Value) (d : Option Addr) (f : Str) (te : TE) : TE := fun σ H Q => te σ H fun x H1 => x = .ref a ∧ ∃ (C dd : Addr) (fs : List (Str × V)) (v : V), cls = .ref C ∧ ExcD K C ∧ PySem.W.findIn K (.ref C) f = some none ∧ d = some dd ∧ H1 dd = some (.xd fs) ∧ fs.lookup f = some v ∧ Q v H1
theorem pe_xp {cls : Value} {d : Option Addr} {e : Expr} {te : TE} {pos : Pos} {n : Str} (hp : (a, oe) ∈ X.pn) (hz : Zc cls d oe) (hf : ∃ vs, oe.data = .fields vs) (he : PE X e te) (hb : attributeBase e n X.env (eval e X.env) = eval e X.env := by rfl) : PE X (.Attribute e n pos) (tXp X.K a cls d n te) := by
  refine ⟨fun pins s σ H Q I h => ?_⟩
  refine attr_of hb (thn (he.run pins s σ H _ I h) fun u s1 hh => ?_)
  obtain ⟨x, H1, I1, rx, ex, C, dd, fs, v, ec, D, hno, ed, ea, l, q⟩ := hh
  subst ex
  obtain rfl : u = Value.ref a := rx
  subst ec ed
  obtain ⟨ha, _⟩ := I1.pin (a, oe) (List.mem_append_left _ hp)
  obtain ⟨vs, hd⟩ := hf
  have hx : ObjOk X.prog X.w H1 s1.heap dd (.xd fs) := I1.hok dd _ ea
  obtain ⟨mA, hns, hr⟩ := hx
  obtain ⟨od, ho, hl⟩ := lookIn_ns hns
  obtain ⟨u, hu, ru⟩ := RelO.some_of (v := v) (o := mA n) (by rw [← l]; exact hr n)
  have J : PySem.W.InstAt s1.heap a oe C (some od) := ⟨ha, hz.1, by unfold PySem.W.notCls; rw [hd] <;> rfl, by rw [hz.2]; exact ho⟩
  exact HandSPX.exc_get I1.kIn J D.ga D.gg D.exC (PySem.W.findObj_own D.hdC hno rfl (by rw [hl, hu])) (handed_of ru) ⟨v, H1, I1.tok _, ru, q⟩
end
/-! ### a def that is called within an except suite, with the exception handled as argument -/
structure FnE (P : Program) (w : World) (K : PySem.W.Frag) (mg : Str → Option Value) (base : Heap) (k : Nat) (f : Addr) (fd : FuncData) (ps : List Str) (sp : Addr → Value → Option Addr → Sp) : Prop where
  len : ∀ a c d vs H Q E, sp a c d vs H Q E → vs.length = ps.length
  run : ∀ (A : Around) (outer : List Env) (s : Shared) (H : Hp) (args : Args) (us : List Value) (vs : List V) (Q : VK) (E : XK) (p : Addr × Obj) (cls : Value) (d : Option Addr), L2H.RoomH k A → L2H.PinOk outer H s p → Zc cls d p.2 → (∃ vs, p.2.data = .fields vs) → Env0 P w K mg base A outer s H → BindsTo s fd args (ps.zip us) → Vals vs us → sp p.1 cls d vs H Q E →
    codeAny (model P w) A (.call (.ref f) args) (CR CX0 outer P w H s Q E) s
theorem fn_ofE {P : Program} {w : World} {K : PySem.W.Frag} {mg : Str → Option Value} {base : Heap} {k : Nat} {f : Addr} {name qual : Str} {params : Arguments} {body : List Stmt} {scope : Scope} {dV kV doc pm cdv ct oc : Value} {an od : Option Addr}
    {osl : Array (Option Value)} {N ps : List Str} {sp : Addr → Value → Option Addr → Sp} (lk : K.lookup f = some ⟨oc, od, .func (PySem.W.fnOf name qual params body scope dV kV doc pm an cdv ct), osl⟩) (hcd : PySem.W.codeIn K cdv qual = true) (S : FnScope N ps scope)
    (len : ∀ a c d vs H Q E, sp a c d vs H Q E → vs.length = ps.length)
    (hbody : ∀ (A : Around) (outer : List Env) (s : Shared) (H : Hp) (vs : List V) (Q : VK) (E : XK) (p : Addr × Obj) (cls : Value) (d : Option Addr), Zc cls d p.2 → (∃ vs, p.2.data = .fields vs) → L2H.RoomH k (A.deeper (envOfC qual scope s.heap.objs.size f cdv)) → sp p.1 cls d vs H Q E →
      ∃ t, PSs (L2H.cxH CX0 P w K mg base N qual scope f cdv A outer s H E p) body t ∧ t { nx := fun _ H' => Q .non H', rt := Q } (L2.start N vs) H) :
    FnE P w K mg base (k + 1) f (PySem.W.fnOf name qual params body scope dV kV doc pm an cdv ct) ps sp := by
  refine ⟨len, fun A outer s H args us vs Q E p cls d hr hpin hz hf e0 hb r hsp => ?_⟩
  have hl := len _ _ _ _ _ _ _ hsp
  have KX : K.In s.heap := e0.mod.kin.keeps fun b o e => (e0.bs b o e).1
  have lim : s.heap.NoLimit := e0.mod.nolimit.keeps fun b o e => (e0.bs b o e).1
  have hkind : ∀ y ∈ ps.zip us, scope.names.lookup y.1 = some .local ∨ (scope.names.lookup y.1 = some .cell ∧ ((cellsFrom (s.heap.objs.size + 1) scope.names []).lookup y.1).isSome = true) := fun ⟨n, v⟩ hy => by
    rcases S.par n (List.of_mem_zip hy).1 with q | q
    · exact .inl q
    · exact .inr ⟨q, PySem.W.cellsFrom_some _ _ _ (.inl q)⟩
  refine codeAny_call_function hr.depth (KX _ _ lk) rfl S.co S.gen rfl (PySem.W.codeRec_of KX hcd) (hb _ _ _ _ ?_)
  refine wpAny_newFunctionEnv_cells S.kind hkind fun env he s1 x => ?_
  subst he
  refine ⟨lim.keeps x.toInCall.keep, codeAny_func ?_⟩
  obtain ⟨t, ht, hq⟩ := hbody A outer s H vs Q E p cls d hz hf (hr.deeper _) hsp
  have I : Inv (L2H.cxH CX0 P w K mg base N qual scope f cdv A outer s H E p) [] (L2.start N vs) H s1 := L2H.inv_startH S hpin e0 hl r x
  refine wpAny_mono (ht.run [] s1 (L2.start N vs) H _ I hq) (fun fl s' hs => ?_) fun e s' hs => hs
  have fin : ∀ {σ' : Aw.St} {H' : Hp} {v : V} {u : Value}, Inv (L2H.cxH CX0 P w K mg base N qual scope f cdv A outer s H E p) [] σ' H' s' → RelV v u → Q v H' → CE outer P w H s Q u s' :=
    fun {σ' H' v u} J rv q => ⟨v, H', J.os, J.bare, J.base, J.hok, rv, q⟩
  cases fl with
  | ret u =>
    obtain ⟨v, σ', H', J, rv, q⟩ := hs
    exact fin J rv q
  | next =>
    obtain ⟨σ', H', J, q⟩ := hs
    exact fin (v := V.non) (u := Value.none) J rfl q
  | brk =>
    obtain ⟨_, _, _, q⟩ := hs
    exact False.elim q
  | cont =>
    obtain ⟨_, _, _, q⟩ := hs
    exact False.elim q
section
variable {X : Cx} {k : Nat} {f : Addr} {fd : FuncData} {ps : List Str} {sp : Addr → Value → Option Addr → Sp} {x : Str} {q pos : Pos} {e : Expr} {es : List Expr} {t : TA} {a : Addr} {oe : Obj}
/-- f(.., e, ..) in the suite -/
theorem pe_callE {cls : Value} {d : Option Addr} (F : FnE X.prog X.w X.K X.mg X.base k f fd ps sp) (hr : L2H.RoomH k X.A) (hp : (a, oe) ∈ X.pn) (hz : Zc cls d oe) (hf : ∃ vs, oe.data = .fields vs) (hg : Gl X x) (hm : X.mg x = some (.ref f)) (hk : PySem.W.keepIn X.K (.ref f) = true) (hb : Binds X.K fd ps [])
    (ha : PA X (e :: es) t) (hdb : (x == ("__debug__" : Str)) = false := by decide) (he : starEach (e :: es) X.env = (false, eval e X.env) :: starEach es X.env := by rfl) (hpl : (backTo pos (starEach es X.env)).any (·.1) = false := by rfl) :
    PE X (.Call (.Name x q) (e :: es) [] pos) (fun σ H Q => t σ H fun vs H1 => sp a cls d vs H1 Q E0) := by
  refine ⟨fun pins s σ H Q I h => ?_⟩
  refine wpAny_Call_Name_kw (ld_glob I hg hm ?_ hdb)
  refine PySem.W.callWith_K (h₀ := X.base) I.ok.mod.kin hk (thn (ha.run pos pins s σ H _ I h) fun us s1 ⟨vs, H1, I1, r, q⟩ => ⟨I1.kIn, ?_⟩) he hpl
  have hl : us.length = ps.length := by rw [← r.length]; exact F.len _ _ _ _ _ _ _ q
  have b := hb s1 us I1.kIn (by rw [List.append_nil]; exact hl)
  rw [List.append_nil] at b
  have P1 := I1.pin (a, oe) (List.mem_append_left _ hp)
  have hpin : L2H.PinOk X.stack H1 s1 (a, oe) := ⟨P1.1, P1.2.1, fun hm => (List.mem_cons.mp (I1.stkSub a hm)).elim P1.2.2.1 P1.2.2.2.1, P1.2.2.2.2⟩
  refine wpAny_call (codeAny_mono (F.run X.A X.stack s1 H1 ⟨us, []⟩ us vs Q E0 (a, oe) cls d hr hpin hz hf I1.env0 b r q) fun r s' hq => ?_)
  cases r with
  | error e => exact False.elim hq
  | ok fl =>
    cases fl with
    | ret u => exact I1.after hq
    | next => exact False.elim hq
    | brk => exact False.elim hq
    | cont => exact False.elim hq
end
/-- room within the suite -/
theorem roomH_suite {X : Cx} {k : Nat} (r : Room k X.A) {a : Addr} {pn : List (Addr × Obj)} : L2H.RoomH k (X.suite a pn).A := ⟨r.dp, r.un⟩
end Aw

namespace Aw
open PySem PySem.Spec PyProof.Rows L2 NdefX
def top (i : Nat) : Stmt := PySem.Challenge.pw_allwordlengths_k11_whole_times_until_all.main.body.getD i (.Pass ⟨0, 0, 0, 0⟩)
end Aw

namespace Aw
open PySem PySem.Spec PyProof.Rows L2 NdefX
abbrev sPen : Stmt := (top 48)
abbrev sDraw : Stmt := (top 49)
/-! ### the pen of a law -/
def penL (c : Addr) (i l : Int) : List (Key × V) := [(.inr "cells", .ref c), (.inr "at", .int i), (.inr "left", .int l)]
theorem ne_ca : ¬ ((Sum.inr "cells" : Key) = .inr "at") := by decide +kernel
theorem ne_cl : ¬ ((Sum.inr "cells" : Key) = .inr "left") := by decide +kernel
theorem ne_al : ¬ ((Sum.inr "at" : Key) = .inr "left") := by decide +kernel
theorem pen_cells {c : Addr} {i l : Int} : valV (penL c i l) (.inr "cells") = some (.ref c) := valV_pos rfl
theorem pen_at {c : Addr} {i l : Int} : valV (penL c i l) (.inr "at") = some (.int i) := (valV_neg ne_ca).trans (valV_pos rfl)
theorem pen_left {c : Addr} {i l : Int} : valV (penL c i l) (.inr "left") = some (.int l) := (valV_neg ne_cl).trans ((valV_neg ne_al).trans (valV_pos rfl))
theorem pen_putat {c : Addr} {i l j : Int} : putK (penL c i l) (.inr "at") (.int j) = penL c j l := by
  unfold putK
  rw [if_pos (by rw [valV_any, pen_at]; rfl)]
  simp only [penL, List.map_cons, List.map_nil, if_neg ne_ca, if_neg (fun z : (Sum.inr "left" : Key) = .inr "at" => ne_al z.symm), if_pos]
theorem pen_putleft {c : Addr} {i l j : Int} : putK (penL c i l) (.inr "left") (.int j) = penL c i j := by
  unfold putK
  rw [if_pos (by rw [valV_any, pen_left]; rfl)]
  simp only [penL, List.map_cons, List.map_nil, if_neg ne_cl, if_neg ne_al, if_pos]
/-- a pen stands at p, its cells at c; it has been drawn from at most n times -/
structure Pen (H : Hp) (p c : Addr) (n : Nat) : Prop where
  ex : ∃ (cells : List Int) (i l : Int), H p = some (.dK (penL c i l)) ∧ H c = some (.lst (cells.map V.int)) ∧ cells.length ≤ 63 ∧ 0 ≤ i ∧ i ≤ n ∧ 0 ≤ l
theorem Pen.pc {H : Hp} {p c : Addr} {n : Nat} (P : Pen H p c n) : p ≠ c := by
  obtain ⟨cells, i, l, h1, h2, _⟩ := P.ex
  exact ne_of h1 h2 (fun z => by cases z)
theorem Pen.mono {H : Hp} {p c : Addr} {n m : Nat} (P : Pen H p c n) (h : n ≤ m) : Pen H p c m := by
  obtain ⟨cells, i, l, h1, h2, h3, h4, h5, h6⟩ := P.ex
  exact ⟨cells, i, l, h1, h2, h3, h4, by omega, h6⟩
theorem Pen.same {H H' : Hp} {p c : Addr} {n : Nat} (P : Pen H p c n) (s : Same H H') : Pen H' p c n := by
  obtain ⟨cells, i, l, h1, h2, h3⟩ := P.ex
  exact ⟨cells, i, l, s _ _ h1, s _ _ h2, h3⟩
theorem Pen.upd {H : Hp} {p c a : Addr} {n : Nat} {o : HO} (P : Pen H p c n) (h1 : a ≠ p) (h2 : a ≠ c) : Pen (upd H a o) p c n := by
  obtain ⟨cells, i, l, e1, e2, h3⟩ := P.ex
  exact ⟨cells, i, l, by rw [upd_ne h1.symm]; exact e1, by rw [upd_ne h2.symm]; exact e2, h3⟩
theorem Pen.some1 {H : Hp} {p c : Addr} {n : Nat} (P : Pen H p c n) : ∃ o, H p = some o := by
  obtain ⟨cells, i, l, e1, e2, h3⟩ := P.ex
  exact ⟨_, e1⟩
theorem Pen.some2 {H : Hp} {p c : Addr} {n : Nat} (P : Pen H p c n) : ∃ o, H c = some o := by
  obtain ⟨cells, i, l, e1, e2, h3⟩ := P.ex
  exact ⟨_, e2⟩
theorem Pen.new {H : Hp} {p c a : Addr} {n : Nat} {o : HO} (P : Pen H p c n) (h : H a = none) : Pen (L2.upd H a o) p c n := by
  obtain ⟨o1, e1⟩ := P.some1
  obtain ⟨o2, e2⟩ := P.some2
  exact P.upd (ne_of_none e1 h).symm (ne_of_none e2 h).symm
/-- all but p is as it was -/
def But (p : Addr) (H H' : Hp) : Prop := ∀ b o, H b = some o → b ≠ p → H' b = some o
theorem But.trans {p : Addr} {H H1 H2 : Hp} (a : But p H H1) (b : But p H1 H2) : But p H H2 := fun c o e n => b c o (a c o e n) n
theorem But.same {p : Addr} {H H1 : Hp} (a : Same H H1) : But p H H1 := fun c o e _ => a c o e
theorem But.lst {p a : Addr} {H H1 : Hp} {xs : List V} (k : But p H H1) (h : H a = some (.lst xs)) (hp : a ≠ p) : H1 a = some (.lst xs) := k a _ h hp
theorem same_upd {H : Hp} {a : Addr} {o : HO} (h : H a = none) : Same H (upd H a o) := fun b u e => by rw [upd_ne (ne_of_none e h)]; exact e
/-- _law_pen: a new pen -/
def spPen (K : PySem.W.Frag) : Sp := fun vs H Q _ => ∃ (a : Addr) (ns : List Int), vs = [.ref a] ∧ SqL K H a (ns.map V.int) ∧ ns.length ≤ 63 ∧ ∀ p c H', Same H H' → H p = none → H c = none → Pen H' p c 0 → Q (.ref p) H'
/-- _law_draw: a number below many -/
def spDraw : Sp := fun vs H Q _ => ∃ (p c : Addr) (many : Int) (n : Nat), vs = [.ref p, .int many] ∧ Pen H p c n ∧ n ≤ 1000000 ∧ 0 < many ∧ many < 1073741824 ∧
  ∀ r H', 0 ≤ r → r < many → But p H H' → Pen H' p c (n + 1) → Q (.int r) H'
/-- what the walk asks of the top's names -/
structure TxtP (mg : Str → Option Value) (fDraw : Addr) : Prop where
  list : mg "list" = none
  int : mg "int" = none
  len : mg "len" = none
  draw : mg "_law_draw" = some (.ref fDraw)
section
variable {P : Program} {w : World} {K : PySem.W.Frag} {mg : Str → Option Value} {base : Heap}
theorem scPen : FnScope ["_law_script"] ["_law_script"] (defScope sPen) := ⟨rfl, rfl, rfl, by decide +kernel, rfl, by decide +kernel, by decide +kernel⟩
theorem ok_pen {f g : Addr} {fd : FuncData} (F : Fun K "_law_pen" "_law_pen" sPen f fd) (T : TxtP mg g) : FnOk P w K mg base CX0 1 f fd ["_law_script"] (spPen K) := by
  refine F.ok scPen (fun vs H Q E h => ?_) (fun cdv A outer s H vs Q E hr h => ?_)
  · obtain ⟨p, c, rfl, _⟩ := h
    rfl
  · obtain ⟨a, ns, rfl, hS, hl, k⟩ := h
    refine ⟨_, pss_one (ps_ret (pe_disp (pps_cons pe_str (pe_callTy call_list_of (by rfl) T.list (by decide +kernel) (pa_cons (pe_slice sl_list (pv 0) po_none (po_some pe_int)) pa_nil))
      (pps_cons pe_str pe_int (pps_cons pe_str pe_int pps_nil))) (by rfl) (by rfl) (fun z => by cases z) (by decide))), ?_⟩
    intro p hp
    have hS1 : SqL K (upd H p (.dK [])) a (ns.map V.int) := (same_upd hp).seq hS
    refine ⟨_, rfl, 63, rfl, a, _, rfl, hS1, fun q hq => ?_⟩
    have e63 : cutV (ns.map V.int) none (some (63 : Int)) = ns.map V.int := by
      unfold cutV
      rw [List.length_map, HT.sIx_none ns.length 0, List.drop_zero]
      have : HT.sIx ns.length ns.length (some (63 : Int)) = ns.length := by
        show (if (63 : Int) < 0 then ((63 : Int) + (ns.length : Int)).toNat else min (63 : Int).toNat ns.length) = ns.length
        rw [if_neg (by decide)]
        exact Nat.min_eq_right (by omega)
      rw [this, Nat.sub_zero]
      exact List.take_of_length_le (by rw [List.length_map]; exact Nat.le_refl ns.length)
    rw [e63]
    refine ⟨q, _, rfl, .inl (SqL.of upd_same), fun c hc => ?_⟩
    have hpq : p ≠ q := ne_of_none upd_same hq
    have hpc : p ≠ c := ne_of_none (show upd (upd H p (.dK [])) q (.lst (ns.map V.int)) p = some (.dK []) by rw [upd_ne hpq, upd_same]) hc
    have hcp : upd H p (.dK []) c = none := by
      by_cases e : c = q
      · rw [e, upd_same] at hc; cases hc
      · rw [upd_ne e] at hc; exact hc
    have hcn : H c = none := by
      rw [upd_ne hpc.symm] at hcp
      exact hcp
    refine ⟨by rw [upd_ne hpc, upd_ne hpq, upd_same], penL c 0 0, rfl, by show 3 ≤ 15; decide, ?_⟩
    have em : mergeK [] (penL c 0 0) = penL c 0 0 := by
      unfold mergeK penL
      simp only [List.foldl_cons, List.foldl_nil]
      rw [putK_new _ (show valV ([] : List (Key × V)) _ = none from rfl), putK_new, putK_new]
      · rfl
      · exact (valV_neg ne_ca).trans rfl
      · exact (valV_neg ne_cl).trans ((valV_neg ne_al).trans rfl)
    rw [em]
    refine k p c _ (fun b o e => ?_) hp hcn ⟨⟨ns, 0, 0, upd_same, ?_, hl, by decide, by decide, by decide⟩⟩
    · have hbp : b ≠ p := ne_of_none e hp
      have hbq : b ≠ q := ne_of_none (show upd H p (.dK []) b = some o by rw [upd_ne hbp]; exact e) hq
      rw [upd_ne hbp, upd_ne (ne_of_none e hcn), upd_ne hbq, upd_ne hbp]
      exact e
    · rw [upd_ne hpc.symm, upd_same]

theorem scDraw : FnScope ["_law_pen_here", "_law_many", "_law_digit", "_law_spot", "_law_cell", "_law_mixed"] ["_law_pen_here", "_law_many"] (defScope sDraw) := ⟨rfl, rfl, rfl, by decide +kernel, rfl, by decide +kernel, by decide +kernel⟩
theorem ints_flat {H : Hp} (ns : List Int) : DpAll K H (ns.map V.int) (ns.map PyData.int) := by
  induction ns with
  | nil => exact .nil
  | cons n ns ih => exact .cons (.int n) ih
theorem ints_shaped (ns : List Int) : SeqAt.shaped (.list (ns.map PyData.int)) = true := by
  have h1 : ∀ l : List Int, PyData.canLayAll0 (l.map PyData.int) = true := fun l => by
    induction l with
    | nil => rfl
    | cons n l ih => simp [PyData.canLayAll0, PyData.canLay0, ih]
  have h2 : ∀ l : List Int, PyData.depthAll (l.map PyData.int) ≤ 1 := fun l => by
    induction l with
    | nil => simp [PyData.depthAll]
    | cons n l ih => simp [PyData.depthAll, PyData.depth]; omega
  unfold SeqAt.shaped
  refine Bool.and_eq_true_iff.mpr ⟨h1 ns, decide_eq_true ?_⟩
  have := h2 ns
  simp only [PyData.depth]
  omega
theorem gCells {H : Hp} {p c : Addr} {i l : Int} (e : H p = some (.dK (penL c i l))) : DGet H p (.str "cells") (some (.ref c)) := by
  have h := DGet.k (k := .inr "cells") e
  rw [pen_cells] at h
  exact h
theorem gAt {H : Hp} {p c : Addr} {i l : Int} (e : H p = some (.dK (penL c i l))) : DGet H p (.str "at") (some (.int i)) := by
  have h := DGet.k (k := .inr "at") e
  rw [pen_at] at h
  exact h
theorem gLeft {H : Hp} {p c : Addr} {i l : Int} (e : H p = some (.dK (penL c i l))) : DGet H p (.str "left") (some (.int l)) := by
  have h := DGet.k (k := .inr "left") e
  rw [pen_left] at h
  exact h
theorem sAt {H : Hp} {p c : Addr} {i l j : Int} (e : H p = some (.dK (penL c i l))) : DPut H p (.str "at") (.int j) (upd H p (.dK (penL c j l))) := by
  have h := DPut.k (k := .inr "at") (v := .int j) e (by show 3 < sizeLine; decide)
  rw [pen_putat] at h
  exact h
theorem sLeft {H : Hp} {p c : Addr} {i l j : Int} (e : H p = some (.dK (penL c i l))) : DPut H p (.str "left") (.int j) (upd H p (.dK (penL c i j))) := by
  have h := DPut.k (k := .inr "left") (v := .int j) e (by show 3 < sizeLine; decide)
  rw [pen_putleft] at h
  exact h
theorem lt64 {x : Int} (h0 : 0 ≤ x) (h : x < 4294967296) : -(2 ^ 64) < x ∧ x < 2 ^ 64 := ⟨by omega, by omega⟩
theorem ok_draw {f : Addr} {fd : FuncData} (F : Fun K "_law_draw" "_law_draw" sDraw f fd) (T : TxtP mg f) : FnOk P w K mg base CX0 1 f fd ["_law_pen_here", "_law_many"] spDraw := by
  refine F.ok scDraw (fun vs H Q E h => ?_) (fun cdv A outer s H vs Q E hr h => ?_)
  · obtain ⟨p, c, many, n, rfl, _⟩ := h
    rfl
  · obtain ⟨p, c, many, n, rfl, Pn, hn, hm, hm2, k⟩ := h
    have hu := hu_of hr
    have nd := scDraw.nd
    refine ⟨_, (pss_cons (ps_if (pt_cmpR op_ge (pe_dget hu (pv 0) pe_str (fun _ _ => rfl)) (pv 1) (nomark _))
        (pss_cons (ps_set (i := 2) nd rfl (Or.inl rfl) (pe_op op_mod (pe_callTy call_int1 (by rfl) T.int (by decide +kernel) (pa_cons (pe_dget hu (pv 0) pe_str (fun _ _ => rfl)) pa_nil)) (pv 1)))
        (pss_cons (ps_dput hu (pv 0) pe_str (pe_op op_fdiv (pe_dget hu (pv 0) pe_str (fun _ _ => rfl)) (pv 1)) rfl)
        (pss_one (ps_ret (pv 2))))) pss_nil)
      (pss_cons (ps_set (i := 3) nd rfl (Or.inl rfl) (pe_dget hu (pv 0) pe_str (fun _ _ => rfl)))
      (pss_cons (ps_dput hu (pv 0) pe_str (pe_op op_add (pv 3) pe_int) rfl)
      (pss_cons (ps_if (pt_cmpR (op_eqD hr.units) (pe_dget hu (pv 0) pe_str (fun _ _ => rfl)) (pe_lst pa_nil) (nomark _))
        (pss_one (ps_ret (pe_op op_mod (pe_callTy call_int1 (by rfl) T.int (by decide +kernel) (pa_cons (pe_op op_add (pe_op op_mul pe_int (pv 3)) pe_int) pa_nil)) (pv 1)))) pss_nil)
      (pss_cons (ps_set (i := 4) nd rfl (Or.inl rfl) (pe_ix ix_list (pe_dget hu (pv 0) pe_str (fun _ _ => rfl)) (pe_op op_mod (pe_callTy call_int1 (by rfl) T.int (by decide +kernel) (pa_cons (pv 3) pa_nil)) (pe_callB call_len_seq (by rfl) T.len PySem.boot_len (pa_cons (pe_dget hu (pv 0) pe_str (fun _ _ => rfl)) pa_nil))) (fun _ _ => rfl)))
      (pss_cons (ps_if (PW.pt (pw_and (pt_cmpR op_lt (pv 3) (pe_callB call_len_seq (by rfl) T.len PySem.boot_len (pa_cons (pe_dget hu (pv 0) pe_str (fun _ _ => rfl)) pa_nil)) (nomark _)) (pw_and1 (pt_cmpR op_ge (pv 4) (pe_op op_pow pe_int pe_int) (nomark _)))))
        (pss_cons (ps_dput hu (pv 0) pe_str (pe_op op_fdiv (pe_op op_sub (pv 4) (pe_op op_pow pe_int pe_int)) (pv 1)) rfl)
        (pss_one (ps_ret (pe_op op_mod (pe_callTy call_int1 (by rfl) T.int (by decide +kernel) (pa_cons (pe_op op_sub (pv 4) (pe_op op_pow pe_int pe_int)) pa_nil)) (pv 1))))) pss_nil)
      (pss_cons (ps_set (i := 5) nd rfl (Or.inl rfl) (pe_op op_add (pe_op op_add (pe_op op_mul (pe_op op_add (pe_op op_mod (pe_callTy call_int1 (by rfl) T.int (by decide +kernel) (pa_cons (pv 4) pa_nil)) pe_int) pe_int) (pe_op op_add (pe_op op_mul pe_int (pv 3)) pe_int)) (pe_op op_mul (pe_op op_mul pe_int (pv 3)) (pv 3))) pe_int))
      (pss_cons (ps_set (i := 5) nd rfl (Or.inl rfl) (pe_op op_mod (pe_callTy call_int1 (by rfl) T.int (by decide +kernel) (pa_cons (pv 5) pa_nil)) pe_int))
      (pss_cons (ps_set (i := 5) nd rfl (Or.inl rfl) (pe_op op_mod (pe_callTy call_int1 (by rfl) T.int (by decide +kernel) (pa_cons (pe_op op_mul (pv 5) (pe_op op_add (pv 5) pe_int)) pa_nil)) pe_int))
      (pss_cons (ps_set (i := 5) nd rfl (Or.inl rfl) (pe_op op_mod (pe_callTy call_int1 (by rfl) T.int (by decide +kernel) (pa_cons (pe_op op_mul (pv 5) (pv 5)) pa_nil)) pe_int))
      (pss_one (ps_ret (pe_op op_mod (pe_callTy call_int1 (by rfl) T.int (by decide +kernel) (pa_cons (pe_op op_fdiv (pv 5) pe_int) pa_nil)) (pv 1)))))))))))))), ?_⟩
    obtain ⟨cells, i, l, e1, e2, hl, hi, hi2, hl0⟩ := Pn.ex
    have pc : p ≠ c := Pn.pc
    refine ⟨_, rfl, p, .int l, rfl, gLeft e1, _, rfl, l, many, rfl, rfl, _, rfl, ?_⟩
    by_cases hlm : many ≤ l
    · rw [decide_eq_true hlm]
      refine iteT ?_
      -- the digit
      refine ⟨_, rfl, p, .int l, rfl, gLeft e1, .inl ⟨l, rfl, _, rfl, l, many, rfl, rfl, hm, ?_⟩⟩
      refine ⟨_, rfl, p, .int l, rfl, gLeft e1, _, rfl, l, many, rfl, rfl, ⟨hm, hm2⟩, _, rfl, p, _, rfl, sLeft e1, ?_⟩
      refine ⟨_, rfl, k _ _ (Int.emod_nonneg _ (by omega)) (Int.emod_lt_of_pos _ hm) (fun b o e hb => by rw [upd_ne hb]; exact e) ⟨cells, i, l / many, upd_same, by rw [upd_ne pc.symm]; exact e2, hl, hi, by omega, Int.ediv_nonneg hl0 (by omega)⟩⟩
    · rw [decide_eq_false hlm]
      refine iteF ?_
      -- the place
      refine ⟨_, rfl, p, .int i, rfl, gAt e1, ?_⟩
      refine ⟨_, rfl, i, 1, rfl, rfl, _, rfl, p, _, rfl, sAt e1, ?_⟩
      generalize eH : upd H p (.dK (penL c (i + 1) l)) = H1
      have e1' : H1 p = some (.dK (penL c (i + 1) l)) := by rw [← eH, upd_same]
      have e2' : H1 c = some (.lst (cells.map V.int)) := by rw [← eH, upd_ne pc.symm]; exact e2
      have bt : But p H H1 := fun b o e hb => by rw [← eH, upd_ne hb]; exact e
      refine ⟨_, rfl, p, .ref c, rfl, gCells e1', by show 0 ≤ sizeLine; decide, fun q hq => ?_⟩
      have bt2 : But p H (upd H1 q (.lst [])) := bt.trans (But.same (same_upd hq))
      have e1q : upd H1 q (.lst []) p = some (.dK (penL c (i + 1) l)) := by rw [upd_ne (ne_of_none e1' hq)]; exact e1'
      have e2q : upd H1 q (.lst []) c = some (.lst (cells.map V.int)) := by rw [upd_ne (ne_of_none e2' hq)]; exact e2'
      refine ⟨.list (cells.map PyData.int), .list [], .lst (SqL.of e2q) (ints_flat _), .lst (SqL.of upd_same) .nil, ints_shaped _, by decide, _, rfl, ?_⟩
      cases cells with
      | nil =>
        refine iteT ?_
        refine ⟨_, rfl, 7, i, rfl, rfl, .inl ⟨by decide, by decide⟩, 7 * i, 3, rfl, rfl, .inl ⟨_, rfl, _, rfl, _, many, rfl, rfl, hm, ?_⟩⟩
        exact k _ _ (Int.emod_nonneg _ (by omega)) (Int.emod_lt_of_pos _ hm) bt2 ⟨[], i + 1, l, e1q, e2q, hl, by omega, by omega, hl0⟩
      | cons n0 rest =>
        refine iteF ?_
        generalize hcs : n0 :: rest = cs at *
        have hpos : 0 < cs.length := by rw [← hcs]; exact Nat.succ_pos _
        have fin : ∀ r l', 0 ≤ r → r < many → 0 ≤ l' → ∀ H', But p H H' → H' p = some (.dK (penL c (i + 1) l')) → H' c = some (.lst (cs.map V.int)) → Q (.int r) H' := fun r l' h1 h2 h3 H' b a1 a2 =>
          k r H' h1 h2 b ⟨cs, i + 1, l', a1, a2, hl, by omega, by omega, h3⟩
        have hlen : (cs.map V.int).length = cs.length := List.length_map ..
        obtain ⟨j, hj⟩ : ∃ j : Nat, i % (((cs.map V.int).length : Nat) : Int) = (j : Int) := ⟨(i % (((cs.map V.int).length : Nat) : Int)).toNat, by
          have := Int.emod_nonneg i (show (((cs.map V.int).length : Nat) : Int) ≠ 0 by rw [hlen]; omega)
          omega⟩
        have hjl : j < cs.length := by
          have := Int.emod_lt_of_pos i (show (0 : Int) < (((cs.map V.int).length : Nat) : Int) by rw [hlen]; omega)
          rw [hj, hlen] at this
          omega
        obtain ⟨x, hx⟩ : ∃ x, cs[j]? = some x := ⟨cs[j], List.getElem?_eq_getElem hjl⟩
        have hat : atI (cs.map V.int) (i % (((cs.map V.int).length : Nat) : Int)) = some (.int x) := by
          rw [hj]
          exact atI_nat (by rw [List.getElem?_map, hx]; rfl)
        refine ⟨_, rfl, p, .ref c, rfl, gCells e1q, _, rfl, .inl ⟨i, rfl, _, rfl, p, .ref c, rfl, gCells e1q, c, _, rfl, .inl (SqL.of e2q), i, _, rfl, rfl, by rw [hlen]; omega, c, _, _, .int x, rfl, rfl, SqL.of e2q, hat, ?_⟩⟩
        have hle : (0 : Int) ≤ 18 ∧ (18 : Int) ≤ 1000000 ∧ (10 : Int).natAbs < 2 ^ 64 := ⟨by decide, by decide, by decide⟩
        refine ⟨_, rfl, _, rfl, p, .ref c, rfl, gCells e1q, c, _, rfl, .inl (SqL.of e2q), i, _, rfl, rfl, _, rfl, ?_⟩
        have tail : ∀ {y : Int}, 0 ≤ y → y < 2147483648 → -(2 ^ 64) < y ∧ y < 2 ^ 64 := fun h1 h2 => ⟨by omega, by omega⟩
        have mods : ∀ (y m : Int), 0 < m → m < 2147483648 → 0 ≤ y % m ∧ y % m < 2147483648 := fun y m h1 h2 => ⟨Int.emod_nonneg _ (by omega), Int.lt_trans (Int.emod_lt_of_pos _ h1) h2⟩
        by_cases a1 : i < (((cs.map V.int).length : Nat) : Int)
        rw [decide_eq_true a1]
        refine iteT ?_
        refine ⟨_, rfl, 10, 18, rfl, rfl, hle, x, _, rfl, rfl, _, rfl, ?_⟩
        by_cases a2 : (10 : Int) ^ (18 : Int).toNat ≤ x
        · rw [decide_eq_true a2]
          refine iteT ?_
          refine ⟨_, rfl, 10, 18, rfl, rfl, hle, x, _, rfl, rfl, _, rfl, _, many, rfl, rfl, ⟨hm, hm2⟩, _, rfl, p, _, rfl, sLeft e1q, ?_⟩
          refine ⟨_, rfl, 10, 18, rfl, rfl, hle, x, _, rfl, rfl, .inl ⟨_, rfl, _, rfl, _, many, rfl, rfl, hm, ?_⟩⟩
          exact fin _ _ (Int.emod_nonneg _ (by omega)) (Int.emod_lt_of_pos _ hm) (Int.ediv_nonneg (by omega) (by omega)) _ (bt2.trans fun b o e hb => by rw [upd_ne hb]; exact e) upd_same (by rw [upd_ne pc.symm]; exact e2q)
        rw [decide_eq_false a2]
        refine iteF ?_
        rotate_left
        rw [decide_eq_false a1]
        refine iteF ?_
        refine iteF ?_
        all_goals
          obtain ⟨b1, b2⟩ := mods x 2147483629 (by decide) (by decide)
          refine ⟨_, rfl, .inl ⟨x, rfl, x, 2147483629, rfl, rfl, (by show (0 : Int) < 2147483629; decide), _, 1, rfl, rfl, _, rfl, 97, i, rfl, rfl, .inl ⟨by decide, by decide⟩, _, 40693, rfl, rfl, _, _, rfl, rfl, .inl ⟨by omega, by omega⟩,
            _, rfl, 69623, i, rfl, rfl, .inl ⟨by decide, by decide⟩, _, rfl, _, i, rfl, rfl, .inl ⟨by omega, by omega⟩, _, _, rfl, rfl, _, 11, rfl, rfl, ?_⟩⟩
          obtain ⟨y1, hy1⟩ : ∃ y, (x % 2147483629 + 1) * (97 * i + 40693) + 69623 * i * i + 11 = y := ⟨_, rfl⟩
          refine ⟨_, rfl, .inl ⟨y1, by rw [← hy1], y1, 2147483647, rfl, rfl, (by show (0 : Int) < 2147483647; decide), ?_⟩⟩
          obtain ⟨c1, c2⟩ := mods y1 2147483647 (by decide) (by decide)
          obtain ⟨y2, hy2⟩ : ∃ y, y1 % 2147483647 = y := ⟨_, rfl⟩
          rw [hy2] at c1 c2
          refine ⟨_, rfl, _, rfl, y2, 16811, by rw [← hy2], rfl, y2, _, by rw [← hy2], rfl, .inl (tail c1 c2), .inl ⟨_, rfl, _, 2147483587, rfl, rfl, (by show (0 : Int) < 2147483587; decide), ?_⟩⟩
          obtain ⟨y4, hy4⟩ : ∃ y, y2 * (y2 + 16811) % 2147483587 = y := ⟨_, rfl⟩
          obtain ⟨d1, d2⟩ := mods (y2 * (y2 + 16811)) 2147483587 (by decide) (by decide)
          rw [hy4] at d1 d2
          refine ⟨_, rfl, _, rfl, y4, y4, by rw [← hy4], by rw [← hy4], .inl (tail d1 d2), .inl ⟨_, rfl, _, 2147483563, rfl, rfl, (by show (0 : Int) < 2147483563; decide), ?_⟩⟩
          refine ⟨_, rfl, _, 64, rfl, rfl, ⟨by decide, by decide⟩, .inl ⟨_, rfl, _, rfl, _, many, rfl, rfl, hm, ?_⟩⟩
          exact fin _ l (Int.emod_nonneg _ (by omega)) (Int.emod_lt_of_pos _ hm) hl0 _ bt2 e1q e2q
end
end Aw

namespace Aw
open PySem PySem.Spec PyProof.Rows L2 NdefX
abbrev sPick : Stmt := (top 50)
/-- what But keeps -/
theorem But.seq {K : PySem.W.Frag} {p c : Addr} {n : Nat} {H H' : Hp} {a : Addr} {xs : List V} (b : But p H H') (P : Pen H p c n) (h : SqL K H a xs) : SqL K H' a xs := by
  obtain ⟨cells, i, l, e1, _⟩ := P.ex
  rcases h with (h | ⟨o, h⟩) | h
  · exact .inl (.inl (b _ _ h (ne_of h e1 (fun z => by cases z))))
  · exact .inl (.inr ⟨o, b _ _ h (ne_of h e1 (fun z => by cases z))⟩)
  · exact .inr h
theorem But.tup {K : PySem.W.Frag} {p c : Addr} {n : Nat} {H H' : Hp} {a : Addr} {xs : List V} (b : But p H H') (P : Pen H p c n) (h : SqT K H a xs) : SqT K H' a xs := by
  obtain ⟨cells, i, l, e1, _⟩ := P.ex
  rcases h with (h | ⟨o, h⟩) | h
  · exact .inl (.inl (b _ _ h (ne_of h e1 (fun z => by cases z))))
  · exact .inl (.inr ⟨o, b _ _ h (ne_of h e1 (fun z => by cases z))⟩)
  · exact .inr h
/-- _law_pick of a list -/
def spPick (K : PySem.W.Frag) : Sp := fun vs H Q _ => ∃ (p c l : Addr) (xs : List V) (n : Nat), vs = [.ref p, .ref l] ∧ Pen H p c n ∧ n ≤ 1000000 ∧ SqL K H l xs ∧ 0 < xs.length ∧ xs.length ≤ 1000000 ∧
  ∀ (r : Nat) (v : V) (H' : Hp), xs[r]? = some v → But p H H' → Pen H' p c (n + 1) → Q v H'
section
variable {P : Program} {w : World} {K : PySem.W.Frag} {mg : Str → Option Value} {base : Heap}
theorem scPick : FnScope ["_law_pen_here", "_law_some"] ["_law_pen_here", "_law_some"] (defScope sPick) := ⟨rfl, rfl, rfl, by decide +kernel, rfl, by decide +kernel, by decide +kernel⟩
theorem ok_pick {f g : Addr} {fd gd : FuncData} (F : Fun K "_law_pick" "_law_pick" sPick f fd) (T : TxtP mg g) (G : Fun K "_law_draw" "_law_draw" sDraw g gd) (bG : Binds K gd ["_law_pen_here", "_law_many"] []) : FnOk P w K mg base CX0 2 f fd ["_law_pen_here", "_law_some"] (spPick K) := by
  have GD : FnOk P w K mg base CX0 1 g gd ["_law_pen_here", "_law_many"] spDraw := ok_draw G T
  refine F.ok scPick (fun vs H Q E h => ?_) (fun cdv A outer s H vs Q E hr h => ?_)
  · obtain ⟨p, c, l, xs, n, rfl, _⟩ := h
    rfl
  · obtain ⟨p, c, l, xs, n, rfl, Pn, hn, hS, h0, h1, k⟩ := h
    refine ⟨_, (pss_one (ps_ret (pe_ix ix_list (pv 1) (pe_call GD hr (by rfl) T.draw G.kp bG .nil pass0 (pa_cons (pv 0) (pa_cons (pe_callB call_len_seq (by rfl) T.len PySem.boot_len (pa_cons (pv 1) pa_nil)) pa_nil))) (fun _ _ => rfl)))), ?_⟩
    refine ⟨_, rfl, _, rfl, _, rfl, l, xs, rfl, .inl hS, p, c, xs.length, n, rfl, Pn, hn, by omega, by omega, fun r H' hr0 hr1 b Pn' => ?_⟩
    obtain ⟨j, rfl⟩ : ∃ j : Nat, r = (j : Int) := ⟨r.toNat, by omega⟩
    obtain ⟨v, hv⟩ : ∃ v, xs[j]? = some v := ⟨xs[j]'(by omega), List.getElem?_eq_getElem (by omega)⟩
    exact ⟨l, xs, _, v, rfl, rfl, b.seq Pn hS, atI_nat hv, k j v H' hv b Pn'⟩
end
end Aw

namespace Aw
open PySem PySem.Spec PyProof.Rows L2 NdefX
/-! ### what tuples hold stays -/
/-- tuples are as they were -/
def TK (H H' : Hp) : Prop := (∀ a xs, H a = some (.tup xs) → H' a = some (.tup xs)) ∧ ∀ a o xs, H a = some (.frz o (.tup xs)) → H' a = some (.frz o (.tup xs))
theorem TK.refl (H : Hp) : TK H H := ⟨fun _ _ e => e, fun _ _ _ e => e⟩
theorem TK.trans {H H1 H2 : Hp} (a : TK H H1) (b : TK H1 H2) : TK H H2 := ⟨fun c xs e => b.1 c xs (a.1 c xs e), fun c o xs e => b.2 c o xs (a.2 c o xs e)⟩
theorem TK.same {H H' : Hp} (s : Same H H') : TK H H' := ⟨fun _ _ e => s _ _ e, fun _ _ _ e => s _ _ e⟩
theorem TK.but {H H' : Hp} {p c : Addr} {n : Nat} (b : But p H H') (P : Pen H p c n) : TK H H' := by
  obtain ⟨cells, i, l, e1, _⟩ := P.ex
  exact ⟨fun a xs e => b a _ e (ne_of e e1 (fun z => by cases z)), fun a o xs e => b a _ e (ne_of e e1 (fun z => by cases z))⟩
theorem TK.lst {H : Hp} {a : Addr} {xs : List V} {o : HO} (h : H a = some (.lst xs)) : TK H (upd H a o) :=
  ⟨fun b ys e => by rw [upd_ne (ne_of e h (fun z => by cases z))]; exact e, fun b u ys e => by rw [upd_ne (ne_of e h (fun z => by cases z))]; exact e⟩
theorem TK.new {H : Hp} {a : Addr} {o : HO} (h : H a = none) : TK H (upd H a o) := TK.same (same_upd h)
theorem TK.tup {K : PySem.W.Frag} {H H' : Hp} {a : Addr} {xs : List V} (t : TK H H') (h : SqT K H a xs) : SqT K H' a xs := by
  rcases h with (h | ⟨o, h⟩) | h
  · exact .inl (.inl (t.1 _ _ h))
  · exact .inl (.inr ⟨o, t.2 _ _ _ h⟩)
  · exact .inr h
mutual
/-- a value of plain data, tuples inside -/
inductive Dq (K : PySem.W.Frag) (H : Hp) : V → PyData → Prop
  | non : Dq K H .non .none
  | bl (b : Bool) : Dq K H (.bl b) (.bool b)
  | int (i : Int) : Dq K H (.int i) (.int i)
  | str (x : Str) : Dq K H (.str x) (.str x)
  | tup {a : Addr} {xs : List V} {ds : List PyData} : SqT K H a xs → DqAll K H xs ds → Dq K H (.ref a) (.tuple ds)
inductive DqAll (K : PySem.W.Frag) (H : Hp) : List V → List PyData → Prop
  | nil : DqAll K H [] []
  | cons {v : V} {vs : List V} {d : PyData} {ds : List PyData} : Dq K H v d → DqAll K H vs ds → DqAll K H (v :: vs) (d :: ds)
end
section
variable {K : PySem.W.Frag} {H H' : Hp}
mutual
theorem Dq.keep (t : TK H H') : ∀ {v : V} {d : PyData}, Dq K H v d → Dq K H' v d
  | _, _, .non => .non
  | _, _, .bl b => .bl b
  | _, _, .int i => .int i
  | _, _, .str x => .str x
  | _, _, .tup h r => .tup (t.tup h) (DqAll.keep t r)
theorem DqAll.keep (t : TK H H') : ∀ {vs : List V} {ds : List PyData}, DqAll K H vs ds → DqAll K H' vs ds
  | _, _, .nil => .nil
  | _, _, .cons h r => .cons (Dq.keep t h) (DqAll.keep t r)
end
mutual
theorem Dq.dp : ∀ {v : V} {d : PyData}, Dq K H v d → Dp K H v d
  | _, _, .non => .non
  | _, _, .bl b => .bl b
  | _, _, .int i => .int i
  | _, _, .str x => .str x
  | _, _, .tup h r => .tup h (DqAll.dp r)
theorem DqAll.dp : ∀ {vs : List V} {ds : List PyData}, DqAll K H vs ds → DpAll K H vs ds
  | _, _, .nil => .nil
  | _, _, .cons h r => .cons (Dq.dp h) (DqAll.dp r)
end
theorem DqAll.length : ∀ {vs : List V} {ds : List PyData}, DqAll K H vs ds → vs.length = ds.length
  | _, _, .nil => rfl
  | _, _, .cons _ r => congrArg (· + 1) (DqAll.length r)
theorem DqAll.get : ∀ {vs : List V} {ds : List PyData} {i : Nat} {v : V}, DqAll K H vs ds → vs[i]? = some v → ∃ d, ds[i]? = some d ∧ Dq K H v d
  | _, _, _, _, .nil, h => by simp at h
  | _, _, 0, _, .cons h _, e => ⟨_, rfl, by cases Option.some.inj e; exact h⟩
  | _, _, i + 1, _, .cons _ r, e => DqAll.get (i := i) r (by simpa using e)
theorem DqAll.append : ∀ {vs ws : List V} {ds es : List PyData}, DqAll K H vs ds → DqAll K H ws es → DqAll K H (vs ++ ws) (ds ++ es)
  | _, _, _, _, .nil, s => s
  | _, _, _, _, .cons h r, s => .cons h (DqAll.append r s)
theorem DqAll.split {v : V} {vs : List V} {d : PyData} {ds : List PyData} : DqAll K H (v :: vs) (d :: ds) → Dq K H v d ∧ DqAll K H vs ds
  | .cons h r => ⟨h, r⟩
theorem Dq.of_tuple {v : V} {ds : List PyData} (h : Dq K H v (.tuple ds)) : ∃ a xs, v = .ref a ∧ SqT K H a xs ∧ DqAll K H xs ds := by
  cases h with
  | tup h r => exact ⟨_, _, rfl, h, r⟩
theorem Dq.of_str {v : V} {x : Str} (h : Dq K H v (.str x)) : v = .str x := by cases h; rfl
theorem Dq.of_int {v : V} {i : Int} (h : Dq K H v (.int i)) : v = .int i := by cases h; rfl
theorem Dq.of_none {v : V} (h : Dq K H v .none) : v = .non := by cases h; rfl
theorem Dq.of_bool {v : V} {b : Bool} (h : Dq K H v (.bool b)) : v = .bl b := by cases h; rfl
end
/-! ### values that are alike: the same, or tuples of alike ones -/
def Al (K : PySem.W.Frag) (H : Hp) : Nat → V → V → Prop
  | 0 => fun _ _ => False
  | n + 1 => fun x y => (x = y ∧ flatB x = true) ∨ (∃ a, x = .ref a ∧ y = .ref a) ∨ ∃ a b xs ys, x = .ref a ∧ y = .ref b ∧ SqT K H a xs ∧ SqT K H b ys ∧ Paired (Al K H n) xs ys
theorem Al.flat {K : PySem.W.Frag} {H : Hp} {n : Nat} {x : V} (h : flatB x = true) : Al K H (n + 1) x x := .inl ⟨rfl, h⟩
theorem Al.ref {K : PySem.W.Frag} {H : Hp} {n : Nat} {a : Addr} : Al K H (n + 1) (.ref a) (.ref a) := .inr (.inl ⟨a, rfl, rfl⟩)
theorem Al.self {K : PySem.W.Frag} {H : Hp} {n : Nat} : ∀ {x : V}, (∀ a, x = .ref a ∨ flatB x = true) → Al K H (n + 1) x x := fun {x} h => by
  cases x with
  | ref a => exact Al.ref
  | _ => exact Al.flat ((h 0).resolve_left (fun z => by cases z))
section
variable {X : Cx} {pins : List (Addr × Obj)} {σ : Aw.St} {H : Hp} {s : Shared}
theorem al_items {F : V → V → Prop} {A : Around} (ih : ∀ x y v u, F x y → RelV x v → RelV y u → SeqAt.EqAt A s v u true) : ∀ {xs ys : List V} {us ws : List Value}, Paired F xs ys → Vals xs us → Vals ys ws → ∀ j (h1 : j < us.length) (h2 : j < ws.length), SeqAt.EqAt A s us[j] ws[j] true
  | _, _, _, _, .nil, .nil, .nil, _, h1, _ => absurd h1 (Nat.not_lt_zero _)
  | _, _, _, _, .cons f _, .cons r1 _, .cons r2 _, 0, _, _ => ih _ _ _ _ f r1 r2
  | _, _, _, _, .cons _ p, .cons _ q1, .cons _ q2, j + 1, h1, h2 => al_items ih p q1 q2 j (Nat.lt_of_succ_lt_succ h1) (Nat.lt_of_succ_lt_succ h2)
theorem all_true (n : Nat) : ((List.range n).all fun _ => true) = true := List.all_eq_true.mpr fun _ _ => rfl
theorem al_run (I : Inv X pins σ H s) : ∀ (n : Nat) (A : Around), A.units + n < cLine → ∀ (x y : V) (v u : Value), Al X.K H n x y → RelV x v → RelV y u → SeqAt.EqAt A s v u true
  | 0, _, _, _, _, _, _, h, _, _ => (show False from h).elim
  | n + 1, A, hu, x, y, v, u, h, rx, ry => by
    rcases h with ⟨rfl, f⟩ | ⟨a, rfl, rfl⟩ | ⟨a, b, xs, ys, rfl, rfl, ha, hb, hp⟩
    · exact eqAt_same rx ry f
    · cases (show v = Value.ref a from rx)
      cases (show u = Value.ref a from ry)
      exact SeqAt.EqAt.same _
    · cases (show v = Value.ref a from rx)
      cases (show u = Value.ref b from ry)
      obtain ⟨us, r1, p1, _⟩ := I.tuple ha
      obtain ⟨ws, r2, p2, _⟩ := I.tuple hb
      have hsz : us.length = ws.length := by
        rw [← r1.length, ← r2.length]
        exact Paired.length hp
      have step := al_items (A := A.in1) (fun x y v u f => al_run I n A.in1 (by show A.units + 1 + n < cLine; omega) x y v u f) hp r1 r2
      have rc := SeqAt.RcAt.tuples (A := A) (s := s) (l := a) (b := b) (items := us.toArray) (items2 := ws.toArray) (e := fun _ => true) p1 p2 (by omega) (fun j h1 h2 => by simpa using step j (by simpa using h1) (by simpa using h2))
      by_cases e : a = b
      · subst e
        exact SeqAt.EqAt.same _
      · intro prog w E Q hq
        unfold eqBool
        refine wpAny_holding ?_
        refine wpAny_ite_split (fun hab => absurd (Value.ref.inj (eq_of_beq hab)) e) (fun _ => ?_)
        refine wpAny_bind (rc prog w E _ (wpAny_truthy_bool ?_))
        have e1 : ((List.range (min us.toArray.size ws.toArray.size)).all (fun _ => true) && us.toArray.size == ws.toArray.size) = true := by
          rw [all_true, List.size_toArray, List.size_toArray, hsz]
          simp
        rw [e1]
        exact hq
/-- x != y, two tuples that are alike -/
def rNeAl (K : PySem.W.Frag) : R2 := fun x y H Q => ∃ n a b xs ys, n ≤ 60 ∧ x = .ref a ∧ y = .ref b ∧ SqT K H a xs ∧ SqT K H b ys ∧ Paired (Al K H n) xs ys ∧ Q (.bl false) H
theorem op_neAl (hu : X.A.units + 64 < cLine) : OpR X (compareOp .NotEq) (rNeAl X.K) := by
  intro pins s σ H x y v u Q I rx ry h
  obtain ⟨n, a, b, xs, ys, hn, rfl, rfl, ha, hb, hp, q⟩ := h
  cases (show v = Value.ref a from rx)
  cases (show u = Value.ref b from ry)
  obtain ⟨us, r1, p1, _⟩ := I.tuple ha
  obtain ⟨ws, r2, p2, _⟩ := I.tuple hb
  have hsz : us.length = ws.length := by
    rw [← r1.length, ← r2.length]
    exact Paired.length hp
  have step := al_items (A := X.A.in1) (s := s) (fun x y v u f => al_run I n X.A.in1 (by show X.A.units + 1 + n < cLine; omega) x y v u f) hp r1 r2
  refine SeqAt.RcNeAt.tuples (A := X.A) (s := s) (l := a) (b := b) (items := us.toArray) (items2 := ws.toArray) (e := fun _ => true) p1 p2 (by omega) (fun j h1 h2 => by simpa using step j (by simpa using h1) (by simpa using h2)) X.prog X.w _ _ ?_
  have e1 : (!((List.range (min us.toArray.size ws.toArray.size)).all (fun _ => true) && us.toArray.size == ws.toArray.size)) = false := by
    rw [all_true, List.size_toArray, List.size_toArray, hsz]
    simp
  rw [e1]
  exact ⟨.bl false, H, I, rfl, q⟩
end
end Aw

namespace Aw
open PySem PySem.Spec PyProof.Rows L2 NdefX
def otherL : List (Str × Str) := [("deal", "undeal"), ("undeal", "deal"), ("near", "sum"), ("sum", "near")]
def movesL : List Str := ["turn", "roll", "deal", "undeal", "swap"]
def flipsL : List Str := ["flip", "flip first", "flip last"]
/-! ### the texts of steps: the reader's mirror, the 99 rows -/
/-- kind, number, rest -/
abbrev Row : Type := Str × Option Int × Option (Int × Int)
def bareL : List Str := ["turn", "deal", "undeal", "swap", "gather", "spread", "flip first", "flip last"]
def numL : List (Str × Int) := [("-3", -3), ("-2", -2), ("-1", -1), ("1", 1), ("2", 2), ("3", 3)]
def restL : List (Str × (Int × Int)) := [("0 of 2", (0, 2)), ("1 of 2", (1, 2)), ("0 of 3", (0, 3)), ("1 of 3", (1, 3)), ("2 of 3", (2, 3)), ("0 of 4", (0, 4)), ("1 of 4", (1, 4)), ("2 of 4", (2, 4)), ("3 of 4", (3, 4))]
/-- behind the number -/
def parseB (kind : Str) (by_ : Int) (between pair : Str) : Option Row :=
  if between = "" then (if kind ∈ (["roll", "near", "sum"] : List Str) then some (kind, some by_, none) else none)
  else if kind ∈ (["near", "sum"] : List Str) then
    match restL.lookup pair with
    | none => none
    | some r => if kind = "sum" ∧ by_ % r.2 ≠ 0 then none else some (kind, some by_, some r)
  else none
def parse (x : Str) : Option Row :=
  if x ∈ bareL then some (x, none, none)
  else if (Txt.partition x " ").1 = "flip" ∧ (restL.lookup (Txt.partition x " ").2.2).isSome = true then (restL.lookup (Txt.partition x " ").2.2).map fun r => ("flip", none, some r)
  else match numL.lookup (Txt.partition (Txt.partition x " ").2.2 " at ").1 with
    | none => none
    | some b => parseB (Txt.partition x " ").1 b (Txt.partition (Txt.partition x " ").2.2 " at ").2.1 (Txt.partition (Txt.partition x " ").2.2 " at ").2.2
def kr (t k : Str) (b : Option Int) (r : Option (Int × Int)) : Str × Row := (t, (k, b, r))
def known : List (Str × Row) := [
  kr "turn" "turn" (none) (none),
  kr "deal" "deal" (none) (none),
  kr "undeal" "undeal" (none) (none),
  kr "swap" "swap" (none) (none),
  kr "gather" "gather" (none) (none),
  kr "spread" "spread" (none) (none),
  kr "flip first" "flip first" (none) (none),
  kr "flip last" "flip last" (none) (none),
  kr "roll -3" "roll" (some (-3)) (none),
  kr "near -3" "near" (some (-3)) (none),
  kr "sum -3" "sum" (some (-3)) (none),
  kr "near -3 at 0 of 2" "near" (some (-3)) (some (0, 2)),
  kr "near -3 at 1 of 2" "near" (some (-3)) (some (1, 2)),
  kr "near -3 at 0 of 3" "near" (some (-3)) (some (0, 3)),
  kr "near -3 at 1 of 3" "near" (some (-3)) (some (1, 3)),
  kr "near -3 at 2 of 3" "near" (some (-3)) (some (2, 3)),
  kr "sum -3 at 0 of 3" "sum" (some (-3)) (some (0, 3)),
  kr "sum -3 at 1 of 3" "sum" (some (-3)) (some (1, 3)),
  kr "sum -3 at 2 of 3" "sum" (some (-3)) (some (2, 3)),
  kr "near -3 at 0 of 4" "near" (some (-3)) (some (0, 4)),
  kr "near -3 at 1 of 4" "near" (some (-3)) (some (1, 4)),
  kr "near -3 at 2 of 4" "near" (some (-3)) (some (2, 4)),
  kr "near -3 at 3 of 4" "near" (some (-3)) (some (3, 4)),
  kr "roll -2" "roll" (some (-2)) (none),
  kr "near -2" "near" (some (-2)) (none),
  kr "sum -2" "sum" (some (-2)) (none),
  kr "near -2 at 0 of 2" "near" (some (-2)) (some (0, 2)),
  kr "near -2 at 1 of 2" "near" (some (-2)) (some (1, 2)),
  kr "sum -2 at 0 of 2" "sum" (some (-2)) (some (0, 2)),
  kr "sum -2 at 1 of 2" "sum" (some (-2)) (some (1, 2)),
  kr "near -2 at 0 of 3" "near" (some (-2)) (some (0, 3)),
  kr "near -2 at 1 of 3" "near" (some (-2)) (some (1, 3)),
  kr "near -2 at 2 of 3" "near" (some (-2)) (some (2, 3)),
  kr "near -2 at 0 of 4" "near" (some (-2)) (some (0, 4)),
  kr "near -2 at 1 of 4" "near" (some (-2)) (some (1, 4)),
  kr "near -2 at 2 of 4" "near" (some (-2)) (some (2, 4)),
  kr "near -2 at 3 of 4" "near" (some (-2)) (some (3, 4)),
  kr "roll -1" "roll" (some (-1)) (none),
  kr "near -1" "near" (some (-1)) (none),
  kr "sum -1" "sum" (some (-1)) (none),
  kr "near -1 at 0 of 2" "near" (some (-1)) (some (0, 2)),
  kr "near -1 at 1 of 2" "near" (some (-1)) (some (1, 2)),
  kr "near -1 at 0 of 3" "near" (some (-1)) (some (0, 3)),
  kr "near -1 at 1 of 3" "near" (some (-1)) (some (1, 3)),
  kr "near -1 at 2 of 3" "near" (some (-1)) (some (2, 3)),
  kr "near -1 at 0 of 4" "near" (some (-1)) (some (0, 4)),
  kr "near -1 at 1 of 4" "near" (some (-1)) (some (1, 4)),
  kr "near -1 at 2 of 4" "near" (some (-1)) (some (2, 4)),
  kr "near -1 at 3 of 4" "near" (some (-1)) (some (3, 4)),
  kr "roll 1" "roll" (some (1)) (none),
  kr "near 1" "near" (some (1)) (none),
  kr "sum 1" "sum" (some (1)) (none),
  kr "near 1 at 0 of 2" "near" (some (1)) (some (0, 2)),
  kr "near 1 at 1 of 2" "near" (some (1)) (some (1, 2)),
  kr "near 1 at 0 of 3" "near" (some (1)) (some (0, 3)),
  kr "near 1 at 1 of 3" "near" (some (1)) (some (1, 3)),
  kr "near 1 at 2 of 3" "near" (some (1)) (some (2, 3)),
  kr "near 1 at 0 of 4" "near" (some (1)) (some (0, 4)),
  kr "near 1 at 1 of 4" "near" (some (1)) (some (1, 4)),
  kr "near 1 at 2 of 4" "near" (some (1)) (some (2, 4)),
  kr "near 1 at 3 of 4" "near" (some (1)) (some (3, 4)),
  kr "roll 2" "roll" (some (2)) (none),
  kr "near 2" "near" (some (2)) (none),
  kr "sum 2" "sum" (some (2)) (none),
  kr "near 2 at 0 of 2" "near" (some (2)) (some (0, 2)),
  kr "near 2 at 1 of 2" "near" (some (2)) (some (1, 2)),
  kr "sum 2 at 0 of 2" "sum" (some (2)) (some (0, 2)),
  kr "sum 2 at 1 of 2" "sum" (some (2)) (some (1, 2)),
  kr "near 2 at 0 of 3" "near" (some (2)) (some (0, 3)),
  kr "near 2 at 1 of 3" "near" (some (2)) (some (1, 3)),
  kr "near 2 at 2 of 3" "near" (some (2)) (some (2, 3)),
  kr "near 2 at 0 of 4" "near" (some (2)) (some (0, 4)),
  kr "near 2 at 1 of 4" "near" (some (2)) (some (1, 4)),
  kr "near 2 at 2 of 4" "near" (some (2)) (some (2, 4)),
  kr "near 2 at 3 of 4" "near" (some (2)) (some (3, 4)),
  kr "roll 3" "roll" (some (3)) (none),
  kr "near 3" "near" (some (3)) (none),
  kr "sum 3" "sum" (some (3)) (none),
  kr "near 3 at 0 of 2" "near" (some (3)) (some (0, 2)),
  kr "near 3 at 1 of 2" "near" (some (3)) (some (1, 2)),
  kr "near 3 at 0 of 3" "near" (some (3)) (some (0, 3)),
  kr "near 3 at 1 of 3" "near" (some (3)) (some (1, 3)),
  kr "near 3 at 2 of 3" "near" (some (3)) (some (2, 3)),
  kr "sum 3 at 0 of 3" "sum" (some (3)) (some (0, 3)),
  kr "sum 3 at 1 of 3" "sum" (some (3)) (some (1, 3)),
  kr "sum 3 at 2 of 3" "sum" (some (3)) (some (2, 3)),
  kr "near 3 at 0 of 4" "near" (some (3)) (some (0, 4)),
  kr "near 3 at 1 of 4" "near" (some (3)) (some (1, 4)),
  kr "near 3 at 2 of 4" "near" (some (3)) (some (2, 4)),
  kr "near 3 at 3 of 4" "near" (some (3)) (some (3, 4)),
  kr "flip 0 of 2" "flip" (none) (some (0, 2)),
  kr "flip 1 of 2" "flip" (none) (some (1, 2)),
  kr "flip 0 of 3" "flip" (none) (some (0, 3)),
  kr "flip 1 of 3" "flip" (none) (some (1, 3)),
  kr "flip 2 of 3" "flip" (none) (some (2, 3)),
  kr "flip 0 of 4" "flip" (none) (some (0, 4)),
  kr "flip 1 of 4" "flip" (none) (some (1, 4)),
  kr "flip 2 of 4" "flip" (none) (some (2, 4)),
  kr "flip 3 of 4" "flip" (none) (some (3, 4))]
theorem known_parse : ∀ p ∈ known, parse p.1 = some p.2 := by decide +kernel
theorem known_nodup : (known.map (·.1)).Nodup := by decide +kernel
theorem known_length : known.length = 99 := by decide +kernel
theorem known_short : ∀ p ∈ known, p.1.length ≤ 40 := by decide +kernel
theorem part_cases (x y : Str) : ((Txt.partition x y).2.1 = y ∨ ((Txt.partition x y).2.1 = Str.empty ∧ (Txt.partition x y).2.2 = Str.empty)) ∧ (Txt.partition x y).1 ++ (Txt.partition x y).2.1 ++ (Txt.partition x y).2.2 = x := by
  refine ⟨?_, StrLaws.partition_sum x y⟩
  unfold Txt.partition
  cases Builtin.Str.occurrences x y 0 x.length 1 with
  | nil => exact .inr ⟨rfl, rfl⟩
  | cons i r => exact .inl rfl
theorem look_mem {α : Type} {k : Str} {v : α} {l : List (Str × α)} (h : l.lookup k = some v) : (k, v) ∈ l := PySem.mem_of_lookup h
theorem bare_known : ∀ k ∈ bareL, (k, ((k, none, none) : Row)) ∈ known := by decide +kernel
theorem flip_known : ∀ p ∈ restL, (("flip" : Str) ++ " " ++ p.1, (("flip", none, some p.2) : Row)) ∈ known := by decide +kernel
theorem one_known : ∀ k ∈ (["roll", "near", "sum"] : List Str), ∀ n ∈ numL, (k ++ " " ++ (n.1 ++ Str.empty ++ Str.empty), ((k, some n.2, none) : Row)) ∈ known := by decide +kernel
theorem near_known : ∀ n ∈ numL, ∀ p ∈ restL, (("near" : Str) ++ " " ++ (n.1 ++ " at " ++ p.1), (("near", some n.2, some p.2) : Row)) ∈ known := by decide +kernel
theorem sum_known : ∀ n ∈ numL, ∀ p ∈ restL, n.2 % p.2.2 = 0 → (("sum" : Str) ++ " " ++ (n.1 ++ " at " ++ p.1), (("sum", some n.2, some p.2) : Row)) ∈ known := by decide +kernel
theorem at_ne : ¬ ((" at " : Str) = "") := by decide +kernel
theorem empty_eq : (Str.empty : Str) = "" := by decide +kernel
theorem no_rest : restL.lookup (Str.empty : Str) = none := by decide +kernel
theorem no_num : numL.lookup (Txt.partition (Str.empty : Str) " at ").1 = none := by decide +kernel
/-- what is read is one of the 99 -/
theorem parse_known {x : Str} {r : Row} (h : parse x = some r) : (x, r) ∈ known := by
  unfold parse at h
  split at h
  · rename_i hb
    cases h
    exact bare_known x hb
  · obtain ⟨c1, e1⟩ := part_cases x " "
    generalize Txt.partition x " " = q at *
    obtain ⟨kind, sep, told⟩ := q
    dsimp only at *
    split at h
    · rename_i hf
      obtain ⟨rfl, hs⟩ := hf
      obtain ⟨p, hp⟩ := Option.isSome_iff_exists.mp hs
      rw [hp] at h
      cases h
      rcases c1 with rfl | ⟨rfl, rfl⟩
      · rw [← e1]
        exact flip_known _ (look_mem hp)
      · rw [no_rest] at hp
        cases hp
    · obtain ⟨c2, e2⟩ := part_cases told " at "
      rcases c1 with rfl | ⟨rfl, rfl⟩
      · generalize Txt.partition told " at " = q2 at *
        obtain ⟨number, between, pair⟩ := q2
        dsimp only at *
        cases hn : numL.lookup number with
        | none => rw [hn] at h; cases h
        | some b =>
          rw [hn] at h
          have hm := look_mem hn
          dsimp only at h
          unfold parseB at h
          split at h
          · rename_i hbt
            split at h
            · rename_i hk
              cases h
              rcases c2 with rfl | ⟨rfl, rfl⟩
              · exact absurd hbt at_ne
              · rw [← e1, ← e2]
                exact one_known kind hk _ hm
            · cases h
          · rename_i hbt
            split at h
            · rename_i hk
              rcases c2 with rfl | ⟨rfl, rfl⟩
              · split at h
                · cases h
                · rename_i p hp
                  split at h
                  · cases h
                  · rename_i hz
                    cases h
                    rw [← e1, ← e2]
                    simp only [List.mem_cons, List.not_mem_nil, or_false] at hk
                    rcases hk with rfl | rfl
                    · exact near_known _ hm _ (look_mem hp)
                    · refine sum_known _ hm _ (look_mem hp) ?_
                      by_cases z : b % p.2 = 0
                      · exact z
                      · exact absurd ⟨rfl, z⟩ hz
              · exact absurd empty_eq hbt
            · cases h
      · rw [no_num] at h
        cases h
theorem parse_iff {x : Str} {r : Row} : parse x = some r ↔ (x, r) ∈ known := ⟨parse_known, fun h => known_parse _ h⟩
end Aw

namespace Aw
open PySem PySem.Spec PyProof.Rows L2 NdefX
/-- an own error class, made by X(v), with one field -/
structure Err (P : Program) (K : PySem.W.Frag) (mg : Str → Option Value) (x y fld : Str) (C : Addr) : Prop where
  ex : ∃ (f cc cda : Addr) (qual : Str) (args : Arguments) (body : List Stmt) (scope : Scope) (fd : FuncData), SupTxt P K mg C f cc cda qual y fld args body scope fd ∧ PySem.W.findIn K (.ref C) "__init__" = some (some (.ref f)) ∧ PySem.W.typeIn K (.ref f) = some (.type "function") ∧ Binds K fd ["self", y] []
  g : mg x = some (.ref C)
  D : ExcD K C
  hno : PySem.W.findIn K (.ref C) fld = some none
section
variable {X : Cx} {C : Addr} {y fld x : Str} {e : Expr} {es : List Expr} {ta : TA} {p pos : Pos}
theorem pe_err (Ex : Err X.prog X.K X.mg x y fld C) (hr : Room 2 X.A) (hg : Gl X x) (ha : PA X (e :: es) ta)
    (hdb : (x == ("__debug__" : Str)) = false := by decide) (he : starEach (e :: es) X.env = (false, eval e X.env) :: starEach es X.env := by rfl) (hpl : (backTo pos (starEach es X.env)).any (·.1) = false := by rfl) :
    PE X (.Call (.Name x p) (e :: es) [] pos) (tVaS C fld ta) := by
  obtain ⟨f, cc, cda, qual, args, body, scope, fd, S, iC, tI, hb⟩ := Ex.ex
  exact pe_sup S iC tI hb hr hg Ex.g ha hdb he hpl
theorem pmk_err (Ex : Err X.prog X.K X.mg x y fld C) (hr : Room 2 X.A) (hg : Gl X x) (ha : PA X (e :: es) ta)
    (hdb : (x == ("__debug__" : Str)) = false := by decide) (he : starEach (e :: es) X.env = (false, eval e X.env) :: starEach es X.env := by rfl) (hpl : (backTo pos (starEach es X.env)).any (·.1) = false := by rfl) :
    PMk X (.Call (.Name x p) (e :: es) [] pos) (tMkO C (spSup C fld) [] ta) := by
  obtain ⟨f, cc, cda, qual, args, body, scope, fd, S, iC, tI, hb⟩ := Ex.ex
  exact pmk_sup S iC tI hb hr hg Ex.g ha hdb he hpl
end
/-- an own error class without own __init__, made by X() -/
structure Err0 (K : PySem.W.Frag) (mg : Str → Option Value) (x : Str) (C : Addr) : Prop where
  q : PySem.W.excIn K C PySem.HandSPX.veTail "ValueError.__new__" = true
  kC : PySem.W.keepIn K (.ref C) = true
  g : mg x = some (.ref C)
  D : ExcD K C
section
variable {X : Cx} {C : Addr} {x : Str} {p pos : Pos}
theorem pe_err0 (Ex : Err0 X.K X.mg x C) (hg : Gl X x) (hdb : (x == ("__debug__" : Str)) = false := by decide) : PE X (.Call (.Name x p) [] [] pos) (fun _ H Q => ∀ a, H a = none → Q (.ref a) (upd H a (exo a C none))) := by
  refine ⟨fun pins s σ H Q I h => ?_⟩
  refine wpAny_Call_Name_kw (ld_glob I hg Ex.g ?_ hdb)
  refine PySem.W.callWith_K0 I.kIn Ex.kC ?_
  show wpAny _ _ (call (.ref C) []) _ _ _
  obtain ⟨bm, N, nm, qn, bs, hdct, sn, sub, ab, col, dd, k0, k1, k2, k3, k5, mN, hC, hN, hni, T⟩ := exc_obj I.kIn Ex.q
  refine wpAny_call_exc_subT F.excBase_ValueError T hC hN hni (fun h' a hm => ?_) (by show 0 ≤ sizeLine; omega)
  have hn : H a = none := I.hok.gone hm.new
  obtain ⟨t, ht, _, _⟩ := hm.there
  exact ⟨.ref a, upd H a (exo a C none), I.laidN hm.keeps hm.new hn (exo_ok ht), rfl, h a hn⟩
end
theorem ite_int {k j : Int} {A B : Prop} (h1 : k = j → A) (h2 : k ≠ j → B) : if decide (V.int k = V.int j) = true then A else B := by
  by_cases e : k = j
  · rw [decide_eq_true (by rw [e])]
    exact iteT (h1 e)
  · rw [decide_eq_false (fun z => e (V.int.inj z))]
    exact iteF (h2 e)
theorem ite_str {x y : Str} {A B : Prop} (h1 : x = y → A) (h2 : x ≠ y → B) : if decide (V.str x = V.str y) = true then A else B := by
  by_cases e : x = y
  · rw [decide_eq_true (by rw [e])]
    exact iteT (h1 e)
  · rw [decide_eq_false (fun z => e (V.str.inj z))]
    exact iteF (h2 e)
theorem ite_dec {c : Prop} [Decidable c] {A B : Prop} (h1 : c → A) (h2 : ¬ c → B) : if decide c = true then A else B := by
  by_cases e : c
  · rw [decide_eq_true e]
    exact iteT (h1 e)
  · rw [decide_eq_false e]
    exact iteF (h2 e)
theorem ite_ndec {c : Prop} [Decidable c] {A B : Prop} (h1 : ¬ c → A) (h2 : c → B) : if (!decide c) = true then A else B := by
  by_cases e : c
  · rw [decide_eq_true e]
    exact iteF (h2 e)
  · rw [decide_eq_false e]
    exact iteT (h1 e)
end Aw

namespace Aw
open PySem PySem.Spec PyProof.Rows L2 NdefX
abbrev sParts : Stmt := (top 23)
abbrev sInit : Stmt := (inClass (top 22) 0)
abbrev sEq : Stmt := (inClass (top 22) 1)
abbrev sText : Stmt := (top 56)
abbrev sBounds : Stmt := (top 44)
abbrev sPInit : Stmt := (inClass (top 43) 0)
abbrev sJoined : Stmt := (top 45)
abbrev sNum : Stmt := (top 13)
abbrev sPlace : Stmt := (top 26)
abbrev sFlipd : Stmt := (top 27)
abbrev sChosen : Stmt := (top 28)
abbrev sWob : Stmt := (top 14)
abbrev sMoved : Stmt := (top 29)
abbrev sFlipdB : Stmt := (top 30)
abbrev sNear : Stmt := (top 32)
abbrev sSumB : Stmt := (top 33)
abbrev sMixed : Stmt := (top 31)
abbrev sDone : Stmt := (inClass (top 22) 3)
abbrev sLBig : Stmt := (top 51)
abbrev sLBits : Stmt := (top 52)
abbrev sPDone : Stmt := (inClass (top 43) 13)
abbrev sLPt : Stmt := (top 57)
abbrev sLStep : Stmt := (top 54)
abbrev sLSteps : Stmt := (top 55)
abbrev sSText : Stmt := (top 24)
abbrev sOwnI : Stmt := (top 25)
abbrev sSInv : Stmt := (inClass (top 22) 2)
abbrev sPInv : Stmt := (inClass (top 43) 9)
abbrev sLIv : Stmt := (top 58)
abbrev sLBefore : Stmt := (top 59)
abbrev sLFlip : Stmt := (top 60)
abbrev sChkM : Stmt := (top 37)
abbrev sFol : Stmt := (top 38)
abbrev sTrip : Stmt := (top 39)
abbrev sHome : Stmt := (top 36)
abbrev sLTold : Stmt := (top 61)
abbrev sLDiv : Stmt := (top 62)
abbrev sLOrd : Stmt := (top 64)
abbrev sLDue : Stmt := (top 63)
abbrev sLKn : Stmt := (top 65)
abbrev sLHr : Stmt := (top 66)
abbrev sMov : Stmt := (top 53)
abbrev sLaw : Stmt := (top 67)
end Aw

namespace Aw
open PySem PySem.Spec PyProof.Rows L2 NdefX He5
open He (eqO eqO_ok ga ma frG frG_in)
/-! ### facts of the written part, as Bools -/
theorem bo {a b : Bool} (h : (a && b) = true) : a = true ∧ b = true := Bool.and_eq_true_iff.mp h
def excDB (K : PySem.W.Frag) (C : Addr) : Bool := eqO (PySem.W.findIn K (.ref C) "__getattribute__") (some (some (.builtin "BaseException.__getattribute__"))) && (eqO (PySem.W.findIn K (.ref C) "__getattr__") (some none) && (decide (PySem.W.subIn K (.ref C) (.type "BaseException") = some true) &&
  (PySem.W.hasDictIn K C && (eqO (PySem.W.findIn K (.ref C) "__class__") (some (some (.builtin "object.__class__"))) && (eqO (PySem.W.specialIn K (.builtin "object.__class__") "__get__") (some (some (.builtin "getset_descriptor.__get__"))) && (decide (PySem.W.takesIn K (.builtin "object.__class__") = some true) && decide (PySem.W.mroIn K C (.type "object") = some true)))))))
theorem excDB_ok {K : PySem.W.Frag} {C : Addr} (h : excDB K C = true) : ExcD K C := by
  obtain ⟨h1, h⟩ := bo h
  obtain ⟨h2, h⟩ := bo h
  obtain ⟨h3, h⟩ := bo h
  obtain ⟨h4, h⟩ := bo h
  obtain ⟨h5, h⟩ := bo h
  obtain ⟨h6, h⟩ := bo h
  obtain ⟨h7, h8⟩ := bo h
  exact ⟨eqO_ok h1, eqO_ok h2, of_decide_eq_true h3, h4, eqO_ok h5, eqO_ok h6, of_decide_eq_true h7, of_decide_eq_true h8⟩
def rawC (K : PySem.W.Frag) (C : Addr) : Bool := match K.lookup C with
  | some ⟨.type T, _, .cls cd, sl⟩ => (match cd.mro, sl.toList with
    | .ref C' :: bm, [_, _, _, _, some (.builtin n), _] => decide (T = "type") && (decide (C' = C) && (PySem.HandSPX.refsVE bm && (cd.hasDict && (!cd.hasDel && decide (n = "ValueError.__new__")))))
    | _, _ => false)
  | _ => false
theorem rawC_ok {K : PySem.W.Frag} {C : Addr} (h : rawC K C = true) : ∃ nm q N bs bm sn sub ab col dd k0 k1 k2 k3 k5, K.lookup C = some (excClassObj nm q C N bs bm true sn sub ab col dd k0 k1 k2 k3 k5 "ValueError.__new__") ∧ PySem.HandSPX.refsVE bm = true := by
  unfold rawC at h
  split at h
  · rename_i T dd cd sl ho
    split at h
    · rename_i C' bm k0 k1 k2 k3 n k5 hm hs
      obtain ⟨h1, h⟩ := bo h
      obtain ⟨h2, h⟩ := bo h
      obtain ⟨h3, h⟩ := bo h
      obtain ⟨h4, h⟩ := bo h
      obtain ⟨h5, h6⟩ := bo h
      have e1 := of_decide_eq_true h1
      have e2 := of_decide_eq_true h2
      have e6 := of_decide_eq_true h6
      subst e1 e2 e6
      obtain ⟨nm, bs, mro, ns, qn, hd, sn, sub, ab, col, del⟩ := cd
      dsimp only at hm h4 h5
      subst hm h4
      have hdel : del = false := by simpa using h5
      subst hdel
      obtain ⟨l⟩ := sl
      simp only at hs
      subst hs
      exact ⟨nm, qn, ns, bs, bm, sn, sub, ab, col, dd, k0, k1, k2, k3, k5, ho, h3⟩
    · cases h
  · cases h
def oexB (K : PySem.W.Frag) (C : Addr) : Bool := rawC K C && (eqO (PySem.W.findIn K (.ref C) "__setattr__") (some (some (.builtin "object.__setattr__"))) && (decide (PySem.W.subIn K (.ref C) (.type "BaseException") = some true) && (decide (PySem.W.typeIn K (.ref C) = some (.type "type")) && PySem.W.keepIn K (.ref C))))
theorem oexB_ok {K : PySem.W.Frag} {C : Addr} (h : oexB K C = true) : OexC K C := by
  obtain ⟨h1, h⟩ := bo h
  obtain ⟨h2, h⟩ := bo h
  obtain ⟨h3, h⟩ := bo h
  obtain ⟨h4, h5⟩ := bo h
  exact ⟨rawC_ok h1, eqO_ok h2, of_decide_eq_true h3, of_decide_eq_true h4, h5⟩
/-- the own __init__ of the class x, as it stands -/
def supAt (K : PySem.W.Frag) (x : Str) : Addr := ma K (ga K x) "__init__"
abbrev SupW : Type := Option (Str × Str × Arguments × FuncBody × Scope × Addr × List Str × Addr)
def supW (K : PySem.W.Frag) (x : Str) : SupW := match K.lookup (supAt K x) with
  | some ⟨_, _, .func fd, _⟩ => some (fd.name, fd.qualname, fd.params, fd.body, fd.scope, fd.globals, fd.closure.map (·.1), fd.builtins)
  | _ => none
structure SupD where
  x : Str
  qual : Str
  y : Str
  fld : Str
  st : Stmt
def SupD.val (d : SupD) : SupW := some ("__init__", d.qual, defArgs d.st, .stmts (defBody d.st), defScope d.st, mainGlobals, ["__class__"], builtinsNs)
def SupD.ok (file : Str) (K : PySem.W.Frag) (d : SupD) : Bool := oexB K (ga K d.x) && (excDB K (ga K d.x) && (eqO (PySem.W.nsIn K mainGlobals d.x) (some (some (.ref (ga K d.x)))) && (eqO (PySem.W.findIn K (.ref (ga K d.x)) "__init__") (some (some (.ref (supAt K d.x)))) && (decide (PySem.W.typeIn K (.ref (supAt K d.x)) = some (.type "function")) &&
  (eqO (PySem.W.ks_superIn K (ga K d.x) (ga K d.x) "__init__") (some (some (.builtin "ValueError.__init__"))) && (decide (PySem.W.subIn K (.ref (ga K d.x)) (.type "ValueError") = some true) && (decide (PySem.W.mroIn K (ga K d.x) (.ref (ga K d.x)) = some true) && (eqO (PySem.W.nsIn K cStatics "thirdparty.any") (some none) && (eqO (PySem.W.findIn K (.ref (ga K d.x)) d.fld) (some none) &&
  (eqO (PySem.W.nsIn K mainGlobals "super") (some none) && (match K.lookup (supAt K d.x) with
    | some ⟨_, _, .func fd, _⟩ => (match fd.closure, fd.code, fd.defaults with
      | [(_, cc)], .ref cda, .none => PySem.W.codeIn K (.ref cda) d.qual && ((match K.lookup cda with
          | some ⟨_, _, .fields vs, _⟩ => (match (vs[2]? : Option Value) with
            | some (Value.str fl _) => (file == fl)
            | _ => false)
          | _ => false) && (match K.lookup cc with
          | some ⟨_, _, .cell (some (.ref D)), _⟩ => decide (D = ga K d.x)
          | _ => false))
      | _, _, _ => false)
    | _ => false)))))))))))
/-- what the text itself says of such an __init__ -/
structure SupS (d : SupD) : Prop where
  bd : ∃ z j p0 p1 p2 p3 p4 p5 p6 p7 p8 p9, defBody d.st = supBody z d.y d.fld j p0 p1 p2 p3 p4 p5 p6 p7 p8 p9 ∧ (p2.endLine == p4.line) = true
  ar : ((defArgs d.st).posonlyargs ++ (defArgs d.st).args).head?.map (·.arg) = some "self"
  sc : NScope ["self", d.y, "__class__"] ["self", d.y] ["__class__"] (defScope d.st)
  scs : (defScope d.st).names.lookup ("super" : Str) = some .globalImplicit
  ny : (d.y == ("__debug__" : Str)) = false ∧ (d.y == ("__classdict__" : Str)) = false
  bind : ∀ (kV doc pm : Value) (an : Option Addr) (cdv ct : Value) (cc : Addr) (us : List Value), us.length = 2 → bindArgs (PySem.W.fnX "__init__" d.qual (defArgs d.st) (defBody d.st) (defScope d.st) [("__class__", cc)] .none kV doc pm an cdv ct) ⟨us, []⟩ = pure ((["self", d.y] : List Str).zip us)
theorem sup_err {P : Program} {K : PySem.W.Frag} {h : Heap} {mg : Str → Option Value} {d : SupD} (X : K.In h) (G : h.Ns mainGlobals mg) (S : SupS d) (htop : (P.main.scope.names.lookup ("super" : Str)).isSome = false) (e : supW K d.x = d.val) (c : d.ok P.main.file K = true) : Err P K mg d.x d.y d.fld (ga K d.x) := by
  obtain ⟨c1, c⟩ := bo c
  obtain ⟨c2, c⟩ := bo c
  obtain ⟨c3, c⟩ := bo c
  obtain ⟨c4, c⟩ := bo c
  obtain ⟨c5, c⟩ := bo c
  obtain ⟨c6, c⟩ := bo c
  obtain ⟨c7, c⟩ := bo c
  obtain ⟨c8, c⟩ := bo c
  obtain ⟨c9, c⟩ := bo c
  obtain ⟨c10, c⟩ := bo c
  obtain ⟨c11, c⟩ := bo c
  refine ⟨?_, PySem.W.mg_of X G (eqO_ok c3), excDB_ok c2, eqO_ok c10⟩
  unfold supW at e
  split at c
  · rename_i oc od fd osl lk
    rw [lk] at e
    split at c
    · rename_i n0 cc cda hcl hco hdf
      obtain ⟨d1, c⟩ := bo c
      obtain ⟨d2, d3⟩ := bo c
      obtain ⟨n1, n2, n3, n4, n5, n6, n7, n8, n9, n10, n11, n12, n13, n14, n15⟩ := fd
      dsimp only at hcl hco hdf
      have e2 : (some (n1, n2, n3, n4, n5, n6, n7.map (·.1), n15) : SupW) = (some (("__init__" : Str), d.qual, defArgs d.st, FuncBody.stmts (defBody d.st), defScope d.st, mainGlobals, (["__class__"] : List Str), builtinsNs) : SupW) := e
      simp only [Option.some.injEq, Prod.mk.injEq] at e2
      obtain ⟨h1, h2, h3, h4, h5, h6, h7, h8⟩ := e2
      subst h1 h2 h3 h4 h5 h6 h8 hcl hco hdf
      have hn0 : n0 = "__class__" := by simpa using h7
      subst hn0
      refine ⟨supAt K d.x, cc, cda, _, _, _, _, _, { T := oexB_ok c1, fdE := ⟨_, _, _, _, _, _, rfl⟩, lk := ⟨_, _, _, lk⟩, cd := d1, file := ?_, cell := ?_, hm := eqO_ok c6, hB := of_decide_eq_true c7, hself := of_decide_eq_true c8, ho := eqO_ok c9, hno := eqO_ok c10, hsup := PySem.W.mg_none_of X G (eqO_ok c11), htop := htop, bd := S.bd, ar := S.ar, sc := S.sc, scs := S.scs, ny := S.ny }, eqO_ok c4, of_decide_eq_true c5, ?_⟩
      · split at d2
        · rename_i ccl cdd vs ccs lkc
          split at d2
          · rename_i fl tf hv
            exact ⟨ccl, cdd, vs, ccs, fl, tf, lkc, hv, d2⟩
          · cases d2
        · cases d2
      · split at d3
        · rename_i cl cld D csl lkcc
          have eD := of_decide_eq_true d3
          subst eD
          exact ⟨cl, cld, csl, lkcc⟩
        · cases d3
      · exact .all fun us hl => S.bind _ _ _ _ _ _ _ us hl
    · cases c
  · cases c
def err0B (K : PySem.W.Frag) (x : Str) : Bool := PySem.W.excIn K (ga K x) PySem.HandSPX.veTail "ValueError.__new__" && (PySem.W.keepIn K (.ref (ga K x)) && (eqO (PySem.W.nsIn K mainGlobals x) (some (some (.ref (ga K x)))) && excDB K (ga K x)))
theorem err0_of {K : PySem.W.Frag} {h : Heap} {mg : Str → Option Value} {x : Str} (X : K.In h) (G : h.Ns mainGlobals mg) (c : err0B K x = true) : Err0 K mg x (ga K x) := by
  obtain ⟨c1, c⟩ := bo c
  obtain ⟨c2, c⟩ := bo c
  obtain ⟨c3, c4⟩ := bo c
  exact ⟨c1, c2, PySem.W.mg_of X G (eqO_ok c3), excDB_ok c4⟩
def gloB (K : PySem.W.Frag) (x : Str) : Bool := eqO (PySem.W.nsIn K mainGlobals x) (some (some (.ref (ga K x))))
def freB (K : PySem.W.Frag) (x : Str) : Bool := eqO (PySem.W.nsIn K mainGlobals x) (some none)
theorem glo_of {K : PySem.W.Frag} {h : Heap} {mg : Str → Option Value} {x : Str} (X : K.In h) (G : h.Ns mainGlobals mg) (c : gloB K x = true) : mg x = some (.ref (ga K x)) := PySem.W.mg_of X G (eqO_ok c)
theorem fre_of {K : PySem.W.Frag} {h : Heap} {mg : Str → Option Value} {x : Str} (X : K.In h) (G : h.Ns mainGlobals mg) (c : freB K x = true) : mg x = none := PySem.W.mg_none_of X G (eqO_ok c)
/-! ### the Hook: the defs, the __init__s, the tables, a Bool -/
abbrev AlZ : Type := He.AlD × (List SupW × (List (Option (List (Option (Str × Int)))) × Bool))
def obsZ (fn : List DefA) (su : List SupD) (ts : List He.Tab) (ex : PySem.W.Frag → Bool) (K : PySem.W.Frag) : AlZ := (obsA [] fn K, su.map (fun d => supW K d.x), ts.map (fun t => He.dicW K (t.1 K)), ex K)
def valZ (fn : List DefA) (su : List SupD) (ts : List He.Tab) (w : World) : AlZ := (valA fn, su.map SupD.val, ts.map (fun t => some (He.keysIn w.params t.2)), true)
def SaysZ (fn : List DefA) (su : List SupD) (ts : List He.Tab) (ex : PySem.W.Frag → Bool) (w : World) (K : PySem.W.Frag) : Prop := obsZ fn su ts ex K = valZ fn su ts w
def obsZG (n : Nat) (fn : List DefA) (su : List SupD) (ts : List He.Tab) (ex : PySem.W.Frag → Bool) (g : Addr → Option Obj) : AlZ := obsZ fn su ts ex (frG g (asA g n))
def hookZ (n : Nat) (fn : List DefA) (su : List SupD) (ts : List He.Tab) (ex : PySem.W.Frag → Bool) : PySem.W.Hook where
  α := AlZ
  obs := fun s => obsZG n fn su ts ex s.heap.get?
  val := fun w => valZ fn su ts w
  says := fun w h => ∃ K : PySem.W.Frag, K.In h ∧ SaysZ fn su ts ex w K
  of := fun _ _ e => ⟨_, frG_in, e⟩
  keeps := fun _ _ _ ⟨K, hK, c⟩ k => ⟨K, PySem.W.Frag.In.keeps hK k, c⟩
theorem obsZG_eq {n : Nat} {fn : List DefA} {su : List SupD} {ts : List He.Tab} {ex : PySem.W.Frag → Bool} {g : Addr → Option Obj} {s : Shared} (h : ∀ a, g a = s.heap.get? a) : obsZG n fn su ts ex g = (hookZ n fn su ts ex).obs s := by
  have e : g = s.heap.get? := funext h
  rw [e] <;> rfl
/-- the same over a written list of addresses (found once by evaluation: aslist.sh): nothing is searched for in the run -/
def obsLG (as : List Addr) (fn : List DefA) (su : List SupD) (ts : List He.Tab) (ex : PySem.W.Frag → Bool) (g : Addr → Option Obj) : AlZ := obsZ fn su ts ex (frG g as)
def hookL (as : List Addr) (fn : List DefA) (su : List SupD) (ts : List He.Tab) (ex : PySem.W.Frag → Bool) : PySem.W.Hook where
  α := AlZ
  obs := fun s => obsLG as fn su ts ex s.heap.get?
  val := fun w => valZ fn su ts w
  says := fun w h => ∃ K : PySem.W.Frag, K.In h ∧ SaysZ fn su ts ex w K
  of := fun _ _ e => ⟨_, frG_in, e⟩
  keeps := fun _ _ _ ⟨K, hK, c⟩ k => ⟨K, PySem.W.Frag.In.keeps hK k, c⟩
theorem obsLG_eq {as : List Addr} {fn : List DefA} {su : List SupD} {ts : List He.Tab} {ex : PySem.W.Frag → Bool} {g : Addr → Option Obj} {s : Shared} (h : ∀ a, g a = s.heap.get? a) : obsLG as fn su ts ex g = (hookL as fn su ts ex).obs s := by
  have e : g = s.heap.get? := funext h
  rw [e] <;> rfl
section
variable {fn : List DefA} {su : List SupD} {ts : List He.Tab} {ex : PySem.W.Frag → Bool} {w : World} {K : PySem.W.Frag}
theorem SaysZ.more (c : SaysZ fn su ts ex w K) : ex K = true := congrArg (fun z : AlZ => z.2.2.2) c
theorem SaysZ.def_ (c : SaysZ fn su ts ex w K) (i : Nat) {d : DefA} (h : fn[i]? = some d := by rfl) : ∃ fd, L2.FunD K d.name d.qual d.params d.body d.scope (d.dvs K) (d.kws K) (d.at_ K) fd :=
  SaysA.def_ (fa := []) (fn := fn) (show obsA [] fn K = valA fn from congrArg (fun z : AlZ => z.1) c) i h
theorem SaysZ.sup (c : SaysZ fn su ts ex w K) (i : Nat) {d : SupD} (h : su[i]? = some d := by rfl) : supW K d.x = d.val := by
  have e : su.map (fun d => supW K d.x) = su.map SupD.val := congrArg (fun z : AlZ => z.2.1) c
  have e2 : (su.map fun d => supW K d.x)[i]? = (su.map SupD.val)[i]? := by rw [e]
  rw [List.getElem?_map, List.getElem?_map, h] at e2
  exact Option.some.inj e2
theorem SaysZ.tab (c : SaysZ fn su ts ex w K) (i : Nat) {t : He.Tab} (h : ts[i]? = some t := by rfl) : ∃ es n, KDict K w (t.1 K) es n := by
  have e : ts.map (fun t => He.dicW K (t.1 K)) = ts.map fun t => some (He.keysIn w.params t.2) := congrArg (fun z : AlZ => z.2.2.1) c
  have e2 : (ts.map fun t => He.dicW K (t.1 K))[i]? = (ts.map fun t => some (He.keysIn w.params t.2))[i]? := by rw [e]
  rw [List.getElem?_map, List.getElem?_map, h] at e2
  exact He.dicW_ok (Option.some.inj e2)
end
/-- a def of the top without defaults -/
def defG (x : Str) (st : Stmt) : DefA := ⟨fun K => ga K x, x, x, defArgs st, defBody st, defScope st, [], []⟩
/-- a method -/
def defM (x m q : Str) (st : Stmt) : DefA := ⟨fun K => ma K (ga K x) m, m, q, defArgs st, defBody st, defScope st, [], []⟩
end Aw

namespace Aw
open PySem PySem.Spec PyProof.Rows L2 NdefX He5
open He (eqO eqO_ok ga ma Fa cls_ok noat_ok meth_ok mkr_ok exm_ok int_ok tupB tupB_ok valsB valsB_ok Dv relAll relAll_ok)
/-! ### the dicts of the top -/
def keysB (K : PySem.W.Frag) (d : Addr) (L : List Str) : Bool := match K.lookup d with
  | some ⟨_, _, .dict es _, _⟩ => es.toList.all fun e => match e.key with
    | .str x _ => decide (x ∈ L)
    | _ => false
  | _ => false
theorem keysB_ok {K : PySem.W.Frag} {d : Addr} {L : List Str} (h : keysB K d L = true) {z : Str} (hz : z ∉ L) : PySem.W.nsIn K d z = some none := by
  unfold keysB at h
  split at h
  · rename_i oc od es n osl lk
    have hk : ∀ e ∈ es.toList, ∃ x t, e.key = .str x t ∧ x ∈ L := fun e he => by
      have h2 := List.all_eq_true.mp h e he
      split at h2
      · rename_i x t ek
        exact ⟨x, t, ek, of_decide_eq_true h2⟩
      · cases h2
    unfold PySem.W.nsIn
    rw [lk]
    have f0 : es.toList.find? (fun e => e.key.isStr z) = none := by
      rw [List.find?_eq_none]
      intro e he q
      obtain ⟨x, t, ek, hx⟩ := hk e he
      rw [ek] at q
      have e2 : x = z := by simpa [Value.isStr] using q
      exact hz (e2 ▸ hx)
    have f1 : es.toList.any (fun e => e.refKey) = false := by
      rw [List.any_eq_false]
      intro e he q
      obtain ⟨x, t, ek, hx⟩ := hk e he
      unfold DictEntry.refKey at q
      rw [ek] at q
      cases q
    simp only [f0, f1]
    rfl
  · cases h
theorem lookup_mem1 {α : Type} {z : Str} {v : α} : ∀ {l : List (Str × α)}, l.lookup z = some v → (z, v) ∈ l
  | (k, u) :: l, h => by
    by_cases e : z = k
    · subst e
      rw [List.lookup_cons_self] at h
      cases h
      exact List.mem_cons_self ..
    · have e2 : (z == k) = false := by simpa using e
      rw [List.lookup_cons, e2] at h
      exact List.mem_cons_of_mem _ (lookup_mem1 h)
theorem lookup_none1 {α : Type} {z : Str} : ∀ {l : List (Str × α)}, l.lookup z = none → z ∉ l.map (·.1)
  | [], _ => List.not_mem_nil
  | (k, u) :: l, h => by
    by_cases e : z = k
    · subst e
      rw [List.lookup_cons_self] at h
      cases h
    · have e2 : (z == k) = false := by simpa using e
      rw [List.lookup_cons, e2] at h
      intro m
      rcases List.mem_cons.mp m with q | q
      · exact e q
      · exact lookup_none1 h q
def restB (K : PySem.W.Frag) (d : Addr) : Bool := restL.all fun q => match PySem.W.nsIn K d q.1 with
  | some (some (.ref t)) => (match K.lookup t with
    | some ⟨.type c, _, .seq its _, _⟩ => decide (c = "tuple") && (decide (its.size ≤ sizeLine) && relAll [.int q.2.1, .int q.2.2] its.toList)
    | _ => false)
  | _ => false
theorem restB_ok {K : PySem.W.Frag} {d : Addr} (h : restB K d = true) {q : Str × (Int × Int)} (hq : q ∈ restL) : ∃ t, PySem.W.nsIn K d q.1 = some (some (.ref t)) ∧ ∀ H, SqT K H t [.int q.2.1, .int q.2.2] := by
  have h2 := List.all_eq_true.mp h q hq
  split at h2
  · rename_i t e
    split at h2
    · rename_i c dd its n sl lk
      obtain ⟨h1, h2⟩ := bo h2
      obtain ⟨h3, h4⟩ := bo h2
      exact ⟨t, e, fun H => .inr ⟨_, its, n, lk, congrArg Value.type (of_decide_eq_true h1), rfl, of_decide_eq_true h3, relAll_ok h4⟩⟩
    · cases h2
  · cases h2
def spmB (K : PySem.W.Frag) (C : Addr) (m : Str) : Bool := eqO (PySem.W.findIn K (.ref C) m) (some (some (.ref (ma K C m)))) && (PySem.W.isFn K (.ref (ma K C m)) && PySem.W.fnIn K (ma K C m))
theorem spmB_ok {K : PySem.W.Frag} {C : Addr} {m : Str} (h : spmB K C m = true) : PySem.W.findIn K (.ref C) m = some (some (.ref (ma K C m))) ∧ PySem.W.isFn K (.ref (ma K C m)) = true ∧ PySem.W.fnIn K (ma K C m) = true := by
  obtain ⟨h1, h⟩ := bo h
  obtain ⟨h2, h3⟩ := bo h
  exact ⟨eqO_ok h1, h2, h3⟩
def creadB (K : PySem.W.Frag) (C : Addr) : Bool := PySem.W.readsIn K C (.type "type") && eqO (PySem.W.specialIn K (.ref C) "__getattribute__") (some (some (.builtin "type.__getattribute__")))
theorem creadB_ok {K : PySem.W.Frag} {C : Addr} (h : creadB K C = true) : ClX.CRead K C (.type "type") := by
  obtain ⟨h1, h2⟩ := bo h
  exact ⟨h1, eqO_ok h2⟩
def clsmB (K : PySem.W.Frag) (C : Addr) (m : Str) : Bool := wrapB K C "classmethod" "classmethod.__get__" m && PySem.W.fnIn K (wf K C "classmethod" m)
theorem clsmB_ok {K : PySem.W.Frag} {C : Addr} {m : Str} (h : clsmB K C m = true) : ClX.CMet K C (.type "type") m (ma K C m) (wf K C "classmethod" m) := by
  obtain ⟨h1, h2⟩ := bo h
  exact cmet_of h1 h2
def kitB' (K : PySem.W.Frag) (a b : Value) (r : Bool) : Bool := decide (PySem.W.kitOne K a b = some r)
def su0 : SupD := ⟨"BadText", "BadText.__init__", "text", "text", (inClass (top 4) 0)⟩
theorem ss0 : SupS su0 := ⟨⟨_, _, _, _, _, _, _, _, _, _, _, _, rfl, rfl⟩, rfl, nscope_by (by decide +kernel), rfl, ⟨by decide, by decide⟩, fun _ _ _ _ _ _ _ us hl => match us, hl with | [_, _], _ => rfl⟩
def su1 : SupD := ⟨"BadStep", "BadStep.__init__", "index", "index", (inClass (top 5) 0)⟩
theorem ss1 : SupS su1 := ⟨⟨_, _, _, _, _, _, _, _, _, _, _, _, rfl, rfl⟩, rfl, nscope_by (by decide +kernel), rfl, ⟨by decide, by decide⟩, fun _ _ _ _ _ _ _ us hl => match us, hl with | [_, _], _ => rfl⟩
def su2 : SupD := ⟨"BadSize", "BadSize.__init__", "size", "size", (inClass (top 7) 0)⟩
theorem ss2 : SupS su2 := ⟨⟨_, _, _, _, _, _, _, _, _, _, _, _, rfl, rfl⟩, rfl, nscope_by (by decide +kernel), rfl, ⟨by decide, by decide⟩, fun _ _ _ _ _ _ _ us hl => match us, hl with | [_, _], _ => rfl⟩
def su3 : SupD := ⟨"TooMany", "TooMany.__init__", "most", "most", (inClass (top 9) 0)⟩
theorem ss3 : SupS su3 := ⟨⟨_, _, _, _, _, _, _, _, _, _, _, _, rfl, rfl⟩, rfl, nscope_by (by decide +kernel), rfl, ⟨by decide, by decide⟩, fun _ _ _ _ _ _ _ us hl => match us, hl with | [_, _], _ => rfl⟩
def su4 : SupD := ⟨"NotMoves", "NotMoves.__init__", "index", "index", (inClass (top 10) 0)⟩
theorem ss4 : SupS su4 := ⟨⟨_, _, _, _, _, _, _, _, _, _, _, _, rfl, rfl⟩, rfl, nscope_by (by decide +kernel), rfl, ⟨by decide, by decide⟩, fun _ _ _ _ _ _ _ us hl => match us, hl with | [_, _], _ => rfl⟩
def su5 : SupD := ⟨"BadBits", "BadBits.__init__", "index", "index", (inClass (top 8) 0)⟩
theorem ss5 : SupS su5 := ⟨⟨_, _, _, _, _, _, _, _, _, _, _, _, rfl, rfl⟩, rfl, nscope_by (by decide +kernel), rfl, ⟨by decide, by decide⟩, fun _ _ _ _ _ _ _ us hl => match us, hl with | [_, _], _ => rfl⟩
def sus : List SupD := [su0, su1, su2, su3, su4, su5]
def ddWob : DefA := ⟨fun K => ga K "word_of_bits", "word_of_bits", "word_of_bits", defArgs sWob, defBody sWob, defScope sWob, [He.Dv.int 1000], []⟩
def fns : List DefA := [defG "_law_pen" sPen, defG "_law_draw" sDraw, defG "_law_pick" sPick, defG "_law_big" sLBig, defG "_law_bits" sLBits, defG "_law_movers" sMov, defG "_law_step" sLStep, defG "_law_steps" sLSteps, defG "_law_text" sText, defG "_law_program_text" sLPt, defG "_law_inverse" sLIv, defG "_law_before" sLBefore, defG "_law_flipped" sLFlip, defG "_law_told" sLTold, defG "_law_divisor" sLDiv, defG "_law_due" sLDue, defG "_law_order" sLOrd, defG "_law_known" sLKn, defG "_law_home_right" sLHr, defG "law" sLaw, defG "step_parts" sParts, defG "is_number" sNum, defG "place_from" sPlace, defG "is_flipped" sFlipd, defG "is_chosen" sChosen, defG "moved" sMoved, defG "flipped" sFlipdB, defG "mixed_bits" sMixed, defG "near_bits" sNear, defG "sum_bits" sSumB, defG "check_bounds" sBounds, defG "step_text" sSText, defG "is_own_inverse" sOwnI, defG "joined" sJoined, defG "check_moves" sChkM, defG "followed_back" sFol, defG "trip_of" sTrip, defG "times_home" sHome, defM "Step" "__init__" "Step.__init__" sInit, defM "Step" "done" "Step.done" sDone, defM "Program" "__init__" "Program.__init__" sPInit, defM "Program" "done" "Program.done" sPDone, defM "Step" "__invert__" "Step.__invert__" sSInv, defM "Program" "__invert__" "Program.__invert__" sPInv, ddWob]
def globs : List Str := (["_law_pen", "_law_draw", "_law_pick", "_law_big", "_law_bits", "_law_movers", "_law_step", "_law_steps", "_law_text", "_law_program_text", "_law_inverse", "_law_before", "_law_flipped", "_law_told", "_law_divisor", "_law_due", "_law_order", "_law_known", "_law_home_right", "law"] : List Str) ++ (["step_parts", "is_number", "place_from", "is_flipped", "is_chosen", "moved", "flipped", "mixed_bits", "near_bits", "sum_bits", "check_bounds", "step_text", "is_own_inverse", "joined", "check_moves", "followed_back", "trip_of", "times_home", "word_of_bits", "WordsError"] : List Str) ++ (["BadText", "BadStep", "BadSize", "TooMany", "Step", "Program", "NUMBERS", "RESTS", "BARE_KINDS", "MOVES", "FLIPS", "OTHER_KINDS", "NotMoves", "BadBits"] : List Str)
def frees : List Str := ["list", "int", "len", "isinstance", "range", "str", "bool", "tuple", "abs", "min", "enumerate", "sum", "max", "set"]
def tabs : List He.Tab := [(fun K => ga K "NUMBERS", numL.map (·.1)), (fun K => ga K "RESTS", restL.map (·.1)), (fun K => ga K "OTHER_KINDS", otherL.map (·.1))]
def fas : List Fa := [.cls "Step", .noat "Step" "text", .noat "Step" "kind", .noat "Step" "by", .noat "Step" "rest", .mkr "Step", .cls "Program", .noat "Program" "text", .noat "Program" "steps", .mkr "Program", .int "MOST_STEPS" 5, .int "MOST_DEALS" 2, .exm "NotMoves" "WordsError" true, .exm "BadSize" "WordsError" true, .int "MOST_SIZE_HOME" 100, .meth "Step" "done", .meth "Program" "done"]
def numD : List (Str × Dv) := numL.map fun p => (p.1, .int p.2)
def xTup (K : PySem.W.Frag) : Bool := tupB K "BARE_KINDS" (bareL.map Dv.str)
def xNum (K : PySem.W.Frag) : Bool := valsB K (ga K "NUMBERS") numD
def xNumK (K : PySem.W.Frag) : Bool := keysB K (ga K "NUMBERS") (numL.map (·.1))
def xRest (K : PySem.W.Frag) : Bool := restB K (ga K "RESTS")
def xRestK (K : PySem.W.Frag) : Bool := keysB K (ga K "RESTS") (restL.map (·.1))
def xMov (K : PySem.W.Frag) : Bool := tupB K "MOVES" (movesL.map Dv.str)
def xFli (K : PySem.W.Frag) : Bool := tupB K "FLIPS" (flipsL.map Dv.str)
def xIS (K : PySem.W.Frag) : Bool := spmB K (ga K "Step") "__invert__"
def xIP (K : PySem.W.Frag) : Bool := spmB K (ga K "Program") "__invert__"
def xOth (K : PySem.W.Frag) : Bool := valsB K (ga K "OTHER_KINDS") (otherL.map fun p => (p.1, Dv.str p.2))
def xOthK (K : PySem.W.Frag) : Bool := keysB K (ga K "OTHER_KINDS") (otherL.map (·.1))
def xMM (K : PySem.W.Frag) : Bool := kitB' K (.ref (ga K "NotMoves")) (.ref (ga K "NotMoves")) true
def xZM (K : PySem.W.Frag) : Bool := kitB' K (.ref (ga K "BadSize")) (.ref (ga K "NotMoves")) false
def xZZ (K : PySem.W.Frag) : Bool := kitB' K (.ref (ga K "BadSize")) (.ref (ga K "BadSize")) true
def xLcm (K : PySem.W.Frag) : Bool := eqO (PySem.W.nsIn K mainGlobals "lcm") (some (some (.builtin "math.lcm")))
def exs : List (PySem.W.Frag → Bool) := [xTup, xNum, xNumK, xRest, xRestK, xMov, xFli, xIS, xIP, xOth, xOthK, xMM, xZM, xZZ, xLcm]
def exB (K : PySem.W.Frag) : Bool := globs.all (gloB K) && (frees.all (freB K) && (sus.all (fun d => d.ok PySem.Challenge.pw_allwordlengths_k11_whole_times_until_all.main.file K) && (fas.all (Fa.ok K) && exs.all (fun f => f K))))
abbrev R0 : PySem.W.OpenRow := PySem.W.OpenLaw.row PySem.Challenge.rw_allwordlengths_k11_whole_times_until_all
def asL : List Addr := [3, 59, 81, 102, 144, 165, 186, 207, 216, 224, 225, 226, 227, 228, 229, 239, 275, 286, 293, 300, 307, 314, 321, 326, 331, 336, 341, 348, 355, 362, 369, 376, 507, 516, 521, 535, 542, 549, 556, 561, 568, 575, 580, 587, 592, 599, 606, 613, 620, 627, 634, 641, 648, 655, 662, 58, 80, 101, 143, 164, 185, 206, 215, 223, 217, 230, 231, 232, 233, 234, 235, 236, 237, 238, 274, 285, 292, 299, 306, 313, 320, 325, 330, 335, 340, 347, 354, 361, 368, 375, 506, 515, 520, 534, 541, 548, 555, 560, 567, 574, 579, 586, 591, 598, 605, 612, 619, 626, 633, 640, 647, 654, 661, 78, 99, 141, 162, 183, 204, 253, 267, 272, 390, 455, 483, 77, 66, 98, 87, 140, 129, 161, 150, 182, 171, 203, 192, 252, 266, 271, 389, 454, 482, 2]
abbrev hk : PySem.W.Hook := hookL asL fns sus tabs exB
def ob (s : PySem.W.SharedT) : AlZ := obsLG asL fns sus tabs exB (HandSHeadRun.getT s)
theorem ob_eq (s : PySem.W.SharedT) : ob s = hk.obs s.abs := obsLG_eq (HandSHeadRun.getT_eq s)
def loose : List Str := (["_wall", "WordsError", "BadText", "BadStep", "BadNumber", "BadSize", "BadBits", "TooMany", "NotMoves", "MOST_BITS", "is_number", "word_of_bits", "MOVES", "FLIPS", "BARE_KINDS", "NUMBERS", "RESTS", "OTHER_KINDS", "Step", "step_parts", "step_text", "is_own_inverse", "place_from", "is_flipped", "is_chosen", "moved", "flipped", "mixed_bits", "near_bits", "sum_bits"] : List Str) ++ (["MOST_SIZE_HOME", "times_home", "check_moves", "followed_back", "trip_of", "MOST_STEPS", "MOST_DEALS", "Program", "check_bounds", "joined", "repeated", "_law_pen", "_law_draw", "_law_pick", "_law_big", "_law_bits", "_law_movers", "_law_step", "_law_steps", "_law_text", "_law_program_text", "_law_inverse", "_law_before", "_law_flipped", "_law_told", "_law_divisor", "_law_due", "_law_order", "_law_known", "_law_home_right"] : List Str)
theorem runF (w : World) : HandSHeadRun.RunEqI R0 (PySem.W.view R0.prog [0, 67]) hk ob 12000 loose (w.withFollow "special-get-raises" false) := by show _ = _; kernel_rfl
theorem runT (w : World) : HandSHeadRun.RunEqI R0 (PySem.W.view R0.prog [0, 67]) hk ob 12000 loose (w.withFollow "special-get-raises" true) := by show _ = _; kernel_rfl
theorem run (w : World) : HandSHeadRun.RunEqI R0 (PySem.W.view R0.prog [0, 67]) hk ob 12000 loose w :=
  PySem.W.byRow2 "special-get-raises" (P := fun w => HandSHeadRun.RunEqI R0 (PySem.W.view R0.prog [0, 67]) hk ob 12000 loose w) runF runT w
end Aw

namespace Aw
open PySem PySem.Spec PyProof.Rows L2 NdefX
/-! ### an object whose __init__ may raise, made within a try -/
section
variable {X : Cx} {CX : CXT} {k : Nat} {f C : Addr} {fd : FuncData} {ps : List Str} {sp : Sp} {E : Aw.St → XK} {x : Str} {p pos : Pos} {e : Expr} {es : List Expr} {t : TA}
def tMakeS (C : Addr) (sp : Sp) (E : Aw.St → XK) (t : TA) : TE := fun σ H Q => t σ H fun vs H1 => ∀ x dx, H1 x = none → H1 dx = none → dx ≠ x →
  sp (.ref x :: vs) (upd (upd H1 dx (.own x)) x (.ins C dx [])) (fun v H2 => v = .non ∧ Q (.ref x) H2) (E σ)
theorem pe_makeS (M : Mk X.K C f) (F : FnOk X.prog X.w X.K X.mg X.base CX k f fd ps sp) (hr : Room (k + 1) X.A) (hg : Gl X x) (hm : X.mg x = some (.ref C)) (hb : Binds X.K fd ps []) (hx : ∀ σ, PassesAt CX X σ (E σ))
    (ha : PA X (e :: es) t) (hdb : (x == ("__debug__" : Str)) = false := by decide) (he : starEach (e :: es) X.env = (false, eval e X.env) :: starEach es X.env := by rfl) (hpl : (backTo pos (starEach es X.env)).any (·.1) = false := by rfl) :
    PE X (.Call (.Name x p) (e :: es) [] pos) (tMakeS C sp E t) := by
  refine ⟨fun pins s σ H Q I h => ?_⟩
  refine wpAny_Call_Name_kw (ld_glob I hg hm ?_ hdb)
  refine PySem.W.callWith_K (h₀ := X.base) I.ok.mod.kin M.kp (thn (ha.run pos pins s σ H _ I h) fun us s1 ⟨vs, H1, I1, r, q⟩ => ⟨I1.kIn, ?_⟩) he hpl
  have hq := q (s1.heap.objs.size + 1) s1.heap.objs.size (I1.hok.fresh (Nat.le_succ _)) (I1.hok.fresh (Nat.le_refl _)) (Nat.ne_of_lt (Nat.lt_succ_self _))
  have I2 := Inv.made (C := C) I1
  have r2 : Vals (V.ref (s1.heap.objs.size + 1) :: vs) (Value.ref (s1.heap.objs.size + 1) :: us) := .cons rfl r
  have hl : (Value.ref (s1.heap.objs.size + 1) :: us ++ []).length = ps.length := by
    have e := r2.length
    rw [F.len _ _ _ _ hq] at e
    rw [List.append_nil]
    exact e.symm
  have bb := hb _ (Value.ref (s1.heap.objs.size + 1) :: us) I2.kIn hl
  rw [List.append_nil] at bb
  refine wpAny_call (make_map (f := f) I1.kIn M.makes M.init (beq_iff_eq.mp M.fn) (codeAny_mono (F.run _ X.stack _ _ ⟨Value.ref (s1.heap.objs.size + 1) :: us, []⟩ (Value.ref (s1.heap.objs.size + 1) :: us) _ _ (E σ) (hr.make C us [])
    (I2.env0.make C us []) bb r2 hq) fun r s' hq' => ?_))
  cases r with
  | error e => exact hx σ pins _ _ e s' I2 hq'
  | ok fl =>
    cases fl with
    | ret u =>
      obtain ⟨v, H', I3, rv, ev, q3⟩ := I2.after hq'
      subst ev
      exact ⟨rv, ⟨V.ref (s1.heap.objs.size + 1), H', I3, rfl, q3⟩⟩
    | next => exact False.elim hq'
    | brk => exact False.elim hq'
    | cont => exact False.elim hq'
end
/-! ### a written dict with text keys -/
/-- d[x], d the dict of the top at a -/
def tKd (K : PySem.W.Frag) (d : Addr) (ta tb : TE) : TE := fun σ H Q => ta σ H fun x H1 => tb σ H1 fun y H2 => ∃ (z : Str) (u0 : Value) (v0 : V), x = .ref d ∧ y = .str z ∧ PySem.W.nsIn K d z = some (some u0) ∧ RelV v0 u0 ∧ Q v0 H2
theorem pe_kd {X : Cx} {d : Addr} {es : Array DictEntry} {n : Nat} {a b : Expr} {ta tb : TE} {pos : Pos} (D : KDict X.K X.w d es n) (ha : PE X a ta) (hb : PE X b tb) (hs : NoSl b) : PE X (.Subscript a b pos) (tKd X.K d ta tb) := by
  refine ⟨fun pins s σ H Q I h => ?_⟩
  refine subD_of PySem.F.slot_dict_getitem.lookup hs (thn (ha.run pins s σ H _ I h) fun u s1 ⟨x, H1, I1, rx, q1⟩ => thn (hb.run pins s1 σ H1 _ I1 q1) fun iv s2 ⟨y, H2, I2, ry, z, u0, v0, ex, ey, e, r, q2⟩ => ?_)
  subst ex
  obtain rfl : u = Value.ref d := rx
  exact ⟨kd_type D I2, op_item_kd D pins s2 σ H2 (.ref d) y (.ref d) iv Q I2 rfl ry ⟨z, u0, v0, rfl, ey, e, r, q2⟩⟩
/-- NUMBERS -/
structure NumK (K : PySem.W.Frag) (w : World) (mg : Str → Option Value) (d : Addr) (es : Array DictEntry) (n : Nat) : Prop where
  g : mg "NUMBERS" = some (.ref d)
  D : KDict K w d es n
  no : ∀ z, numL.lookup z = none → PySem.W.nsIn K d z = some none
  yes : ∀ z i, numL.lookup z = some i → ∃ u, PySem.W.nsIn K d z = some (some u) ∧ RelV (.int i) u
/-- RESTS -/
structure RestK (K : PySem.W.Frag) (w : World) (mg : Str → Option Value) (d : Addr) (es : Array DictEntry) (n : Nat) : Prop where
  g : mg "RESTS" = some (.ref d)
  D : KDict K w d es n
  no : ∀ z, restL.lookup z = none → PySem.W.nsIn K d z = some none
  yes : ∀ z p, restL.lookup z = some p → ∃ t, PySem.W.nsIn K d z = some (some (.ref t)) ∧ ∀ H, SqT K H t [.int p.1, .int p.2]
/-- what step_parts asks of the top -/
structure TxtS (K : PySem.W.Frag) (w : World) (mg : Str → Option Value) (dN dR tB : Addr) (eN eR : Array DictEntry) (nN nR : Nat) : Prop where
  isi : mg "isinstance" = none
  str : mg "str" = none
  gB : mg "BARE_KINDS" = some (.ref tB)
  bare : ∀ H, SqT K H tB (bareL.map V.str)
  num : NumK K w mg dN eN nN
  rest : RestK K w mg dR eR nR
/-! ### values that are handed to Step, and their types -/
/-- a value whose type is known; whether it is a text -/
inductive VOk (H : Hp) : V → Prop
  | str (x : Str) (h : x.length ≤ 1000) : VOk H (.str x)
  | non : VOk H .non
  | bl (b : Bool) : VOk H (.bl b)
  | int (i : Int) : VOk H (.int i)
  | lst {a : Addr} {xs : List V} (h : H a = some (.lst xs)) : VOk H (.ref a)
  | tup {a : Addr} {xs : List V} (h : H a = some (.tup xs)) : VOk H (.ref a)
  | dct {a : Addr} {kvs : List (Key × V)} (h : H a = some (.dK kvs)) : VOk H (.ref a)
theorem VOk.same {H H' : Hp} (s : Same H H') : ∀ {v : V}, VOk H v → VOk H' v
  | _, .str x h => .str x h
  | _, .non => .non
  | _, .bl b => .bl b
  | _, .int i => .int i
  | _, .lst h => .lst (s _ _ h)
  | _, .tup h => .tup (s _ _ h)
  | _, .dct h => .dct (s _ _ h)
def isStr : V → Bool
  | .str _ => true
  | _ => false
theorem VOk.isi {K : PySem.W.Frag} {H : Hp} {v : V} (h : VOk H v) : ∃ t, TyX K H v t ∧ PySem.W.kitOne K t (.type "str") = some (isStr v) := by
  cases h with
  | str x h => exact ⟨_, .base (.str x), kit_ty (show kitB "str" "str" = some true by decide +kernel)⟩
  | non => exact ⟨_, .base .non, kit_ty (show kitB "NoneType" "str" = some false by decide +kernel)⟩
  | bl b => exact ⟨_, .base (.bl b), kit_ty (show kitB "bool" "str" = some false by decide +kernel)⟩
  | int i => exact ⟨_, .base (.int i), kit_ty (show kitB "int" "str" = some false by decide +kernel)⟩
  | lst h => exact ⟨_, .base (.lst h), kit_ty (show kitB "list" "str" = some false by decide +kernel)⟩
  | tup h => exact ⟨_, .base (.tup h), kit_ty (show kitB "tuple" "str" = some false by decide +kernel)⟩
  | dct h => exact ⟨_, .base (.dK h), kit_ty (show kitB "dict" "str" = some false by decide +kernel)⟩
def parseV : V → Option Row
  | .str x => parse x
  | _ => none
def optD : Option Int → PyData
  | none => .none
  | some i => .int i
def restD : Option (Int × Int) → PyData
  | none => .none
  | some p => .tuple [.int p.1, .int p.2]
def rowD (r : Row) : PyData := .tuple [.str r.1, optD r.2.1, restD r.2.2]
/-- step_parts -/
def spParts (K : PySem.W.Frag) : Sp := fun vs H Q _ => ∃ v, vs = [v] ∧ VOk H v ∧ (parseV v = none → ∀ H', Same H H' → Q .non H') ∧ (∀ r, parseV v = some r → ∀ u H', Same H H' → Dq K H' u (rowD r) → Q u H')
theorem in_strs {x : Str} {l : List Str} : inV (.str x) (l.map V.str) = decide (x ∈ l) := by
  induction l with
  | nil => rfl
  | cons y l ih =>
    have e : inV (.str x) ((y :: l).map V.str) = (eqV (.str y) (.str x) || inV (.str x) (l.map V.str)) := rfl
    rw [e, ih]
    have e2 : eqV (.str y) (.str x) = decide (y = x) := by
      show (y == x) = decide (y = x)
      by_cases h : y = x
      · subst h
        simp
      · simp [h]
    rw [e2]
    by_cases h : y = x
    · subst h
      simp
    · have h' : ¬ x = y := fun z => h z.symm
      simp [h, h']
theorem rest_pos : ∀ p ∈ restL, (0 : Int) < p.2.2 := by decide +kernel
theorem flat_strs (l : List Str) : (l.map V.str).all flatV = true := by
  induction l with
  | nil => rfl
  | cons y l ih => simp [List.map_cons, List.all_cons, flatV, ih]
section
variable {P : Program} {w : World} {K : PySem.W.Frag} {mg : Str → Option Value} {base : Heap} {dN dR tB : Addr} {eN eR : Array DictEntry} {nN nR : Nat}
theorem scParts : FnScope ["text", "kind", "_", "told", "number", "between", "pair", "by", "rest"] ["text"] (defScope sParts) := ⟨rfl, rfl, rfl, by decide +kernel, rfl, by decide +kernel, by decide +kernel⟩
theorem ok_parts {f : Addr} {fd : FuncData} (F : Fun K "step_parts" "step_parts" sParts f fd) (T : TxtS K w mg dN dR tB eN eR nN nR) : FnOk P w K mg base CX0 1 f fd ["text"] (spParts K) := by
  refine F.ok scParts (fun vs H Q E h => ?_) (fun cdv A outer s H vs Q E hr h => ?_)
  · obtain ⟨v, rfl, _⟩ := h
    rfl
  · obtain ⟨v, rfl, hv, kn, ks⟩ := h
    have hu := hu_of hr
    have nd := scParts.nd
    refine ⟨_, (pss_cons (ps_if (pt_not (pt_val (pe_callB call_isi (by rfl) T.isi (by decide +kernel) (pa_cons (pv 0) (pa_cons (pe_bltn (v := .ty "str") (by rfl) T.str (by decide +kernel) rfl) pa_nil)))))
        (pss_one (ps_ret pe_non)) pss_nil)
      (pss_cons (ps_if (pt_cmpR op_in_seq (pv 0) (pe_glob (v := .ref tB) (by rfl) T.gB rfl) (by rfl))
        (pss_one (ps_ret (pe_tup (pa_cons (pv 0) (pa_cons pe_non (pa_cons pe_non pa_nil)))))) pss_nil)
      (pss_cons (ps_asg (pe_partition (pv 0) pe_str) (pg_tup rfl (pgs_cons (pg_name (i := 1) nd rfl (Or.inl rfl)) (pgs_cons (pg_name (i := 2) nd rfl (Or.inl rfl)) (pgs_cons (pg_name (i := 3) nd rfl (Or.inl rfl)) pgs_nil)))))
      (pss_cons (ps_if (PW.pt (pw_and (pt_cmpR op_eq (pv 1) pe_str (nomark _)) (pw_and1 (pt_cmpR (op_in_kd T.rest.D) (pv 3) (pe_glob (v := .ref dR) (by rfl) T.rest.g rfl) (by rfl)))))
        (pss_one (ps_ret (pe_tup (pa_cons (pv 1) (pa_cons pe_non (pa_cons (pe_kd T.rest.D (pe_glob (v := .ref dR) (by rfl) T.rest.g rfl) (pv 3) (fun _ _ => rfl)) pa_nil)))))) pss_nil)
      (pss_cons (ps_asg (pe_partition (pv 3) pe_str) (pg_tup rfl (pgs_cons (pg_name (i := 4) nd rfl (Or.inl rfl)) (pgs_cons (pg_name (i := 5) nd rfl (Or.inl rfl)) (pgs_cons (pg_name (i := 6) nd rfl (Or.inl rfl)) pgs_nil)))))
      (pss_cons (ps_if (pt_cmpR (op_notIn_kd T.num.D) (pv 4) (pe_glob (v := .ref dN) (by rfl) T.num.g rfl) (by rfl))
        (pss_one (ps_ret pe_non)) pss_nil)
      (pss_cons (ps_set (i := 7) nd rfl (Or.inl rfl) (pe_kd T.num.D (pe_glob (v := .ref dN) (by rfl) T.num.g rfl) (pv 4) (fun _ _ => rfl)))
      (pss_cons (ps_if (pt_cmpR op_eq (pv 5) pe_str (nomark _))
        (pss_one (ps_ret (pe_ifExp (pt_cmpR op_in_seq (pv 1) (pe_tup (pa_cons pe_str (pa_cons pe_str (pa_cons pe_str pa_nil)))) (by rfl)) (pe_tup (pa_cons (pv 1) (pa_cons (pv 7) (pa_cons pe_non pa_nil)))) pe_non))) pss_nil)
      (pss_cons (ps_if (PW.pt (pw_or (pt_cmpR op_notIn_seq (pv 1) (pe_tup (pa_cons pe_str (pa_cons pe_str pa_nil))) (by rfl)) (pw_or1 (pt_cmpR (op_notIn_kd T.rest.D) (pv 6) (pe_glob (v := .ref dR) (by rfl) T.rest.g rfl) (by rfl)))))
        (pss_one (ps_ret pe_non)) pss_nil)
      (pss_cons (ps_set (i := 8) nd rfl (Or.inl rfl) (pe_kd T.rest.D (pe_glob (v := .ref dR) (by rfl) T.rest.g rfl) (pv 6) (fun _ _ => rfl)))
      (pss_cons (ps_if (PW.pt (pw_and (pt_cmpR op_eq (pv 1) pe_str (nomark _)) (pw_and1 (pt_cmpR op_ne (pe_op op_mod (pv 7) (pe_ix ix_tup (pv 8) pe_int (fun _ _ => rfl))) pe_int (nomark _)))))
        (pss_one (ps_ret pe_non)) pss_nil)
      (pss_one (ps_ret (pe_tup (pa_cons (pv 1) (pa_cons (pv 7) (pa_cons (pv 8) pa_nil))))))))))))))))), ?_⟩
    obtain ⟨t, ty, kt⟩ := hv.isi (K := K)
    refine ⟨_, rfl, v, .ty "str", t, .type "str", isStr v, rfl, .ty _, ty, kt, _, rfl, ?_⟩
    cases hv with
    | str x hx =>
      refine iteF ?_
      replace kn : parse x = none → ∀ H', Same H H' → Q .non H' := kn
      replace ks : ∀ r, parse x = some r → ∀ u H', Same H H' → Dq K H' u (rowD r) → Q u H' := ks
      refine ⟨_, rfl, tB, _, rfl, .inr (T.bare H), rfl, flat_strs _, _, rfl, ?_⟩
      show if inV (.str x) (bareL.map V.str) = true then _ else _
      rw [in_strs]
      by_cases hb : x ∈ bareL
      · rw [decide_eq_true hb]
        refine iteT ?_
        refine ⟨_, rfl, (by show 3 ≤ sizeLine; decide), fun t ht => ?_⟩
        exact ks (x, none, none) (if_pos hb) _ _ (same_upd ht) (.tup (SqT.of upd_same) (.cons (.str _) (.cons .non (.cons .non .nil))))
      rw [decide_eq_false hb]
      refine iteF ?_
      have hpar : parse x = _ := if_neg hb
      rw [hpar] at kn ks
      have hsz : (1000 : Nat) ≤ sizeLine := by decide
      refine ⟨_, rfl, ⟨_, rfl⟩, x, " ", rfl, rfl, (by decide +kernel), Nat.le_trans hx hsz, fun p hp => ?_⟩
      have hl1 : (Txt.partition x " ").2.2.length ≤ 1000 := by
        have e := congrArg Str.length (part_cases x " ").2
        rw [Str.length_append, Str.length_append] at e
        omega
      generalize Txt.partition x " " = q at *
      obtain ⟨kind, sep, told⟩ := q
      dsimp only at kn ks hl1
      refine ⟨p, _, rfl, SqT.of upd_same, rfl, _, _, rfl, _, _, rfl, _, _, rfl, rfl, ?_⟩
      have s1 : Same H (upd H p (.tup [.str kind, .str sep, .str told])) := same_upd hp
      generalize upd H p (.tup [.str kind, .str sep, .str told]) = H1 at *
      -- the way on behind the flips
      have goon : ∀ (D : Ends) (σ : Aw.St) (G : Prop), G → G := fun _ _ _ h => h
      have num : (¬ (kind = "flip" ∧ (restL.lookup told).isSome = true)) → _ := fun hf => by
        rw [if_neg hf] at kn ks
        exact (⟨kn, ks⟩ : _ ∧ _)
      refine ⟨_, rfl, rfl, _, rfl, ?_⟩
      refine ite_str (fun hk => ?_) (fun hk => ?_)
      · change kind = "flip" at hk
        cases hl : restL.lookup told with
        | some pr =>
          obtain ⟨t', e', sq⟩ := T.rest.yes told pr hl
          refine ⟨_, rfl, told, _, rfl, rfl, e', _, rfl, ?_⟩
          refine iteT ?_
          refine ⟨_, rfl, _, rfl, told, _, .ref t', rfl, rfl, e', rfl, (by show 3 ≤ sizeLine; decide), fun u hu' => ?_⟩
          have hf : kind = "flip" ∧ (restL.lookup told).isSome = true := ⟨hk, by rw [hl]; rfl⟩
          rw [if_pos hf] at ks
          rw [hl] at ks
          rw [hk]
          exact ks ("flip", none, some pr) rfl _ _ (s1.trans (same_upd hu')) (.tup (SqT.of upd_same) (.cons (.str _) (.cons .non (.cons (.tup (sq _) (.cons (.int _) (.cons (.int _) .nil))) .nil))))
        | none =>
          refine ⟨_, rfl, told, _, rfl, rfl, T.rest.no told hl, _, rfl, ?_⟩
          refine iteF ?_
          obtain ⟨kn, ks⟩ := num (fun z => by rw [hl] at z; exact absurd z.2 (by decide))
          refine ⟨_, rfl, ⟨_, rfl⟩, told, " at ", rfl, rfl, (by decide +kernel), Nat.le_trans hl1 hsz, fun p2 hp2 => ?_⟩
          generalize Txt.partition told " at " = q2 at *
          obtain ⟨number, between, pair⟩ := q2
          dsimp only at kn ks
          refine ⟨p2, _, rfl, SqT.of upd_same, rfl, _, _, rfl, _, _, rfl, _, _, rfl, rfl, ?_⟩
          have s2 : Same H (upd H1 p2 (.tup [.str number, .str between, .str pair])) := s1.trans (same_upd hp2)
          generalize upd H1 p2 (.tup [.str number, .str between, .str pair]) = H2 at *
          cases hn : numL.lookup number with
          | none =>
            refine ⟨_, rfl, number, _, rfl, rfl, T.num.no number hn, _, rfl, ?_⟩
            refine iteT ?_
            rw [hn] at kn
            exact kn rfl _ s2
          | some b =>
          obtain ⟨u0, eu, ru⟩ := T.num.yes number b hn
          rw [hn] at kn ks
          dsimp only at kn ks
          refine ⟨_, rfl, number, _, rfl, rfl, eu, _, rfl, ?_⟩
          refine iteF ?_
          refine ⟨_, rfl, number, u0, .int b, rfl, rfl, eu, ru, ?_⟩
          unfold parseB at kn ks
          refine ⟨_, rfl, rfl, _, rfl, ?_⟩
          refine ite_str (fun hbt => ?_) (fun hbt => ?_)
          · change between = "" at hbt
            rw [if_pos hbt] at kn ks
            refine ⟨_, rfl, (by show 3 ≤ sizeLine; decide), fun t1 ht1 => ⟨t1, _, rfl, .inr (SqT.of upd_same), rfl, (by decide +kernel), _, rfl, ?_⟩⟩
            show if inV (.str kind) ((["roll", "near", "sum"] : List Str).map V.str) = true then _ else _
            rw [in_strs]
            have s3 := s2.trans (same_upd (o := .tup [.str "roll", .str "near", .str "sum"]) ht1)
            refine ite_dec (fun hin => ?_) (fun hin => ?_)
            · rw [if_pos hin] at ks
              refine ⟨_, rfl, _, rfl, (by show 3 ≤ sizeLine; decide), fun t2 ht2 => ?_⟩
              exact ks _ rfl _ _ (s3.trans (same_upd ht2)) (.tup (SqT.of upd_same) (.cons (.str _) (.cons (.int _) (.cons .non .nil))))
            · rw [if_neg hin] at kn
              exact kn rfl _ s3
          · change ¬ between = "" at hbt
            rw [if_neg hbt] at kn ks
            refine ⟨_, rfl, (by show 2 ≤ sizeLine; decide), fun t1 ht1 => ⟨t1, _, rfl, .inr (SqT.of upd_same), rfl, (by decide +kernel), _, rfl, ?_⟩⟩
            show if (!inV (.str kind) ((["near", "sum"] : List Str).map V.str)) = true then _ else _
            rw [in_strs]
            have s3 := s2.trans (same_upd (o := .tup [.str "near", .str "sum"]) ht1)
            generalize upd H2 t1 (.tup [.str "near", .str "sum"]) = H3 at *
            refine ite_ndec (fun hin => ?_) (fun hin => ?_)
            · rw [if_neg hin] at kn
              refine iteT ?_
              exact kn rfl _ s3
            · rw [if_pos hin] at kn ks
              cases hl2 : restL.lookup pair with
              | none =>
                refine ⟨_, rfl, pair, _, rfl, rfl, T.rest.no pair hl2, _, rfl, ?_⟩
                refine iteT ?_
                rw [hl2] at kn
                exact kn rfl _ s3
              | some pr =>
                rw [hl2] at kn ks
                dsimp only at kn ks
                obtain ⟨t', e', sq⟩ := T.rest.yes pair pr hl2
                refine ⟨_, rfl, pair, _, rfl, rfl, e', _, rfl, ?_⟩
                refine iteF ?_
                refine ⟨_, rfl, pair, _, .ref t', rfl, rfl, e', rfl, ?_⟩
                have h0 : (0 : Int) < pr.2 := rest_pos _ (look_mem hl2)
                refine ⟨_, rfl, rfl, _, rfl, ?_⟩
                refine ite_str (fun hs => ?_) (fun hs => ?_)
                · change kind = "sum" at hs
                  refine ⟨_, rfl, _, rfl, t', _, 1, .int pr.2, rfl, rfl, sq _, rfl, b, pr.2, rfl, rfl, h0, rfl, _, rfl, ?_⟩
                  by_cases hz : b % pr.2 = 0
                  · rw [if_neg (fun z => z.2 hz)] at ks
                    rw [show (!decide (V.int (b % pr.2) = V.int 0)) = false by rw [hz]; simp]
                    refine iteF ?_
                    refine ⟨_, rfl, _, rfl, _, rfl, (by show 3 ≤ sizeLine; decide), fun t2 ht2 => ?_⟩
                    exact ks _ rfl _ _ (s3.trans (same_upd ht2)) (.tup (SqT.of upd_same) (.cons (.str _) (.cons (.int _) (.cons (.tup (sq _) (.cons (.int _) (.cons (.int _) .nil))) .nil))))
                  · rw [if_pos ⟨hs, hz⟩] at kn
                    rw [show (!decide (V.int (b % pr.2) = V.int 0)) = true by rw [decide_eq_false (fun z => hz (V.int.inj z))]; rfl]
                    refine iteT ?_
                    exact kn rfl _ s3
                · change kind ≠ "sum" at hs
                  rw [if_neg (fun z => hs z.1)] at ks
                  refine iteF ?_
                  refine ⟨_, rfl, _, rfl, _, rfl, (by show 3 ≤ sizeLine; decide), fun t2 ht2 => ?_⟩
                  exact ks _ rfl _ _ (s3.trans (same_upd ht2)) (.tup (SqT.of upd_same) (.cons (.str _) (.cons (.int _) (.cons (.tup (sq _) (.cons (.int _) (.cons (.int _) .nil))) .nil))))
      · change kind ≠ "flip" at hk
        refine iteF ?_
        obtain ⟨kn, ks⟩ := num (fun z => hk z.1)
        refine ⟨_, rfl, ⟨_, rfl⟩, told, " at ", rfl, rfl, (by decide +kernel), Nat.le_trans hl1 hsz, fun p2 hp2 => ?_⟩
        generalize Txt.partition told " at " = q2 at *
        obtain ⟨number, between, pair⟩ := q2
        dsimp only at kn ks
        refine ⟨p2, _, rfl, SqT.of upd_same, rfl, _, _, rfl, _, _, rfl, _, _, rfl, rfl, ?_⟩
        have s2 : Same H (upd H1 p2 (.tup [.str number, .str between, .str pair])) := s1.trans (same_upd hp2)
        generalize upd H1 p2 (.tup [.str number, .str between, .str pair]) = H2 at *
        cases hn : numL.lookup number with
        | none =>
          refine ⟨_, rfl, number, _, rfl, rfl, T.num.no number hn, _, rfl, ?_⟩
          refine iteT ?_
          rw [hn] at kn
          exact kn rfl _ s2
        | some b =>
        obtain ⟨u0, eu, ru⟩ := T.num.yes number b hn
        rw [hn] at kn ks
        dsimp only at kn ks
        refine ⟨_, rfl, number, _, rfl, rfl, eu, _, rfl, ?_⟩
        refine iteF ?_
        refine ⟨_, rfl, number, u0, .int b, rfl, rfl, eu, ru, ?_⟩
        unfold parseB at kn ks
        refine ⟨_, rfl, rfl, _, rfl, ?_⟩
        refine ite_str (fun hbt => ?_) (fun hbt => ?_)
        · change between = "" at hbt
          rw [if_pos hbt] at kn ks
          refine ⟨_, rfl, (by show 3 ≤ sizeLine; decide), fun t1 ht1 => ⟨t1, _, rfl, .inr (SqT.of upd_same), rfl, (by decide +kernel), _, rfl, ?_⟩⟩
          show if inV (.str kind) ((["roll", "near", "sum"] : List Str).map V.str) = true then _ else _
          rw [in_strs]
          have s3 := s2.trans (same_upd (o := .tup [.str "roll", .str "near", .str "sum"]) ht1)
          refine ite_dec (fun hin => ?_) (fun hin => ?_)
          · rw [if_pos hin] at ks
            refine ⟨_, rfl, _, rfl, (by show 3 ≤ sizeLine; decide), fun t2 ht2 => ?_⟩
            exact ks _ rfl _ _ (s3.trans (same_upd ht2)) (.tup (SqT.of upd_same) (.cons (.str _) (.cons (.int _) (.cons .non .nil))))
          · rw [if_neg hin] at kn
            exact kn rfl _ s3
        · change ¬ between = "" at hbt
          rw [if_neg hbt] at kn ks
          refine ⟨_, rfl, (by show 2 ≤ sizeLine; decide), fun t1 ht1 => ⟨t1, _, rfl, .inr (SqT.of upd_same), rfl, (by decide +kernel), _, rfl, ?_⟩⟩
          show if (!inV (.str kind) ((["near", "sum"] : List Str).map V.str)) = true then _ else _
          rw [in_strs]
          have s3 := s2.trans (same_upd (o := .tup [.str "near", .str "sum"]) ht1)
          generalize upd H2 t1 (.tup [.str "near", .str "sum"]) = H3 at *
          refine ite_ndec (fun hin => ?_) (fun hin => ?_)
          · rw [if_neg hin] at kn
            refine iteT ?_
            exact kn rfl _ s3
          · rw [if_pos hin] at kn ks
            cases hl2 : restL.lookup pair with
            | none =>
              refine ⟨_, rfl, pair, _, rfl, rfl, T.rest.no pair hl2, _, rfl, ?_⟩
              refine iteT ?_
              rw [hl2] at kn
              exact kn rfl _ s3
            | some pr =>
              rw [hl2] at kn ks
              dsimp only at kn ks
              obtain ⟨t', e', sq⟩ := T.rest.yes pair pr hl2
              refine ⟨_, rfl, pair, _, rfl, rfl, e', _, rfl, ?_⟩
              refine iteF ?_
              refine ⟨_, rfl, pair, _, .ref t', rfl, rfl, e', rfl, ?_⟩
              have h0 : (0 : Int) < pr.2 := rest_pos _ (look_mem hl2)
              refine ⟨_, rfl, rfl, _, rfl, ?_⟩
              refine ite_str (fun hs => ?_) (fun hs => ?_)
              · change kind = "sum" at hs
                refine ⟨_, rfl, _, rfl, t', _, 1, .int pr.2, rfl, rfl, sq _, rfl, b, pr.2, rfl, rfl, h0, rfl, _, rfl, ?_⟩
                by_cases hz : b % pr.2 = 0
                · rw [if_neg (fun z => z.2 hz)] at ks
                  rw [show (!decide (V.int (b % pr.2) = V.int 0)) = false by rw [hz]; simp]
                  refine iteF ?_
                  refine ⟨_, rfl, _, rfl, _, rfl, (by show 3 ≤ sizeLine; decide), fun t2 ht2 => ?_⟩
                  exact ks _ rfl _ _ (s3.trans (same_upd ht2)) (.tup (SqT.of upd_same) (.cons (.str _) (.cons (.int _) (.cons (.tup (sq _) (.cons (.int _) (.cons (.int _) .nil))) .nil))))
                · rw [if_pos ⟨hs, hz⟩] at kn
                  rw [show (!decide (V.int (b % pr.2) = V.int 0)) = true by rw [decide_eq_false (fun z => hz (V.int.inj z))]; rfl]
                  refine iteT ?_
                  exact kn rfl _ s3
              · change kind ≠ "sum" at hs
                rw [if_neg (fun z => hs z.1)] at ks
                refine iteF ?_
                refine ⟨_, rfl, _, rfl, _, rfl, (by show 3 ≤ sizeLine; decide), fun t2 ht2 => ?_⟩
                exact ks _ rfl _ _ (s3.trans (same_upd ht2)) (.tup (SqT.of upd_same) (.cons (.str _) (.cons (.int _) (.cons (.tup (sq _) (.cons (.int _) (.cons (.int _) .nil))) .nil))))
    | _ => exact iteT (kn rfl H (Same.refl H))
end
end Aw

namespace Aw
open PySem PySem.Spec PyProof.Rows L2 NdefX
/-- the attributes of a Step -/
def stepF (x : Str) (k : Str) (b r : V) : List (Str × V) := [("text", .str x), ("kind", .str k), ("by", b), ("rest", r)]
theorem put1 {v : V} : putF "text" v [] = ([("text", v)] : List (Str × V)) := rfl
theorem ne_tk : ¬ (("text" : Str) = "kind") := by decide +kernel
theorem ne_tb : ¬ (("text" : Str) = "by") := by decide +kernel
theorem ne_tr : ¬ (("text" : Str) = "rest") := by decide +kernel
theorem ne_kb : ¬ (("kind" : Str) = "by") := by decide +kernel
theorem ne_kr : ¬ (("kind" : Str) = "rest") := by decide +kernel
theorem ne_br : ¬ (("by" : Str) = "rest") := by decide +kernel
theorem put2 {a v : V} : putF "kind" v ([("text", a)] : List (Str × V)) = ([("text", a), ("kind", v)] : List (Str × V)) := by
  show (if ("text" : Str) = "kind" then _ else (("text" : Str), a) :: putF "kind" v []) = _
  rw [if_neg ne_tk]
  rfl
theorem put3 {a b v : V} : putF "by" v ([("text", a), ("kind", b)] : List (Str × V)) = ([("text", a), ("kind", b), ("by", v)] : List (Str × V)) := by
  show (if ("text" : Str) = "by" then _ else (("text" : Str), a) :: (if ("kind" : Str) = "by" then _ else (("kind" : Str), b) :: putF "by" v [])) = _
  rw [if_neg ne_tb, if_neg ne_kb]
  rfl
theorem put4 {a b c v : V} : putF "rest" v ([("text", a), ("kind", b), ("by", c)] : List (Str × V)) = ([("text", a), ("kind", b), ("by", c), ("rest", v)] : List (Str × V)) := by
  show (if ("text" : Str) = "rest" then _ else (("text" : Str), a) :: (if ("kind" : Str) = "rest" then _ else (("kind" : Str), b) :: (if ("by" : Str) = "rest" then _ else (("by" : Str), c) :: putF "rest" v []))) = _
  rw [if_neg ne_tr, if_neg ne_kr, if_neg ne_br]
  rfl
theorem lkk {α : Type} {k m : Str} {v : α} {l : List (Str × α)} (h : ¬ m = k) : ((k, v) :: l).lookup m = l.lookup m := by
  have e : (m == k) = false := by simpa using h
  simp [List.lookup, e]
theorem lk1 {α : Type} {k : Str} {v : α} {l : List (Str × α)} : ((k, v) :: l).lookup k = some v := by simp [List.lookup]
theorem gText {x k : Str} {b r : V} : (stepF x k b r).lookup ("text" : Str) = some (.str x) := lk1
theorem gKind {x k : Str} {b r : V} : (stepF x k b r).lookup ("kind" : Str) = some (.str k) := (lkk (fun z => ne_tk z.symm)).trans lk1
theorem gBy {x k : Str} {b r : V} : (stepF x k b r).lookup ("by" : Str) = some b := (lkk (fun z => ne_tb z.symm)).trans ((lkk (fun z => ne_kb z.symm)).trans lk1)
theorem gRest {x k : Str} {b r : V} : (stepF x k b r).lookup ("rest" : Str) = some r := (lkk (fun z => ne_tr z.symm)).trans ((lkk (fun z => ne_kr z.symm)).trans ((lkk (fun z => ne_br z.symm)).trans lk1))
theorem gNo {x k m : Str} {b r : V} (h1 : ¬ m = "text") (h2 : ¬ m = "kind") (h3 : ¬ m = "by") (h4 : ¬ m = "rest") : (stepF x k b r).lookup m = none :=
  (lkk h1).trans ((lkk h2).trans ((lkk h3).trans ((lkk h4).trans rfl)))
/-- a Step with the text x stands at a -/
structure StepAt (K : PySem.W.Frag) (C : Addr) (H : Hp) (a : Addr) (x : Str) (r : Row) : Prop where
  ex : ∃ dx b t, H a = some (.ins C dx (stepF x r.1 b t)) ∧ Dq K H b (optD r.2.1) ∧ Dq K H t (restD r.2.2)
  pr : parse x = some r
theorem StepAt.same {K : PySem.W.Frag} {C : Addr} {H H' : Hp} {a : Addr} {x : Str} {r : Row} (S : StepAt K C H a x r) (s : Same H H') : StepAt K C H' a x r := by
  obtain ⟨dx, b, t, h, h1, h2⟩ := S.ex
  exact ⟨⟨dx, b, t, s _ _ h, h1.keep (TK.same s), h2.keep (TK.same s)⟩, S.pr⟩
/-- Step.__init__ -/
def spInit (K : PySem.W.Frag) (C CB : Addr) : Sp := fun vs H Q E => ∃ (a dx : Addr) (v : V), vs = [.ref a, v] ∧ H a = some (.ins C dx []) ∧ VOk H v ∧
  (parseV v = none → ∀ d H', Same H H' → H d = none → H' d = some (.xd [("text", v)]) → E (.ref CB) (some d) H') ∧
  (∀ x r, v = .str x → parse x = some r → ∀ H', (∀ b o, H b = some o → b ≠ a → H' b = some o) → StepAt K C H' a x r → Q .non H')
/-- what the class says -/
structure TxtO (P : Program) (K : PySem.W.Frag) (mg : Str → Option Value) (C CB fP fI : Addr) : Prop where
  parts : mg "step_parts" = some (.ref fP)
  bt : Err P K mg "BadText" "text" "text" CB
  cl : Cls K C
  nT : NoAttr K C "text"
  nK : NoAttr K C "kind"
  nB : NoAttr K C "by"
  nR : NoAttr K C "rest"
  g : mg "Step" = some (.ref C)
  mkr : Mk K C fI
section
variable {P : Program} {w : World} {K : PySem.W.Frag} {mg : Str → Option Value} {base : Heap} {dN dR tB : Addr} {eN eR : Array DictEntry} {nN nR : Nat} {C CB fP fI : Addr}
theorem scInit : FnScope ["self", "text", "parts", "kind", "by", "rest"] ["self", "text"] (defScope sInit) := ⟨rfl, rfl, rfl, by decide +kernel, rfl, by decide +kernel, by decide +kernel⟩
theorem ok_init {f : Addr} {fd gd : FuncData} (F : Fun K "__init__" "Step.__init__" sInit f fd) (O : TxtO P K mg C CB fP fI) (T : TxtS K w mg dN dR tB eN eR nN nR) (G : Fun K "step_parts" "step_parts" sParts fP gd) (bG : Binds K gd ["text"] []) : FnOk P w K mg base (L2.CX P w) 3 f fd ["self", "text"] (spInit K C CB) := by
  have GP : FnOk P w K mg base CX0 1 fP gd ["text"] (spParts K) := ok_parts G T
  refine F.okX scInit (fun vs H Q E h => ?_) (fun cdv A outer s H vs Q E hr h => ?_)
  · obtain ⟨a, dx, v, rfl, _⟩ := h
    rfl
  · obtain ⟨a, dx, v, rfl, ha, hv, kE, kQ⟩ := h
    have nd := scInit.nd
    refine ⟨_, (pss_cons (ps_set (i := 2) nd rfl (Or.inl rfl) (pe_call GP (hr.mono (by decide)) (by rfl) O.parts G.kp bG .nil pass0 (pa_cons (pv 1) pa_nil)))
      (pss_cons (ps_if (pt_cmpR op_isN (pv 2) pe_non (nomark _))
        (pss_one (ps_raise rfl (takes_of rfl rfl rfl rfl) (pmk_err O.bt hr (by rfl) (pa_cons (pv 1) pa_nil)))) pss_nil)
      (pss_cons (ps_asg (pv 2) (pg_tup rfl (pgs_cons (pg_name (i := 3) nd rfl (Or.inl rfl)) (pgs_cons (pg_name (i := 4) nd rfl (Or.inl rfl)) (pgs_cons (pg_name (i := 5) nd rfl (Or.inl rfl)) pgs_nil)))))
      (pss_cons (ps_fld (pv 0) (pv 1) rfl)
      (pss_cons (ps_fld (pv 0) (pv 3) rfl)
      (pss_cons (ps_fld (pv 0) (pv 4) rfl)
      (pss_one (ps_fld (pv 0) (pv 5) rfl)))))))), ?_⟩
    refine ⟨_, rfl, v, rfl, hv, fun hn H1 s1 => ?_, fun r hp u H1 s1 du => ?_⟩
    · refine ⟨_, rfl, rfl, _, rfl, ?_⟩
      refine iteT ?_
      refine ⟨v, rfl, mkS_ans fun d hd => ?_⟩
      exact kE hn d _ (s1.trans (same_upd hd)) (s1.free hd) upd_same
    · obtain ⟨t, xs, rfl, st, dxs⟩ := du.of_tuple
      refine ⟨_, rfl, rfl, _, rfl, ?_⟩
      refine iteF ?_
      obtain ⟨k, b, rr⟩ := r
      cases dxs with
      | cons d1 dxs => cases dxs with
        | cons d2 dxs => cases dxs with
          | cons d3 dxs =>
            cases dxs
            obtain rfl := d1.of_str
            rename_i v2 v3
            obtain ⟨x, rfl⟩ : ∃ x, v = .str x := by
              cases v with
              | str x => exact ⟨x, rfl⟩
              | _ => cases hp
            have ha1 : H1 a = some (.ins C dx []) := s1 _ _ ha
            refine ⟨_, rfl, t, _, rfl, st, rfl, _, _, rfl, _, _, rfl, _, _, rfl, rfl, ?_⟩
            refine ⟨_, rfl, _, rfl, a, C, dx, [], rfl, ha1, O.cl, O.nT, (by show 0 < 1000; decide), ?_⟩
            refine ⟨_, rfl, _, rfl, a, C, dx, _, rfl, upd_same, O.cl, O.nK, (by show 1 < 1000; decide), ?_⟩
            refine ⟨_, rfl, _, rfl, a, C, dx, _, rfl, upd_same, O.cl, O.nB, (by rw [put1, put2]; show 2 < 1000; decide), ?_⟩
            refine ⟨_, rfl, _, rfl, a, C, dx, _, rfl, upd_same, O.cl, O.nR, (by rw [put1, put2, put3]; show 3 < 1000; decide), ?_⟩
            rw [upd_upd, upd_upd, upd_upd, put1, put2, put3, put4]
            have tk : TK H1 (upd H1 a (.ins C dx (stepF x k v2 v3))) := ⟨fun c ys e => by rw [upd_ne (ne_of e ha1 (fun z => by cases z))]; exact e, fun c o ys e => by rw [upd_ne (ne_of e ha1 (fun z => by cases z))]; exact e⟩
            exact kQ x (k, b, rr) rfl hp _ (fun c o e hc => by rw [upd_ne hc]; exact s1 _ _ e) ⟨⟨dx, v2, v3, upd_same, d2.keep tk, d3.keep tk⟩, hp⟩
end
end Aw

namespace Aw
open PySem PySem.Spec PyProof.Rows L2 NdefX
/-- what str tells of a number -/
def strI (i : Int) : Str := toString i
def textK (k : Str) (b : Option Int) : Str := match b with
  | none => k
  | some i => k ++ " " ++ strI i
/-- the text of a row -/
def textOf (r : Row) : Str := match r.2.2 with
  | none => textK r.1 r.2.1
  | some p => (if r.1 = "flip" then textK r.1 r.2.1 else textK r.1 r.2.1 ++ " at") ++ " " ++ strI p.1 ++ " of " ++ strI p.2
def smI (r : Row) : Bool := (match r.2.1 with | none => true | some i => decide (i.natAbs.log2 < 1920)) && (match r.2.2 with | none => true | some p => decide (p.1.natAbs.log2 < 1920) && decide (p.2.natAbs.log2 < 1920)) && decide ((textOf r).length ≤ 1000)
theorem known_text : ∀ p ∈ known, textOf p.2 = p.1 := by decide +kernel
theorem known_smI : ∀ p ∈ known, smI p.2 = true := by decide +kernel
def spText (K : PySem.W.Frag) : Sp := fun vs H Q _ => ∃ (u : V) (r : Row), vs = [u] ∧ Dq K H u (rowD r) ∧ smI r = true ∧ Q (.str (textOf r)) H
section
variable {P : Program} {w : World} {K : PySem.W.Frag} {mg : Str → Option Value} {base : Heap}
theorem scText : FnScope ["_law_step_here", "_law_kind", "_law_by", "_law_rest", "_law_text_here"] ["_law_step_here"] (defScope sText) := ⟨rfl, rfl, rfl, by decide +kernel, rfl, by decide +kernel, by decide +kernel⟩
theorem len_sum {x y z : Str} {n : Nat} (h : (x ++ y).length ≤ n) : x.length + y.length ≤ n := by rw [← Str.length_append]; exact h
theorem len_left {x y : Str} {n : Nat} (h : (x ++ y).length ≤ n) : x.length ≤ n := by rw [Str.length_append] at h; omega
theorem kz : (1000 : Nat) ≤ sizeLine := by decide
theorem ite_nstr {x y : Str} {A B : Prop} (h1 : x ≠ y → A) (h2 : x = y → B) : if (!decide (V.str x = V.str y)) = true then A else B := by
  by_cases e : x = y
  · rw [decide_eq_true (by rw [e])]
    exact iteF (h2 e)
  · rw [decide_eq_false (fun z => e (V.str.inj z))]
    exact iteT (h1 e)
theorem len_add {x y : Str} (h : (x ++ y).length ≤ 1000) : x.length + y.length ≤ sizeLine := by rw [Str.length_append] at h; exact Nat.le_trans h kz
theorem ok_text {f : Addr} {fd : FuncData} (F : Fun K "_law_text" "_law_text" sText f fd) (hs : mg "str" = none) : FnOk P w K mg base CX0 1 f fd ["_law_step_here"] (spText K) := by
  refine F.ok scText (fun vs H Q E h => ?_) (fun cdv A outer s H vs Q E hr h => ?_)
  · obtain ⟨u, r, rfl, _⟩ := h
    rfl
  · obtain ⟨u, r, rfl, hd, hsm, hQ⟩ := h
    have nd := scText.nd
    refine ⟨_, (pss_cons (ps_asg (pv 0) (pg_tup rfl (pgs_cons (pg_name (i := 1) nd rfl (Or.inl rfl)) (pgs_cons (pg_name (i := 2) nd rfl (Or.inl rfl)) (pgs_cons (pg_name (i := 3) nd rfl (Or.inl rfl)) pgs_nil)))))
      (pss_cons (ps_set (i := 4) nd rfl (Or.inl rfl) (pv 1))
      (pss_cons (ps_if (pt_cmpR op_notN (pv 2) pe_non (nomark _))
        (pss_one (ps_set (i := 4) nd rfl (Or.inl rfl) (pe_op op_add_str (pe_op op_add_str (pv 4) pe_str) (pe_callTy call_str_int (by rfl) hs (by decide +kernel) (pa_cons (pv 2) pa_nil))))) pss_nil)
      (pss_cons (ps_if (pt_cmpR op_isN (pv 3) pe_non (nomark _))
        (pss_one (ps_ret (pv 4))) pss_nil)
      (pss_cons (ps_if (pt_cmpR op_ne (pv 1) pe_str (nomark _))
        (pss_one (ps_set (i := 4) nd rfl (Or.inl rfl) (pe_op op_add_str (pv 4) pe_str))) pss_nil)
      (pss_one (ps_ret (pe_op op_add_str (pe_op op_add_str (pe_op op_add_str (pe_op op_add_str (pv 4) pe_str) (pe_callTy call_str_int (by rfl) hs (by decide +kernel) (pa_cons (pe_ix ix_tup (pv 3) pe_int (fun _ _ => rfl)) pa_nil))) pe_str) (pe_callTy call_str_int (by rfl) hs (by decide +kernel) (pa_cons (pe_ix ix_tup (pv 3) pe_int (fun _ _ => rfl)) pa_nil)))))))))), ?_⟩
    obtain ⟨k, b, rr⟩ := r
    obtain ⟨t, xs, rfl, st, dxs⟩ := hd.of_tuple
    cases dxs with
    | cons d1 dxs => cases dxs with
      | cons d2 dxs => cases dxs with
        | cons d3 dxs =>
          cases dxs
          obtain rfl := d1.of_str
          rename_i v2 v3
          unfold smI at hsm
          simp only [Bool.and_eq_true, decide_eq_true_eq] at hsm
          obtain ⟨⟨h1, h2⟩, h3⟩ := hsm
          refine ⟨_, rfl, t, _, rfl, st, rfl, _, _, rfl, _, _, rfl, _, _, rfl, rfl, ?_⟩
          refine ⟨_, rfl, ?_⟩
          have lenK : (textK k b).length ≤ 1000 := by
            cases rr with
            | none => exact h3
            | some p =>
              change ((((if k = "flip" then textK k b else textK k b ++ " at") ++ " " ++ strI p.1) ++ " of ") ++ strI p.2).length ≤ 1000 at h3
              have h := len_left (len_left (len_left (len_left h3)))
              by_cases e : k = "flip"
              · rw [if_pos e] at h; exact h
              · rw [if_neg e] at h; exact len_left h
          cases b with
          | none =>
            obtain rfl := d2.of_none
            refine ⟨_, rfl, rfl, _, rfl, ?_⟩
            refine iteF ?_
            cases rr with
            | none =>
              obtain rfl := d3.of_none
              refine ⟨_, rfl, rfl, _, rfl, ?_⟩
              refine iteT ?_
              exact ⟨_, rfl, hQ⟩
            | some p =>
              obtain ⟨t3, x3, rfl, st3, dx3⟩ := d3.of_tuple
              refine ⟨_, rfl, rfl, _, rfl, ?_⟩
              refine iteF ?_
              cases dx3 with
              | cons e1 dx3 => cases dx3 with
                | cons e2 dx3 =>
                  cases dx3
                  obtain rfl := e1.of_int
                  obtain rfl := e2.of_int
                  simp only [Bool.and_eq_true, decide_eq_true_eq] at h2
                  refine ⟨_, rfl, rfl, _, rfl, ?_⟩
                  change Q (.str (((((if k = "flip" then textK k _ else textK k _ ++ " at") ++ " ") ++ strI p.1) ++ " of ") ++ strI p.2)) H at hQ
                  change (((((if k = "flip" then textK k _ else textK k _ ++ " at") ++ " ") ++ strI p.1) ++ " of ") ++ strI p.2).length ≤ 1000 at h3
                  refine ite_nstr (fun e => ?_) (fun e => ?_)
                  · rw [if_neg e] at hQ h3
                    refine ⟨_, rfl, _, _, rfl, rfl, len_add (len_left (len_left (len_left (len_left h3)))), ?_⟩
                    refine ⟨_, rfl, _, _, rfl, rfl, len_add (len_left (len_left (len_left h3))), _, rfl, ?_⟩
                    exact ⟨t3, _, 0, _, rfl, rfl, st3, rfl, p.1, rfl, h2.1, _, _, rfl, rfl, len_add (len_left (len_left h3)), _, _, rfl, rfl, len_add (len_left h3), _, rfl, t3, _, 1, _, rfl, rfl, st3, rfl, p.2, rfl, h2.2, _, _, rfl, rfl, len_add h3, hQ⟩
                  · rw [if_pos e] at hQ h3
                    exact ⟨_, rfl, _, _, rfl, rfl, len_add (len_left (len_left (len_left h3))), _, rfl, t3, _, 0, _, rfl, rfl, st3, rfl, p.1, rfl, h2.1, _, _, rfl, rfl, len_add (len_left (len_left h3)), _, _, rfl, rfl, len_add (len_left h3), _, rfl, t3, _, 1, _, rfl, rfl, st3, rfl, p.2, rfl, h2.2, _, _, rfl, rfl, len_add h3, hQ⟩
          | some i =>
            obtain rfl := d2.of_int
            refine ⟨_, rfl, rfl, _, rfl, ?_⟩
            refine iteT ?_
            change ((k ++ " ") ++ strI i).length ≤ 1000 at lenK
            refine ⟨_, rfl, k, " ", rfl, rfl, len_add (len_left lenK), _, rfl, i, rfl, of_decide_eq_true h1, k ++ " ", strI i, rfl, rfl, len_add lenK, ?_⟩
            cases rr with
            | none =>
              obtain rfl := d3.of_none
              refine ⟨_, rfl, rfl, _, rfl, ?_⟩
              refine iteT ?_
              exact ⟨_, rfl, hQ⟩
            | some p =>
              obtain ⟨t3, x3, rfl, st3, dx3⟩ := d3.of_tuple
              refine ⟨_, rfl, rfl, _, rfl, ?_⟩
              refine iteF ?_
              cases dx3 with
              | cons e1 dx3 => cases dx3 with
                | cons e2 dx3 =>
                  cases dx3
                  obtain rfl := e1.of_int
                  obtain rfl := e2.of_int
                  simp only [Bool.and_eq_true, decide_eq_true_eq] at h2
                  refine ⟨_, rfl, rfl, _, rfl, ?_⟩
                  change Q (.str (((((if k = "flip" then textK k _ else textK k _ ++ " at") ++ " ") ++ strI p.1) ++ " of ") ++ strI p.2)) H at hQ
                  change (((((if k = "flip" then textK k _ else textK k _ ++ " at") ++ " ") ++ strI p.1) ++ " of ") ++ strI p.2).length ≤ 1000 at h3
                  refine ite_nstr (fun e => ?_) (fun e => ?_)
                  · rw [if_neg e] at hQ h3
                    refine ⟨_, rfl, _, _, rfl, rfl, len_add (len_left (len_left (len_left (len_left h3)))), ?_⟩
                    refine ⟨_, rfl, _, _, rfl, rfl, len_add (len_left (len_left (len_left h3))), _, rfl, ?_⟩
                    exact ⟨t3, _, 0, _, rfl, rfl, st3, rfl, p.1, rfl, h2.1, _, _, rfl, rfl, len_add (len_left (len_left h3)), _, _, rfl, rfl, len_add (len_left h3), _, rfl, t3, _, 1, _, rfl, rfl, st3, rfl, p.2, rfl, h2.2, _, _, rfl, rfl, len_add h3, hQ⟩
                  · rw [if_pos e] at hQ h3
                    exact ⟨_, rfl, _, _, rfl, rfl, len_add (len_left (len_left (len_left h3))), _, rfl, t3, _, 0, _, rfl, rfl, st3, rfl, p.1, rfl, h2.1, _, _, rfl, rfl, len_add (len_left (len_left h3)), _, _, rfl, rfl, len_add (len_left h3), _, rfl, t3, _, 1, _, rfl, rfl, st3, rfl, p.2, rfl, h2.2, _, _, rfl, rfl, len_add h3, hQ⟩
end
theorem row_get {K : PySem.W.Frag} {H : Hp} {u : V} {r : Row} (hd : Dq K H u (rowD r)) : ∃ t v2 v3, u = .ref t ∧ SqT K H t [.str r.1, v2, v3] ∧ Dq K H v2 (optD r.2.1) ∧ Dq K H v3 (restD r.2.2) := by
  obtain ⟨k, b, rr⟩ := r
  obtain ⟨t, xs, rfl, st, dxs⟩ := hd.of_tuple
  cases dxs with
  | cons d1 dxs => cases dxs with
    | cons d2 dxs => cases dxs with
      | cons d3 dxs =>
        cases dxs
        obtain rfl := d1.of_str
        exact ⟨t, _, _, rfl, st, d2, d3⟩
end Aw

namespace Aw
open PySem PySem.Spec PyProof.Rows L2 NdefX
theorem same_fresh {H H2 : Hp} {D : Addr} {o : HO} (hD : H D = none) (s2 : Same H H2) : Same H (upd H2 D o) := fun b u e => by rw [upd_ne (ne_of_none e hD)]; exact s2 _ _ e
theorem small200 {n : Nat} (h : n ≤ 1000) : n ≤ sizeLine := Nat.le_trans h kz
theorem small200' {n : Nat} (h : n < 1000) : n < sizeLine := Nat.lt_of_lt_of_le h kz
section
variable {K : PySem.W.Frag}
theorem row_dq {H : Hp} {t1 t2 : Addr} {k : Str} {b : Option Int} {p q : Int} {bv : V} (hb : ∀ H', Dq K H' bv (optD b)) (h2 : upd H t1 (.tup [.int p, .int q]) t2 = none) :
    Dq K (upd (upd H t1 (.tup [.int p, .int q])) t2 (.tup [.str k, bv, .ref t1])) (.ref t2) (rowD (k, b, some (p, q))) :=
  .tup (SqT.of upd_same) (.cons (.str _) (.cons (hb _) (.cons (.tup (SqT.of (by rw [upd_ne (ne_of_none upd_same h2), upd_same])) (.cons (.int _) (.cons (.int _) .nil))) .nil)))
end
end Aw

namespace Aw
open PySem PySem.Spec PyProof.Rows L2 NdefX
/-- a Step stands at b, or a text, or None: what isinstance tells of it -/
structure TxtE (K : PySem.W.Frag) (C : Addr) : Prop where
  ha : PySem.W.findIn K (.ref C) "__class__" = some (some (.builtin "object.__class__"))
  hn : PySem.W.specialIn K (.builtin "object.__class__") "__get__" = some (some (.builtin "getset_descriptor.__get__"))
  ht : PySem.W.takesIn K (.builtin "object.__class__") = some true
  hm : PySem.W.mroIn K C (.type "object") = some true
  me : PySem.W.kitOne K (.ref C) (.ref C) = some true
  nS : PySem.W.kitOne K (.type "str") (.ref C) = some false
  nN : PySem.W.kitOne K (.type "NoneType") (.ref C) = some false
def spEq (K : PySem.W.Frag) (C : Addr) : Sp := fun vs H Q _ => ∃ (a : Addr) (y : V) (x : Str) (r : Row), vs = [.ref a, y] ∧ StepAt K C H a x r ∧
  ((∃ (b : Addr) (x' : Str) (r' : Row), y = .ref b ∧ StepAt K C H b x' r' ∧ Q (.bl (decide (x = x'))) H) ∨ (((∃ t, y = .str t) ∨ y = .non) ∧ Q (.bl false) H))
section
variable {P : Program} {w : World} {K : PySem.W.Frag} {mg : Str → Option Value} {base : Heap} {C CB fP fI : Addr}
theorem scEq : FnScope ["self", "other"] ["self", "other"] (defScope sEq) := ⟨rfl, rfl, rfl, by decide +kernel, rfl, by decide +kernel, by decide +kernel⟩
theorem dec_strs {x y : Str} : decide (V.str x = V.str y) = decide (x = y) := by
  by_cases e : x = y
  · rw [decide_eq_true e, decide_eq_true (by rw [e])]
  · rw [decide_eq_false e, decide_eq_false (fun z => e (V.str.inj z))]
theorem ok_eq {f : Addr} {fd : FuncData} (F : Fun K "__eq__" "Step.__eq__" sEq f fd) (O : TxtO P K mg C CB fP fI) (Te : TxtE K C) (isi : mg "isinstance" = none) : FnOk P w K mg base CX0 1 f fd ["self", "other"] (spEq K C) := by
  have T : True := trivial
  refine F.ok scEq (fun vs H Q E h => ?_) (fun cdv A outer s H vs Q E hr h => ?_)
  · obtain ⟨a, y, x, r, rfl, _⟩ := h
    rfl
  · obtain ⟨a, y, x, r, rfl, sa, h⟩ := h
    have nd := scEq.nd
    refine ⟨_, (pss_one (ps_ret (pe_and (pe_callB call_isi (by rfl) isi (by decide +kernel) (pa_cons (pv 1) (pa_cons (pe_glob (v := .ref C) (by rfl) O.g rfl) pa_nil))) (pe_one (pe_cmpR op_eq (pe_fld (pv 0) rfl) (pe_fld (pv 1) rfl) (nomark _)))))), ?_⟩
    obtain ⟨dx, bv, tv, ea, _, _⟩ := sa.ex
    rcases h with ⟨b, x', r', rfl, sb, hq⟩ | ⟨hy, hq⟩
    · obtain ⟨dx', bv', tv', eb, _, _⟩ := sb.ex
      refine ⟨_, rfl, .ref b, .ref C, .ref C, .ref C, true, rfl, .own _, .base (.ins eb O.cl Te.ha Te.hn Te.ht Te.hm), Te.me, _, rfl, ?_⟩
      refine iteT ?_
      refine ⟨_, rfl, a, C, dx, _, _, rfl, ea, O.cl, O.nT, gText, _, rfl, b, C, dx', _, _, rfl, eb, O.cl, O.nT, gText, rfl, ?_⟩
      rw [dec_strs]
      exact hq
    · rcases hy with ⟨t, rfl⟩ | rfl
      · refine ⟨_, rfl, .str t, .ref C, .type "str", .ref C, false, rfl, .own _, .base (.str t), Te.nS, _, rfl, ?_⟩
        exact iteF hq
      · refine ⟨_, rfl, .non, .ref C, .type "NoneType", .ref C, false, rfl, .own _, .base .non, Te.nN, _, rfl, ?_⟩
        exact iteF hq
end
end Aw

namespace Aw
open PySem PySem.Spec PyProof.Rows L2 NdefX
/-! ### lists of Steps -/
inductive StepsAt (K : PySem.W.Frag) (C : Addr) (H : Hp) : List V → List (Str × Row) → Prop
  | nil : StepsAt K C H [] []
  | cons {a : Addr} {vs : List V} {p : Str × Row} {ps : List (Str × Row)} : StepAt K C H a p.1 p.2 → StepsAt K C H vs ps → StepsAt K C H (.ref a :: vs) (p :: ps)
section
variable {K : PySem.W.Frag} {C : Addr} {H H' : Hp}
theorem StepsAt.same (s : Same H H') : ∀ {vs : List V} {ps : List (Str × Row)}, StepsAt K C H vs ps → StepsAt K C H' vs ps
  | _, _, .nil => .nil
  | _, _, .cons h r => .cons (h.same s) (StepsAt.same s r)
theorem StepsAt.length : ∀ {vs : List V} {ps : List (Str × Row)}, StepsAt K C H vs ps → vs.length = ps.length
  | _, _, .nil => rfl
  | _, _, .cons _ r => congrArg (· + 1) (StepsAt.length r)
theorem StepsAt.get : ∀ {vs : List V} {ps : List (Str × Row)} {i : Nat} {v : V}, StepsAt K C H vs ps → vs[i]? = some v → ∃ a p, ps[i]? = some p ∧ v = .ref a ∧ StepAt K C H a p.1 p.2
  | _, _, _, _, .nil, h => by simp at h
  | _, _, 0, _, .cons h _, e => ⟨_, _, rfl, by cases Option.some.inj e; rfl, h⟩
  | _, _, i + 1, _, .cons _ r, e => StepsAt.get (i := i) r (by simpa using e)
theorem StepsAt.append : ∀ {vs ws : List V} {ps qs : List (Str × Row)}, StepsAt K C H vs ps → StepsAt K C H ws qs → StepsAt K C H (vs ++ ws) (ps ++ qs)
  | _, _, _, _, .nil, s => s
  | _, _, _, _, .cons h r, s => .cons h (StepsAt.append r s)
end
def isDeal (p : Str × Row) : Bool := decide (p.2.1 ∈ (["deal", "undeal"] : List Str))
/-- the bound that is broken -/
def boundsE (ps : List (Str × Row)) : Option Int := if 5 < ps.length then some 5 else if 2 < (ps.filter isDeal).length then some 2 else none
/-- raises the one error -/
def spBounds (K : PySem.W.Frag) (C CM : Addr) : Sp := fun vs H Q E => ∃ (l : Addr) (xs : List V) (ps : List (Str × Row)), vs = [.ref l] ∧ H l = some (.lst xs) ∧ StepsAt K C H xs ps ∧ ps.length ≤ 100000 ∧
  (∀ m, boundsE ps = some m → ∀ d H', Same H H' → H d = none → H' d = some (.xd [("most", .int m)]) → E (.ref CM) (some d) H') ∧ (boundsE ps = none → ∀ H', Same H H' → Q .non H')
structure TxtB (P : Program) (K : PySem.W.Frag) (mg : Str → Option Value) (C CM : Addr) (t5 t2 : Tok) : Prop where
  len : mg "len" = none
  g5 : mg "MOST_STEPS" = some (.int 5 t5)
  g2 : mg "MOST_DEALS" = some (.int 2 t2)
  tm : Err P K mg "TooMany" "most" "most" CM
  cl : Cls K C
  nK : NoAttr K C "kind"
section
variable {P : Program} {w : World} {K : PySem.W.Frag} {mg : Str → Option Value} {base : Heap} {C CM : Addr} {t5 t2 : Tok}
theorem scBounds : FnScope ["steps", "deals", "step"] ["steps"] (defScope sBounds) := ⟨rfl, rfl, rfl, by decide +kernel, rfl, by decide +kernel, by decide +kernel⟩
theorem ok_bounds {f : Addr} {fd : FuncData} (F : Fun K "check_bounds" "check_bounds" sBounds f fd) (B : TxtB P K mg C CM t5 t2) : FnOk P w K mg base (L2.CX P w) 3 f fd ["steps"] (spBounds K C CM) := by
  refine F.okX scBounds (fun vs H Q E h => ?_) (fun cdv A outer s H vs Q E hr h => ?_)
  · obtain ⟨l, xs, ps, rfl, _⟩ := h
    rfl
  · obtain ⟨l, xs, ps, rfl, hl, hS, hn, kE, kQ⟩ := h
    have nd := scBounds.nd
    refine ⟨_, (pss_cons (ps_if (pt_cmpR op_gt (pe_callB call_len_seq (by rfl) B.len PySem.boot_len (pa_cons (pv 0) pa_nil)) (pe_glob (v := .int 5) (by rfl) B.g5 ⟨_, rfl⟩) (nomark _))
        (pss_one (ps_raise rfl (takes_of rfl rfl rfl rfl) (pmk_err B.tm hr (by rfl) (pa_cons (pe_glob (v := .int 5) (by rfl) B.g5 ⟨_, rfl⟩) pa_nil)))) pss_nil)
      (pss_cons (ps_setLc (i := 1) (own := [("step", 2)]) (g := (gName 2)) rfl nd rfl rfl (sw_true rfl rfl (by rfl) (by decide +kernel)) (pi_list (pv 0)) (blkOk_by (own := [("step", 2)]) (N := ["steps", "deals", "step"]) (sc := defScope sBounds) (by decide +kernel)) (fun _ _ _ _ _ => (pg_name (i := 2) nd rfl (Or.inl rfl))) (fun _ _ _ _ _ => pts_one (pt_cmpR (show OpR _ (compareOp .In) (rIn K false) from op_in_seq) (show PE _ _ (tFld K (tVar 2) "kind") from pe_fld (pv 2) rfl) (pe_tup (pa_cons pe_str (pa_cons pe_str pa_nil))) (by rfl))) (fun _ _ _ _ _ => (pv 2)))
      (pss_one (ps_if (pt_cmpR op_gt (pe_callB call_len_seq (by rfl) B.len PySem.boot_len (pa_cons (pv 1) pa_nil)) (pe_glob (v := .int 2) (by rfl) B.g2 ⟨_, rfl⟩) (nomark _))
        (pss_one (ps_raise rfl (takes_of rfl rfl rfl rfl) (pmk_err B.tm hr (by rfl) (pa_cons (pe_glob (v := .int 2) (by rfl) B.g2 ⟨_, rfl⟩) pa_nil)))) pss_nil)))), ?_⟩
    have lx := hS.length
    refine ⟨_, rfl, l, xs, rfl, .inl (SqL.of hl), (xs.length : Int), 5, rfl, rfl, _, rfl, ?_⟩
    refine ite_dec (fun h5 => ?_) (fun h5 => ?_)
    · have e5 : boundsE ps = some 5 := if_pos (by omega)
      refine mkS_ans fun d hd => ?_
      exact kE 5 e5 d _ (same_upd hd) hd upd_same
    · have h5' : ¬ 5 < ps.length := by omega
      refine ⟨_, rfl, l, rfl, ⟨xs, SqL.of hl⟩, fun D hD => ?_⟩
      refine lc_list (a := l) (xs := xs) (fun m H2 => Same H H2 ∧ ∃ ws : List V, H2 D = some (.lst ws) ∧ ws.length = ((ps.take m).filter isDeal).length) ⟨same_upd hD, [], upd_same, rfl⟩ (fun m H2 hm p => SqL.of (p.1 _ _ hl)) ?_ ?_
      · rintro m x H2 hx ⟨s2, ws, e2, l2⟩
        obtain ⟨a, p, ip, rfl, sa⟩ := (hS.same s2).get hx
        obtain ⟨dx, bv, tv, ea, _, _⟩ := sa.ex
        have et : ps.take (m + 1) = ps.take m ++ [p] := by
          rw [List.take_succ, ip]
          rfl
        refine ⟨rfl, ?_⟩
        refine ⟨_, rfl, a, C, dx, _, _, rfl, ea, B.cl, B.nK, gKind, by show 2 ≤ sizeLine; decide, fun t ht => ?_⟩
        refine ⟨t, _, rfl, .inr (SqT.of upd_same), rfl, by decide +kernel, _, rfl, ?_⟩
        show if inV (.str p.2.1) ((["deal", "undeal"] : List Str).map V.str) = true then _ else _
        rw [in_strs]
        have st := same_upd (o := .tup [.str "deal", .str "undeal"]) ht
        have et2 : upd H2 t (.tup [.str "deal", .str "undeal"]) D = some (.lst ws) := by rw [upd_ne (ne_of_none e2 ht)]; exact e2
        refine ite_dec (fun hd => ?_) (fun hd => ?_)
        · refine ⟨_, rfl, ws, et2, small200' (by
            have := List.length_filter_le isDeal (ps.take m)
            rw [List.length_take] at this
            omega), same_fresh hD (s2.trans st), _, upd_same, ?_⟩
          rw [et, List.filter_append, List.filter_cons_of_pos (by exact decide_eq_true hd), List.length_append, List.length_append, l2]
          rfl
        · refine ⟨s2.trans st, ws, et2, ?_⟩
          rw [et, List.filter_append, List.filter_cons_of_neg (by exact fun z => hd (of_decide_eq_true z)), List.filter_nil, List.append_nil]
          exact l2
      · rintro H2 ⟨s2, ws, e2, l2⟩
        have ek : ps.take xs.length = ps := List.take_of_length_le (by omega)
        rw [ek] at l2
        refine ⟨_, rfl, D, ws, rfl, .inl (SqL.of e2), (ws.length : Int), 2, rfl, rfl, _, rfl, ?_⟩
        refine ite_dec (fun h2 => ?_) (fun h2 => ?_)
        · have e5 : boundsE ps = some 2 := (if_neg h5').trans (if_pos (by omega))
          refine mkS_ans fun d hd => ?_
          exact kE 2 e5 d _ (s2.trans (same_upd hd)) (s2.free hd) upd_same
        · have e5 : boundsE ps = none := (if_neg h5').trans (if_neg (by omega))
          exact kQ e5 H2 s2
end
end Aw

namespace Aw
open PySem PySem.Spec PyProof.Rows L2 NdefX
/-! ### for i, x in enumerate(l) -/
theorem for_enum {K : PySem.W.Frag} {a : Addr} {xs : List V} {g : TG} {tb : TS} {D : Ends} {σ : Aw.St} {H : Hp} (Pv : Nat → Aw.St → Hp → Prop) (h0 : Pv 0 σ H) (hl : ∀ i σ H, i ≤ xs.length → Pv i σ H → SqL K H a xs)
    (hs : ∀ i x σ H T, xs[i]? = some x → Pv i σ H → H T = none → g (.ref T) σ (upd H T (.tup [.int (i : Nat), x])) fun σ2 H2 => tb { D with nx := Pv (i + 1), ct := Pv (i + 1), bk := D.nx } σ2 H2)
    (hd : ∀ σ H, Pv xs.length σ H → D.nx σ H) : tFor (fun _ H R => R (Ite K a) H) g tb D σ H := by
  refine ⟨fun i m σ H => m = xs.length - i ∧ i ≤ xs.length ∧ Pv i σ H, ⟨xs.length, by simp, Nat.zero_le _, h0⟩, ?_⟩
  rintro i m σ H ⟨rfl, hi, p⟩
  have q := hl i σ H hi p
  by_cases hlt : i < xs.length
  · refine .inr ⟨⟨xs, xs[i], q, by simp [hlt]⟩, Pv (i + 1), fun σ' H' p' => ⟨xs.length - (i + 1), by omega, rfl, hlt, p'⟩, fun x H' y => ?_⟩
    obtain ⟨T, y, rfl, hT, rfl, hy⟩ := y
    exact hs i y σ H T (hy xs q) p hT
  · have e : i = xs.length := by omega
    subst e
    exact .inl ⟨⟨xs, q, Nat.le_refl _⟩, hd σ H p⟩
/-! ### texts of programs -/
def partsOf (x : Str) : List Str := if x = "" then [] else Txt.split x " then "
def firstBad : List Str → Option Nat
  | [] => none
  | x :: l => match parse x with
    | none => some 0
    | some _ => (firstBad l).map (· + 1)
def rowsOf : List Str → List (Str × Row)
  | [] => []
  | x :: l => match parse x with
    | none => rowsOf l
    | some r => (x, r) :: rowsOf l
theorem partsOf_len {x : Str} (h : x.length ≤ 1000) : (partsOf x).length ≤ 1002 := by
  unfold partsOf
  split
  · exact Nat.zero_le _
  · have := PyProof.Rows.split_le x " then "
    omega
theorem partsOf_short {x y : Str} (h : y ∈ partsOf x) : y.length ≤ x.length := by
  unfold partsOf at h
  split at h
  · cases h
  · exact PyProof.Rows.part_short h
theorem rowsOf_no {x : Str} {l : List Str} (h : parse x = none) : rowsOf (x :: l) = rowsOf l := by
  show (match parse x with | none => rowsOf l | some r => (x, r) :: rowsOf l) = _
  rw [h]
theorem rowsOf_yes {x : Str} {r : Row} {l : List Str} (h : parse x = some r) : rowsOf (x :: l) = (x, r) :: rowsOf l := by
  show (match parse x with | none => rowsOf l | some r => (x, r) :: rowsOf l) = _
  rw [h]
theorem rowsOf_append : ∀ {a b : List Str}, rowsOf (a ++ b) = rowsOf a ++ rowsOf b
  | [], _ => rfl
  | x :: l, b => by
    rw [List.cons_append]
    cases h : parse x with
    | none => rw [rowsOf_no h, rowsOf_no h]; exact rowsOf_append
    | some r => rw [rowsOf_yes h, rowsOf_yes h, List.cons_append]; exact congrArg ((x, r) :: ·) rowsOf_append
theorem firstBad_at : ∀ {l : List Str} {i : Nat} {x : Str}, (∀ y ∈ l.take i, parse y ≠ none) → l[i]? = some x → parse x = none → firstBad l = some i
  | y :: l, 0, x, _, h, hp => by
    cases h
    unfold firstBad
    rw [hp]
  | y :: l, i + 1, x, ha, h, hp => by
    unfold firstBad
    cases e : parse y with
    | none => exact absurd e (ha y (by simp))
    | some r =>
      have ih := firstBad_at (l := l) (i := i) (fun z hz => ha z (by simp [hz])) (by simpa using h) hp
      rw [ih]
      rfl
theorem firstBad_none : ∀ {l : List Str}, (∀ y ∈ l, parse y ≠ none) → firstBad l = none
  | [], _ => rfl
  | y :: l, ha => by
    unfold firstBad
    cases e : parse y with
    | none => exact absurd e (ha y (List.mem_cons_self ..))
    | some r =>
      rw [firstBad_none fun z hz => ha z (List.mem_cons_of_mem _ hz)]
      rfl
theorem rowsOf_len : ∀ {l : List Str}, (rowsOf l).length ≤ l.length
  | [] => Nat.le_refl _
  | x :: l => by
    unfold rowsOf
    have := rowsOf_len (l := l)
    cases parse x with
    | none => simp only [List.length_cons]; omega
    | some r => simp only [List.length_cons]; omega
/-- a Program with the text x stands at a -/
def progF (x : Str) (t : V) : List (Str × V) := [("text", .str x), ("steps", t)]
structure ProgAt (K : PySem.W.Frag) (C CS : Addr) (H : Hp) (a : Addr) (x : Str) (ps : List (Str × Row)) : Prop where
  ex : ∃ dx t xs, H a = some (.ins C dx (progF x (.ref t))) ∧ H t = some (.tup xs) ∧ StepsAt K CS H xs ps
theorem ProgAt.same {K : PySem.W.Frag} {C CS : Addr} {H H' : Hp} {a : Addr} {x : Str} {ps : List (Str × Row)} (S : ProgAt K C CS H a x ps) (s : Same H H') : ProgAt K C CS H' a x ps := by
  obtain ⟨dx, t, xs, h, h1, h2⟩ := S.ex
  exact ⟨dx, t, xs, s _ _ h, s _ _ h1, h2.same s⟩
def spPInit (K : PySem.W.Frag) (C CS CB CI CM : Addr) : Sp := fun vs H Q E => ∃ (a dx : Addr) (v : V), vs = [.ref a, v] ∧ H a = some (.ins C dx []) ∧ VOk H v ∧
  (isStr v = false → ∀ d H', Same H H' → H d = none → H' d = some (.xd [("text", v)]) → E (.ref CB) (some d) H') ∧
  (∀ x, v = .str x → ∀ i, firstBad (partsOf x) = some i → ∀ d H', Same H H' → H d = none → H' d = some (.xd [("index", .int (i : Nat))]) → E (.ref CI) (some d) H') ∧
  (∀ x, v = .str x → firstBad (partsOf x) = none → ∀ m, boundsE (rowsOf (partsOf x)) = some m → ∀ d H', Same H H' → H d = none → H' d = some (.xd [("most", .int m)]) → E (.ref CM) (some d) H') ∧
  (∀ x, v = .str x → firstBad (partsOf x) = none → boundsE (rowsOf (partsOf x)) = none → ∀ H', (∀ b o, H b = some o → b ≠ a → H' b = some o) → ProgAt K C CS H' a x (rowsOf (partsOf x)) → Q .non H')
structure TxtR (P : Program) (K : PySem.W.Frag) (mg : Str → Option Value) (C CI fB : Addr) : Prop where
  isi : mg "isinstance" = none
  str : mg "str" = none
  tup : mg "tuple" = none
  enum : mg "enumerate" = none
  gB : mg "check_bounds" = some (.ref fB)
  bi : Err P K mg "BadStep" "index" "index" CI
  cl : Cls K C
  nT : NoAttr K C "text"
  nS : NoAttr K C "steps"
theorem passE {X : Cx} (σ : Aw.St) : PassesAt (L2.CX X.prog X.w) X σ ((fun _ => E0 : Aw.St → XK) σ) := fun _ _ _ _ _ _ c => by
  obtain ⟨_, _, _, _, _, _, _, _, _, _, _, _, h⟩ := c
  exact h.elim
section
variable {P : Program} {w : World} {K : PySem.W.Frag} {mg : Str → Option Value} {base : Heap} {C CS CB CI CM fP fI fB : Addr} {t5 t2 : Tok} {dN dR tK : Addr} {eN eR : Array DictEntry} {nN nR : Nat}
theorem strIx {l : List Str} {r : Nat} {v : V} (h : (l.map V.str)[r]? = some v) : ∃ z, l[r]? = some z ∧ v = .str z := by
  rw [List.getElem?_map] at h
  cases e : l[r]? with
  | none => rw [e] at h; cases h
  | some z => rw [e] at h; cases h; exact ⟨z, rfl, rfl⟩
theorem ne_ts : ¬ (("text" : Str) = "steps") := by decide +kernel
theorem pText {x : Str} {t : V} : (progF x t).lookup ("text" : Str) = some (.str x) := lk1
theorem pSteps {x : Str} {t : V} : (progF x t).lookup ("steps" : Str) = some t := (lkk (fun z => ne_ts z.symm)).trans lk1
theorem pNo {x m : Str} {t : V} (h1 : ¬ m = "text") (h2 : ¬ m = "steps") : (progF x t).lookup m = none := (lkk h1).trans ((lkk h2).trans rfl)
theorem putS {a v : V} : putF "steps" v ([("text", a)] : List (Str × V)) = ([("text", a), ("steps", v)] : List (Str × V)) := by
  show (if ("text" : Str) = "steps" then _ else (("text" : Str), a) :: putF "steps" v []) = _
  rw [if_neg ne_ts]
  rfl
theorem ite_parts {x : Str} {σ : Aw.St} {H : Hp} {Q : VK} (hx : x.length ≤ 1000) (k : ∀ lp H1, Same H H1 → H1 lp = some (.lst ((partsOf x).map V.str)) → Q (.ref lp) H1) (hσ : σ[1]? = some (some (.str x))) :
    if decide (V.str x = V.str "") = true then tLst tNil σ H Q else tM1 (fun x xs H Q => ∃ a b, x = V.str a ∧ xs = [V.str b] ∧ (b.length == 0) = false ∧ a.length + 2 ≤ sizeLine ∧ rNewStrs (Txt.split a b) H Q) (tVar 1) (tC (V.str " then ")) σ H Q := by
  refine ite_str (fun e => ?_) (fun e => ?_)
  · refine ⟨by show 0 ≤ sizeLine; decide, fun l hl => k l _ (same_upd hl) ?_⟩
    rw [partsOf, if_pos e]
    exact upd_same
  · refine ⟨_, hσ, ⟨_, rfl⟩, x, " then ", rfl, rfl, by decide +kernel, Nat.le_trans (by omega : x.length + 2 ≤ 2000) (by decide), fun l hl => k l _ (same_upd hl) ?_⟩
    rw [partsOf, if_neg e]
    exact upd_same
theorem make_parse {H : Hp} {x : Str} {r : Row} (hp : parse x = some r) (hl : x.length ≤ 1000) {G : Addr → Hp → Prop} (k : ∀ a H', Same H H' → StepAt K CS H' a x r → G a H') : ∀ y dx, H y = none → H dx = none → dx ≠ y →
    spInit K CS CB [.ref y, .str x] (upd (upd H dx (.own y)) y (.ins CS dx [])) (fun v H2 => v = .non ∧ G y H2) E0 := by
  intro y dx hy hdx ne
  have hy' : upd H dx (.own y) y = none := by rw [upd_ne (Ne.symm ne)]; exact hy
  have s2 := (same_upd (o := .own y) hdx).trans (same_upd (o := .ins CS dx []) hy')
  refine ⟨y, dx, .str x, rfl, upd_same, .str _ hl, fun hn => ?_, fun z r' hz hr H2 sb sa => ?_⟩
  · rw [show parseV (.str x) = parse x from rfl, hp] at hn
    cases hn
  · cases hz
    rw [hp] at hr
    cases hr
    exact ⟨rfl, k y H2 (fun c o e => sb c o (s2 c o e) (fun z => by rw [z, hy] at e; cases e)) sa⟩
theorem StepAt.but {H H' : Hp} {a b dx : Addr} {fs : List (Str × V)} {x : Str} {r : Row} (S : StepAt K CS H b x r) (ha : H a = some (.ins C dx fs)) (hf : fs.length < 4) (k : ∀ c o, H c = some o → c ≠ a → H' c = some o) : StepAt K CS H' b x r := by
  obtain ⟨ex, bv, tv, h, h1, h2⟩ := S.ex
  have nb : b ≠ a := ne_of h ha (fun z => by
    cases z
    exact absurd hf (by show ¬ 4 < 4; decide))
  have tk : TK H H' := ⟨fun c ys e => k c _ e (ne_of e ha (fun z => by cases z)), fun c o ys e => k c _ e (ne_of e ha (fun z => by cases z))⟩
  exact ⟨⟨ex, bv, tv, k _ _ h nb, h1.keep tk, h2.keep tk⟩, S.pr⟩
theorem StepsAt.but {H H' : Hp} {a dx : Addr} {fs : List (Str × V)} (ha : H a = some (.ins C dx fs)) (hf : fs.length < 4) (k : ∀ c o, H c = some o → c ≠ a → H' c = some o) : ∀ {vs : List V} {ps : List (Str × Row)}, StepsAt K CS H vs ps → StepsAt K CS H' vs ps
  | _, _, .nil => .nil
  | _, _, .cons h r => .cons (h.but ha hf k) (StepsAt.but ha hf k r)
theorem StepAt.lst {H : Hp} {l b : Addr} {ws : List V} {o : HO} {x : Str} {r : Row} (S : StepAt K CS H b x r) (h : H l = some (.lst ws)) : StepAt K CS (upd H l o) b x r := by
  obtain ⟨ex, bv, tv, e, h1, h2⟩ := S.ex
  exact ⟨⟨ex, bv, tv, by rw [upd_ne (ne_of e h (fun z => by cases z))]; exact e, h1.keep (TK.lst h), h2.keep (TK.lst h)⟩, S.pr⟩
theorem StepsAt.lst {H : Hp} {l : Addr} {ws : List V} {o : HO} (h : H l = some (.lst ws)) : ∀ {vs : List V} {ps : List (Str × Row)}, StepsAt K CS H vs ps → StepsAt K CS (upd H l o) vs ps
  | _, _, .nil => .nil
  | _, _, .cons a r => .cons (a.lst h) (StepsAt.lst h r)
theorem scPInit : FnScope ["self", "text", "parts", "steps", "index", "part"] ["self", "text"] (defScope sPInit) := ⟨rfl, rfl, rfl, by decide +kernel, rfl, by decide +kernel, by decide +kernel⟩
theorem ok_pinit {f : Addr} {fd gd id bd : FuncData} (F : Fun K "__init__" "Program.__init__" sPInit f fd) (O : TxtO P K mg CS CB fP fI) (R : TxtR P K mg C CI fB) (T : TxtS K w mg dN dR tK eN eR nN nR) (G : Fun K "step_parts" "step_parts" sParts fP gd) (bG : Binds K gd ["text"] [])
    (FI : Fun K "__init__" "Step.__init__" sInit fI id) (bI : Binds K id ["self", "text"] []) (B : TxtB P K mg CS CM t5 t2) (FB : Fun K "check_bounds" "check_bounds" sBounds fB bd) (bB : Binds K bd ["steps"] []) : FnOk P w K mg base (L2.CX P w) 5 f fd ["self", "text"] (spPInit K C CS CB CI CM) := by
  have GP : FnOk P w K mg base CX0 1 fP gd ["text"] (spParts K) := ok_parts G T
  have GI : FnOk P w K mg base (L2.CX P w) 3 fI id ["self", "text"] (spInit K CS CB) := ok_init FI O T G bG
  have GB : FnOk P w K mg base (L2.CX P w) 3 fB bd ["steps"] (spBounds K CS CM) := ok_bounds FB B
  refine F.okX scPInit (fun vs H Q E h => ?_) (fun cdv A outer s H vs Q E hr h => ?_)
  · obtain ⟨a, dx, v, rfl, _⟩ := h
    rfl
  · obtain ⟨a, dx, v, rfl, ha, hv, kB, kI, kM, kQ⟩ := h
    have nd := scPInit.nd
    refine ⟨_, (pss_cons (ps_if (pt_not (pt_val (pe_callB call_isi (by rfl) R.isi (by decide +kernel) (pa_cons (pv 1) (pa_cons (pe_bltn (v := .ty "str") (by rfl) R.str (by decide +kernel) rfl) pa_nil)))))
        (pss_one (ps_raise rfl (takes_of rfl rfl rfl rfl) (pmk_err O.bt (hr.mono (by decide)) (by rfl) (pa_cons (pv 1) pa_nil)))) pss_nil)
      (pss_cons (ps_set (i := 2) nd rfl (Or.inl rfl) (pe_ifExp (pt_cmpR op_eq (pv 1) pe_str (nomark _)) (pe_lst pa_nil) (pe_split (pv 1) pe_str)))
      (pss_cons (ps_set (i := 3) nd rfl (Or.inl rfl) (pe_lst pa_nil))
      (pss_cons (ps_for (passes_of rfl) rfl (pi_enum (by rfl) R.enum (pa_cons (pv 2) pa_nil)) (pg_tup rfl (pgs_cons (pg_name (i := 4) nd rfl (Or.inl rfl)) (pgs_cons (pg_name (i := 5) nd rfl (Or.inl rfl)) pgs_nil)))
        (pss_cons (ps_if (pt_cmpR op_isN (pe_call GP (hr.mono (by decide)) (by rfl) O.parts G.kp bG .nil pass0 (pa_cons (pv 5) pa_nil)) pe_non (nomark _))
          (pss_one (ps_raise rfl (takes_of rfl rfl rfl rfl) (pmk_err R.bi (hr.mono (by decide)) (by rfl) (pa_cons (pv 4) pa_nil)))) pss_nil)
        (pss_one (ps_expr (pe_bm PySem.F.plainAttrs_list PySem.F.slot_list_append PySem.F.type_list_append mt_append (pv 3) (pa_cons (pe_makeS O.mkr GI hr (by rfl) O.g bI (fun σ => passE σ) (pa_cons (pv 5) pa_nil)) pa_nil))))))
      (pss_cons (ps_expr (pe_callS GB (hr.mono (by decide)) (by rfl) R.gB FB.kp bB (fun σ => passAt (takes_of rfl rfl rfl rfl) σ) (pa_cons (pv 3) pa_nil)))
      (pss_cons (ps_fld (pv 0) (pv 1) rfl)
      (pss_one (ps_fld (pv 0) (pe_callTy call_tuple_of (by rfl) R.tup (by decide +kernel) (pa_cons (pv 3) pa_nil)) rfl)))))))), ?_⟩
    obtain ⟨t, ty, kt⟩ := hv.isi (K := K)
    refine ⟨_, rfl, v, .ty "str", t, .type "str", isStr v, rfl, .ty _, ty, kt, _, rfl, ?_⟩
    have raiseB : isStr v = false → ∀ d, H d = none → E (.ref CB) (some d) (upd H d (.xd [("text", v)])) := fun e d hd => kB e d _ (same_upd hd) hd upd_same
    cases hv with
    | str x hx =>
      refine iteF ?_
      refine ⟨_, rfl, rfl, _, rfl, ?_⟩
      refine ite_parts hx (fun lp H1 s1 e1 => ?_) rfl
      have ha1 := s1 _ _ ha
      obtain ⟨L, hL⟩ : ∃ L, partsOf x = L := ⟨_, rfl⟩
      have lL : L.length ≤ 1002 := by rw [← hL]; exact partsOf_len hx
      have sL : ∀ y ∈ L, y.length ≤ 1000 := fun y hy => Nat.le_trans (partsOf_short (by rw [hL]; exact hy)) hx
      have kI := kI x rfl
      have kM := kM x rfl
      have kQ := kQ x rfl
      rw [hL] at e1 kI kM kQ
      refine ⟨by show 0 ≤ sizeLine; decide, fun ls hls => ?_⟩
      have s2 := s1.trans (same_upd (o := .lst []) hls)
      have e12 : upd H1 ls (.lst []) lp = some (.lst (L.map V.str)) := same_upd hls _ _ e1
      refine ⟨_, rfl, lp, L.map V.str, rfl, SqL.of e12, ?_⟩
      refine for_enum (a := lp) (xs := L.map V.str) (fun i σ H3 => ∃ (v4 v5 : Option V) (xs : List V), σ = [some (.ref a), some (.str x), some (.ref lp), some (.ref ls), v4, v5] ∧ Same H1 H3 ∧ H3 ls = some (.lst xs) ∧ StepsAt K CS H3 xs (rowsOf (L.take i)) ∧ (∀ y ∈ L.take i, parse y ≠ none)) ⟨none, none, [], rfl, same_upd hls, upd_same, .nil, fun y hy => absurd hy (by simp)⟩ (fun i σ H3 hi p => by
        obtain ⟨_, _, _, _, s3, _⟩ := p
        exact SqL.of (s3 _ _ e1)) ?_ ?_
      · rintro i y σ H3 T hy ⟨v4, v5, xs, rfl, s3, e3, st3, np⟩ hT
        obtain ⟨z, hz2, rfl⟩ := strIx hy
        have hz := List.mem_of_getElem? hz2
        have sT := same_upd (o := .tup [.int (i : Nat), .str z]) hT
        refine ⟨T, _, rfl, SqT.of upd_same, rfl, _, _, rfl, _, _, rfl, rfl, ?_⟩
        have hzl := sL z hz
        refine ⟨_, rfl, .str z, rfl, .str z hzl, fun hn H4 s4 => ?_, fun r hp u H4 s4 du => ?_⟩
        · refine ⟨rfl, _, rfl, ?_⟩
          refine iteT ?_
          refine ⟨_, rfl, mkS_ans fun d hd => ?_⟩
          have sd : Same H H4 := ((s1.trans s3).trans sT).trans s4
          exact kI i (firstBad_at np hz2 hn) d _ (sd.trans (same_upd hd)) (sd.free hd) upd_same
        · have s34 : Same H3 H4 := sT.trans s4
          obtain ⟨tt, xx, rfl, _, _⟩ := du.of_tuple
          refine ⟨rfl, _, rfl, ?_⟩
          refine iteF ?_
          have e4 := s34 _ _ e3
          refine ⟨_, rfl, .inl ⟨rfl, _, SqL.of e4⟩, _, rfl, make_parse hp hzl fun b H5 s5 sa => ?_⟩
          have e5 := s5 _ _ e4
          have lx := st3.length
          have lr := rowsOf_len (l := L.take i)
          rw [List.length_take] at lr
          refine ⟨ls, xs, _, rfl, rfl, e5, Nat.lt_of_le_of_lt (by omega : xs.length ≤ 1002) (by decide), ?_⟩
          have et : L.take (i + 1) = L.take i ++ [z] := by
            rw [List.take_succ, hz2]
            rfl
          have st5 := (st3.same (s34.trans s5)).append (.cons sa .nil : StepsAt K CS H5 [.ref b] [(z, r)])
          refine ⟨_, _, xs ++ [.ref b], rfl, same_fresh hls (s3.trans (s34.trans s5)), upd_same, ?_, fun y hy => ?_⟩
          · rw [et, rowsOf_append, rowsOf_yes hp]
            exact st5.lst e5
          · rw [et] at hy
            rcases List.mem_append.mp hy with h | h
            · exact np y h
            · rw [List.mem_singleton.mp h, show parse z = some r from hp]
              exact fun z => by cases z
      · rintro σ H3 ⟨v4, v5, xs, rfl, s3, e3, st3, np⟩
        rw [List.length_map, List.take_of_length_le (Nat.le_refl _)] at st3 np
        have fb := firstBad_none np
        have lr := rowsOf_len (l := L)
        have sH : Same H H3 := s1.trans s3
        refine ⟨_, rfl, ls, xs, _, rfl, e3, st3, by omega, fun m hm d H4 s4 hd e4 => ?_, fun hb H4 s4 => ?_⟩
        · exact kM fb m hm d H4 (sH.trans s4) (sH.free hd) e4
        · have ha4 := s4 _ _ (sH _ _ ha)
          have e4 := s4 _ _ e3
          have st4 := st3.same s4
          refine ⟨_, rfl, _, rfl, a, C, dx, [], rfl, ha4, R.cl, R.nT, (by show 0 < 1000; decide), ?_⟩
          rw [put1]
          have nal : ls ≠ a := ne_of e4 ha4 (fun z => by cases z)
          have e5 : upd H4 a (.ins C dx [("text", .str x)]) ls = some (.lst xs) := by rw [upd_ne nal]; exact e4
          refine ⟨_, rfl, ls, xs, rfl, .inl ⟨SqL.of e5, fun t ht => ?_⟩⟩
          have nat : a ≠ t := ne_of_none upd_same ht
          have ha6 : upd (upd H4 a (.ins C dx [("text", .str x)])) t (.tup xs) a = some (.ins C dx [("text", .str x)]) := by rw [upd_ne nat, upd_same]
          refine ⟨_, rfl, a, C, dx, [("text", .str x)], rfl, ha6, R.cl, R.nS, (by show 1 < 1000; decide), ?_⟩
          rw [putS]
          have but : ∀ c o, H4 c = some o → c ≠ a → upd (upd (upd H4 a (.ins C dx [("text", .str x)])) t (.tup xs)) a (.ins C dx [("text", .str x), ("steps", .ref t)]) c = some o := fun c o e ne => by
            have nt : c ≠ t := ne_of_none (show upd H4 a (.ins C dx [("text", .str x)]) c = some o by rw [upd_ne ne]; exact e) ht
            rw [upd_ne ne, upd_ne nt, upd_ne ne]
            exact e
          refine kQ fb hb _ (fun c o e ne => but c o (s4 _ _ (sH _ _ e)) ne) ⟨⟨dx, t, xs, upd_same, ?_, st4.but ha4 (by show 0 < 4; decide) but⟩⟩
          rw [upd_ne nat.symm, upd_same]
    | _ =>
      refine iteT ?_
      refine ⟨_, rfl, mkS_ans fun d hd => raiseB rfl d hd⟩
end
end Aw

namespace Aw
open PySem PySem.Spec PyProof.Rows L2 NdefX
/-! ### texts of steps, joined and split -/
def sepT : List Nat := TL.tl " then "
theorem pre_long {S l r : List Nat} (h : S.length ≤ l.length) : TL.pre S (l ++ r) = TL.pre S l := by
  unfold TL.pre
  rw [List.take_append_of_le_length h]
def freeT (x : Str) : Bool := (List.range x.length).all fun i => !TL.pre sepT ((TL.tl x ++ sepT).drop i) && !TL.pre sepT ((TL.tl x).drop i)
theorem known_free : ∀ p ∈ known, freeT p.1 = true := by decide +kernel
theorem free_at {x : Str} (h : freeT x = true) {i : Nat} (hi : i < (TL.tl x).length) : TL.pre sepT ((TL.tl x ++ sepT).drop i) = false ∧ TL.pre sepT ((TL.tl x).drop i) = false := by
  have h2 := List.all_eq_true.mp h i (List.mem_range.mpr hi)
  rw [Bool.and_eq_true] at h2
  obtain ⟨a, b⟩ := h2
  exact ⟨by simpa using a, by simpa using b⟩
theorem free_part {x : Str} (h : freeT x = true) {rest : List Nat} : ∀ i, i < (TL.tl x).length → TL.pre sepT ((TL.tl x ++ (sepT ++ rest)).drop i) = false := fun i hi => by
  rw [← List.append_assoc, List.drop_append_of_le_length (by rw [List.length_append]; omega), pre_long (by rw [List.length_drop, List.length_append]; omega)]
  exact (free_at h hi).1
theorem spl_free : ∀ {l : List Str}, l ≠ [] → (∀ x ∈ l, freeT x = true) → TL.spl sepT 0 [] (TL.joinL sepT (l.map TL.tl)) = l.map TL.tl
  | [], h, _ => absurd rfl h
  | [x], _, hp => by
    show TL.spl sepT 0 [] (TL.tl x) = [TL.tl x]
    rw [TL.spl_last fun i hi => (free_at (hp x (List.mem_singleton.mpr rfl)) hi).2, List.nil_append]
  | x :: y :: r, _, hp => by
    show TL.spl sepT 0 [] (TL.tl x ++ (sepT ++ TL.joinL sepT ((y :: r).map TL.tl))) = TL.tl x :: (y :: r).map TL.tl
    rw [TL.spl_part (by decide +kernel) (free_part (hp x (List.mem_cons_self ..))), List.nil_append, spl_free (by simp) fun z hz => hp z (List.mem_cons_of_mem _ hz)]
theorem split_free {l : List Str} (hne : l ≠ []) (hp : ∀ x ∈ l, freeT x = true) : Txt.split (Str.join " then " l) " then " = l := by
  refine TL.map_tl_inj ?_
  rw [TL.split_spl _ " then " (by decide +kernel) (TL.kind_ok (by decide +kernel)), TL.tl_join]
  exact spl_free hne hp
/-- the text of a row of steps -/
def textP (ps : List (Str × Row)) : Str := Str.join " then " (ps.map (·.1))
theorem join_ne : ∀ {l : List Str}, l ≠ [] → (∀ x ∈ l, 0 < x.length) → Str.join " then " l ≠ ""
  | [], h, _ => absurd rfl h
  | [x], _, hp => fun e => by
    have e : x = "" := e
    have := hp x (List.mem_singleton.mpr rfl)
    rw [e] at this
    exact absurd this (by decide +kernel)
  | x :: y :: r, _, hp => fun e => by
    have e : x ++ " then " ++ Str.join " then " (y :: r) = "" := e
    have h1 := congrArg Str.length e
    rw [Str.length_append, Str.length_append] at h1
    have h2 := hp x (List.mem_cons_self ..)
    have h3 : ("" : Str).length = 0 := rfl
    omega
theorem known_long : ∀ p ∈ known, 0 < p.1.length := by decide +kernel
theorem partsOf_textP {ps : List (Str × Row)} (h : ∀ p ∈ ps, p ∈ known) : partsOf (textP ps) = ps.map (·.1) := by
  cases ps with
  | nil => rfl
  | cons p ps =>
    have hk : ∀ x ∈ (p :: ps).map (·.1), ∃ q ∈ known, x = q.1 := fun x hx => by
      obtain ⟨q, hq, rfl⟩ := List.mem_map.mp hx
      exact ⟨q, h q hq, rfl⟩
    have hne : (p :: ps).map (·.1) ≠ [] := by simp
    unfold partsOf textP
    rw [if_neg (join_ne hne fun x hx => by obtain ⟨q, hq, rfl⟩ := hk x hx; exact known_long q hq)]
    exact split_free hne fun x hx => by obtain ⟨q, hq, rfl⟩ := hk x hx; exact known_free q hq
theorem rowsOf_known : ∀ {ps : List (Str × Row)}, (∀ p ∈ ps, p ∈ known) → rowsOf (ps.map (·.1)) = ps ∧ firstBad (ps.map (·.1)) = none
  | [], _ => ⟨rfl, rfl⟩
  | p :: ps, h => by
    have hp : parse p.1 = some p.2 := parse_iff.mpr (h p (List.mem_cons_self ..))
    obtain ⟨h1, h2⟩ := rowsOf_known (ps := ps) fun q hq => h q (List.mem_cons_of_mem _ hq)
    refine ⟨?_, firstBad_none fun y hy => ?_⟩
    · rw [List.map_cons, rowsOf_yes hp, h1]
    · obtain ⟨q, hq, rfl⟩ := List.mem_map.mp hy
      rw [show parse q.1 = some q.2 from parse_iff.mpr (h q hq)]
      exact fun z => by cases z
end Aw

namespace Aw
open PySem PySem.Spec PyProof.Rows L2 NdefX
theorem join_len (s : Str) : ∀ l : List Str, (Str.join s l).length ≤ (l.map (·.length)).sum + l.length * s.length
  | [] => Nat.zero_le _
  | [x] => by
    show x.length ≤ (x.length + 0) + 1 * s.length
    omega
  | x :: y :: r => by
    show (x ++ s ++ Str.join s (y :: r)).length ≤ (x.length + ((y :: r).map (·.length)).sum) + ((y :: r).length + 1) * s.length
    have ih := join_len s (y :: r)
    rw [Str.length_append, Str.length_append, Nat.add_mul, Nat.one_mul]
    omega
theorem known20 : ∀ p ∈ known, p.1.length ≤ 20 := by decide +kernel
theorem sum20 : ∀ {ps : List (Str × Row)}, (∀ p ∈ ps, p ∈ known) → ((ps.map (·.1)).map (·.length)).sum ≤ 20 * ps.length
  | [], _ => Nat.zero_le _
  | p :: ps, h => by
    have h1 := known20 p (h p (List.mem_cons_self ..))
    have h2 := sum20 (ps := ps) fun q hq => h q (List.mem_cons_of_mem _ hq)
    simp only [List.map_cons, List.sum_cons, List.length_cons]
    omega
theorem StepsAt.known {K : PySem.W.Frag} {C : Addr} {H : Hp} : ∀ {vs : List V} {ps : List (Str × Row)}, StepsAt K C H vs ps → ∀ p ∈ ps, p ∈ known
  | _, _, .nil, _, hp => absurd hp (by simp)
  | _, _, .cons (p := q) h r, p, hp => by
    rcases List.mem_cons.mp hp with e | e
    · subst e
      exact parse_iff.mp h.pr
    · exact StepsAt.known r p e
def spJoined (K : PySem.W.Frag) (C CS CM : Addr) : Sp := fun vs H Q E => ∃ (l : Addr) (xs : List V) (ps : List (Str × Row)), vs = [.ref l] ∧ (H l = some (.lst xs) ∨ H l = some (.tup xs)) ∧ StepsAt K CS H xs ps ∧ ps.length ≤ 30 ∧
  (∀ m, boundsE ps = some m → ∀ d H', Same H H' → H d = none → H' d = some (.xd [("most", .int m)]) → E (.ref CM) (some d) H') ∧
  (boundsE ps = none → ∀ a H', Same H H' → ProgAt K C CS H' a (textP ps) ps → Q (.ref a) H')
structure TxtJ (K : PySem.W.Frag) (mg : Str → Option Value) (C CS fPI : Addr) : Prop where
  g : mg "Program" = some (.ref C)
  mkr : Mk K C fPI
  cs : Cls K CS
  nT : NoAttr K CS "text"
section
variable {P : Program} {w : World} {K : PySem.W.Frag} {mg : Str → Option Value} {base : Heap} {C CS CB CI CM fPI : Addr}
theorem scJoined : FnScope ["steps", "step"] ["steps"] (defScope sJoined) := ⟨rfl, rfl, rfl, by decide +kernel, rfl, by decide +kernel, by decide +kernel⟩
/-- the text, made a Program -/
theorem make_prog {H : Hp} {ps : List (Str × Row)} (hk : ∀ p ∈ ps, p ∈ known) (hn : ps.length ≤ 30) {G : Addr → Hp → Prop} {E : XK}
    (kE : ∀ m, boundsE ps = some m → ∀ d H', Same H H' → H d = none → H' d = some (.xd [("most", .int m)]) → E (.ref CM) (some d) H')
    (kQ : boundsE ps = none → ∀ a H', Same H H' → ProgAt K C CS H' a (textP ps) ps → G a H') : ∀ y dx, H y = none → H dx = none → dx ≠ y →
    spPInit K C CS CB CI CM [.ref y, .str (textP ps)] (upd (upd H dx (.own y)) y (.ins C dx [])) (fun v H2 => v = .non ∧ G y H2) E := by
  intro y dx hy hdx ne
  have hy' : upd H dx (.own y) y = none := by rw [upd_ne (Ne.symm ne)]; exact hy
  have s2 := (same_upd (o := .own y) hdx).trans (same_upd (o := .ins C dx []) hy')
  have e1 := partsOf_textP hk
  obtain ⟨e2, e3⟩ := rowsOf_known hk
  have hl : (textP ps).length ≤ 1000 := by
    have h1 := join_len " then " (ps.map (·.1))
    have h2 := sum20 hk
    rw [List.length_map, show (" then " : Str).length = 6 from rfl] at h1
    unfold textP
    omega
  refine ⟨y, dx, .str (textP ps), rfl, upd_same, .str _ hl, fun z => Bool.noConfusion z, fun x hx i hi => ?_, fun x hx hf m hm d H' s' hd e => ?_, fun x hx hf hb H' but pa => ?_⟩
  · cases hx
    rw [e1, e3] at hi
    cases hi
  · cases hx
    rw [e1, e2] at hm
    exact kE m hm d H' (s2.trans s') (s2.free hd) e
  · cases hx
    rw [e1, e2] at hb pa
    exact ⟨rfl, kQ hb y H' (fun c o e => but c o (s2 c o e) (fun z => by rw [z, hy] at e; cases e)) pa⟩
theorem ok_joined {f : Addr} {fd id : FuncData} (F : Fun K "joined" "joined" sJoined f fd) (J : TxtJ K mg C CS fPI) (GI : FnOk P w K mg base (L2.CX P w) 5 fPI id ["self", "text"] (spPInit K C CS CB CI CM)) (bI : Binds K id ["self", "text"] []) :
    FnOk P w K mg base (L2.CX P w) 7 f fd ["steps"] (spJoined K C CS CM) := by
  refine F.okX scJoined (fun vs H Q E h => ?_) (fun cdv A outer s H vs Q E hr h => ?_)
  · obtain ⟨l, xs, ps, rfl, _⟩ := h
    rfl
  · obtain ⟨l, xs, ps, rfl, hl, hS, hn, kE, kQ⟩ := h
    have nd := scJoined.nd
    have lx := hS.length
    have hk := hS.known
    rcases hl with hl | hl
    · refine ⟨_, (pss_one (ps_ret (pe_makeS J.mkr GI hr (by rfl) J.g bI (fun σ => passAt (takes_of rfl rfl rfl rfl) σ) (pa_cons (pe_join pe_str (pe_lc (own := [("step", 1)]) (g := (gName 1)) (tt := tYes) rfl nd (pi_list (pv 0)) (blkOk_by (own := [("step", 1)]) (N := ["steps", "step"]) (sc := defScope sJoined) (by decide +kernel)) (fun _ _ _ _ _ => (pg_name (i := 1) nd rfl (Or.inl rfl))) (fun _ _ _ _ _ => pts_nil) (fun _ _ _ _ _ => (show PE _ _ (tFld K (tVar 1) "text") from pe_fld (pv 1) rfl)))) pa_nil)))), ?_⟩
      refine ⟨⟨_, rfl⟩, _, rfl, l, rfl, ⟨xs, SqL.of hl⟩, fun D hD => ?_⟩
      refine lc_list (a := l) (xs := xs) (fun m H2 => Same H H2 ∧ H2 D = some (.lst ((ps.take m).map fun p => V.str p.1))) ⟨same_upd hD, upd_same⟩ (fun m H2 hm p => SqL.of (p.1 _ _ hl)) ?_ ?_
      · rintro m x H2 hx ⟨s2, e2⟩
        obtain ⟨a, p, ip, rfl, sa⟩ := (hS.same s2).get hx
        obtain ⟨dx, bv, tv, ea, _, _⟩ := sa.ex
        have et : ps.take (m + 1) = ps.take m ++ [p] := by
          rw [List.take_succ, ip]
          rfl
        refine ⟨rfl, _, rfl, a, CS, dx, _, _, rfl, ea, J.cs, J.nT, gText, _, e2, small200' (by rw [List.length_map, List.length_take]; omega), same_fresh hD s2, ?_⟩
        rw [upd_same, et, List.map_append]
        rfl
      · rintro H2 ⟨s2, e2⟩
        have e2 : H2 D = some (.lst ((ps.map (·.1)).map V.str)) := by
          rw [List.take_of_length_le (by omega)] at e2
          rw [List.map_map]
          exact e2
        have h2 := sum20 hk
        refine ⟨" then ", D, ps.map (·.1), rfl, rfl, .inl (SqL.of e2), by rw [List.length_map, show (" then " : Str).length = 6 from rfl]; omega, ?_⟩
        rw [TL.join_eq]
        exact make_prog hk hn (fun m hm d H' s' hd e => kE m hm d H' (s2.trans s') (s2.free hd) e) fun hb a H' s' pa => kQ hb a H' (s2.trans s') pa
    · refine ⟨_, (pss_one (ps_ret (pe_makeS J.mkr GI hr (by rfl) J.g bI (fun σ => passAt (takes_of rfl rfl rfl rfl) σ) (pa_cons (pe_join pe_str (pe_lc (own := [("step", 1)]) (g := (gName 1)) (tt := tYes) rfl nd (pi_tup (pv 0)) (blkOk_by (own := [("step", 1)]) (N := ["steps", "step"]) (sc := defScope sJoined) (by decide +kernel)) (fun _ _ _ _ _ => (pg_name (i := 1) nd rfl (Or.inl rfl))) (fun _ _ _ _ _ => pts_nil) (fun _ _ _ _ _ => (show PE _ _ (tFld K (tVar 1) "text") from pe_fld (pv 1) rfl)))) pa_nil)))), ?_⟩
      refine ⟨⟨_, rfl⟩, _, rfl, l, rfl, ⟨xs, SqT.of hl⟩, fun D hD => ?_⟩
      refine lc_tup (a := l) (xs := xs) (fun m H2 => Same H H2 ∧ H2 D = some (.lst ((ps.take m).map fun p => V.str p.1))) ⟨same_upd hD, upd_same⟩ (fun m H2 hm p => SqT.of (p.1 _ _ hl)) ?_ ?_
      · rintro m x H2 hx ⟨s2, e2⟩
        obtain ⟨a, p, ip, rfl, sa⟩ := (hS.same s2).get hx
        obtain ⟨dx, bv, tv, ea, _, _⟩ := sa.ex
        have et : ps.take (m + 1) = ps.take m ++ [p] := by
          rw [List.take_succ, ip]
          rfl
        refine ⟨rfl, _, rfl, a, CS, dx, _, _, rfl, ea, J.cs, J.nT, gText, _, e2, small200' (by rw [List.length_map, List.length_take]; omega), same_fresh hD s2, ?_⟩
        rw [upd_same, et, List.map_append]
        rfl
      · rintro H2 ⟨s2, e2⟩
        have e2 : H2 D = some (.lst ((ps.map (·.1)).map V.str)) := by
          rw [List.take_of_length_le (by omega)] at e2
          rw [List.map_map]
          exact e2
        have h2 := sum20 hk
        refine ⟨" then ", D, ps.map (·.1), rfl, rfl, .inl (SqL.of e2), by rw [List.length_map, show (" then " : Str).length = 6 from rfl]; omega, ?_⟩
        rw [TL.join_eq]
        exact make_prog hk hn (fun m hm d H' s' hd e => kE m hm d H' (s2.trans s') (s2.free hd) e) fun hb a H' s' pa => kQ hb a H' (s2.trans s') pa
end
end Aw

namespace Aw
open PySem PySem.Spec PyProof.Rows L2 NdefX
/-- an integer from lo to hi, no bool -/
def numB (v : V) (lo hi : Int) : Bool := match v with
  | .int i => decide (lo ≤ i) && decide (i ≤ hi)
  | _ => false
def isIB : V → Bool
  | .int _ => true
  | .bl _ => true
  | _ => false
def isBB : V → Bool
  | .bl _ => true
  | _ => false
theorem VOk.ty {K : PySem.W.Frag} {H : Hp} {v : V} (h : VOk H v) : ∃ t, TyX K H v t ∧ PySem.W.kitOne K t (.type "int") = some (isIB v) ∧ PySem.W.kitOne K t (.type "bool") = some (isBB v) := by
  cases h with
  | str x h => exact ⟨_, .base (.str x), kit_ty (show kitB "str" "int" = some false by decide +kernel), kit_ty (show kitB "str" "bool" = some false by decide +kernel)⟩
  | non => exact ⟨_, .base .non, kit_ty (show kitB "NoneType" "int" = some false by decide +kernel), kit_ty (show kitB "NoneType" "bool" = some false by decide +kernel)⟩
  | bl b => exact ⟨_, .base (.bl b), kit_ty (show kitB "bool" "int" = some true by decide +kernel), kit_ty (show kitB "bool" "bool" = some true by decide +kernel)⟩
  | int i => exact ⟨_, .base (.int i), kit_ty (show kitB "int" "int" = some true by decide +kernel), kit_ty (show kitB "int" "bool" = some false by decide +kernel)⟩
  | lst h => exact ⟨_, .base (.lst h), kit_ty (show kitB "list" "int" = some false by decide +kernel), kit_ty (show kitB "list" "bool" = some false by decide +kernel)⟩
  | tup h => exact ⟨_, .base (.tup h), kit_ty (show kitB "tuple" "int" = some false by decide +kernel), kit_ty (show kitB "tuple" "bool" = some false by decide +kernel)⟩
  | dct h => exact ⟨_, .base (.dK h), kit_ty (show kitB "dict" "int" = some false by decide +kernel), kit_ty (show kitB "dict" "bool" = some false by decide +kernel)⟩
def spNum : Sp := fun vs H Q _ => ∃ (v : V) (lo hi : Int), vs = [v, .int lo, .int hi] ∧ VOk H v ∧ Q (.bl (numB v lo hi)) H
section
variable {P : Program} {w : World} {K : PySem.W.Frag} {mg : Str → Option Value} {base : Heap}
theorem scNum : FnScope ["value", "low", "high"] ["value", "low", "high"] (defScope sNum) := ⟨rfl, rfl, rfl, by decide +kernel, rfl, by decide +kernel, by decide +kernel⟩
theorem ok_num {f : Addr} {fd : FuncData} (F : Fun K "is_number" "is_number" sNum f fd) (isi : mg "isinstance" = none) (gI : mg "int" = none) (gB : mg "bool" = none) : FnOk P w K mg base CX0 1 f fd ["value", "low", "high"] spNum := by
  refine F.ok scNum (fun vs H Q E h => ?_) (fun cdv A outer s H vs Q E hr h => ?_)
  · obtain ⟨v, lo, hi, rfl, _⟩ := h
    rfl
  · obtain ⟨v, lo, hi, rfl, hv, hQ⟩ := h
    have nd := scNum.nd
    refine ⟨_, (pss_one (ps_ret (pe_and (pe_callB call_isi (by rfl) isi (by decide +kernel) (pa_cons (pv 0) (pa_cons (pe_bltn (v := .ty "int") (by rfl) gI (by decide +kernel) rfl) pa_nil))) (pe_and (pe_not (pe_callB call_isi (by rfl) isi (by decide +kernel) (pa_cons (pv 0) (pa_cons (pe_bltn (v := .ty "bool") (by rfl) gB (by decide +kernel) rfl) pa_nil)))) (pe_one (pe_chain op_le op_le (pv 1) (pv 0) (pv 2))))))), ?_⟩
    obtain ⟨t, ty, kI, kB⟩ := hv.ty (K := K)
    refine ⟨_, rfl, v, .ty "int", t, .type "int", isIB v, rfl, .ty _, ty, kI, _, rfl, ?_⟩
    cases hv with
    | int i =>
      refine iteT ?_
      refine ⟨_, rfl, .int i, .ty "bool", t, .type "bool", false, rfl, .ty _, ty, kB, _, rfl, _, rfl, ?_⟩
      refine iteT ?_
      refine ⟨_, rfl, _, rfl, lo, i, rfl, rfl, _, rfl, ?_⟩
      change Q (.bl (decide (lo ≤ i) && decide (i ≤ hi))) H at hQ
      refine ite_dec (fun h => ?_) (fun h => ?_)
      · refine ⟨_, rfl, i, hi, rfl, rfl, ?_⟩
        rw [decide_eq_true h, Bool.true_and] at hQ
        exact hQ
      · rw [decide_eq_false h, Bool.false_and] at hQ
        exact hQ
    | bl b =>
      refine iteT ?_
      refine ⟨_, rfl, .bl b, .ty "bool", t, .type "bool", true, rfl, .ty _, ty, kB, _, rfl, _, rfl, ?_⟩
      exact iteF hQ
    | _ => exact iteF hQ
end
end Aw

namespace Aw
open PySem PySem.Spec PyProof.Rows L2 NdefX
/-- the place from which a move takes a bit -/
def placeF (k : Str) (by_ n i : Int) : Int :=
  if k = "turn" then n - 1 - i else if k = "roll" then (i - by_) % n else
  if k = "deal" then (if i < (n + 1) / 2 then 2 * i else 2 * (i - (n + 1) / 2) + 1) else
  if k = "undeal" then (if i % 2 = 0 then i / 2 else (n + 1) / 2 + i / 2) else
  if i % 2 = 1 then i - 1 else if n - 1 < i + 1 then n - 1 else i + 1
def chosenF (t : Option (Int × Int)) (i : Int) : Bool := match t with
  | none => true
  | some p => decide (i % p.2 = p.1)
def flipF (k : Str) (t : Option (Int × Int)) (n i : Int) : Bool := if k = "flip first" then decide (i = 0) else if k = "flip last" then decide (i = n - 1) else chosenF t i
theorem place_in {k : Str} {by_ n i : Int} (h0 : 0 ≤ i) (h1 : i < n) : 0 ≤ placeF k by_ n i ∧ placeF k by_ n i < n := by
  unfold placeF
  split
  · omega
  split
  · exact ⟨Int.emod_nonneg _ (by omega), Int.emod_lt_of_pos _ (by omega)⟩
  split
  · split <;> omega
  split
  · split <;> omega
  split
  · omega
  · split <;> omega
theorem dec_ints {i j : Int} : decide (V.int i = V.int j) = decide (i = j) := by
  by_cases e : i = j
  · rw [decide_eq_true e, decide_eq_true (by rw [e])]
  · rw [decide_eq_false e, decide_eq_false (fun z => e (V.int.inj z))]
/-- the attribute rest -/
def restOk (t : Option (Int × Int)) : Prop := ∀ p, t = some p → 0 < p.2 ∧ p.2 < 100
def spChosen (K : PySem.W.Frag) : Sp := fun vs H Q _ => ∃ (rv : V) (t : Option (Int × Int)) (i : Int), vs = [rv, .int i] ∧ Dq K H rv (restD t) ∧ restOk t ∧ Q (.bl (chosenF t i)) H
def spFlipd (K : PySem.W.Frag) : Sp := fun vs H Q _ => ∃ (k : Str) (rv : V) (t : Option (Int × Int)) (n i : Int), vs = [.str k, rv, .int n, .int i] ∧ Dq K H rv (restD t) ∧ restOk t ∧ Q (.bl (flipF k t n i)) H
def spPlace : Sp := fun vs H Q _ => ∃ (k : Str) (bv : V) (by_ n i : Int), vs = [.str k, bv, .int n, .int i] ∧ (k = "roll" → bv = .int by_) ∧ 0 < n ∧ n < 1000000 ∧ 0 ≤ i ∧ i < n ∧ Q (.int (placeF k by_ n i)) H
section
variable {P : Program} {w : World} {K : PySem.W.Frag} {mg : Str → Option Value} {base : Heap}
theorem scChosen : FnScope ["rest", "place"] ["rest", "place"] (defScope sChosen) := ⟨rfl, rfl, rfl, by decide +kernel, rfl, by decide +kernel, by decide +kernel⟩
theorem ok_chosen {f : Addr} {fd : FuncData} (F : Fun K "is_chosen" "is_chosen" sChosen f fd) : FnOk P w K mg base CX0 1 f fd ["rest", "place"] (spChosen K) := by
  refine F.ok scChosen (fun vs H Q E h => ?_) (fun cdv A outer s H vs Q E hr h => ?_)
  · obtain ⟨rv, t, i, rfl, _⟩ := h
    rfl
  · obtain ⟨rv, t, i, rfl, hd, hr2, hQ⟩ := h
    have nd := scChosen.nd
    refine ⟨_, (pss_one (ps_ret (pe_or (pe_cmpR op_isN (pv 0) pe_non (nomark _)) (pe_one (pe_cmpR op_eq (pe_op op_mod (pv 1) (pe_ix ix_tup (pv 0) pe_int (fun _ _ => rfl))) (pe_ix ix_tup (pv 0) pe_int (fun _ _ => rfl)) (nomark _)))))), ?_⟩
    cases t with
    | none =>
      obtain rfl := hd.of_none
      refine ⟨_, rfl, rfl, _, rfl, ?_⟩
      rw [decide_eq_true rfl]
      exact iteT hQ
    | some p =>
      obtain ⟨h1, h2⟩ := hr2 p rfl
      obtain ⟨a, xs, rfl, sq, dxs⟩ := hd.of_tuple
      cases dxs with
      | cons d1 dxs => cases dxs with
        | cons d2 dxs =>
          cases dxs
          obtain rfl := d1.of_int
          obtain rfl := d2.of_int
          refine ⟨_, rfl, rfl, _, rfl, ?_⟩
          rw [decide_eq_false (fun z => by cases z)]
          refine iteF ?_
          refine ⟨_, rfl, _, rfl, a, _, 1, _, rfl, rfl, sq, rfl, i, p.2, rfl, rfl, h1, _, rfl, a, _, 0, _, rfl, rfl, sq, rfl, rfl, ?_⟩
          rw [dec_ints]
          exact hQ
theorem scFlipd : FnScope ["kind", "rest", "size", "place"] ["kind", "rest", "size", "place"] (defScope sFlipd) := ⟨rfl, rfl, rfl, by decide +kernel, rfl, by decide +kernel, by decide +kernel⟩
theorem ok_flipd {f fC : Addr} {fd cd : FuncData} (F : Fun K "is_flipped" "is_flipped" sFlipd f fd) (FC : Fun K "is_chosen" "is_chosen" sChosen fC cd) (bC : Binds K cd ["rest", "place"] []) (gC : mg "is_chosen" = some (.ref fC)) : FnOk P w K mg base CX0 2 f fd ["kind", "rest", "size", "place"] (spFlipd K) := by
  have GC : FnOk P w K mg base CX0 1 fC cd ["rest", "place"] (spChosen K) := ok_chosen FC
  refine F.ok scFlipd (fun vs H Q E h => ?_) (fun cdv A outer s H vs Q E hr h => ?_)
  · obtain ⟨k, rv, t, n, i, rfl, _⟩ := h
    rfl
  · obtain ⟨k, rv, t, n, i, rfl, hd, hr2, hQ⟩ := h
    have nd := scFlipd.nd
    refine ⟨_, (pss_cons (ps_if (pt_cmpR op_eq (pv 0) pe_str (nomark _))
        (pss_one (ps_ret (pe_cmpR op_eq (pv 3) pe_int (nomark _)))) pss_nil)
      (pss_cons (ps_if (pt_cmpR op_eq (pv 0) pe_str (nomark _))
        (pss_one (ps_ret (pe_cmpR op_eq (pv 3) (pe_op op_sub (pv 2) pe_int) (nomark _)))) pss_nil)
      (pss_one (ps_ret (pe_call GC hr (by rfl) gC FC.kp bC .nil pass0 (pa_cons (pv 1) (pa_cons (pv 3) pa_nil))))))), ?_⟩
    unfold flipF at hQ
    refine ⟨_, rfl, rfl, _, rfl, ?_⟩
    refine ite_str (fun e => ?_) (fun e => ?_)
    · rw [if_pos e] at hQ
      refine ⟨_, rfl, rfl, ?_⟩
      rw [dec_ints]
      exact hQ
    rw [if_neg e] at hQ
    refine ⟨_, rfl, rfl, _, rfl, ?_⟩
    refine ite_str (fun e => ?_) (fun e => ?_)
    · rw [if_pos e] at hQ
      refine ⟨_, rfl, _, rfl, n, 1, rfl, rfl, rfl, ?_⟩
      rw [dec_ints]
      exact hQ
    rw [if_neg e] at hQ
    exact ⟨_, rfl, _, rfl, rv, t, i, rfl, hd, hr2, hQ⟩
theorem scPlace : FnScope ["kind", "by", "size", "place", "evens"] ["kind", "by", "size", "place"] (defScope sPlace) := ⟨rfl, rfl, rfl, by decide +kernel, rfl, by decide +kernel, by decide +kernel⟩
theorem ok_place {f : Addr} {fd : FuncData} (F : Fun K "place_from" "place_from" sPlace f fd) (gMin : mg "min" = none) : FnOk P w K mg base CX0 1 f fd ["kind", "by", "size", "place"] spPlace := by
  refine F.ok scPlace (fun vs H Q E h => ?_) (fun cdv A outer s H vs Q E hr h => ?_)
  · obtain ⟨k, bv, b, n, i, rfl, _⟩ := h
    rfl
  · obtain ⟨k, bv, b, n, i, rfl, hb, n0, n1, i0, i1, hQ⟩ := h
    have nd := scPlace.nd
    refine ⟨_, (pss_cons (ps_if (pt_cmpR op_eq (pv 0) pe_str (nomark _))
        (pss_one (ps_ret (pe_op op_sub (pe_op op_sub (pv 2) pe_int) (pv 3)))) pss_nil)
      (pss_cons (ps_if (pt_cmpR op_eq (pv 0) pe_str (nomark _))
        (pss_one (ps_ret (pe_op op_mod (pe_op op_sub (pv 3) (pv 1)) (pv 2)))) pss_nil)
      (pss_cons (ps_set (i := 4) nd rfl (Or.inl rfl) (pe_op op_fdiv (pe_op op_add (pv 2) pe_int) pe_int))
      (pss_cons (ps_if (pt_cmpR op_eq (pv 0) pe_str (nomark _))
        (pss_one (ps_ret (pe_ifExp (pt_cmpR op_lt (pv 3) (pv 4) (nomark _)) (pe_op op_mul pe_int (pv 3)) (pe_op op_add (pe_op op_mul pe_int (pe_op op_sub (pv 3) (pv 4))) pe_int)))) pss_nil)
      (pss_cons (ps_if (pt_cmpR op_eq (pv 0) pe_str (nomark _))
        (pss_one (ps_ret (pe_ifExp (pt_cmpR op_eq (pe_op op_mod (pv 3) pe_int) pe_int (nomark _)) (pe_op op_fdiv (pv 3) pe_int) (pe_op op_add (pv 4) (pe_op op_fdiv (pv 3) pe_int))))) pss_nil)
      (pss_cons (ps_if (pt_cmpR op_eq (pe_op op_mod (pv 3) pe_int) pe_int (nomark _))
        (pss_one (ps_ret (pe_op op_sub (pv 3) pe_int))) pss_nil)
      (pss_one (ps_ret (pe_callB (call_min2 rfl) (by rfl) gMin (by decide +kernel) (pa_cons (pe_op op_add (pv 3) pe_int) (pa_cons (pe_op op_sub (pv 2) pe_int) pa_nil))))))))))), ?_⟩
    unfold placeF at hQ
    refine ⟨_, rfl, rfl, _, rfl, ?_⟩
    refine ite_str (fun e => ?_) (fun e => ?_)
    · rw [if_pos e] at hQ
      exact ⟨_, rfl, n, 1, rfl, rfl, _, rfl, _, i, rfl, rfl, hQ⟩
    rw [if_neg e] at hQ
    refine ⟨_, rfl, rfl, _, rfl, ?_⟩
    refine ite_str (fun e => ?_) (fun e => ?_)
    · rw [if_pos e] at hQ
      exact ⟨_, rfl, _, rfl, i, b, rfl, hb e, _, rfl, _, n, rfl, rfl, n0, hQ⟩
    rw [if_neg e] at hQ
    refine ⟨_, rfl, n, 1, rfl, rfl, _, 2, rfl, rfl, ⟨by decide, by decide⟩, ?_⟩
    refine ⟨_, rfl, rfl, _, rfl, ?_⟩
    refine ite_str (fun e => ?_) (fun e => ?_)
    · rw [if_pos e] at hQ
      refine ⟨_, rfl, _, rfl, i, _, rfl, rfl, _, rfl, ?_⟩
      refine ite_dec (fun e2 => ?_) (fun e2 => ?_)
      · rw [if_pos e2] at hQ
        exact ⟨_, rfl, 2, i, rfl, rfl, .inl ⟨by decide, by decide⟩, hQ⟩
      · rw [if_neg e2] at hQ
        exact ⟨_, rfl, _, rfl, i, _, rfl, rfl, 2, _, rfl, rfl, .inl ⟨by decide, by decide⟩, _, 1, rfl, rfl, hQ⟩
    rw [if_neg e] at hQ
    refine ⟨_, rfl, rfl, _, rfl, ?_⟩
    refine ite_str (fun e => ?_) (fun e => ?_)
    · rw [if_pos e] at hQ
      refine ⟨_, rfl, i, 2, rfl, rfl, (by show (0 : Int) < 2; decide), rfl, _, rfl, ?_⟩
      refine ite_int (fun e2 => ?_) (fun e2 => ?_)
      · rw [if_pos e2] at hQ
        exact ⟨_, rfl, i, 2, rfl, rfl, ⟨by decide, by decide⟩, hQ⟩
      · rw [if_neg e2] at hQ
        exact ⟨_, rfl, _, rfl, i, 2, rfl, rfl, ⟨by decide, by decide⟩, _, _, rfl, rfl, hQ⟩
    rw [if_neg e] at hQ
    refine ⟨_, rfl, i, 2, rfl, rfl, (by show (0 : Int) < 2; decide), rfl, _, rfl, ?_⟩
    refine ite_int (fun e2 => ?_) (fun e2 => ?_)
    · rw [if_pos e2] at hQ
      exact ⟨_, rfl, i, 1, rfl, rfl, hQ⟩
    · rw [if_neg e2] at hQ
      exact ⟨_, rfl, i, 1, rfl, rfl, _, rfl, n, 1, rfl, rfl, _, _, rfl, hQ⟩
end
end Aw

namespace Aw
open PySem PySem.Spec PyProof.Rows L2 NdefX
/-! ### enumerate(tuple) -/
set_option maxHeartbeats 4000000 in
theorem meets_enum1 {v : Value} {o : Obj} {G : Heap → Prop} (B : Begins v o G) :
    Meets (Builtin.«enumerate.__new__» ⟨[.type "enumerate", v], []⟩) (fun _ R s => G s.heap ∧
      R (.ok (.ret (.ref (s.heap.push o).objs.size))) { s with heap := (s.heap.push o).push { cls := .type "enumerate", data := .fields #[.none, .bool false, .ref s.heap.objs.size, rawInt 0, .none, .none] } }) :=
  .of_wp fun prog w A R s h => by
    obtain ⟨hp, g, d, tk, os⟩ := s; obtain ⟨h1, h⟩ := h
    have hsub := sub_enumerate
    have q1 : ∀ {A' : Around} {E : Value → Shared → Prop} {Q : Value → Shared → Prop}, Q (.ref hp.objs.size) ⟨hp.push o, g, d, tk, os⟩ → wpAny (model prog w) A' (pyIter v) Q E ⟨hp, g, d, tk, os⟩ :=
      fun q => B.iter prog w _ _ ⟨hp, g, d, tk, os⟩ _ h1 q
    wp_walk using q1
    refine wpAny_stack_any fun st => wpAny_pure ?_
    split
    · rename_i c _ _ _ _ _
      cases (c == Value.type "enumerate")
      · wp_walk using q1
        exact ⟨_, rfl, h⟩
      · wp_walk using q1
        exact ⟨_, rfl, h⟩
    · wp_walk using q1
      exact ⟨_, rfl, h⟩
theorem enum_begins1 {prog : Program} {w : World} {A : Around} {E : Value → Shared → Prop} {s : Shared} {v : Value} {o : Obj} {G : Heap → Prop} {Q : Value → Shared → Prop} (B : Begins v o G) (h1 : G s.heap)
    (h : ∀ h', IsEnum h' (s.heap.objs.size + 1) s.heap.objs.size 0 .none → h'.get? s.heap.objs.size = some o → h'.objs.size = s.heap.objs.size + 2 →
      (∀ b o, s.heap.get? b = some o → h'.get? b = some o) → Q (.ref (s.heap.objs.size + 1)) { s with heap := h' }) :
    wpAny (model prog w) A (call (.type "enumerate") [v]) Q E s := by
  refine callType_new F.called_enumerate (by decide) (F.typeCall_enumerate_1 _) (F.newCall_enumerate_1 _) (fun obj => F.args_object_init_2 obj _) F.entry_enumerate_new (meets_enum1 B) ⟨h1, ?_⟩
  have hz : (s.heap.push o).objs.size = s.heap.objs.size + 1 := Heap.size_push ..
  show _ ∧ _
  rw [hz]
  have he : IsEnum ((s.heap.push o).push { cls := .type "enumerate", data := .fields #[.none, .bool false, .ref s.heap.objs.size, rawInt 0, .none, .none] }) (s.heap.objs.size + 1) s.heap.objs.size 0 .none := by
    have := Heap.get?_push_size (s.heap.push o) (o := { cls := .type "enumerate", data := .fields #[.none, .bool false, .ref s.heap.objs.size, rawInt 0, .none, .none] }) rfl
    rw [hz] at this; exact this
  refine ⟨⟨_, he, rfl⟩, h _ he (Heap.get?_push_of_some _ (Heap.get?_push_size _ B.free)) (by rw [Heap.size_push, hz]) fun b o x => Heap.get?_push_of_some _ (Heap.get?_push_of_some _ x)⟩
def Itu (K : PySem.W.Frag) (a : Addr) : It :=
  ⟨fun i H => ∃ (xs : List V) (x : V), SqT K H a xs ∧ xs[i]? = some x, fun i H v H' => ∃ T x, v = .ref T ∧ H T = none ∧ H' = upd H T (.tup [.int (i : Nat), x]) ∧ ∀ xs, SqT K H a xs → xs[i]? = some x, fun i H => ∃ xs : List V, SqT K H a xs ∧ xs.length ≤ i⟩
theorem tup_apart {h : Heap} {a it : Addr} {items : Array Value} {i : Nat} (p : h.IsTuple a items) (q : h.IsTupleIter it a i) : a ≠ it := fun e => by
  subst e
  obtain ⟨o, ho, hc, _⟩ := p
  obtain ⟨o', ho', hc', _⟩ := q
  rw [ho] at ho'
  cases ho'
  rw [hc] at hc'
  exact absurd (Value.type.inj hc') (by decide)
theorem enum_apart {h : Heap} {a e it : Addr} {items : Array Value} {i : Int} {old : Value} (p : h.IsTuple a items) (q : IsEnum h e it i old) : e ≠ a := fun z => by
  subst z
  obtain ⟨o, ho, hc, _⟩ := p
  have q : h.get? e = some _ := q
  rw [ho] at q
  cases q
  exact absurd (Value.type.inj hc) (by decide)
theorem enum_endT {prog : Program} {w : World} {A : Around} {E : Value → Shared → Prop} {s : Shared} {e it l : Addr} {i : Nat} {items : Array Value} {old : Value} {Q : Option Value → Shared → Prop} (hh : A.handled = none)
    (he : IsEnum s.heap e it i old) (hit : s.heap.IsTupleIter it l i) (hl : s.heap.IsTuple l items) (hx : items[i]? = none)
    (hQ : ∀ h', Heap.ExtBut it s.heap h' → Q none { s with heap := h' }) : wpAny (model prog w) A (pyNext (.ref e)) Q E s := by
  have hT : s.TypeIs (.ref e) "enumerate" := ⟨_, he, rfl⟩
  unfold pyNext
  refine wpAny_bind (wpAny_attempt (wpAny_callSpecial?_slot (name := Str.ofString "__next__") hT F.slot_enumerate_next
    (wpAny_call_entry F.slot_enumerate_next hT F.entry_enumerate_next ?_ (F.args_enumerate_next_1 _))))
  show wpAny _ _ (field (.ref e) 2 >>= _) _ _ _
  refine wpAny_bind (wpAny_field he rfl (x := .ref it) rfl ?_)
  refine wpAny_bind (wpAny_nextOf_tuple_end hh hit hl hx fun h' x he' hx' => ?_)
  obtain ⟨o, ho, hc⟩ := hx'
  refine wpAny_bind (wpAny_isInstance (T := "StopIteration") (b := true) ⟨o, ho, hc⟩ isSubtype_stop ?_)
  exact wpAny_pure (hQ _ he')
theorem turn_enumT {P : Program} {w : World} {K : PySem.W.Frag} {elts : List Expr} {kk : Nat} {tpos : Pos} (a e it : Addr) :
    Turn P w K (.Tuple elts kk tpos) (Itu K a) [e, it] e (fun i h => (∃ old, IsEnum h e it ((i : Nat) : Int) old) ∧ h.IsTupleIter it a i ∧ e ≠ it) where
  mem := by simp
  obj := fun i h st b hb => by
    obtain ⟨⟨old, he⟩, ⟨o, ho, hc, hd⟩, _⟩ := st
    have e' : b = e ∨ b = it := by simpa using hb
    rcases e' with z | z
    · rw [z]; exact ⟨_, he, fun v q => nomatch q⟩
    · rw [z]; exact ⟨o, ho, fun v q => by rw [hd] at q; cases q⟩
  keep := fun i h h' st k => let ⟨⟨old, he⟩, hi, hne⟩ := st; ⟨⟨old, k e (by simp) _ he⟩, hi.at fun o q => k it (by simp) o q, hne⟩
  item := by
    intro X hP hw hK hc i pins s σ H E I hf st hg
    subst hP hw hK
    obtain ⟨⟨old, he⟩, hit, hne⟩ := st
    obtain ⟨xs, x, hq, hx⟩ := hg
    obtain ⟨its, rv, p, hz⟩ := I.tuple hq
    obtain ⟨u, hu, ru⟩ := rv.get hx
    have p : s.heap.IsTuple a its.toArray := p
    have hel : e < s.heap.objs.size := Heap.lt_size he
    have hil : it < s.heap.objs.size := by obtain ⟨_, q, _⟩ := hit; exact Heap.lt_size q
    have hai := tup_apart p hit
    have hea := enum_apart p he
    have hlt : i < its.toArray.size := by
      have := (List.getElem?_eq_some_iff.mp hu).1
      simpa using this
    refine wpAny_pyNext_enum_itemD (Draws.tuple (show X.A.in1.handled = none from I.ok.hd hc) it a hai its.toArray) he ⟨hit, p⟩ hlt hne (by simp [hne, hea]) fun y h' tk hy ho hst' hT hsz hk => ?_
    have ey : y = u := by
      have hy : its.toArray[i]? = some y := hy
      have hu' : its.toArray[i]? = some u := by simpa using hu
      rw [hu'] at hy
      exact (Option.some.inj hy).symm
    subst ey
    obtain ⟨hit', p'⟩ := hst'
    refine ⟨_, rfl, wpAny_letOwnedTupleGo_enum (s := { s with heap := h', toks := tk + 1 }) ho fun h'' he' sb => ?_⟩
    have hT2 : h''.get? s.heap.objs.size = some { cls := .type "tuple", data := .seq #[.int i tk, y] } := (sb.2 _ (Nat.ne_of_gt hel)).trans hT
    have new : ObjOk X.prog X.w (upd H s.heap.objs.size (.tup [.int (i : Nat), x])) h'' s.heap.objs.size (.tup [.int (i : Nat), x]) :=
      ⟨by show 2 ≤ sizeLine; decide, [.int i tk, y], .cons ⟨_, rfl⟩ (.cons ru .nil), ⟨_, hT2, rfl, _, rfl⟩⟩
    have I1 : Inv X pins σ (upd H s.heap.objs.size (.tup [.int (i : Nat), x])) { s with heap := h'', toks := tk + 1 } :=
      I.turnedNew (ch := [e, it]) (fun b ob hb q => (sb.2 b (fun z => hb (by simp [z]))).trans (hk b ob (fun z => hb (by simp [z])) (fun z => hb (by simp [z])) q)) hf (Nat.le_refl _) new
    refine ⟨.ref s.heap.objs.size, _, I1, rfl, ⟨_, x, rfl, I.hok.fresh (Nat.le_refl _), rfl, fun ys hy => by rw [I.tuple_inj hy hq]; exact hx⟩, ⟨⟨y, ?_⟩, hit'.at fun o q => (sb.2 it (Ne.symm hne)).trans q, hne⟩, fun b hb => ?_⟩
    · have e1 : ((i + 1 : Nat) : Int) = (i : Int) + 1 := by omega
      rw [e1]; exact he'
    · have hb' : b < s.heap.objs.size := by
        have e' : b = e ∨ b = it := by simpa using hb
        rcases e' with z | z
        · rw [z]; exact hel
        · rw [z]; exact hil
      rw [upd_ne (Nat.ne_of_lt hb')]
      exact (hf b hb).1
  done := by
    intro X hP hw hK hc i pins s σ H E I hf st hg
    subst hP hw hK
    obtain ⟨⟨old, he⟩, hit, hne⟩ := st
    obtain ⟨xs, hq, hx⟩ := hg
    obtain ⟨its, rv, p, hz⟩ := I.tuple hq
    obtain ⟨f0, f1, f2, f3, f4, f5⟩ := hf it (by simp)
    have p : s.heap.IsTuple a its.toArray := p
    have hl := rv.length
    exact enum_endT (I.ok.hd hc) he hit p (by simp; omega) fun h' eb => ⟨rfl, I.turned (t' := s.toks) (fun b o hb q => eb b o hb q) f0 f1 f3 f4 f5⟩
  self := fun A i s Q E st h => let ⟨⟨_, he⟩, _⟩ := st; wpAny_pyIter_enum he h
def iEnumT (K : PySem.W.Frag) (ta : TA) : TI := fun σ H R => ta σ H fun vs H1 => ∃ a xs, vs = [.ref a] ∧ SqT K H1 a xs ∧ R (Itu K a) H1
theorem pi_enumT {X : Cx} {e : Expr} {ta : TA} {p pos tpos : Pos} {elts : List Expr} {kk : Nat} (hg : Gl X "enumerate") (hm : X.mg "enumerate" = none) (ha : PA X [e] ta) (hs : starEach [e] X.env = [(false, eval e X.env)] := by rfl) :
    PI X (.Tuple elts kk tpos) (.Call (.Name "enumerate" p) [e] [] pos) (iEnumT X.K ta) := by
  refine ⟨fun pins s σ H R I h => ?_⟩
  refine Call_ (ld_blt I hg hm boot_enumerate (PyProof.Rows.callWith_type1 (thn (ha.run pos pins s σ H _ I h) fun us s1 ⟨vs, H1, I1, r1, q1⟩ => ?_) hs rfl))
  obtain ⟨a, xs, ex, hq, q⟩ := q1
  subst ex
  cases r1 with
  | cons r rr =>
    cases rr
    cases r
    obtain ⟨its, rv, p', hz⟩ := I1.tuple hq
    refine enum_begins1 (begins_tuple a its.toArray) p' fun h' he hi hsz hk => wpAny_pyIter_enum he ?_
    have I2 : Inv X pins σ H1 { s1 with heap := h' } := I1.kept (t' := s1.toks) hk
    refine ⟨s1.heap.objs.size + 1, [s1.heap.objs.size + 1, s1.heap.objs.size], _, _, H1, rfl, I2, turn_enumT a (s1.heap.objs.size + 1) s1.heap.objs.size, ⟨⟨.none, he⟩, ⟨_, hi, rfl, rfl⟩, Nat.succ_ne_self _⟩, fun b hb => ?_, q⟩
    have e' : b = s1.heap.objs.size + 1 ∨ b = s1.heap.objs.size := by simpa using hb
    have hle : s1.heap.objs.size ≤ b := by
      rcases e' with z | z
      · rw [z]; exact Nat.le_add_right _ _
      · rw [z]; exact Nat.le_refl _
    exact I1.fpOk hle (I1.hok.fresh hle)
theorem for_enumT {K : PySem.W.Frag} {a : Addr} {xs : List V} {g : TG} {tb : TS} {D : Ends} {σ : Aw.St} {H : Hp} (Pv : Nat → Aw.St → Hp → Prop) (h0 : Pv 0 σ H) (hl : ∀ i σ H, i ≤ xs.length → Pv i σ H → SqT K H a xs)
    (hs : ∀ i x σ H T, xs[i]? = some x → Pv i σ H → H T = none → g (.ref T) σ (upd H T (.tup [.int (i : Nat), x])) fun σ2 H2 => tb { D with nx := Pv (i + 1), ct := Pv (i + 1), bk := D.nx } σ2 H2)
    (hd : ∀ σ H, Pv xs.length σ H → D.nx σ H) : tFor (fun _ H R => R (Itu K a) H) g tb D σ H := by
  refine ⟨fun i m σ H => m = xs.length - i ∧ i ≤ xs.length ∧ Pv i σ H, ⟨xs.length, by simp, Nat.zero_le _, h0⟩, ?_⟩
  rintro i m σ H ⟨rfl, hi, p⟩
  have q := hl i σ H hi p
  by_cases hlt : i < xs.length
  · refine .inr ⟨⟨xs, xs[i], q, by simp [hlt]⟩, Pv (i + 1), fun σ' H' p' => ⟨xs.length - (i + 1), by omega, rfl, hlt, p'⟩, fun x H' y => ?_⟩
    obtain ⟨T, y, rfl, hT, rfl, hy⟩ := y
    exact hs i y σ H T (hy xs q) p hT
  · have e : i = xs.length := by omega
    subst e
    exact .inl ⟨⟨xs, q, Nat.le_refl _⟩, hd σ H p⟩
end Aw

namespace Aw
open PySem PySem.Spec PyProof.Rows L2 NdefX
/-! ### bits -/
def bI (b : Bool) : Int := if b then 1 else 0
def bV (b : Bool) : V := .int (bI b)
theorem numB_bV (b : Bool) : numB (bV b) 0 1 = true := by cases b <;> rfl
theorem bits_of : ∀ {xs : List V}, (∀ x ∈ xs, numB x 0 1 = true) → ∃ w : List Bool, xs = w.map bV
  | [], _ => ⟨[], rfl⟩
  | x :: xs, h => by
    obtain ⟨w, hw⟩ := bits_of (xs := xs) fun y hy => h y (List.mem_cons_of_mem _ hy)
    have h1 := h x (List.mem_cons_self ..)
    cases x with
    | int i =>
      have h1 : (decide (0 ≤ i) && decide (i ≤ 1)) = true := h1
      rw [Bool.and_eq_true, decide_eq_true_eq, decide_eq_true_eq] at h1
      by_cases e : i = 1
      · exact ⟨true :: w, by rw [hw, e]; rfl⟩
      · have e0 : i = 0 := by omega
        exact ⟨false :: w, by rw [hw, e0]; rfl⟩
    | _ => cases h1
theorem bx (a b : Bool) : Builtin.bitXor (bI a) (bI b) = bI (a ^^ b) := by cases a <;> cases b <;> rfl
structure TxtW (P : Program) (K : PySem.W.Frag) (mg : Str → Option Value) (CZ CB fNum : Addr) : Prop where
  isi : mg "isinstance" = none
  int : mg "int" = none
  bool : mg "bool" = none
  len : mg "len" = none
  tup : mg "tuple" = none
  list : mg "list" = none
  enum : mg "enumerate" = none
  num : mg "is_number" = some (.ref fNum)
  bz : Err P K mg "BadSize" "size" "size" CZ
  bb : Err P K mg "BadBits" "index" "index" CB
/-- what is asked of the word -/
structure BitsAt (H : Hp) (l : Addr) (xs : List V) : Prop where
  at_ : H l = some (.lst xs) ∨ H l = some (.tup xs)
  ok : ∀ x ∈ xs, VOk H x
  few : xs.length ≤ 5000
def sizeOk (n : Nat) (most : Int) : Prop := 1 ≤ n ∧ (n : Int) ≤ most
def firstOdd (xs : List V) (i : Nat) : Prop := (∀ j y, j < i → xs[j]? = some y → numB y 0 1 = true) ∧ ∃ x, xs[i]? = some x ∧ numB x 0 1 = false
def spWob (CZ CB : Addr) : Sp := fun vs H Q E => ∃ (l : Addr) (xs : List V) (most : Int), vs = [.ref l, .int most] ∧ BitsAt H l xs ∧
  (¬ sizeOk xs.length most → ∀ d H', Same H H' → H d = none → H' d = some (.xd [("size", .int (xs.length : Nat))]) → E (.ref CZ) (some d) H') ∧
  (sizeOk xs.length most → ∀ i, firstOdd xs i → ∀ d H', Same H H' → H d = none → H' d = some (.xd [("index", .int (i : Nat))]) → E (.ref CB) (some d) H') ∧
  (sizeOk xs.length most → ∀ w : List Bool, xs = w.map bV → ∀ t H', Same H H' → H t = none → H' t = some (.tup (w.map bV)) → Q (.ref t) H')
section
variable {P : Program} {w : World} {K : PySem.W.Frag} {mg : Str → Option Value} {base : Heap} {CZ CB fNum : Addr}
theorem scWob : FnScope ["bits", "most", "index", "bit"] ["bits", "most"] (defScope sWob) := ⟨rfl, rfl, rfl, by decide +kernel, rfl, by decide +kernel, by decide +kernel⟩
theorem ok_wob {f : Addr} {dvs : List V} {fd nd' : FuncData} (F : L2.FunD K "word_of_bits" "word_of_bits" (defArgs sWob) (defBody sWob) (defScope sWob) dvs [] f fd) (W : TxtW P K mg CZ CB fNum) (FNum : Fun K "is_number" "is_number" sNum fNum nd') (bNum : Binds K nd' ["value", "low", "high"] []) : FnOk P w K mg base (L2.CX P w) 3 f fd ["bits", "most"] (spWob CZ CB) := by
  have GNum : FnOk P w K mg base CX0 1 fNum nd' ["value", "low", "high"] spNum := ok_num FNum W.isi W.int W.bool
  refine F.ok scWob (fun vs H Q E h => ?_) (fun cdv A outer s H vs Q E hr h => ?_)
  · obtain ⟨l, xs, most, rfl, _⟩ := h
    rfl
  · obtain ⟨l, xs, most, rfl, B, kZ, kB, kQ⟩ := h
    have nd := scWob.nd
    rcases B.at_ with hl | hl
    · refine ⟨_, (pss_cons (ps_if (pt_not (pt_chain op_le op_le pe_int (pe_callB call_len_seq (by rfl) W.len PySem.boot_len (pa_cons (pv 0) pa_nil)) (pv 1)))
        (pss_one (ps_raise rfl (takes_of rfl rfl rfl rfl) (pmk_err W.bz (hr.mono (by decide)) (by rfl) (pa_cons (pe_callB call_len_seq (by rfl) W.len PySem.boot_len (pa_cons (pv 0) pa_nil)) pa_nil)))) pss_nil)
      (pss_cons (ps_for (passes_of rfl) rfl (pi_enum (by rfl) W.enum (pa_cons (pv 0) pa_nil)) (pg_tup rfl (pgs_cons (pg_name (i := 2) nd rfl (Or.inl rfl)) (pgs_cons (pg_name (i := 3) nd rfl (Or.inl rfl)) pgs_nil)))
        (pss_one (ps_if (pt_not (pt_val (pe_call GNum (hr.mono (by decide)) (by rfl) W.num FNum.kp bNum .nil pass0 (pa_cons (pv 3) (pa_cons pe_int (pa_cons pe_int pa_nil))))))
          (pss_one (ps_raise rfl (takes_of rfl rfl rfl rfl) (pmk_err W.bb (hr.mono (by decide)) (by rfl) (pa_cons (pv 2) pa_nil)))) pss_nil)))
      (pss_one (ps_ret (pe_callTy call_tuple_of (by rfl) W.tup (by decide +kernel) (pa_cons (pe_callTy call_list_of (by rfl) W.list (by decide +kernel) (pa_cons (pv 0) pa_nil)) pa_nil)))))), ?_⟩
      have raiseZ : ¬ sizeOk xs.length most → ∀ d, H d = none → E (.ref CZ) (some d) (upd H d (.xd [("size", .int (xs.length : Nat))])) := fun e d hd => kZ e d _ (same_upd hd) hd upd_same
      refine ⟨_, rfl, l, xs, rfl, .inl (SqL.of hl), 1, (xs.length : Int), rfl, rfl, _, rfl, ?_⟩
      refine ite_dec (fun h1 => ?_) (fun h1 => ?_)
      rotate_left
      · refine ⟨_, rfl, iteT ?_⟩
        exact ⟨_, rfl, l, xs, rfl, .inl (SqL.of hl), mkS_ans fun d hd => raiseZ (fun z => h1 (by have := z.1; omega)) d hd⟩
      refine ⟨_, rfl, (xs.length : Int), most, rfl, rfl, _, rfl, ?_⟩
      refine ite_ndec (fun h2 => ?_) (fun h2 => ?_)
      · exact ⟨_, rfl, l, xs, rfl, .inl (SqL.of hl), mkS_ans fun d hd => raiseZ (fun z => h2 z.2) d hd⟩
      have so : sizeOk xs.length most := ⟨by omega, h2⟩
      have kB := kB so
      have kQ := kQ so
      refine ⟨_, rfl, l, xs, rfl, SqL.of hl, ?_⟩
      refine for_enum (a := l) (xs := xs) (fun j σ H3 => ∃ (v2 v3 : Option V), σ = [some (.ref l), some (.int most), v2, v3] ∧ Same H H3 ∧ ∀ i y, i < j → xs[i]? = some y → numB y 0 1 = true) ⟨none, none, rfl, fun _ _ e => e, fun i y hi => absurd hi (Nat.not_lt_zero _)⟩ (fun j σ H3 hj p => by
        obtain ⟨_, _, _, s3, _⟩ := p
        exact SqL.of (s3 _ _ hl)) ?_ ?_
      · rintro j x σ H3 T hx ⟨v2, v3, rfl, s3, np⟩ hT
        have sT := same_upd (o := .tup [.int (j : Nat), x]) hT
        refine ⟨T, _, rfl, SqT.of upd_same, rfl, _, _, rfl, _, _, rfl, rfl, ?_⟩
        refine ⟨_, rfl, x, 0, 1, rfl, (B.ok x (List.mem_of_getElem? hx)).same (s3.trans sT), _, rfl, ?_⟩
        cases e : numB x 0 1 with
        | false =>
          refine iteT ?_
          refine ⟨_, rfl, mkS_ans fun d hd => ?_⟩
          exact kB j ⟨np, x, hx, e⟩ d _ ((s3.trans sT).trans (same_upd hd)) ((s3.trans sT).free hd) upd_same
        | true =>
          refine iteF ?_
          refine ⟨_, _, rfl, s3.trans sT, fun i y hi hy => ?_⟩
          rcases Nat.lt_or_ge i j with h | h
          · exact np i y h hy
          · have ei : i = j := by omega
            subst ei
            rw [hx] at hy
            cases hy
            exact e
      · rintro σ H3 ⟨v2, v3, rfl, s3, np⟩
        obtain ⟨w, hw⟩ := bits_of (xs := xs) fun x hx => by
          obtain ⟨i, hi⟩ := List.getElem?_of_mem hx
          exact np i x (List.getElem?_eq_some_iff.mp hi).1 hi
        refine ⟨_, rfl, l, xs, rfl, .inl (SqL.of (s3 _ _ hl)), fun q hq => ⟨q, xs, rfl, .inl ⟨SqL.of upd_same, fun t ht => ?_⟩⟩⟩
        have s4 := (s3.trans (same_upd (o := .lst xs) hq)).trans (same_upd (o := .tup xs) ht)
        exact kQ w hw t _ s4 ((s3.trans (same_upd (o := .lst xs) hq)).free ht) (by rw [upd_same, hw])
    · refine ⟨_, (pss_cons (ps_if (pt_not (pt_chain op_le op_le pe_int (pe_callB call_len_seq (by rfl) W.len PySem.boot_len (pa_cons (pv 0) pa_nil)) (pv 1)))
        (pss_one (ps_raise rfl (takes_of rfl rfl rfl rfl) (pmk_err W.bz (hr.mono (by decide)) (by rfl) (pa_cons (pe_callB call_len_seq (by rfl) W.len PySem.boot_len (pa_cons (pv 0) pa_nil)) pa_nil)))) pss_nil)
      (pss_cons (ps_for (passes_of rfl) rfl (pi_enumT (by rfl) W.enum (pa_cons (pv 0) pa_nil)) (pg_tup rfl (pgs_cons (pg_name (i := 2) nd rfl (Or.inl rfl)) (pgs_cons (pg_name (i := 3) nd rfl (Or.inl rfl)) pgs_nil)))
        (pss_one (ps_if (pt_not (pt_val (pe_call GNum (hr.mono (by decide)) (by rfl) W.num FNum.kp bNum .nil pass0 (pa_cons (pv 3) (pa_cons pe_int (pa_cons pe_int pa_nil))))))
          (pss_one (ps_raise rfl (takes_of rfl rfl rfl rfl) (pmk_err W.bb (hr.mono (by decide)) (by rfl) (pa_cons (pv 2) pa_nil)))) pss_nil)))
      (pss_one (ps_ret (pe_callTy call_tuple_of (by rfl) W.tup (by decide +kernel) (pa_cons (pe_callTy call_list_of (by rfl) W.list (by decide +kernel) (pa_cons (pv 0) pa_nil)) pa_nil)))))), ?_⟩
      have raiseZ : ¬ sizeOk xs.length most → ∀ d, H d = none → E (.ref CZ) (some d) (upd H d (.xd [("size", .int (xs.length : Nat))])) := fun e d hd => kZ e d _ (same_upd hd) hd upd_same
      refine ⟨_, rfl, l, xs, rfl, .inr (SqT.of hl), 1, (xs.length : Int), rfl, rfl, _, rfl, ?_⟩
      refine ite_dec (fun h1 => ?_) (fun h1 => ?_)
      rotate_left
      · refine ⟨_, rfl, iteT ?_⟩
        exact ⟨_, rfl, l, xs, rfl, .inr (SqT.of hl), mkS_ans fun d hd => raiseZ (fun z => h1 (by have := z.1; omega)) d hd⟩
      refine ⟨_, rfl, (xs.length : Int), most, rfl, rfl, _, rfl, ?_⟩
      refine ite_ndec (fun h2 => ?_) (fun h2 => ?_)
      · exact ⟨_, rfl, l, xs, rfl, .inr (SqT.of hl), mkS_ans fun d hd => raiseZ (fun z => h2 z.2) d hd⟩
      have so : sizeOk xs.length most := ⟨by omega, h2⟩
      have kB := kB so
      have kQ := kQ so
      refine ⟨_, rfl, l, xs, rfl, SqT.of hl, ?_⟩
      refine for_enumT (a := l) (xs := xs) (fun j σ H3 => ∃ (v2 v3 : Option V), σ = [some (.ref l), some (.int most), v2, v3] ∧ Same H H3 ∧ ∀ i y, i < j → xs[i]? = some y → numB y 0 1 = true) ⟨none, none, rfl, fun _ _ e => e, fun i y hi => absurd hi (Nat.not_lt_zero _)⟩ (fun j σ H3 hj p => by
        obtain ⟨_, _, _, s3, _⟩ := p
        exact SqT.of (s3 _ _ hl)) ?_ ?_
      · rintro j x σ H3 T hx ⟨v2, v3, rfl, s3, np⟩ hT
        have sT := same_upd (o := .tup [.int (j : Nat), x]) hT
        refine ⟨T, _, rfl, SqT.of upd_same, rfl, _, _, rfl, _, _, rfl, rfl, ?_⟩
        refine ⟨_, rfl, x, 0, 1, rfl, (B.ok x (List.mem_of_getElem? hx)).same (s3.trans sT), _, rfl, ?_⟩
        cases e : numB x 0 1 with
        | false =>
          refine iteT ?_
          refine ⟨_, rfl, mkS_ans fun d hd => ?_⟩
          exact kB j ⟨np, x, hx, e⟩ d _ ((s3.trans sT).trans (same_upd hd)) ((s3.trans sT).free hd) upd_same
        | true =>
          refine iteF ?_
          refine ⟨_, _, rfl, s3.trans sT, fun i y hi hy => ?_⟩
          rcases Nat.lt_or_ge i j with h | h
          · exact np i y h hy
          · have ei : i = j := by omega
            subst ei
            rw [hx] at hy
            cases hy
            exact e
      · rintro σ H3 ⟨v2, v3, rfl, s3, np⟩
        obtain ⟨w, hw⟩ := bits_of (xs := xs) fun x hx => by
          obtain ⟨i, hi⟩ := List.getElem?_of_mem hx
          exact np i x (List.getElem?_eq_some_iff.mp hi).1 hi
        refine ⟨_, rfl, l, xs, rfl, .inr (SqT.of (s3 _ _ hl)), fun q hq => ⟨q, xs, rfl, .inl ⟨SqL.of upd_same, fun t ht => ?_⟩⟩⟩
        have s4 := (s3.trans (same_upd (o := .lst xs) hq)).trans (same_upd (o := .tup xs) ht)
        exact kQ w hw t _ s4 ((s3.trans (same_upd (o := .lst xs) hq)).free ht) (by rw [upd_same, hw])
end
end Aw

namespace Aw
open PySem PySem.Spec PyProof.Rows L2 NdefX
/-! ### sum(t) of a tuple of ints; comprehensions over enumerate(t) -/
theorem sum_rawT {prog : Program} {w : World} {A : Around} {E : Value → Shared → Prop} {s : Shared} {l : Addr} {its : List Value} {ns : List Int} {Q : Value → Shared → Prop} (hh : A.handled = none) (hl : s.heap.IsTuple l its.toArray) (hi : IntsAre its ns)
    (h : ∀ h' tk t', (∀ b o, s.heap.get? b = some o → h'.get? b = some o) → Q (.int ns.sum t') { s with heap := h', toks := tk }) : wpAny (model prog w) A (call (.builtin "sum") [.ref l]) Q E s := by
  obtain ⟨xs, e⟩ := hi.allInts.items
  have hn : numsOf (intItems xs).toList = ns := by rw [← e]; exact hi.numsOf
  rw [nums_intItems] at hn
  rw [e] at hl
  refine call_sum_walkG (wpAny_pyIter_tuple hl ?_)
  have hlt : l < s.heap.objs.size := by
    obtain ⟨o, ho, _⟩ := hl
    exact Heap.lt_size ho
  have hne : l ≠ s.heap.objs.size := Nat.ne_of_lt hlt
  refine ⟨_, _, _, _, _, _, numAt xs, rfl, Walks.tuple (A := A.in1) hh s.heap.objs.size l hne (intItems xs), ⟨⟨_, Heap.get?_push_size _ rfl, rfl, rfl⟩, hl.at fun o e => Heap.get?_push_of_some _ e⟩, fun b hb => ?_, (fun _ _ => intItems_at), fun h' tk t' hk => ?_⟩
  · have hb' : b = s.heap.objs.size ∨ b = l := by simpa using hb
    show b < (s.heap.push _).objs.size
    rw [Heap.size_push]
    rcases hb' with z | z
    · rw [z]; exact Nat.lt_succ_self _
    · rw [z]; exact Nat.lt_succ_of_lt hlt
  · have := h h' tk t' (fun b o e => hk b o (fun hm => by
      have e1 : b = s.heap.objs.size := by simpa using hm
      exact absurd (e1 ▸ Heap.lt_size e) (Nat.lt_irrefl _)) (Heap.get?_push_of_some _ e))
    rw [preSum_eq, List.take_of_length_le (by simp [intItems]), hn]
    exact this
section
variable {X : Cx}
def rSumT (K : PySem.W.Frag) : List V → Hp → VK → Prop := fun vs H Q => ∃ (a : Addr) (ns : List Int), vs = [V.ref a] ∧ SqT K H a (ns.map V.int) ∧ Q (.int ns.sum) H
theorem cr_sumT (hc : X.calm = true) : CallR X (.builtin "sum") (rSumT X.K) := by
  intro pins s σ H vs us Q I r h
  obtain ⟨a, ns, rfl, hs, q⟩ := h
  obtain ⟨its, rv, hl, _⟩ := I.tuple hs
  rw [Vals.ref1 r]
  exact sum_rawT (I.ok.hd hc) hl rv.ints fun h' tk t' hk => ⟨.int _, H, I.kept hk, ⟨_, rfl⟩, q⟩
end
theorem lc_enumT {K : PySem.W.Frag} {a : Addr} {xs : List V} {g : TG} {tt : TT} {te : TE} {vs : List Nat} {σ : Aw.St} {H1 : Hp} {D : Addr} {Qd : Hp → Prop} (Pv : Nat → Hp → Prop) (h0 : Pv 0 (upd H1 D (.lst []))) (hl : ∀ i H, i ≤ xs.length → Pv i H → SqT K H a xs)
    (hs : ∀ i x H T, xs[i]? = some x → Pv i H → H T = none → g (.ref T) (wipe σ vs) (upd H T (.tup [.int (i : Nat), x])) fun σ2 H2 => wipe σ2 vs = wipe σ vs ∧ tt σ2 H2 fun b H3 =>
      if b = true then te σ2 H3 fun y H4 => ∃ acc, H4 D = some (.lst acc) ∧ acc.length < sizeLine ∧ Pv (i + 1) (upd H4 D (.lst (acc ++ [y]))) else Pv (i + 1) H3) (hd : ∀ H, Pv xs.length H → Qd H) :
    ∃ W : Nat → Nat → Hp → Prop, (∃ m, W 0 m (upd H1 D (.lst []))) ∧ ∀ i m H, W i m H →
      ((Itu K a).stop i H ∧ Qd H) ∨ ((Itu K a).go i H ∧ ∃ Nx : Hp → Prop, (∀ H', Nx H' → ∃ m', m' < m ∧ W (i + 1) m' H') ∧ ∀ x H', (Itu K a).yld i H x H' → g x (wipe σ vs) H' fun σ2 H2 => wipe σ2 vs = wipe σ vs ∧ tt σ2 H2 fun b H3 =>
        if b = true then te σ2 H3 fun y H4 => ∃ acc, H4 D = some (.lst acc) ∧ acc.length < sizeLine ∧ Nx (upd H4 D (.lst (acc ++ [y]))) else Nx H3) := by
  refine ⟨fun i m H => m = xs.length - i ∧ i ≤ xs.length ∧ Pv i H, ⟨xs.length, by simp, Nat.zero_le _, h0⟩, ?_⟩
  rintro i m H ⟨rfl, hi, p⟩
  have q := hl i H hi p
  by_cases hlt : i < xs.length
  · refine .inr ⟨⟨xs, xs[i], q, by simp [hlt]⟩, Pv (i + 1), fun H' p' => ⟨xs.length - (i + 1), by omega, rfl, hlt, p'⟩, fun x H' y => ?_⟩
    obtain ⟨T, y, rfl, hT, rfl, hy⟩ := y
    exact hs i y H T (hy xs q) p hT
  · have e : i = xs.length := by omega
    subst e
    exact .inl ⟨⟨xs, q, Nat.le_refl _⟩, hd H p⟩
end Aw

namespace Aw
open PySem PySem.Spec PyProof.Rows L2 NdefX
/-- the bit at a place -/
def bitAt (w : List Bool) (i : Int) : Bool := w.getD i.toNat false
def movedF (k : Str) (by_ : Int) (w : List Bool) : List Bool := (List.range w.length).map fun i : Nat => bitAt w (placeF k by_ w.length i)
def flippedF (k : Str) (t : Option (Int × Int)) (w : List Bool) : List Bool := (List.range w.length).map fun i : Nat => w.getD i false ^^ flipF k t w.length i
structure TxtM (mg : Str → Option Value) (fPl fFl fCh : Addr) : Prop where
  len : mg "len" = none
  tup : mg "tuple" = none
  list : mg "list" = none
  range : mg "range" = none
  enum : mg "enumerate" = none
  sumb : mg "sum" = none
  min : mg "min" = none
  place : mg "place_from" = some (.ref fPl)
  flipd : mg "is_flipped" = some (.ref fFl)
  chosen : mg "is_chosen" = some (.ref fCh)
theorem atBits {w : List Bool} {i : Int} (h0 : 0 ≤ i) (h1 : i < w.length) : atI (w.map bV) i = some (bV (bitAt w i)) := by
  obtain ⟨j, rfl⟩ : ∃ j : Nat, i = (j : Int) := ⟨i.toNat, by omega⟩
  have hj : j < w.length := by omega
  refine atI_nat ?_
  rw [List.getElem?_map, List.getElem?_eq_getElem hj]
  show some (bV w[j]) = some (bV (w.getD j false))
  rw [List.getD_eq_getElem?_getD, List.getElem?_eq_getElem hj]
  rfl
theorem map_take {α β : Type} (f : Nat → α) (g : α → β) (n : Nat) : ((List.range (n + 1)).map f).map g = ((List.range n).map f).map g ++ [g (f n)] := by
  rw [List.range_succ, List.map_append, List.map_append]
  rfl
def spMoved : Sp := fun vs H Q _ => ∃ (k : Str) (bv : V) (by_ : Int) (t : Addr) (w : List Bool), vs = [.str k, bv, .ref t] ∧ (k = "roll" → bv = .int by_) ∧ H t = some (.tup (w.map bV)) ∧ 0 < w.length ∧ w.length ≤ 1000 ∧
  ∀ t' H', Same H H' → H t' = none → H' t' = some (.tup ((movedF k by_ w).map bV)) → Q (.ref t') H'
def spFlippedB (K : PySem.W.Frag) : Sp := fun vs H Q _ => ∃ (k : Str) (rv : V) (o : Option (Int × Int)) (t : Addr) (w : List Bool), vs = [.str k, rv, .ref t] ∧ Dq K H rv (restD o) ∧ restOk o ∧ H t = some (.tup (w.map bV)) ∧ w.length ≤ 1000 ∧
  ∀ t' H', Same H H' → H t' = none → H' t' = some (.tup ((flippedF k o w).map bV)) → Q (.ref t') H'
section
variable {P : Program} {w : World} {K : PySem.W.Frag} {mg : Str → Option Value} {base : Heap} {fPl fFl fCh : Addr}
theorem scMoved : FnScope ["kind", "by", "word", "size", "place"] ["kind", "by", "word"] (defScope sMoved) := ⟨rfl, rfl, rfl, by decide +kernel, rfl, by decide +kernel, by decide +kernel⟩
theorem ok_moved {f : Addr} {fd pd : FuncData} (F : Fun K "moved" "moved" sMoved f fd) (W : TxtM mg fPl fFl fCh) (FPl : Fun K "place_from" "place_from" sPlace fPl pd) (bPl : Binds K pd ["kind", "by", "size", "place"] []) : FnOk P w K mg base CX0 2 f fd ["kind", "by", "word"] spMoved := by
  have GPl : FnOk P w K mg base CX0 1 fPl pd ["kind", "by", "size", "place"] spPlace := ok_place FPl W.min
  refine F.ok scMoved (fun vs H Q E h => ?_) (fun cdv A outer s H vs Q E hr h => ?_)
  · obtain ⟨k, bv, b, t, w', rfl, _⟩ := h
    rfl
  · obtain ⟨k, bv, b, t, wd, rfl, hb, ht, n0, n1, hQ⟩ := h
    have nd := scMoved.nd
    refine ⟨_, (pss_cons (ps_set (i := 3) nd rfl (Or.inr rfl) (pe_callB call_len_seq (by rfl) W.len PySem.boot_len (pa_cons (pv 2) pa_nil)))
      (pss_one (ps_ret (pe_callTy call_tuple_of (by rfl) W.tup (by decide +kernel) (pa_cons (pe_lc (own := [("place", 4)]) (g := (gName 4)) (tt := tYes) rfl nd (pi_range1 rfl W.range (pa_cons (pv 3) pa_nil)) (blkOk_by (own := [("place", 4)]) (N := ["kind", "by", "word", "size", "place"]) (sc := defScope sMoved) (by decide +kernel)) (fun _ _ _ _ _ => (pg_name (i := 4) nd rfl (Or.inl rfl))) (fun _ _ _ _ _ => pts_nil) (fun _ _ _ _ _ => (show PE _ _ (tOp (rIxT K) (tVar 2) (tCall spPlace [] E0 (tCons (tVar 0) (tCons (tVar 1) (tCons (tVar 3) (tCons (tVar 4) tNil)))))) from pe_ix ix_tup (pv 2) (pe_call GPl (hr.mono (by decide)) (by rfl) W.place FPl.kp bPl .nil pass0 (pa_cons (pv 0) (pa_cons (pv 1) (pa_cons (pv 3) (pa_cons (pv 4) pa_nil))))) (fun _ _ => rfl)))) pa_nil))))), ?_⟩
    have lm : (wd.map bV).length = wd.length := List.length_map ..
    refine ⟨_, rfl, t, _, rfl, .inr (SqT.of ht), ?_⟩
    rw [lm]
    refine ⟨_, rfl, (wd.length : Int), rfl, by omega, by omega, fun D hD => ?_⟩
    refine lc_range (n := (wd.length : Int).toNat) (fun m H3 => Same H H3 ∧ H3 D = some (.lst (((List.range m).map fun i : Nat => bitAt wd (placeF k b wd.length i)).map bV))) ⟨same_upd hD, upd_same⟩ ?_ ?_
    · rintro i H3 hi ⟨s3, e3⟩
      have hi2 : i < wd.length := by omega
      have pin := place_in (k := k) (by_ := b) (n := (wd.length : Int)) (i := (i : Int)) (by omega) (by omega)
      refine ⟨rfl, _, rfl, _, rfl, _, rfl, _, rfl, _, rfl, k, bv, b, wd.length, (0 : Int) + i, rfl, hb, by omega, by omega, by omega, by omega, ?_⟩
      rw [Int.zero_add]
      refine ⟨t, _, _, _, rfl, rfl, SqT.of (s3 _ _ ht), atBits pin.1 pin.2, _, e3, ?_, same_fresh hD s3, ?_⟩
      · rw [List.length_map, List.length_map, List.length_range]
        exact Nat.lt_of_lt_of_le (by omega : i < 1000) kz
      · rw [upd_same, map_take]
    · rintro H3 ⟨s3, e3⟩
      refine ⟨D, _, rfl, .inl ⟨SqL.of e3, fun t' ht' => ?_⟩⟩
      exact hQ t' _ (s3.trans (same_upd ht')) (s3.free ht') (by rw [upd_same]; rfl)
theorem scFlipdB : FnScope ["kind", "rest", "word", "size", "place", "bit"] ["kind", "rest", "word"] (defScope sFlipdB) := ⟨rfl, rfl, rfl, by decide +kernel, rfl, by decide +kernel, by decide +kernel⟩
theorem ok_flippedB {f : Addr} {fd pd cd : FuncData} (F : Fun K "flipped" "flipped" sFlipdB f fd) (W : TxtM mg fPl fFl fCh) (FFl : Fun K "is_flipped" "is_flipped" sFlipd fFl pd) (bFl : Binds K pd ["kind", "rest", "size", "place"] []) (FC : Fun K "is_chosen" "is_chosen" sChosen fCh cd) (bC : Binds K cd ["rest", "place"] []) : FnOk P w K mg base CX0 3 f fd ["kind", "rest", "word"] (spFlippedB K) := by
  have GFl : FnOk P w K mg base CX0 2 fFl pd ["kind", "rest", "size", "place"] (spFlipd K) := ok_flipd FFl FC bC W.chosen
  refine F.ok scFlipdB (fun vs H Q E h => ?_) (fun cdv A outer s H vs Q E hr h => ?_)
  · obtain ⟨k, rv, o, t, w', rfl, _⟩ := h
    rfl
  · obtain ⟨k, rv, o, t, wd, rfl, hd, ho, ht, n1, hQ⟩ := h
    have nd := scFlipdB.nd
    refine ⟨_, (pss_cons (ps_set (i := 3) nd rfl (Or.inr rfl) (pe_callB call_len_seq (by rfl) W.len PySem.boot_len (pa_cons (pv 2) pa_nil)))
      (pss_one (ps_ret (pe_callTy call_tuple_of (by rfl) W.tup (by decide +kernel) (pa_cons (pe_lc (own := [("place", 4), ("bit", 5)]) (g := (gTup _ 2 (gCons (gName 4) (gCons (gName 5) gNil)))) (tt := tYes) rfl nd (pi_enumT (by rfl) W.enum (pa_cons (pv 2) pa_nil)) (blkOk_by (own := [("place", 4), ("bit", 5)]) (N := ["kind", "rest", "word", "size", "place", "bit"]) (sc := defScope sFlipdB) (by decide +kernel)) (fun _ _ _ _ _ => (pg_tup rfl (pgs_cons (pg_name (i := 4) nd rfl (Or.inl rfl)) (pgs_cons (pg_name (i := 5) nd rfl (Or.inl rfl)) pgs_nil)))) (fun _ _ _ _ _ => pts_nil) (fun _ _ _ _ _ => (pe_ifExp (pt_val (pe_call GFl (hr.mono (by decide)) (by rfl) W.flipd FFl.kp bFl .nil pass0 (pa_cons (pv 0) (pa_cons (pv 1) (pa_cons (pv 3) (pa_cons (pv 4) pa_nil)))))) (pe_op op_xor (pv 5) pe_int) (pv 5)))) pa_nil))))), ?_⟩
    have lm : (wd.map bV).length = wd.length := List.length_map ..
    refine ⟨_, rfl, t, _, rfl, .inr (SqT.of ht), ?_⟩
    rw [lm]
    refine ⟨_, rfl, t, _, rfl, SqT.of ht, fun D hD => ?_⟩
    refine lc_enumT (a := t) (xs := wd.map bV) (fun m H3 => Same H H3 ∧ H3 D = some (.lst (((List.range m).map fun i : Nat => wd.getD i false ^^ flipF k o wd.length i).map bV))) ⟨same_upd hD, upd_same⟩ (fun m H3 hm z => SqT.of (z.1 _ _ ht)) ?_ ?_
    · rintro i x H3 T hx ⟨s3, e3⟩ hT
      have hi2 : i < wd.length := by
        have := (List.getElem?_eq_some_iff.mp hx).1
        rw [lm] at this
        exact this
      have hx2 : x = bV (wd.getD i false) := by
        rw [List.getElem?_map, List.getElem?_eq_getElem hi2] at hx
        rw [List.getD_eq_getElem?_getD, List.getElem?_eq_getElem hi2]
        exact (Option.some.inj hx).symm
      subst hx2
      have sT := same_upd (o := .tup [.int (i : Nat), bV (wd.getD i false)]) hT
      have e4 := sT _ _ e3
      have fin : ∀ y : V, y = bV (wd.getD i false ^^ flipF k o wd.length i) → ∃ acc, upd H3 T (.tup [.int (i : Nat), bV (wd.getD i false)]) D = some (.lst acc) ∧ acc.length < sizeLine ∧ (Same H (upd (upd H3 T (.tup [.int (i : Nat), bV (wd.getD i false)])) D (.lst (acc ++ [y]))) ∧ upd (upd H3 T (.tup [.int (i : Nat), bV (wd.getD i false)])) D (.lst (acc ++ [y])) D = some (.lst (((List.range (i + 1)).map fun i : Nat => wd.getD i false ^^ flipF k o wd.length i).map bV))) := by
        rintro y rfl
        refine ⟨_, e4, ?_, same_fresh hD (s3.trans sT), ?_⟩
        · rw [List.length_map, List.length_map, List.length_range]
          exact Nat.lt_of_lt_of_le (by omega : i < 1000) kz
        · rw [upd_same, map_take]
      refine ⟨T, _, rfl, SqT.of upd_same, rfl, _, _, rfl, _, _, rfl, rfl, rfl, ?_⟩
      refine ⟨_, rfl, _, rfl, _, rfl, _, rfl, k, rv, o, wd.length, (i : Int), rfl, hd.keep (TK.same (s3.trans sT)), ho, _, rfl, ?_⟩
      cases e : flipF k o wd.length i with
      | true =>
        refine iteT ?_
        refine ⟨_, rfl, bI (wd.getD i false), 1, rfl, rfl, ?_⟩
        refine fin _ ?_
        show V.int (Builtin.bitXor (bI (wd.getD i false)) (bI true)) = _
        rw [bx, e]
        rfl
      | false =>
        refine iteF ?_
        exact ⟨_, rfl, fin _ (by rw [e, Bool.xor_false])⟩
    · rintro H3 ⟨s3, e3⟩
      rw [lm] at e3
      refine ⟨D, _, rfl, .inl ⟨SqL.of e3, fun t' ht' => ?_⟩⟩
      exact hQ t' _ (s3.trans (same_upd ht')) (s3.free ht') (by rw [upd_same]; rfl)
end
end Aw

namespace Aw
open PySem PySem.Spec PyProof.Rows L2 NdefX
/-- the bit at a place, if it is one -/
def farB (w : List Bool) (j : Int) : Bool := if 0 ≤ j ∧ j < w.length then bitAt w j else false
def nearF (w : List Bool) (by_ : Int) : List Bool := (List.range w.length).map fun i : Nat => w.getD i false ^^ farB w (i + by_)
def sumAt (w : List Bool) (by_ : Int) : Nat → Int → Bool
  | 0, _ => false
  | f + 1, j => if 0 ≤ j ∧ j < w.length then bitAt w j ^^ sumAt w by_ f (j + by_) else false
def sumF (w : List Bool) (by_ : Int) : List Bool := (List.range w.length).map fun i : Nat => sumAt w by_ (w.length + 1) i
theorem sumAt_out {w : List Bool} {b : Int} {f : Nat} {j : Int} (h : ¬ (0 ≤ j ∧ j < w.length)) : sumAt w b f j = false := by
  cases f with
  | zero => rfl
  | succ f => exact if_neg h
theorem sumAt_pos {w : List Bool} {b : Int} (hb : 0 < b) : ∀ (f : Nat) (j : Int), (w.length : Int) - j ≤ f → sumAt w b (f + 1) j = sumAt w b f j
  | 0, j, h => by rw [sumAt_out (by omega), sumAt_out (by omega)]
  | f + 1, j, h => by
    by_cases e : 0 ≤ j ∧ j < w.length
    · show (if _ then _ else _) = (if _ then _ else _)
      rw [if_pos e, if_pos e, sumAt_pos hb f (j + b) (by omega)]
    · rw [sumAt_out e, sumAt_out e]
theorem sumAt_neg {w : List Bool} {b : Int} (hb : b < 0) : ∀ (f : Nat) (j : Int), j + 1 ≤ f → sumAt w b (f + 1) j = sumAt w b f j
  | 0, j, h => by rw [sumAt_out (by omega), sumAt_out (by omega)]
  | f + 1, j, h => by
    by_cases e : 0 ≤ j ∧ j < w.length
    · show (if _ then _ else _) = (if _ then _ else _)
      rw [if_pos e, if_pos e, sumAt_neg hb f (j + b) (by omega)]
    · rw [sumAt_out e, sumAt_out e]
/-- the sum at a place, from that at the next one -/
theorem sumAt_next {w : List Bool} {b : Int} (hb : b ≠ 0) {j : Int} (h0 : 0 ≤ j) (h1 : j < w.length) : sumAt w b (w.length + 1) j = (bitAt w j ^^ sumAt w b (w.length + 1) (j + b)) := by
  show (if _ then _ else _) = _
  rw [if_pos ⟨h0, h1⟩]
  rcases Int.lt_or_gt_of_ne hb with h | h
  · by_cases e : 0 ≤ j + b
    · rw [sumAt_neg h w.length (j + b) (by omega)]
    · rw [sumAt_out (by omega), sumAt_out (by omega)]
  · by_cases e : 0 ≤ j + b
    · rw [sumAt_pos h w.length (j + b) (by omega)]
    · omega
def mixedF (k : Str) (by_ : Int) (w : List Bool) : List Bool :=
  if k = "near" then nearF w by_ else if k = "sum" then sumF w by_ else if k = "spread" then w.headD false :: (w.drop 1).map (fun b => b ^^ w.headD false) else w.foldl (· ^^ ·) false :: w.drop 1
theorem range_set {α : Type} {g : Nat → α} {n p : Nat} {x : α} (hp : p < n) : ((List.range n).map g).set p x = (List.range n).map fun j => if j = p then x else g j := by
  refine List.ext_getElem? fun i => ?_
  rw [List.getElem?_set, List.length_map, List.length_range, List.getElem?_map, List.getElem?_map]
  by_cases e : p = i
  · subst e
    rw [if_pos rfl, if_pos hp, List.getElem?_range hp]
    show some x = some (if p = p then x else g p)
    rw [if_pos rfl]
  · rw [if_neg e]
    by_cases hi : i < n
    · rw [List.getElem?_range hi]
      show some (g i) = some (if i = p then x else g i)
      rw [if_neg (fun z => e z.symm)]
    · rw [List.getElem?_eq_none (by rw [List.length_range]; omega)]
      rfl
theorem atRange {α : Type} {g : Nat → α} {n : Nat} {i : Int} (h0 : 0 ≤ i) (h1 : i < n) : atI ((List.range n).map g) i = some (g i.toNat) := by
  obtain ⟨j, rfl⟩ : ∃ j : Nat, i = (j : Int) := ⟨i.toNat, by omega⟩
  refine atI_nat ?_
  rw [List.getElem?_map, List.getElem?_range (by omega)]
  rfl
theorem sum_bits_mod : ∀ (w : List Bool) (a : Bool), ((bI a + (w.map bI).sum) % 2 : Int) = bI (w.foldl (· ^^ ·) a)
  | [], a => by cases a <;> rfl
  | b :: w, a => by
    rw [List.map_cons, List.sum_cons, List.foldl_cons, ← sum_bits_mod w (a ^^ b)]
    cases a <;> cases b <;> simp [bI] <;> omega
def spNear : Sp := fun vs H Q _ => ∃ (b : Int) (t : Addr) (w : List Bool), vs = [.ref t, .int b] ∧ H t = some (.tup (w.map bV)) ∧ w.length ≤ 1000 ∧ ∀ t' H', Same H H' → H t' = none → H' t' = some (.lst ((nearF w b).map bV)) → Q (.ref t') H'
def spSumB : Sp := fun vs H Q _ => ∃ (b : Int) (t : Addr) (w : List Bool), vs = [.ref t, .int b] ∧ b ≠ 0 ∧ H t = some (.tup (w.map bV)) ∧ w.length ≤ 1000 ∧ ∀ t' H', Same H H' → H t' = none → H' t' = some (.lst ((sumF w b).map bV)) → Q (.ref t') H'
def spMixed : Sp := fun vs H Q _ => ∃ (k : Str) (bv : V) (b : Int) (t : Addr) (w : List Bool), vs = [.str k, bv, .ref t] ∧ (k = "near" ∨ k = "sum" → bv = .int b ∧ b ≠ 0) ∧ H t = some (.tup (w.map bV)) ∧ 0 < w.length ∧ w.length ≤ 1000 ∧ ∀ t' H', Same H H' → H t' = none → H' t' = some (.lst ((mixedF k b w).map bV)) → Q (.ref t') H'
section
variable {P : Program} {w : World} {K : PySem.W.Frag} {mg : Str → Option Value} {base : Heap} {fPl fFl fCh : Addr}
theorem scNear : FnScope ["word", "by", "size", "place", "bit"] ["word", "by"] (defScope sNear) := ⟨rfl, rfl, rfl, by decide +kernel, rfl, by decide +kernel, by decide +kernel⟩
theorem ok_near {f : Addr} {fd : FuncData} (F : Fun K "near_bits" "near_bits" sNear f fd) (W : TxtM mg fPl fFl fCh) : FnOk P w K mg base CX0 1 f fd ["word", "by"] spNear := by
  refine F.ok scNear (fun vs H Q E h => ?_) (fun cdv A outer s H vs Q E hr h => ?_)
  · obtain ⟨b, t, w', rfl, _⟩ := h
    rfl
  · obtain ⟨b, t, wd, rfl, ht, n1, hQ⟩ := h
    have nd := scNear.nd
    refine ⟨_, (pss_cons (ps_set (i := 2) nd rfl (Or.inr rfl) (pe_callB call_len_seq (by rfl) W.len PySem.boot_len (pa_cons (pv 0) pa_nil)))
      (pss_one (ps_ret (pe_lc (own := [("place", 3), ("bit", 4)]) (g := (gTup _ 2 (gCons (gName 3) (gCons (gName 4) gNil)))) (tt := tYes) rfl nd (pi_enumT (by rfl) W.enum (pa_cons (pv 0) pa_nil)) (blkOk_by (own := [("place", 3), ("bit", 4)]) (N := ["word", "by", "size", "place", "bit"]) (sc := defScope sNear) (by decide +kernel)) (fun _ _ _ _ _ => (pg_tup rfl (pgs_cons (pg_name (i := 3) nd rfl (Or.inl rfl)) (pgs_cons (pg_name (i := 4) nd rfl (Or.inl rfl)) pgs_nil)))) (fun _ _ _ _ _ => pts_nil) (fun _ _ _ _ _ => (pe_ifExp (pt_chain op_le op_lt pe_int (pe_op op_add (pv 3) (pv 1)) (pv 2)) (pe_op op_xor (pv 4) (show PE _ _ (tOp (rIxT K) (tVar 0) (tOp (rI0 fun i j => .int (i + j)) (tVar 3) (tVar 1))) from pe_ix ix_tup (pv 0) (pe_op op_add (pv 3) (pv 1)) (fun _ _ => rfl))) (pv 4))))))), ?_⟩
    have lm : (wd.map bV).length = wd.length := List.length_map ..
    refine ⟨_, rfl, t, _, rfl, .inr (SqT.of ht), ?_⟩
    rw [lm]
    refine ⟨_, rfl, t, _, rfl, SqT.of ht, fun D hD => ?_⟩
    refine lc_enumT (a := t) (xs := wd.map bV) (fun m H3 => Same H H3 ∧ H3 D = some (.lst (((List.range m).map fun i : Nat => wd.getD i false ^^ farB wd (i + b)).map bV))) ⟨same_upd hD, upd_same⟩ (fun m H3 hm z => SqT.of (z.1 _ _ ht)) ?_ ?_
    · rintro i x H3 T hx ⟨s3, e3⟩ hT
      have hi2 : i < wd.length := by
        have := (List.getElem?_eq_some_iff.mp hx).1
        rw [lm] at this
        exact this
      have hx2 : x = bV (wd.getD i false) := by
        rw [List.getElem?_map, List.getElem?_eq_getElem hi2] at hx
        rw [List.getD_eq_getElem?_getD, List.getElem?_eq_getElem hi2]
        exact (Option.some.inj hx).symm
      subst hx2
      have sT := same_upd (o := .tup [.int (i : Nat), bV (wd.getD i false)]) hT
      have e4 := sT _ _ e3
      have fin : ∀ y : V, y = bV (wd.getD i false ^^ farB wd (i + b)) → ∃ acc, upd H3 T (.tup [.int (i : Nat), bV (wd.getD i false)]) D = some (.lst acc) ∧ acc.length < sizeLine ∧ (Same H (upd (upd H3 T (.tup [.int (i : Nat), bV (wd.getD i false)])) D (.lst (acc ++ [y]))) ∧ upd (upd H3 T (.tup [.int (i : Nat), bV (wd.getD i false)])) D (.lst (acc ++ [y])) D = some (.lst (((List.range (i + 1)).map fun i : Nat => wd.getD i false ^^ farB wd (i + b)).map bV))) := by
        rintro y rfl
        refine ⟨_, e4, ?_, same_fresh hD (s3.trans sT), ?_⟩
        · rw [List.length_map, List.length_map, List.length_range]
          exact Nat.lt_of_lt_of_le (by omega : i < 1000) kz
        · rw [upd_same, map_take]
      refine ⟨T, _, rfl, SqT.of upd_same, rfl, _, _, rfl, _, _, rfl, rfl, rfl, ?_⟩
      refine ⟨_, rfl, _, rfl, (i : Int), b, rfl, rfl, 0, _, rfl, rfl, _, rfl, ?_⟩
      refine ite_dec (fun h0 => ?_) (fun h0 => ?_)
      · refine ⟨_, rfl, _, _, rfl, rfl, _, rfl, ?_⟩
        refine ite_dec (fun h1 => ?_) (fun h1 => ?_)
        · refine ⟨_, rfl, _, rfl, _, rfl, _, rfl, (i : Int), b, rfl, rfl, t, _, _, _, rfl, rfl, SqT.of (sT _ _ (s3 _ _ ht)), atBits h0 h1, bI (wd.getD i false), bI (bitAt wd (i + b)), rfl, rfl, ?_⟩
          refine fin _ ?_
          show V.int (Builtin.bitXor (bI (wd.getD i false)) (bI (bitAt wd (i + b)))) = _
          rw [bx]
          unfold farB
          rw [if_pos ⟨h0, h1⟩]
          rfl
        · refine ⟨_, rfl, fin _ ?_⟩
          unfold farB
          rw [if_neg (fun z => h1 z.2), Bool.xor_false]
      · refine ⟨_, rfl, iteF ⟨_, rfl, fin _ ?_⟩⟩
        unfold farB
        rw [if_neg (fun z => h0 z.1), Bool.xor_false]
    · rintro H3 ⟨s3, e3⟩
      rw [lm] at e3
      exact hQ D _ s3 hD e3
theorem scSumB : FnScope ["word", "by", "size", "sums", "places", "place"] ["word", "by"] (defScope sSumB) := ⟨rfl, rfl, rfl, by decide +kernel, rfl, by decide +kernel, by decide +kernel⟩
theorem ok_sumb {f : Addr} {fd : FuncData} (F : Fun K "sum_bits" "sum_bits" sSumB f fd) (W : TxtM mg fPl fFl fCh) : FnOk P w K mg base CX0 1 f fd ["word", "by"] spSumB := by
  refine F.ok scSumB (fun vs H Q E h => ?_) (fun cdv A outer s H vs Q E hr h => ?_)
  · obtain ⟨b, t, w', rfl, _⟩ := h
    rfl
  · obtain ⟨b, t, wd, rfl, hb, ht, n1, hQ⟩ := h
    have nd := scSumB.nd
    refine ⟨_, (pss_cons (ps_set (i := 2) nd rfl (Or.inl rfl) (pe_callB call_len_seq (by rfl) W.len PySem.boot_len (pa_cons (pv 0) pa_nil)))
      (pss_cons (ps_set (i := 3) nd rfl (Or.inl rfl) (pe_callTy call_list_of (by rfl) W.list (by decide +kernel) (pa_cons (pv 0) pa_nil)))
      (pss_cons (ps_set (i := 4) nd rfl (Or.inl rfl) (pe_listRg rfl (by rfl) W.list (prg_1 (by rfl) W.range (pv 2))))
      (pss_cons (ps_if (pt_cmpR op_gt (pv 1) pe_int (nomark _))
        (pss_one (ps_set (i := 4) nd rfl (Or.inl rfl) (pe_revL (pv 4)))) pss_nil)
      (pss_cons (ps_for PassesOwn.never rfl (pi_list (pv 4)) (pg_name (i := 5) nd rfl (Or.inl rfl))
        (pss_one (ps_if (pt_chain op_le op_lt pe_int (pe_op op_add (pv 5) (pv 1)) (pv 2))
          (pss_one (ps_asg (pe_op op_xor (pe_ix ix_list (pv 3) (pv 5) (fun _ _ => rfl)) (pe_ix ix_list (pv 3) (pe_op op_add (pv 5) (pv 1)) (fun _ _ => rfl))) (pg_sub (pv 3) (pv 5) set_list))) pss_nil)))
      (pss_one (ps_ret (pv 3)))))))), ?_⟩
    have lm : (wd.map bV).length = wd.length := List.length_map ..
    refine ⟨_, rfl, t, _, rfl, .inr (SqT.of ht), ?_⟩
    rw [lm]
    refine ⟨_, rfl, t, _, rfl, .inr (SqT.of ht), fun S hS => ?_⟩
    refine ⟨_, rfl, (wd.length : Int), rfl, ⟨by omega, by omega, by omega, by omega, by omega⟩, fun L hL => ?_⟩
    have sS := same_upd (o := .lst (wd.map bV)) hS
    have e1 : upd (upd H S (.lst (wd.map bV))) L (.lst (rgV 0 wd.length)) S = some (.lst (((List.range wd.length).map fun j : Nat => bitAt wd j).map bV)) := by
      rw [same_upd hL _ _ (upd_same (H := H) (a := S) (o := .lst (wd.map bV)))]
      congr 3
      refine List.ext_getElem? fun i => ?_
      rw [List.getElem?_map]
      by_cases hi : i < wd.length
      · rw [List.getElem?_range hi, List.getElem?_eq_getElem hi]
        show some wd[i] = some (wd.getD i false)
        rw [List.getD_eq_getElem?_getD, List.getElem?_eq_getElem hi]
        rfl
      · rw [List.getElem?_eq_none (by omega), List.getElem?_eq_none (by rw [List.length_range]; omega)]
        rfl
    have sL := sS.trans (same_upd (o := .lst (rgV 0 wd.length)) hL)
    have nSL : S ≠ L := ne_of_none (upd_same (H := H) (a := S) (o := .lst (wd.map bV))) hL
    have lrg : (rgV 0 (wd.length : Int)).length = wd.length := by rw [rgV_length]; omega
    have rgAt : ∀ i, i < wd.length → (rgV 0 (wd.length : Int))[i]? = some (.int (i : Nat)) := fun i hi => by
      unfold rgV
      rw [List.getElem?_map, List.getElem?_range (by omega)]
      show some (V.int (0 + (i : Int))) = _
      rw [Int.zero_add]
    obtain ⟨H1, hH1⟩ : ∃ H1, upd (upd H S (.lst (wd.map bV))) L (.lst (rgV 0 wd.length)) = H1 := ⟨_, rfl⟩
    have eL : H1 L = some (.lst (rgV 0 wd.length)) := by rw [← hH1, upd_same]
    rw [hH1] at e1 sL ⊢
    refine ⟨_, rfl, b, 0, rfl, rfl, _, rfl, ?_⟩
    refine ite_dec (fun hp => ?_) (fun hp => ?_)
    · refine ⟨_, rfl, L, _, rfl, SqL.of eL, fun M hM => ?_⟩
      have nSM : S ≠ M := ne_of_none e1 hM
      have sM := sL.trans (same_upd (o := .lst (rgV 0 wd.length).reverse) hM)
      have e2 := same_upd (o := .lst (rgV 0 wd.length).reverse) hM _ _ e1
      have lrv : (rgV 0 (wd.length : Int)).reverse.length = wd.length := by rw [List.length_reverse, lrg]
      refine ⟨_, rfl, M, rfl, ⟨_, SqL.of upd_same⟩, for_list (a := M) (xs := (rgV 0 (wd.length : Int)).reverse) (fun m σ H3 => ∃ (v5 : Option V), σ = [some (.ref t), some (.int b), some (.int wd.length), some (.ref S), some (.ref M), v5] ∧ (∀ c o, H c = some o → H3 c = some o) ∧ H3 M = some (.lst (rgV 0 (wd.length : Int)).reverse) ∧ H3 S = some (.lst (((List.range wd.length).map fun j : Nat => if wd.length ≤ j + m then sumAt wd b (wd.length + 1) j else bitAt wd j).map bV))) ⟨none, rfl, fun c o e => sM c o e, upd_same, ?_⟩ (fun i σ H3 _ z => by
        obtain ⟨_, _, _, e, _⟩ := z
        exact SqL.of e) ?_ ?_⟩
      · rw [e2]
        congr 3
        refine List.map_congr_left fun j hj => ?_
        have hj2 := List.mem_range.mp hj
        rw [if_neg (by omega)]
      · rintro m x σ H3 hx ⟨v5, rfl, s3, eL3, e3⟩
        have hm : m < wd.length := by
          have := (List.getElem?_eq_some_iff.mp hx).1
          rw [lrv] at this
          exact this
        obtain rfl : x = .int ((wd.length : Int) - 1 - (m : Int)) := by
          rw [List.getElem?_reverse (by rw [lrg]; exact hm), lrg, rgAt _ (by omega)] at hx
          cases hx
          congr 1
          omega
        obtain ⟨q, hq⟩ : ∃ q : Int, ((wd.length : Int) - 1 - (m : Int)) = q := ⟨_, rfl⟩
        have hq0 : 0 ≤ q ∧ q < wd.length := by omega
        rw [hq]
        have lS : (((List.range wd.length).map fun j : Nat => if wd.length ≤ j + m then sumAt wd b (wd.length + 1) j else bitAt wd j).map bV).length = wd.length := by rw [List.length_map, List.length_map, List.length_range]
        have next := sumAt_next (w := wd) hb hq0.1 hq0.2
        have fin : ∀ H4 : Hp, (∀ c o, H c = some o → H4 c = some o) → H4 M = some (.lst (rgV 0 (wd.length : Int)).reverse) → H4 S = some (.lst (((List.range wd.length).map fun j : Nat => if j = q.toNat then sumAt wd b (wd.length + 1) q else (if wd.length ≤ j + m then sumAt wd b (wd.length + 1) j else bitAt wd j)).map bV)) → ∃ (v5 : Option V), [some (V.ref t), some (V.int b), some (V.int wd.length), some (V.ref S), some (V.ref M), some (V.int q)] = [some (.ref t), some (.int b), some (.int wd.length), some (.ref S), some (.ref M), v5] ∧ (∀ c o, H c = some o → H4 c = some o) ∧ H4 M = some (.lst (rgV 0 (wd.length : Int)).reverse) ∧ H4 S = some (.lst (((List.range wd.length).map fun j : Nat => if wd.length ≤ j + (m + 1) then sumAt wd b (wd.length + 1) j else bitAt wd j).map bV)) := fun H4 s4 eL4 e4 => by
          refine ⟨_, rfl, s4, eL4, ?_⟩
          rw [e4]
          congr 3
          refine List.map_congr_left fun j hj => ?_
          have hj2 := List.mem_range.mp hj
          by_cases e : j = q.toNat
          · rw [if_pos e, if_pos (by omega)]
            congr 1
            omega
          · rw [if_neg e]
            by_cases e2 : wd.length ≤ j + m
            · rw [if_pos e2, if_pos (by omega)]
            · rw [if_neg e2, if_neg (by omega)]
        refine ⟨_, rfl, _, rfl, q, b, rfl, rfl, 0, _, rfl, rfl, _, rfl, ?_⟩
        have stay : ¬ (0 ≤ q + b ∧ q + b < wd.length) → H3 S = some (.lst (((List.range wd.length).map fun j : Nat => if j = q.toNat then sumAt wd b (wd.length + 1) q else (if wd.length ≤ j + m then sumAt wd b (wd.length + 1) j else bitAt wd j)).map bV)) := fun hout => by
          rw [e3]
          congr 3
          refine List.map_congr_left fun j hj => ?_
          by_cases e : j = q.toNat
          · rw [if_pos e, next, sumAt_out hout, Bool.xor_false, if_neg (by omega)]
            congr 1
            omega
          · rw [if_neg e]
        refine ite_dec (fun h0 => ?_) (fun h0 => ?_)
        rotate_left
        · exact ⟨_, rfl, iteF (fin H3 s3 eL3 (stay fun z => h0 z.1))⟩
        refine ⟨_, rfl, _, _, rfl, rfl, _, rfl, ?_⟩
        refine ite_dec (fun h1 => ?_) (fun h1 => fin H3 s3 eL3 (stay fun z => h1 z.2))
        have hat1 : atI (((List.range wd.length).map fun j : Nat => if wd.length ≤ j + m then sumAt wd b (wd.length + 1) j else bitAt wd j).map bV) q = some (bV (bitAt wd q)) := by
          rw [List.map_map, atRange hq0.1 hq0.2]
          show some (bV (if _ then _ else _)) = _
          rw [if_neg (by omega)]
          congr 3
          omega
        have hat2 : atI (((List.range wd.length).map fun j : Nat => if wd.length ≤ j + m then sumAt wd b (wd.length + 1) j else bitAt wd j).map bV) (q + b) = some (bV (sumAt wd b (wd.length + 1) (q + b))) := by
          rw [List.map_map, atRange h0 h1]
          show some (bV (if _ then _ else _)) = _
          rw [if_pos (by omega)]
          congr 3
          omega
        refine ⟨_, rfl, _, rfl, S, _, _, _, rfl, rfl, SqL.of e3, hat1, _, rfl, _, rfl, _, rfl, q, b, rfl, rfl, S, _, _, _, rfl, rfl, SqL.of e3, hat2, bI (bitAt wd q), bI (sumAt wd b (wd.length + 1) (q + b)), rfl, rfl, ?_⟩
        have hix : ixN (((List.range wd.length).map fun j : Nat => if wd.length ≤ j + m then sumAt wd b (wd.length + 1) j else bitAt wd j).map bV).length q = some q.toNat := by
          unfold ixN
          rw [lS, if_pos hq0.1, if_pos hq0.2]
        refine ⟨_, rfl, _, rfl, S, _, q, q.toNat, rfl, rfl, e3, hix, ?_⟩
        refine fin _ (fun c o e => by rw [upd_ne (ne_of_none e hS)]; exact s3 c o e) (by rw [upd_ne (Ne.symm nSM)]; exact eL3) ?_
        rw [upd_same]
        congr 2
        have ev : V.int (Builtin.bitXor (bI (bitAt wd q)) (bI (sumAt wd b (wd.length + 1) (q + b)))) = bV (sumAt wd b (wd.length + 1) q) := by rw [bx, ← next]; rfl
        show List.set _ q.toNat (V.int (Builtin.bitXor (bI (bitAt wd q)) (bI (sumAt wd b (wd.length + 1) (q + b))))) = _
        rw [ev, ← List.map_set, range_set (by omega)]
      · rintro σ H3 ⟨v5, rfl, s3, eL3, e3⟩
        refine ⟨_, rfl, hQ S H3 s3 hS ?_⟩
        rw [e3]
        congr 3
        refine List.map_congr_left fun j hj => ?_
        have hj2 := List.mem_range.mp hj
        rw [if_pos (by rw [lrv]; omega)]
    · have hn : b < 0 := by omega
      refine ⟨_, rfl, L, rfl, ⟨_, SqL.of eL⟩, for_list (a := L) (xs := (rgV 0 (wd.length : Int))) (fun m σ H3 => ∃ (v5 : Option V), σ = [some (.ref t), some (.int b), some (.int wd.length), some (.ref S), some (.ref L), v5] ∧ (∀ c o, H c = some o → H3 c = some o) ∧ H3 L = some (.lst (rgV 0 (wd.length : Int))) ∧ H3 S = some (.lst (((List.range wd.length).map fun j : Nat => if j < m then sumAt wd b (wd.length + 1) j else bitAt wd j).map bV))) ⟨none, rfl, fun c o e => sL c o e, eL, ?_⟩ (fun i σ H3 _ z => by
        obtain ⟨_, _, _, e, _⟩ := z
        exact SqL.of e) ?_ ?_⟩
      · rw [e1]
        congr 3
      · rintro m x σ H3 hx ⟨v5, rfl, s3, eL3, e3⟩
        have hm : m < wd.length := by
          have := (List.getElem?_eq_some_iff.mp hx).1
          rw [lrg] at this
          exact this
        obtain rfl : x = .int ((m : Nat) : Int) := by
          rw [rgAt _ hm] at hx
          cases hx
          rfl
        obtain ⟨q, hq⟩ : ∃ q : Int, ((m : Nat) : Int) = q := ⟨_, rfl⟩
        have hq0 : 0 ≤ q ∧ q < wd.length := by omega
        rw [hq]
        have lS : (((List.range wd.length).map fun j : Nat => if j < m then sumAt wd b (wd.length + 1) j else bitAt wd j).map bV).length = wd.length := by rw [List.length_map, List.length_map, List.length_range]
        have next := sumAt_next (w := wd) hb hq0.1 hq0.2
        have fin : ∀ H4 : Hp, (∀ c o, H c = some o → H4 c = some o) → H4 L = some (.lst (rgV 0 (wd.length : Int))) → H4 S = some (.lst (((List.range wd.length).map fun j : Nat => if j = q.toNat then sumAt wd b (wd.length + 1) q else (if j < m then sumAt wd b (wd.length + 1) j else bitAt wd j)).map bV)) → ∃ (v5 : Option V), [some (V.ref t), some (V.int b), some (V.int wd.length), some (V.ref S), some (V.ref L), some (V.int q)] = [some (.ref t), some (.int b), some (.int wd.length), some (.ref S), some (.ref L), v5] ∧ (∀ c o, H c = some o → H4 c = some o) ∧ H4 L = some (.lst (rgV 0 (wd.length : Int))) ∧ H4 S = some (.lst (((List.range wd.length).map fun j : Nat => if j < m + 1 then sumAt wd b (wd.length + 1) j else bitAt wd j).map bV)) := fun H4 s4 eL4 e4 => by
          refine ⟨_, rfl, s4, eL4, ?_⟩
          rw [e4]
          congr 3
          refine List.map_congr_left fun j hj => ?_
          have hj2 := List.mem_range.mp hj
          by_cases e : j = q.toNat
          · rw [if_pos e, if_pos (by omega)]
            congr 1
            omega
          · rw [if_neg e]
            by_cases e2 : j < m
            · rw [if_pos e2, if_pos (by omega)]
            · rw [if_neg e2, if_neg (by omega)]
        refine ⟨_, rfl, _, rfl, q, b, rfl, rfl, 0, _, rfl, rfl, _, rfl, ?_⟩
        have stay : ¬ (0 ≤ q + b ∧ q + b < wd.length) → H3 S = some (.lst (((List.range wd.length).map fun j : Nat => if j = q.toNat then sumAt wd b (wd.length + 1) q else (if j < m then sumAt wd b (wd.length + 1) j else bitAt wd j)).map bV)) := fun hout => by
          rw [e3]
          congr 3
          refine List.map_congr_left fun j hj => ?_
          by_cases e : j = q.toNat
          · rw [if_pos e, next, sumAt_out hout, Bool.xor_false, if_neg (by omega)]
            congr 1
            omega
          · rw [if_neg e]
        refine ite_dec (fun h0 => ?_) (fun h0 => ?_)
        rotate_left
        · exact ⟨_, rfl, iteF (fin H3 s3 eL3 (stay fun z => h0 z.1))⟩
        refine ⟨_, rfl, _, _, rfl, rfl, _, rfl, ?_⟩
        refine ite_dec (fun h1 => ?_) (fun h1 => fin H3 s3 eL3 (stay fun z => h1 z.2))
        have hat1 : atI (((List.range wd.length).map fun j : Nat => if j < m then sumAt wd b (wd.length + 1) j else bitAt wd j).map bV) q = some (bV (bitAt wd q)) := by
          rw [List.map_map, atRange hq0.1 hq0.2]
          show some (bV (if _ then _ else _)) = _
          rw [if_neg (by omega)]
          congr 3
          omega
        have hat2 : atI (((List.range wd.length).map fun j : Nat => if j < m then sumAt wd b (wd.length + 1) j else bitAt wd j).map bV) (q + b) = some (bV (sumAt wd b (wd.length + 1) (q + b))) := by
          rw [List.map_map, atRange h0 h1]
          show some (bV (if _ then _ else _)) = _
          rw [if_pos (by omega)]
          congr 3
          omega
        refine ⟨_, rfl, _, rfl, S, _, _, _, rfl, rfl, SqL.of e3, hat1, _, rfl, _, rfl, _, rfl, q, b, rfl, rfl, S, _, _, _, rfl, rfl, SqL.of e3, hat2, bI (bitAt wd q), bI (sumAt wd b (wd.length + 1) (q + b)), rfl, rfl, ?_⟩
        have hix : ixN (((List.range wd.length).map fun j : Nat => if j < m then sumAt wd b (wd.length + 1) j else bitAt wd j).map bV).length q = some q.toNat := by
          unfold ixN
          rw [lS, if_pos hq0.1, if_pos hq0.2]
        refine ⟨_, rfl, _, rfl, S, _, q, q.toNat, rfl, rfl, e3, hix, ?_⟩
        refine fin _ (fun c o e => by rw [upd_ne (ne_of_none e hS)]; exact s3 c o e) (by rw [upd_ne (Ne.symm nSL)]; exact eL3) ?_
        rw [upd_same]
        congr 2
        have ev : V.int (Builtin.bitXor (bI (bitAt wd q)) (bI (sumAt wd b (wd.length + 1) (q + b)))) = bV (sumAt wd b (wd.length + 1) q) := by rw [bx, ← next]; rfl
        show List.set _ q.toNat (V.int (Builtin.bitXor (bI (bitAt wd q)) (bI (sumAt wd b (wd.length + 1) (q + b))))) = _
        rw [ev, ← List.map_set, range_set (by omega)]
      · rintro σ H3 ⟨v5, rfl, s3, eL3, e3⟩
        refine ⟨_, rfl, hQ S H3 s3 hS ?_⟩
        rw [e3]
        congr 3
        refine List.map_congr_left fun j hj => ?_
        have hj2 := List.mem_range.mp hj
        rw [if_pos (by rw [lrg]; omega)]
end
end Aw

namespace Aw
open PySem PySem.Spec PyProof.Rows L2 NdefX StX
theorem cut1 {xs : List V} : cutV xs (some 1) none = xs.drop 1 := by
  cases xs with
  | nil => rfl
  | cons x l =>
    show ((x :: l).drop (min 1 (l.length + 1))).take (l.length + 1 - min 1 (l.length + 1)) = _
    have e : min 1 (l.length + 1) = 1 := by omega
    rw [e]
    exact List.take_of_length_le (by simp)
theorem six1 {n : Nat} (h : 0 < n) : ¬ (HT.sIx n 0 (some 1) = 0 ∧ HT.sIx n n none = n) := fun z => by
  have e : HT.sIx n 0 (some 1) = min 1 n := rfl
  omega
theorem sum_one (w : List Bool) : ((w.map bI).sum % 2 : Int) = bI (w.foldl (· ^^ ·) false) := by
  rw [← sum_bits_mod w false]
  show _ = (0 + (w.map bI).sum) % 2
  rw [Int.zero_add]
section
variable {P : Program} {w : World} {K : PySem.W.Frag} {mg : Str → Option Value} {base : Heap} {fPl fFl fCh fNe fSu : Addr}
theorem scMixed : FnScope ["kind", "by", "word", "first", "bit"] ["kind", "by", "word"] (defScope sMixed) := ⟨rfl, rfl, rfl, by decide +kernel, rfl, by decide +kernel, by decide +kernel⟩
theorem ok_mixed {f : Addr} {fd pd cd : FuncData} (F : Fun K "mixed_bits" "mixed_bits" sMixed f fd) (W : TxtM mg fPl fFl fCh) (FNe : Fun K "near_bits" "near_bits" sNear fNe pd) (bNe : Binds K pd ["word", "by"] []) (FSu : Fun K "sum_bits" "sum_bits" sSumB fSu cd) (bSu : Binds K cd ["word", "by"] []) (gNe : mg "near_bits" = some (.ref fNe)) (gSu : mg "sum_bits" = some (.ref fSu)) : FnOk P w K mg base CX0 2 f fd ["kind", "by", "word"] spMixed := by
  have GNe : FnOk P w K mg base CX0 1 fNe pd ["word", "by"] spNear := ok_near FNe W
  have GSu : FnOk P w K mg base CX0 1 fSu cd ["word", "by"] spSumB := ok_sumb FSu W
  refine F.ok scMixed (fun vs H Q E h => ?_) (fun cdv A outer s H vs Q E hr h => ?_)
  · obtain ⟨k, bv, b, t, w', rfl, _⟩ := h
    rfl
  · obtain ⟨k, bv, b, t, wd, rfl, hb, ht, n0, n1, hQ⟩ := h
    have nd := scMixed.nd
    refine ⟨_, (pss_cons (ps_if (pt_cmpR op_eq (pv 0) pe_str (nomark _))
        (pss_one (ps_ret (pe_call GNe (hr.mono (by decide)) (by rfl) gNe FNe.kp bNe .nil pass0 (pa_cons (pv 2) (pa_cons (pv 1) pa_nil))))) pss_nil)
      (pss_cons (ps_if (pt_cmpR op_eq (pv 0) pe_str (nomark _))
        (pss_one (ps_ret (pe_call GSu (hr.mono (by decide)) (by rfl) gSu FSu.kp bSu .nil pass0 (pa_cons (pv 2) (pa_cons (pv 1) pa_nil))))) pss_nil)
      (pss_cons (ps_set (i := 3) nd rfl (Or.inr rfl) (pe_ix ix_tup (pv 2) pe_int (fun _ _ => rfl)))
      (pss_cons (ps_if (pt_cmpR op_eq (pv 0) pe_str (nomark _))
        (pss_one (ps_ret (pe_lst (pa_cons (pv 3) (pa_star (pe_lc (own := [("bit", 4)]) (g := (gName 4)) (tt := tYes) rfl nd (pi_tup (pe_slice sl_tup (pv 2) (po_some pe_int) po_none)) (blkOk_by (own := [("bit", 4)]) (N := ["kind", "by", "word", "first", "bit"]) (sc := defScope sMixed) (by decide +kernel)) (fun _ _ _ _ _ => (pg_name (i := 4) nd rfl (Or.inl rfl))) (fun _ _ _ _ _ => pts_nil) (fun _ _ _ _ _ => (pe_op op_xor (pv 4) (pv 3)))) pa_nil))))) pss_nil)
      (pss_one (ps_ret (pe_lst (pa_cons (pe_op op_mod (pe_callB (cr_sumT rfl) (by rfl) W.sumb (by decide +kernel) (pa_cons (pv 2) pa_nil)) pe_int) (pa_star (pe_slice sl_tup (pv 2) (po_some pe_int) po_none) pa_nil))))))))), ?_⟩
    have lm : (wd.map bV).length = wd.length := List.length_map ..
    refine ⟨_, rfl, rfl, _, rfl, ?_⟩
    unfold mixedF at hQ
    refine ite_str (fun e => ?_) (fun ne1 => ?_)
    · subst e
      obtain ⟨rfl, hb0⟩ := hb (.inl rfl)
      exact ⟨_, rfl, _, rfl, b, t, wd, rfl, ht, n1, hQ⟩
    rw [if_neg ne1] at hQ
    refine ⟨_, rfl, rfl, _, rfl, ?_⟩
    refine ite_str (fun e => ?_) (fun ne2 => ?_)
    · subst e
      obtain ⟨rfl, hb0⟩ := hb (.inr rfl)
      exact ⟨_, rfl, _, rfl, b, t, wd, rfl, hb0, ht, n1, hQ⟩
    rw [if_neg ne2] at hQ
    have h0 : atI (wd.map bV) 0 = some (bV (bitAt wd 0)) := atBits (by omega) (by omega)
    refine ⟨_, rfl, t, _, _, _, rfl, rfl, SqT.of ht, h0, ?_⟩
    refine ⟨_, rfl, rfl, _, rfl, ?_⟩
    refine ite_str (fun e => ?_) (fun ne3 => ?_)
    · rw [if_pos e] at hQ
      refine ⟨_, rfl, _, rfl, 1, rfl, t, _, rfl, SqT.of ht, (by rw [lm]; exact six1 n0), fun p hp => ?_⟩
      rw [cut1, ← List.map_drop]
      have sp := same_upd (o := .tup ((wd.drop 1).map bV)) hp
      refine ⟨p, rfl, ⟨_, SqT.of upd_same⟩, fun D hD => ?_⟩
      have lx : ((wd.drop 1).map bV).length = wd.length - 1 := by rw [List.length_map, List.length_drop]
      refine lc_tup (a := p) (xs := (wd.drop 1).map bV) (fun m H3 => Same (upd H p (.tup ((wd.drop 1).map bV))) H3 ∧ H3 D = some (.lst ((((wd.drop 1).map (fun b => b ^^ wd.headD false)).take m).map bV))) ⟨same_upd hD, upd_same⟩ (fun m H3 hm z => SqT.of (z.1 _ _ upd_same)) ?_ ?_
      · rintro i x H3 hx ⟨s3, e3⟩
        have hi2 : i < (wd.drop 1).length := by
          have := (List.getElem?_eq_some_iff.mp hx).1
          rw [List.length_map] at this
          exact this
        have hx2 : x = bV (wd.drop 1)[i] := by
          rw [List.getElem?_map, List.getElem?_eq_getElem hi2] at hx
          exact (Option.some.inj hx).symm
        subst hx2
        have hz : bitAt wd 0 = wd.headD false := by cases wd <;> rfl
        refine ⟨rfl, _, rfl, _, rfl, bI _, bI _, rfl, rfl, _, e3, ?_, same_fresh hD s3, ?_⟩
        · rw [List.length_map, List.length_take]
          rw [List.length_drop] at hi2
          exact Nat.lt_of_le_of_lt (Nat.min_le_left _ _) (Nat.lt_of_lt_of_le (by omega : i < 1000) kz)
        · rw [upd_same, List.take_add_one, List.map_append, List.getElem?_map, List.getElem?_eq_getElem hi2]
          show some (HO.lst (_ ++ [V.int (Builtin.bitXor (bI _) (bI (bitAt wd 0)))])) = _
          rw [bx, hz]
          rfl
      · rintro H3 ⟨s3, e3⟩
        refine ⟨D, _, rfl, .inr (SqL.of e3), ?_⟩
        have eL : bV (bitAt wd 0) :: ((((wd.drop 1).map (fun b => b ^^ wd.headD false)).take ((wd.drop 1).map bV).length).map bV ++ []) = (wd.headD false :: (wd.drop 1).map (fun b => b ^^ wd.headD false)).map bV := by
          rw [List.append_nil, List.take_of_length_le (by rw [List.length_map, List.length_map]; exact Nat.le_refl _)]
          cases wd <;> rfl
        show _ ≤ _ ∧ _
        rw [eL]
        refine ⟨Nat.le_trans (by rw [List.length_map, List.length_cons, List.length_map, List.length_drop]; omega) kz, fun t' ht' => ?_⟩
        have s4 := (sp.trans s3).trans (same_upd (o := .lst ((wd.headD false :: (wd.drop 1).map (fun b => b ^^ wd.headD false)).map bV)) ht')
        exact hQ t' _ s4 ((sp.trans s3).free ht') upd_same
    rw [if_neg ne3] at hQ
    refine ⟨_, rfl, t, wd.map bI, rfl, ?_, _, 2, rfl, rfl, (show (0 : Int) < 2 by decide), ?_⟩
    · rw [List.map_map]
      exact SqT.of ht
    refine ⟨_, rfl, 1, rfl, t, _, rfl, SqT.of ht, (by rw [lm]; exact six1 n0), fun p hp => ?_⟩
    rw [cut1, ← List.map_drop]
    have sp := same_upd (o := .tup ((wd.drop 1).map bV)) hp
    refine ⟨p, _, rfl, .inl (SqT.of upd_same), ?_⟩
    show _ ≤ _ ∧ _
    rw [List.append_nil]
    have eS : V.int ((wd.map bI).sum % 2) = bV (wd.foldl (· ^^ ·) false) := by rw [sum_one]; rfl
    refine ⟨Nat.le_trans (by rw [List.length_cons, List.length_map, List.length_drop]; omega) kz, fun t' ht' => ?_⟩
    exact hQ t' _ (sp.trans (same_upd ht')) (sp.free ht') (by rw [upd_same]; show some (HO.lst (V.int ((wd.map bI).sum % 2) :: _)) = _; rw [eS]; rfl)
end
end Aw

namespace Aw
open PySem PySem.Spec PyProof.Rows L2 NdefX
/-- what is so of every known step -/
def rowOk (r : Row) : Bool := (r.1 != "roll" || r.2.1.isSome) && (!(r.1 == "near" || r.1 == "sum") || (match r.2.1 with | some b => b != 0 | none => false)) && (match r.2.2 with | some p => decide (0 < p.2) && decide (p.2 < 100) | none => true)
theorem known_ok : ∀ p ∈ known, rowOk p.2 = true := by decide +kernel
theorem known_rest {x : Str} {r : Row} (h : parse x = some r) : restOk r.2.2 := by
  have e := known_ok _ (parse_iff.mp h)
  obtain ⟨k, b, t⟩ := r
  rintro p rfl
  unfold rowOk at e
  dsimp only at e
  rw [Bool.and_eq_true, Bool.and_eq_true, Bool.and_eq_true, decide_eq_true_eq, decide_eq_true_eq] at e
  exact e.2
theorem known_roll {x : Str} {r : Row} (h : parse x = some r) (hk : r.1 = "roll") : ∃ b, r.2.1 = some b := by
  have e := known_ok _ (parse_iff.mp h)
  obtain ⟨k, b, t⟩ := r
  dsimp only at hk
  subst hk
  unfold rowOk at e
  dsimp only at e
  rw [Bool.and_eq_true, Bool.and_eq_true] at e
  exact Option.isSome_iff_exists.mp e.1.1
theorem known_by {x : Str} {r : Row} (h : parse x = some r) (hk : r.1 = "near" ∨ r.1 = "sum") : ∃ b, r.2.1 = some b ∧ b ≠ 0 := by
  have e := known_ok _ (parse_iff.mp h)
  obtain ⟨k, b, t⟩ := r
  dsimp only at hk
  unfold rowOk at e
  dsimp only at e
  rw [Bool.and_eq_true, Bool.and_eq_true] at e
  have e2 := e.1.2
  cases b with
  | none => rcases hk with rfl | rfl <;> exact absurd e2 (by decide)
  | some b =>
    refine ⟨b, rfl, fun z => ?_⟩
    subst z
    rcases hk with rfl | rfl <;> exact absurd e2 (by decide)
def doneF (r : Row) (w : List Bool) : List Bool :=
  if r.1 ∈ movesL then movedF r.1 (r.2.1.getD 0) w else if r.1 ∈ flipsL then flippedF r.1 r.2.2 w else
  (List.range w.length).map fun i : Nat => if chosenF r.2.2 i then bitAt (mixedF r.1 (r.2.1.getD 0) w) i else w.getD i false
theorem mixed_len {k : Str} {b : Int} {w : List Bool} (h : 0 < w.length) : (mixedF k b w).length = w.length := by
  unfold mixedF
  split
  · exact (List.length_map ..).trans List.length_range
  split
  · exact (List.length_map ..).trans List.length_range
  split
  · rw [List.length_cons, List.length_map, List.length_drop]; omega
  · rw [List.length_cons, List.length_drop]; omega
theorem done_len {r : Row} {w : List Bool} : (doneF r w).length = w.length := by
  unfold doneF
  split
  · exact (List.length_map ..).trans List.length_range
  split
  · exact (List.length_map ..).trans List.length_range
  · exact (List.length_map ..).trans List.length_range
def spDone (K : PySem.W.Frag) (C CZ CB : Addr) : Sp := fun vs H Q E => ∃ (a l : Addr) (x : Str) (r : Row) (xs : List V), vs = [.ref a, .ref l] ∧ StepAt K C H a x r ∧ BitsAt H l xs ∧
  (¬ sizeOk xs.length 1000 → ∀ d H', Same H H' → H d = none → H' d = some (.xd [("size", .int (xs.length : Nat))]) → E (.ref CZ) (some d) H') ∧
  (sizeOk xs.length 1000 → ∀ i, firstOdd xs i → ∀ d H', Same H H' → H d = none → H' d = some (.xd [("index", .int (i : Nat))]) → E (.ref CB) (some d) H') ∧
  (sizeOk xs.length 1000 → ∀ w : List Bool, xs = w.map bV → ∀ t H', Same H H' → H t = none → H' t = some (.tup ((doneF r w).map bV)) → Q (.ref t) H')
section
variable {P : Program} {w : World} {K : PySem.W.Frag} {mg : Str → Option Value} {base : Heap} {C CZ CB CT fPl fFl fCh fNe fSu fP fI fW fMo fFd fMi tM tF : Addr}
theorem scDone : FnScope ["self", "bits", "word", "mixed", "rest", "place", "bit"] ["self", "bits"] (defScope sDone) := ⟨rfl, rfl, rfl, by decide +kernel, rfl, by decide +kernel, by decide +kernel⟩
theorem ok_done {f : Addr} {ds : List Value} {fd wd_ md dd id_ cd : FuncData} (F : Fun K "done" "Step.done" sDone f fd) (O : TxtO P K mg C CT fP fI) (W : TxtM mg fPl fFl fCh)
    (GW : FnOk P w K mg base (L2.CX P w) 3 fW wd_ ["bits", "most"] (spWob CZ CB)) (gW : mg "word_of_bits" = some (.ref fW)) (kW : PySem.W.keepIn K (.ref fW) = true) (bW : Binds K wd_ ["bits", "most"] ds) (dW : Vals [.int 1000] ds)
    (GMo : FnOk P w K mg base CX0 2 fMo md ["kind", "by", "word"] spMoved) (FMo : Fun K "moved" "moved" sMoved fMo md) (bMo : Binds K md ["kind", "by", "word"] []) (gMo : mg "moved" = some (.ref fMo))
    (GFd : FnOk P w K mg base CX0 3 fFd dd ["kind", "rest", "word"] (spFlippedB K)) (FFd : Fun K "flipped" "flipped" sFlipdB fFd dd) (bFd : Binds K dd ["kind", "rest", "word"] []) (gFd : mg "flipped" = some (.ref fFd))
    (GMi : FnOk P w K mg base CX0 2 fMi id_ ["kind", "by", "word"] spMixed) (FMi : Fun K "mixed_bits" "mixed_bits" sMixed fMi id_) (bMi : Binds K id_ ["kind", "by", "word"] []) (gMi : mg "mixed_bits" = some (.ref fMi))
    (FCh : Fun K "is_chosen" "is_chosen" sChosen fCh cd) (bCh : Binds K cd ["rest", "place"] [])
    (gM : mg "MOVES" = some (.ref tM)) (qM : ∀ H, SqT K H tM (movesL.map V.str)) (gF : mg "FLIPS" = some (.ref tF)) (qF : ∀ H, SqT K H tF (flipsL.map V.str)) :
    FnOk P w K mg base (L2.CX P w) 4 f fd ["self", "bits"] (spDone K C CZ CB) := by
  have GCh : FnOk P w K mg base CX0 1 fCh cd ["rest", "place"] (spChosen K) := ok_chosen FCh
  refine F.okX scDone (fun vs H Q E h => ?_) (fun cdv A outer s H vs Q E hr h => ?_)
  · obtain ⟨a, l, x, r, xs, rfl, _⟩ := h
    rfl
  · obtain ⟨a, l, x, r, xs, rfl, S, B, kZ, kB, kQ⟩ := h
    have nd := scDone.nd
    refine ⟨_, (pss_cons (ps_set (i := 2) nd rfl (Or.inl rfl) (pe_callSD GW (hr.mono (by decide)) (by rfl) gW kW bW dW (fun σ => passAt (takes_of rfl rfl rfl rfl) σ) (pa_cons (pv 1) pa_nil)))
      (pss_cons (ps_if (pt_cmpR op_in_seq (pe_fld (pv 0) rfl) (pe_glob (v := .ref tM) (by rfl) gM rfl) (by rfl))
        (pss_one (ps_ret (pe_call GMo (hr.mono (by decide)) (by rfl) gMo FMo.kp bMo .nil pass0 (pa_cons (pe_fld (pv 0) rfl) (pa_cons (pe_fld (pv 0) rfl) (pa_cons (pv 2) pa_nil)))))) pss_nil)
      (pss_cons (ps_if (pt_cmpR op_in_seq (pe_fld (pv 0) rfl) (pe_glob (v := .ref tF) (by rfl) gF rfl) (by rfl))
        (pss_one (ps_ret (pe_call GFd (hr.mono (by decide)) (by rfl) gFd FFd.kp bFd .nil pass0 (pa_cons (pe_fld (pv 0) rfl) (pa_cons (pe_fld (pv 0) rfl) (pa_cons (pv 2) pa_nil)))))) pss_nil)
      (pss_cons (ps_set (i := 3) nd rfl (Or.inr rfl) (pe_call GMi (hr.mono (by decide)) (by rfl) gMi FMi.kp bMi .nil pass0 (pa_cons (pe_fld (pv 0) rfl) (pa_cons (pe_fld (pv 0) rfl) (pa_cons (pv 2) pa_nil)))))
      (pss_cons (ps_set (i := 4) nd rfl (Or.inr rfl) (pe_fld (pv 0) rfl))
      (pss_one (ps_ret (pe_callTy call_tuple_of (by rfl) W.tup (by decide +kernel) (pa_cons (pe_lc (own := [("place", 5), ("bit", 6)]) (g := (gTup _ 2 (gCons (gName 5) (gCons (gName 6) gNil)))) (tt := tYes) rfl nd (pi_enumT (by rfl) W.enum (pa_cons (pv 2) pa_nil)) (blkOk_by (own := [("place", 5), ("bit", 6)]) (N := ["self", "bits", "word", "mixed", "rest", "place", "bit"]) (sc := defScope sDone) (by decide +kernel)) (fun _ _ _ _ _ => (pg_tup rfl (pgs_cons (pg_name (i := 5) nd rfl (Or.inl rfl)) (pgs_cons (pg_name (i := 6) nd rfl (Or.inl rfl)) pgs_nil)))) (fun _ _ _ _ _ => pts_nil) (fun _ _ _ _ _ => (pe_ifExp (pt_val (pe_call GCh (hr.mono (by decide)) (by rfl) W.chosen FCh.kp bCh .nil pass0 (pa_cons (pv 4) (pa_cons (pv 5) pa_nil)))) (show PE _ _ (tOp (rIxL K) (tVar 3) (tVar 5)) from pe_ix ix_list (pv 3) (pv 5) (fun _ _ => rfl)) (pv 6)))) pa_nil))))))))), ?_⟩
    obtain ⟨dx, bv, rv, ha, hb, hrv⟩ := S.ex
    refine ⟨_, rfl, l, xs, 1000, rfl, B, kZ, kB, fun so wd hw t H1 s1 ht0 ht => ?_⟩
    have hQ := kQ so wd hw
    have hn : xs.length = wd.length := by rw [hw, List.length_map]
    have n0 : 0 < wd.length := by have := so.1; omega
    have n1 : wd.length ≤ 1000 := by have := so.2; omega
    have hbi : ∀ b, r.2.1 = some b → bv = .int (r.2.1.getD 0) := fun b e => by
      rw [e] at hb ⊢
      cases hb
      rfl
    unfold doneF at hQ
    refine ⟨_, rfl, a, C, dx, _, _, rfl, s1 _ _ ha, O.cl, O.nK, gKind, tM, _, rfl, .inr (qM _), rfl, flat_strs _, _, rfl, ?_⟩
    show if inV (.str r.1) (movesL.map V.str) = true then _ else _
    rw [in_strs]
    have ha1 := s1 _ _ ha
    refine ite_dec (fun e => ?_) (fun ne1 => ?_)
    · rw [if_pos e] at hQ
      refine ⟨_, rfl, a, C, dx, _, _, rfl, ha1, O.cl, O.nK, gKind, _, rfl, a, C, dx, _, _, rfl, ha1, O.cl, O.nB, gBy, _, rfl, r.1, bv, r.2.1.getD 0, t, wd, rfl, fun e2 => ?_, ht, n0, n1, fun t' H' s2 h0 h' => hQ t' H' (s1.trans s2) (s1.free h0) h'⟩
      obtain ⟨b, eb⟩ := known_roll S.pr e2
      exact hbi b eb
    rw [if_neg ne1] at hQ
    refine ⟨_, rfl, a, C, dx, _, _, rfl, ha1, O.cl, O.nK, gKind, tF, _, rfl, .inr (qF _), rfl, flat_strs _, _, rfl, ?_⟩
    show if inV (.str r.1) (flipsL.map V.str) = true then _ else _
    rw [in_strs]
    refine ite_dec (fun e => ?_) (fun ne2 => ?_)
    · rw [if_pos e] at hQ
      exact ⟨_, rfl, a, C, dx, _, _, rfl, ha1, O.cl, O.nK, gKind, _, rfl, a, C, dx, _, _, rfl, ha1, O.cl, O.nR, gRest, _, rfl, r.1, rv, r.2.2, t, wd, rfl, hrv.keep (TK.same s1), known_rest S.pr, ht, n1, fun t' H' s2 h0 h' => hQ t' H' (s1.trans s2) (s1.free h0) h'⟩
    rw [if_neg ne2] at hQ
    refine ⟨_, rfl, a, C, dx, _, _, rfl, ha1, O.cl, O.nK, gKind, _, rfl, a, C, dx, _, _, rfl, ha1, O.cl, O.nB, gBy, _, rfl, r.1, bv, r.2.1.getD 0, t, wd, rfl, fun e2 => ?_, ht, n0, n1, fun M H2 s2 hM2 hM => ?_⟩
    · obtain ⟨b, eb, hb0⟩ := known_by S.pr e2
      refine ⟨hbi b eb, ?_⟩
      rw [eb]
      exact hb0
    have s12 := s1.trans s2
    refine ⟨_, rfl, a, C, dx, _, _, rfl, s12 _ _ ha, O.cl, O.nR, gRest, ?_⟩
    have lm : (wd.map bV).length = wd.length := List.length_map ..
    have ht2 := s2 _ _ ht
    refine ⟨_, rfl, t, _, rfl, SqT.of ht2, fun D hD => ?_⟩
    refine lc_enumT (a := t) (xs := wd.map bV) (fun m H3 => Same H2 H3 ∧ H3 D = some (.lst (((List.range m).map fun i : Nat => if chosenF r.2.2 i then bitAt (mixedF r.1 (r.2.1.getD 0) wd) i else wd.getD i false).map bV))) ⟨same_upd hD, upd_same⟩ (fun m H3 hm z => SqT.of (z.1 _ _ ht2)) ?_ ?_
    · rintro i x H3 T hx ⟨s3, e3⟩ hT
      have hi2 : i < wd.length := by
        have := (List.getElem?_eq_some_iff.mp hx).1
        rw [lm] at this
        exact this
      have hx2 : x = bV (wd.getD i false) := by
        rw [List.getElem?_map, List.getElem?_eq_getElem hi2] at hx
        rw [List.getD_eq_getElem?_getD, List.getElem?_eq_getElem hi2]
        exact (Option.some.inj hx).symm
      subst hx2
      have sT := same_upd (o := .tup [.int (i : Nat), bV (wd.getD i false)]) hT
      have e4 := sT _ _ e3
      have fin : ∀ y : V, y = bV (if chosenF r.2.2 i then bitAt (mixedF r.1 (r.2.1.getD 0) wd) i else wd.getD i false) → ∃ acc, upd H3 T (.tup [.int (i : Nat), bV (wd.getD i false)]) D = some (.lst acc) ∧ acc.length < sizeLine ∧ (Same H2 (upd (upd H3 T (.tup [.int (i : Nat), bV (wd.getD i false)])) D (.lst (acc ++ [y]))) ∧ upd (upd H3 T (.tup [.int (i : Nat), bV (wd.getD i false)])) D (.lst (acc ++ [y])) D = some (.lst (((List.range (i + 1)).map fun i : Nat => if chosenF r.2.2 i then bitAt (mixedF r.1 (r.2.1.getD 0) wd) i else wd.getD i false).map bV))) := by
        rintro y rfl
        refine ⟨_, e4, ?_, same_fresh hD (s3.trans sT), ?_⟩
        · rw [List.length_map, List.length_map, List.length_range]
          exact Nat.lt_of_lt_of_le (by omega : i < 1000) kz
        · rw [upd_same, map_take]
      have s14 := s12.trans (s3.trans sT)
      refine ⟨T, _, rfl, SqT.of upd_same, rfl, _, _, rfl, _, _, rfl, rfl, rfl, ?_⟩
      refine ⟨_, rfl, _, rfl, rv, r.2.2, (i : Int), rfl, hrv.keep (TK.same s14), known_rest S.pr, _, rfl, ?_⟩
      cases e : chosenF r.2.2 i with
      | true =>
        refine iteT ?_
        have hm : atI ((mixedF r.1 (r.2.1.getD 0) wd).map bV) (i : Int) = some (bV (bitAt (mixedF r.1 (r.2.1.getD 0) wd) (i : Int))) := atBits (by omega) (by rw [mixed_len n0]; omega)
        refine ⟨_, rfl, _, rfl, M, _, _, _, rfl, rfl, SqL.of (sT _ _ (s3 _ _ hM)), hm, fin _ ?_⟩
        rw [e]
        rfl
      | false =>
        refine iteF ?_
        exact ⟨_, rfl, fin _ (by rw [e]; rfl)⟩
    · rintro H3 ⟨s3, e3⟩
      rw [lm] at e3
      refine ⟨D, _, rfl, .inl ⟨SqL.of e3, fun t' ht' => ?_⟩⟩
      have s13 := s12.trans s3
      exact hQ t' _ (s13.trans (same_upd ht')) (s13.free ht') (by rw [upd_same])
end
end Aw

namespace Aw
open PySem PySem.Spec PyProof.Rows L2 NdefX
structure TxtL (mg : Str → Option Value) : Prop where
  str : mg "str" = none
  len : mg "len" = none
  int : mg "int" = none
  range : mg "range" = none
theorem len_two : ∀ k < 61, (strI ((2 : Int) ^ k)).length ≤ 19 := by decide +kernel
theorem log_two : ∀ k < 61, ((2 : Int) ^ k).natAbs.log2 < 1920 := by decide +kernel
theorem two_pos (k : Nat) : (0 : Int) < 2 ^ k := Int.pow_pos (by decide)
/-- a number below 2 ^ k -/
def spLBig : Sp := fun vs H Q _ => ∃ (p c : Addr) (k n : Nat), vs = [.ref p, .int (2 ^ k)] ∧ k ≤ 60 ∧ Pen H p c n ∧ n ≤ 900000 ∧ ∀ (r : Int) H', 0 ≤ r → r < 2 ^ k → But p H H' → Pen H' p c (n + 5) → Q (.int r) H'
section
variable {P : Program} {w : World} {K : PySem.W.Frag} {mg : Str → Option Value} {base : Heap} {fD : Addr}
theorem scLBig : FnScope ["_law_pen_here", "_law_many", "_law_found", "_law_k"] ["_law_pen_here", "_law_many"] (defScope sLBig) := ⟨rfl, rfl, rfl, by decide +kernel, rfl, by decide +kernel, by decide +kernel⟩
theorem ok_lbig {f : Addr} {fd dd : FuncData} (F : Fun K "_law_big" "_law_big" sLBig f fd) (B : TxtL mg) (GD : FnOk P w K mg base CX0 1 fD dd ["_law_pen_here", "_law_many"] spDraw) (gD : mg "_law_draw" = some (.ref fD)) (FD : Fun K "_law_draw" "_law_draw" sDraw fD dd) (bD : Binds K dd ["_law_pen_here", "_law_many"] []) : FnOk P w K mg base CX0 2 f fd ["_law_pen_here", "_law_many"] spLBig := by
  refine F.ok scLBig (fun vs H Q E h => ?_) (fun cdv A outer s H vs Q E hr h => ?_)
  · obtain ⟨p, c, k, n, rfl, _⟩ := h
    rfl
  · obtain ⟨p, c, k, n, rfl, hk, pn, hn, hQ⟩ := h
    have nd := scLBig.nd
    refine ⟨_, (pss_cons (ps_set (i := 2) nd rfl (Or.inl rfl) pe_int)
      (pss_cons (ps_for PassesOwn.never rfl (pi_range1 rfl B.range (pa_cons (pe_op op_add (pe_op op_fdiv (pe_callB call_len_str (by rfl) B.len PySem.boot_len (pa_cons (pe_callTy call_str_int (by rfl) B.str (by decide +kernel) (pa_cons (pv 1) pa_nil)) pa_nil)) pe_int) pe_int) pa_nil)) (pg_name (i := 3) nd rfl (Or.inl rfl))
        (pss_one (ps_set (i := 2) nd rfl (Or.inl rfl) (pe_op op_add (pe_op op_mul (pv 2) (pe_op op_pow pe_int pe_int)) (pe_call GD hr (by rfl) gD FD.kp bD .nil pass0 (pa_cons (pv 0) (pa_cons (pe_op op_pow pe_int pe_int) pa_nil)))))))
      (pss_one (ps_ret (pe_op op_mod (pe_callTy call_int1 (by rfl) B.int (by decide +kernel) (pa_cons (pv 2) pa_nil)) (pv 1)))))), ?_⟩
    have hl := len_two k (by omega)
    obtain ⟨L, eL⟩ : ∃ L : Nat, (strI ((2 : Int) ^ k)).length = L := ⟨_, rfl⟩
    rw [eL] at hl
    refine ⟨_, rfl, _, rfl, log_two k (by omega), _, rfl, Nat.le_trans (by rw [show (Str.ofString (toString ((2 : Int) ^ k))).length = L from eL]; omega) kz, _, 6, rfl, rfl, ⟨by decide, by decide⟩, _, 2, rfl, rfl, ?_⟩
    rw [show (Str.ofString (toString ((2 : Int) ^ k))).length = L from eL]
    refine ⟨_, rfl, by omega, by omega, ?_⟩
    refine for_range (n := ((L : Int) / 6 + 2).toNat) (fun m σ H3 => ∃ (fo : Int) (v3 : Option V), σ = [some (.ref p), some (.int (2 ^ k)), some (.int fo), v3] ∧ But p H H3 ∧ Pen H3 p c (n + m)) ⟨0, none, rfl, But.same (fun _ _ e => e), pn⟩ ?_ ?_
    · rintro i σ H3 hi ⟨fo, v3, rfl, b3, p3⟩
      refine ⟨_, rfl, 10, 6, rfl, rfl, ⟨by decide, by decide, by decide⟩, fo, _, rfl, rfl, .inr ⟨by decide, by decide⟩, _, rfl, 10, 6, rfl, rfl, ⟨by decide, by decide, by decide⟩, ?_⟩
      refine ⟨p, c, 1000000, n + i, rfl, p3, by omega, by decide, by decide, fun r H4 r0 r1 b4 p4 => ?_⟩
      exact ⟨_, _, rfl, rfl, _, _, rfl, b3.trans b4, p4⟩
    · rintro σ H3 ⟨fo, v3, rfl, b3, p3⟩
      refine ⟨_, rfl, .inl ⟨_, rfl, _, rfl, _, _, rfl, rfl, two_pos k, ?_⟩⟩
      exact hQ _ _ (Int.emod_nonneg _ (Int.ne_of_gt (two_pos k))) (Int.emod_lt_of_pos _ (two_pos k)) b3 (p3.mono (by omega))
end
end Aw

namespace Aw
open PySem PySem.Spec PyProof.Rows L2 NdefX
/-- any word of that length -/
def spLBits : Sp := fun vs H Q _ => ∃ (p c : Addr) (m n : Nat), vs = [.ref p, .int (m : Nat)] ∧ 1 ≤ m ∧ m ≤ 60 ∧ Pen H p c n ∧ n ≤ 800000 ∧ ∀ (w : List Bool) (l : Addr) H', w.length = m → But p H H' → H l = none → H' l = some (.lst (w.map bV)) → Pen H' p c (n + 6) → Q (.ref l) H'
theorem and_bit (x : Int) : V.int (x % 2 ^ 1) = bV (decide (x % 2 = 1)) := by
  show V.int (x % 2) = _
  have h0 : 0 ≤ x % 2 := Int.emod_nonneg _ (by decide)
  have h1 : x % 2 < 2 := Int.emod_lt_of_pos _ (by decide)
  by_cases e : x % 2 = 1
  · rw [e]; rfl
  · have e2 : x % 2 = 0 := by omega
    rw [e2]; rfl
theorem rep_bits (b : Bool) (m : Nat) : (List.replicate m [bV b]).flatten = (List.replicate m b).map bV := by
  induction m with
  | zero => rfl
  | succ m ih => rw [List.replicate_succ, List.flatten_cons, ih]; rfl
section
variable {P : Program} {w : World} {K : PySem.W.Frag} {mg : Str → Option Value} {base : Heap} {fD fB : Addr}
theorem scLBits : FnScope ["_law_pen_here", "_law_many", "_law_way", "_law_number", "_law_spot", "_law_k"] ["_law_pen_here", "_law_many"] (defScope sLBits) := ⟨rfl, rfl, rfl, by decide +kernel, rfl, by decide +kernel, by decide +kernel⟩
theorem ok_lbits {f : Addr} {fd dd bd : FuncData} (F : Fun K "_law_bits" "_law_bits" sLBits f fd) (B : TxtL mg) (GD : FnOk P w K mg base CX0 1 fD dd ["_law_pen_here", "_law_many"] spDraw) (gD : mg "_law_draw" = some (.ref fD)) (FD : Fun K "_law_draw" "_law_draw" sDraw fD dd) (bD : Binds K dd ["_law_pen_here", "_law_many"] [])
    (FB : Fun K "_law_big" "_law_big" sLBig fB bd) (bB : Binds K bd ["_law_pen_here", "_law_many"] []) (gB : mg "_law_big" = some (.ref fB)) : FnOk P w K mg base CX0 3 f fd ["_law_pen_here", "_law_many"] spLBits := by
  have GB : FnOk P w K mg base CX0 2 fB bd ["_law_pen_here", "_law_many"] spLBig := ok_lbig FB B GD gD FD bD
  refine F.ok scLBits (fun vs H Q E h => ?_) (fun cdv A outer s H vs Q E hr h => ?_)
  · obtain ⟨p, c, m, n, rfl, _⟩ := h
    rfl
  · obtain ⟨p, c, m, n, rfl, m1, m2, pn, hn, hQ⟩ := h
    have nd := scLBits.nd
    refine ⟨_, (pss_cons (ps_asg (pe_tup (pa_cons (pe_call GD (hr.mono (by decide)) (by rfl) gD FD.kp bD .nil pass0 (pa_cons (pv 0) (pa_cons pe_int pa_nil))) (pa_cons (pe_call GB hr (by rfl) gB FB.kp bB .nil pass0 (pa_cons (pv 0) (pa_cons (pe_op op_shl pe_int (pv 1)) pa_nil))) pa_nil))) (pg_tup rfl (pgs_cons (pg_name (i := 2) nd rfl (Or.inl rfl)) (pgs_cons (pg_name (i := 3) nd rfl (Or.inr rfl)) pgs_nil))))
      (pss_cons (ps_if (pt_cmpR op_eq (pv 2) pe_int (nomark _))
        (pss_one (ps_ret (pe_op op_rep (pe_lst (pa_cons pe_int pa_nil)) (pv 1)))) pss_nil)
      (pss_cons (ps_if (pt_cmpR op_eq (pv 2) pe_int (nomark _))
        (pss_one (ps_ret (pe_op op_rep (pe_lst (pa_cons pe_int pa_nil)) (pv 1)))) pss_nil)
      (pss_cons (ps_if (pt_cmpR op_eq (pv 2) pe_int (nomark _))
        (pss_cons (ps_set (i := 4) nd rfl (Or.inr rfl) (pe_op op_mod (pe_callTy call_int1 (by rfl) B.int (by decide +kernel) (pa_cons (pv 3) pa_nil)) (pv 1)))
        (pss_one (ps_ret (pe_lc (own := [("_law_k", 5)]) (g := (gName 5)) (tt := tYes) rfl nd (pi_range1 rfl B.range (pa_cons (pv 1) pa_nil)) (blkOk_by (own := [("_law_k", 5)]) (N := ["_law_pen_here", "_law_many", "_law_way", "_law_number", "_law_spot", "_law_k"]) (sc := defScope sLBits) (by decide +kernel)) (fun _ _ _ _ _ => (pg_name (i := 5) nd rfl (Or.inl rfl))) (fun _ _ _ _ _ => pts_nil) (fun _ _ _ _ _ => (pe_callTy call_int1 (by rfl) B.int (by decide +kernel) (pa_cons (pe_cmpR op_eq (pv 5) (pv 4) (nomark _)) pa_nil))))))) pss_nil)
      (pss_one (ps_ret (pe_lc (own := [("_law_k", 5)]) (g := (gName 5)) (tt := tYes) rfl nd (pi_range1 rfl B.range (pa_cons (pv 1) pa_nil)) (blkOk_by (own := [("_law_k", 5)]) (N := ["_law_pen_here", "_law_many", "_law_way", "_law_number", "_law_spot", "_law_k"]) (sc := defScope sLBits) (by decide +kernel)) (fun _ _ _ _ _ => (pg_name (i := 5) nd rfl (Or.inl rfl))) (fun _ _ _ _ _ => pts_nil) (fun _ _ _ _ _ => (pe_op op_andM (pe_op op_shr (pv 3) (pv 5)) pe_int))))))))), ?_⟩
    refine ⟨_, rfl, p, c, 8, n, rfl, pn, by omega, by decide, by decide, fun r1 H1 r0 r8 b1 p1 => ?_⟩
    refine ⟨_, rfl, _, rfl, 1, (m : Int), rfl, rfl, ⟨by omega, by omega, by decide⟩, ?_⟩
    refine ⟨p, c, m, n + 1, by show [V.ref p, V.int (1 * 2 ^ ((m : Nat) : Int).toNat)] = _; rw [Int.one_mul]; rfl, m2, p1, by omega, fun N H2 n0 n1 b2 p2 => ?_⟩
    refine ⟨by show 2 ≤ sizeLine; decide, fun T hT => ?_⟩
    have b12 := b1.trans b2
    have b3 : But p H2 (upd H2 T (.tup [.int r1, .int N])) := But.same (same_upd hT)
    have p3 := p2.new (o := .tup [.int r1, .int N]) hT
    refine ⟨T, _, rfl, SqT.of upd_same, rfl, _, _, rfl, _, _, rfl, rfl, ?_⟩
    obtain ⟨H4, eH⟩ : ∃ H4, upd H2 T (.tup [.int r1, .int N]) = H4 := ⟨_, rfl⟩
    rw [eH] at b3 p3
    have b14 := b12.trans b3
    have none1 : ∀ l, H4 l = none → H l = none := fun l hl => by
      cases e : H l with
      | none => rfl
      | some o =>
        by_cases ep : l = p
        · subst ep
          obtain ⟨o2, e2⟩ := p3.some1
          rw [hl] at e2
          cases e2
        · rw [b14 l o e ep] at hl
          cases hl
    have fin : ∀ (w : List Bool) (l : Addr) H', w.length = m → Same H4 H' → H4 l = none → H' l = some (.lst (w.map bV)) → Q (.ref l) H' := fun w l H' hw s1 hl hl2 => hQ w l H' hw (b14.trans (But.same s1)) (none1 l hl) hl2 (p3.same s1)
    rw [eH]
    refine ⟨_, rfl, rfl, _, rfl, ?_⟩
    refine ite_int (fun e => ?_) (fun _ => ?_)
    · refine ⟨by show 1 ≤ sizeLine; decide, fun L hL => ⟨_, rfl, L, (m : Int), _, rfl, rfl, upd_same, by omega, by omega, ?_, fun l hl => ?_⟩⟩
      · show 1 * m ≤ _
        exact Nat.le_trans (by omega) kz
      · refine fin (List.replicate m false) l _ (List.length_replicate ..) ((same_upd hL).trans (same_upd hl)) ((same_upd hL).free hl) ?_
        rw [upd_same, ← rep_bits]
        rfl
    refine ⟨_, rfl, rfl, _, rfl, ?_⟩
    refine ite_int (fun e => ?_) (fun _ => ?_)
    · refine ⟨by show 1 ≤ sizeLine; decide, fun L hL => ⟨_, rfl, L, (m : Int), _, rfl, rfl, upd_same, by omega, by omega, ?_, fun l hl => ?_⟩⟩
      · show 1 * m ≤ _
        exact Nat.le_trans (by omega) kz
      · refine fin (List.replicate m true) l _ (List.length_replicate ..) ((same_upd hL).trans (same_upd hl)) ((same_upd hL).free hl) ?_
        rw [upd_same, ← rep_bits]
        rfl
    refine ⟨_, rfl, rfl, _, rfl, ?_⟩
    refine ite_int (fun e => ?_) (fun _ => ?_)
    · refine ⟨_, rfl, .inl ⟨_, rfl, _, rfl, _, _, rfl, rfl, (show (0 : Int) < m by omega), ?_⟩⟩
      refine ⟨_, rfl, _, rfl, by omega, by omega, fun D hD => ?_⟩
      refine lc_range (n := (m : Int).toNat) (fun q H5 => Same H4 H5 ∧ H5 D = some (.lst (((List.range q).map fun j : Nat => decide ((j : Int) = N % m)).map bV))) ⟨same_upd hD, upd_same⟩ ?_ ?_
      · rintro i H5 hi ⟨s5, e5⟩
        refine ⟨rfl, _, rfl, _, rfl, rfl, .inr ⟨_, rfl, _, e5, ?_, same_fresh hD s5, ?_⟩⟩
        · rw [List.length_map, List.length_map, List.length_range]
          exact Nat.lt_of_lt_of_le (by omega : i < 1000) kz
        · rw [upd_same, map_take, ← dec_ints, Int.zero_add]
          rfl
      · rintro H5 ⟨s5, e5⟩
        exact fin _ D H5 (by rw [List.length_map, List.length_range]; rfl) s5 hD e5
    refine ⟨_, rfl, _, rfl, by omega, by omega, fun D hD => ?_⟩
    refine lc_range (n := (m : Int).toNat) (fun q H5 => Same H4 H5 ∧ H5 D = some (.lst (((List.range q).map fun j : Nat => decide ((N / 2 ^ j) % 2 = 1)).map bV))) ⟨same_upd hD, upd_same⟩ ?_ ?_
    · rintro i H5 hi ⟨s5, e5⟩
      refine ⟨rfl, _, rfl, _, rfl, N, _, rfl, rfl, (show (0 : Int) ≤ 0 + i by omega), _, 1, rfl, rfl, _, e5, ?_, same_fresh hD s5, ?_⟩
      · rw [List.length_map, List.length_map, List.length_range]
        exact Nat.lt_of_lt_of_le (by omega : i < 1000) kz
      · rw [upd_same, map_take, ← and_bit, Int.zero_add]
        rfl
    · rintro H5 ⟨s5, e5⟩
      exact fin _ D H5 (by rw [List.length_map, List.length_range]; rfl) s5 hD e5
end
end Aw

namespace Aw
open PySem PySem.Spec PyProof.Rows L2 NdefX
theorem foldl_xor (l : List Bool) (a : Bool) : l.foldl (· ^^ ·) a = (a ^^ l.foldl (· ^^ ·) false) := by
  induction l generalizing a with
  | nil => cases a <;> rfl
  | cons x l ih =>
    rw [List.foldl_cons, List.foldl_cons, ih (a ^^ x), ih (false ^^ x)]
    cases a <;> cases x <;> simp
theorem bit_map (w : List Bool) : ((List.range w.length).map (fun j : Nat => (j : Int))).map (bitAt w) = w := by
  refine List.ext_getElem? fun i => ?_
  rw [List.getElem?_map, List.getElem?_map]
  by_cases h : i < w.length
  · rw [List.getElem?_range h, List.getElem?_eq_getElem h]
    show some (w.getD i false) = _
    rw [List.getD_eq_getElem?_getD, List.getElem?_eq_getElem h]
    rfl
  · rw [List.getElem?_eq_none (by rw [List.length_range]; omega), List.getElem?_eq_none (by omega)]
    rfl
theorem bitAt_map {g : Nat → Bool} {n : Nat} {i : Nat} (h : i < n) : bitAt ((List.range n).map g) (i : Int) = g i := by
  show ((List.range n).map g).getD i false = _
  rw [List.getD_eq_getElem?_getD, List.getElem?_map, List.getElem?_range h]
  rfl
theorem bitAt_nat (w : List Bool) (i : Nat) : bitAt w (i : Int) = w.getD i false := rfl
theorem move_flip : ∀ k ∈ movesL, ¬ k ∈ flipsL := by decide +kernel
theorem kinds4 : ∀ k ∈ (["turn", "roll", "deal", "undeal", "swap", "gather", "spread", "flip", "flip first", "flip last", "near", "sum"] : List Str), ¬ k ∈ movesL → ¬ k ∈ flipsL → k = "gather" ∨ k = "spread" ∨ k = "near" ∨ k = "sum" := by decide +kernel
theorem ne_gs : ¬ (("gather" : Str) = "spread") := by decide +kernel
theorem ne_gn : ¬ (("gather" : Str) = "near") := by decide +kernel
theorem ne_gm : ¬ (("gather" : Str) = "sum") := by decide +kernel
theorem ne_sn : ¬ (("spread" : Str) = "near") := by decide +kernel
theorem ne_sm : ¬ (("spread" : Str) = "sum") := by decide +kernel
theorem ne_sg : ¬ (("spread" : Str) = "gather") := by decide +kernel
theorem ne_ng : ¬ (("near" : Str) = "gather") := by decide +kernel
theorem ne_ns : ¬ (("near" : Str) = "spread") := by decide +kernel
theorem ne_mg : ¬ (("sum" : Str) = "gather") := by decide +kernel
theorem ne_ms : ¬ (("sum" : Str) = "spread") := by decide +kernel
theorem ne_mn : ¬ (("sum" : Str) = "near") := by decide +kernel
theorem ne_nm : ¬ (("near" : Str) = "sum") := by decide +kernel
theorem mv4 : ∀ k ∈ (["gather", "spread", "near", "sum"] : List Str), ¬ k ∈ movesL := by decide +kernel
theorem mG : ¬ ("gather" : Str) ∈ movesL := by decide +kernel
theorem mS : ¬ ("spread" : Str) ∈ movesL := by decide +kernel
theorem mN : ¬ ("near" : Str) ∈ movesL := by decide +kernel
theorem mM : ¬ ("sum" : Str) ∈ movesL := by decide +kernel
theorem m_g {b : Int} {w : List Bool} : mixedF "gather" b w = w.foldl (· ^^ ·) false :: w.drop 1 := by
  unfold mixedF
  rw [if_neg ne_gn, if_neg ne_gm, if_neg ne_gs]
theorem m_s {b : Int} {w : List Bool} : mixedF "spread" b w = w.headD false :: (w.drop 1).map (fun b => b ^^ w.headD false) := by
  unfold mixedF
  rw [if_neg ne_sn, if_neg ne_sm, if_pos rfl]
theorem m_n {b : Int} {w : List Bool} : mixedF "near" b w = nearF w b := if_pos rfl
theorem m_m {b : Int} {w : List Bool} : mixedF "sum" b w = sumF w b := by
  unfold mixedF
  rw [if_neg ne_mn, if_pos rfl]
theorem getD_map {g : Bool → Bool} {w : List Bool} {j : Nat} (h : j < w.length) : (w.map g).getD j false = g (w.getD j false) := by
  rw [List.getD_eq_getElem?_getD, List.getD_eq_getElem?_getD, List.getElem?_map, List.getElem?_eq_getElem h]
  rfl
end Aw

namespace Aw
open PySem PySem.Spec PyProof.Rows L2 NdefX
def byB : Option Int → Bool
  | some b => b != 0 && decide (-4 < b) && decide (b < 4)
  | none => false
theorem k_by : ∀ p ∈ known, (p.2.1 = "near" ∨ p.2.1 = "sum") → byB p.2.2.1 = true := by decide +kernel
theorem k_flip : ∀ p ∈ known, p.2.1 = "flip" → p.2.2.2.isSome = true := by decide +kernel
theorem k_kind : ∀ p ∈ known, p.2.1 ∈ (["turn", "roll", "deal", "undeal", "swap", "gather", "spread", "flip", "flip first", "flip last", "near", "sum"] : List Str) := by decide +kernel
theorem k_bare : ∀ p ∈ known, (p.2.1 = "gather" ∨ p.2.1 = "spread") → p.2.2.2.isNone = true := by decide +kernel
def bitsD (w : List Bool) : List PyData := w.map fun b => .int (bI b)
theorem bits_dp {K : PySem.W.Frag} {H : Hp} : ∀ w : List Bool, DpAll K H (w.map bV) (bitsD w)
  | [] => .nil
  | b :: w => .cons (.int _) (bits_dp w)
theorem bits_lay : ∀ w : List Bool, PyData.canLayAll0 (bitsD w) = true ∧ PyData.depthAll (bitsD w) ≤ 1
  | [] => ⟨rfl, by simp [bitsD, PyData.depthAll]⟩
  | b :: w => by
    obtain ⟨h1, h2⟩ := bits_lay w
    have e : bitsD (b :: w) = .int (bI b) :: bitsD w := rfl
    rw [e]
    refine ⟨?_, ?_⟩
    · simp only [PyData.canLayAll0, PyData.canLay0, h1, Bool.and_self]
    · simp only [PyData.depthAll, PyData.depth]
      omega
theorem sh_tup (w : List Bool) : SeqAt.shaped (.tuple (bitsD w)) = true := by
  obtain ⟨h1, h2⟩ := bits_lay w
  unfold SeqAt.shaped
  refine Bool.and_eq_true_iff.mpr ⟨?_, decide_eq_true ?_⟩
  · simp only [PyData.canLay0, h1]
  · simp only [PyData.depth]
    omega
theorem sh_lst (w : List Bool) : SeqAt.shaped (.list (bitsD w)) = true := by
  obtain ⟨h1, h2⟩ := bits_lay w
  unfold SeqAt.shaped
  refine Bool.and_eq_true_iff.mpr ⟨?_, decide_eq_true ?_⟩
  · simp only [PyData.canLay0, h1]
  · simp only [PyData.depth]
    omega
theorem eqv_self {d : PyData} (h : SeqAt.shaped d = true) : PyData.eqv d d = true := SeqAt.eqv_refl d (SeqAt.canLay_of_shaped h)
theorem bits_vok {H : Hp} {w : List Bool} : ∀ x ∈ w.map bV, VOk H x := fun x hx => by
  obtain ⟨b, _, rfl⟩ := List.mem_map.mp hx
  exact .int _
theorem StepAt.penB {K : PySem.W.Frag} {C : Addr} {H H' : Hp} {a p c : Addr} {n : Nat} {x : Str} {r : Row} (S : StepAt K C H a x r) (b : But p H H') (P : Pen H p c n) : StepAt K C H' a x r := by
  obtain ⟨dx, bb, t, h, h1, h2⟩ := S.ex
  have ne : a ≠ p := by
    obtain ⟨cells, i, l, e1, _⟩ := P.ex
    exact ne_of h e1 (fun z => by cases z)
  exact ⟨⟨dx, bb, t, b _ _ h ne, h1.keep (TK.but b P), h2.keep (TK.but b P)⟩, S.pr⟩
theorem but_lst {H H' : Hp} {a p c : Addr} {n : Nat} {xs : List V} (b : But p H H') (P : Pen H p c n) (h : H a = some (.lst xs)) : H' a = some (.lst xs) := by
  obtain ⟨cells, i, l, e1, _⟩ := P.ex
  exact b _ _ h (ne_of h e1 (fun z => by cases z))
theorem but_tup {H H' : Hp} {a p c : Addr} {n : Nat} {xs : List V} (b : But p H H') (P : Pen H p c n) (h : H a = some (.tup xs)) : H' a = some (.tup xs) := by
  obtain ⟨cells, i, l, e1, _⟩ := P.ex
  exact b _ _ h (ne_of h e1 (fun z => by cases z))
theorem bV_inj {a b : Bool} (h : bV a = bV b) : a = b := by
  cases a <;> cases b <;> first | rfl | exact absurd h (by decide)
theorem bVs_inj : ∀ {v w : List Bool}, v.map bV = w.map bV → v = w
  | [], [], _ => rfl
  | [], _ :: _, h => by cases h
  | _ :: _, [], h => by cases h
  | a :: v, b :: w, h => by
    rw [List.map_cons, List.map_cons] at h
    obtain ⟨h1, h2⟩ := List.cons.inj h
    rw [bV_inj h1, bVs_inj h2]
theorem bits_so {w : List Bool} (h0 : 0 < w.length) (h1 : w.length ≤ 1000) : sizeOk (w.map bV).length 1000 := ⟨by rw [List.length_map]; omega, by rw [List.length_map]; omega⟩
theorem no_odd {w : List Bool} {i : Nat} (h : firstOdd (w.map bV) i) : False := by
  obtain ⟨x, hx, h2⟩ := h.2
  obtain ⟨b, _, rfl⟩ := List.mem_map.mp (List.mem_of_getElem? hx)
  rw [numB_bV] at h2
  cases h2
end Aw

namespace Aw
open PySem PySem.Spec PyProof.Rows L2 NdefX
section
variable {X : Cx} {CX : CXT} {k : Nat} {C f : Addr} {sp : Sp} {o e : Expr} {es : List Expr} {m : Str} {pos apos : Pos} {ta : TE} {t : TA} {pl : Sem Bool} {fd : FuncData} {ps : List Str} {E : Aw.St → XK}
def tMethSw (C : Addr) (m : Str) (sp : Sp) (E : Aw.St → XK) (ta : TE) (t : TA) : TE := fun σ H Q => ta σ H fun x H1 => ∃ a dx fs, x = .ref a ∧ H1 a = some (.ins C dx fs) ∧ fs.lookup m = none ∧ t σ H1 fun vs H2 => sp (x :: vs) H2 Q (E σ)
/-- o.m(e, ..), an own method that may raise within a try -/
theorem pe_methSw (he : PE X o ta) (c : Cls X.K C) (hm : Meth X.K C m f) (F : FnOk X.prog X.w X.K X.mg X.base CX k f fd ps sp) (hr : Room k X.A) (hb : Binds X.K fd ps []) (hx : ∀ σ, PassesAt CX X σ (E σ)) (ha : PA X (e :: es) t)
    (hst : starEach (e :: es) X.env = (false, eval e X.env) :: starEach es X.env := by rfl) (hpl : (backTo pos (starEach es X.env)).any (·.1) = false := by rfl)
    (ht : eval (.Call (.Attribute o m apos) (e :: es) [] pos) X.env = (do
      let ov ← eval o X.env
      standAt apos.atName
      let (f, first) ← holding [ov] (getMethod ov m pl)
      callWith pos f first (backTo pos (starEach (e :: es) X.env)) (backToKw pos (keywordEach [] X.env))) := by rfl) :
    PE X (.Call (.Attribute o m apos) (e :: es) [] pos) (tMethSw C m sp E ta t) := by
  refine ⟨fun pins s σ H Q I h => ?_⟩
  refine PySem.W.methodCall_KW (pl := pl) (thn (he.run pins s σ H _ I h) fun u s1 ⟨x, H1, I1, rx, a, dx, fs, ex, ea, l, q⟩ => ?_) ht
  subst ex
  obtain rfl : u = Value.ref a := rx
  refine getmeth_ok I1 ea c hm l ?_
  refine PySem.W.callWith_K (first := [.ref a]) (h₀ := X.base) I.ok.mod.kin hm.kp (thn (ha.run pos pins s1 σ H1 _ I1 q) fun us s2 ⟨vs, H2, I2, r, q2⟩ => ⟨I2.kIn, ?_⟩) hst hpl
  exact run_fnS (us := .ref a :: us) (vs := .ref a :: vs) F hr hb (hx σ) I2 (.cons rfl r) q2
end
theorem BitsAt.same {H H' : Hp} {l : Addr} {xs : List V} (B : BitsAt H l xs) (s : Same H H') : BitsAt H' l xs := ⟨B.at_.elim (fun h => .inl (s _ _ h)) (fun h => .inr (s _ _ h)), fun x hx => (B.ok x hx).same s, B.few⟩
end Aw

namespace Aw
open PySem PySem.Spec PyProof.Rows L2 NdefX
theorem bounds_take {ps : List (Str × Row)} {i : Nat} (h : boundsE ps = none) : boundsE (ps.take i) = none := by
  unfold boundsE at h ⊢
  have h1 : ¬ 5 < ps.length := fun z => by rw [if_pos z] at h; cases h
  rw [if_neg h1] at h
  have h2 : ¬ 2 < (ps.filter isDeal).length := fun z => by rw [if_pos z] at h; cases h
  have l1 : (ps.take i).length ≤ ps.length := by rw [List.length_take]; omega
  have l2 : ((ps.take i).filter isDeal).length ≤ (ps.filter isDeal).length := ((List.take_sublist i ps).filter _).length_le
  rw [if_neg (by omega), if_neg (by omega)]
theorem sIx_to {n i : Nat} (h : i ≤ n) : HT.sIx n n (some (i : Int)) = i := by
  rw [HT.sIx_nat]
  omega
theorem cut_to {xs : List V} {i : Nat} (h : i ≤ xs.length) : cutV xs none (some (i : Int)) = xs.take i := by
  have e1 : HT.sIx xs.length 0 none = 0 := rfl
  have e2 := sIx_to h
  unfold cutV
  rw [e1, e2, List.drop_zero, Nat.sub_zero]
theorem StepsAt.take {K : PySem.W.Frag} {C : Addr} {H : Hp} : ∀ {vs : List V} {ps : List (Str × Row)} (i : Nat), StepsAt K C H vs ps → StepsAt K C H (vs.take i) (ps.take i)
  | _, _, 0, _ => .nil
  | _, _, _ + 1, .nil => .nil
  | _, _, i + 1, .cons s t => .cons s (StepsAt.take i t)
theorem atI_last {xs : List V} {m : Nat} {v : V} (h : xs.length = m + 1) (e : xs[m]? = some v) : atI xs (-1) = some v := by
  have hi : ixN xs.length (-1) = some m := by
    unfold ixN
    rw [if_neg (by decide), if_pos (by omega)]
    congr 1
    omega
  unfold atI
  rw [hi]
  exact e
end Aw

namespace Aw
open PySem PySem.Spec PyProof.Rows L2 NdefX
/-- the words on the way -/
def progF' (ps : List (Str × Row)) (w : List Bool) : List Bool := ps.foldl (fun w p => doneF p.2 w) w
theorem prog_len : ∀ (ps : List (Str × Row)) (w : List Bool), (progF' ps w).length = w.length
  | [], _ => rfl
  | p :: ps, w => (prog_len ps (doneF p.2 w)).trans done_len
theorem prog_take {ps : List (Str × Row)} {w : List Bool} {i : Nat} {p : Str × Row} (h : ps[i]? = some p) : progF' (ps.take (i + 1)) w = doneF p.2 (progF' (ps.take i) w) := by
  unfold progF'
  rw [List.take_add_one, h, List.foldl_append]
  rfl
def spPDone (K : PySem.W.Frag) (C CS CZ CB : Addr) : Sp := fun vs H Q E => ∃ (a l : Addr) (x : Str) (ps : List (Str × Row)) (xs : List V), vs = [.ref a, .ref l] ∧ ProgAt K C CS H a x ps ∧ BitsAt H l xs ∧
  (¬ sizeOk xs.length 1000 → ∀ d H', Same H H' → H d = none → H' d = some (.xd [("size", .int (xs.length : Nat))]) → E (.ref CZ) (some d) H') ∧
  (sizeOk xs.length 1000 → ∀ i, firstOdd xs i → ∀ d H', Same H H' → H d = none → H' d = some (.xd [("index", .int (i : Nat))]) → E (.ref CB) (some d) H') ∧
  (sizeOk xs.length 1000 → ∀ w : List Bool, xs = w.map bV → ∀ t H', Same H H' → H' t = some (.tup ((progF' ps w).map bV)) → Q (.ref t) H')
section
variable {P : Program} {w : World} {K : PySem.W.Frag} {mg : Str → Option Value} {base : Heap} {C CS CZ CB fW fSDo : Addr}
theorem scPDone : FnScope ["self", "bits", "word", "step"] ["self", "bits"] (defScope sPDone) := ⟨rfl, rfl, rfl, by decide +kernel, rfl, by decide +kernel, by decide +kernel⟩
theorem ok_pdone {f : Addr} {ds : List Value} {fd wd_ sd : FuncData} (F : Fun K "done" "Program.done" sPDone f fd) (cl : Cls K C) (nS : NoAttr K C "steps") (cs : Cls K CS) (mD : Meth K CS "done" fSDo)
    (GW : FnOk P w K mg base (L2.CX P w) 3 fW wd_ ["bits", "most"] (spWob CZ CB)) (gW : mg "word_of_bits" = some (.ref fW)) (kW : PySem.W.keepIn K (.ref fW) = true) (bW : Binds K wd_ ["bits", "most"] ds) (dW : Vals [.int 1000] ds)
    (GSDo : FnOk P w K mg base (L2.CX P w) 4 fSDo sd ["self", "bits"] (spDone K CS CZ CB)) (bSDo : Binds K sd ["self", "bits"] []) : FnOk P w K mg base (L2.CX P w) 5 f fd ["self", "bits"] (spPDone K C CS CZ CB) := by
  refine F.okX scPDone (fun vs H Q E h => ?_) (fun cdv A outer s H vs Q E hr h => ?_)
  · obtain ⟨a, l, x, ps, xs, rfl, _⟩ := h
    rfl
  · obtain ⟨a, l, x, ps, xs, rfl, S, B, kZ, kB, kQ⟩ := h
    have nd := scPDone.nd
    refine ⟨_, (pss_cons (ps_set (i := 2) nd rfl (Or.inl rfl) (pe_callSD GW (hr.mono (by decide)) (by rfl) gW kW bW dW (fun σ => passAt (takes_of rfl rfl rfl rfl) σ) (pa_cons (pv 1) pa_nil)))
      (pss_cons (ps_for (passes_of rfl) rfl (pi_tup (pe_fld (pv 0) rfl)) (pg_name (i := 3) nd rfl (Or.inl rfl))
        (pss_one (ps_set (i := 2) nd rfl (Or.inl rfl) (pe_methSw (pv 3) cs mD GSDo hr bSDo (fun σ => passAt (takes_of rfl rfl rfl rfl) σ) (pa_cons (pv 2) pa_nil)))))
      (pss_one (ps_ret (pv 2))))), ?_⟩
    refine ⟨_, rfl, l, xs, 1000, rfl, B, kZ, kB, fun so wd hw t H1 s1 ht0 ht => ?_⟩
    have hQ := kQ so wd hw
    have hn : xs.length = wd.length := by rw [hw, List.length_map]
    have n0 : 0 < wd.length := by have := so.1; omega
    have n1 : wd.length ≤ 1000 := by have := so.2; omega
    obtain ⟨dx, tv, ys, ea, et, st⟩ := (S.same s1).ex
    have ly := st.length
    refine ⟨_, rfl, a, C, dx, _, _, rfl, ea, cl, nS, pSteps, tv, rfl, ⟨_, SqT.of et⟩, ?_⟩
    refine for_tup (a := tv) (xs := ys) (fun m σ H3 => ∃ (tw : Addr) (v3 : Option V), σ = [some (.ref a), some (.ref l), some (.ref tw), v3] ∧ Same H1 H3 ∧ H3 tw = some (.tup ((progF' (ps.take m) wd).map bV))) ⟨t, none, rfl, fun _ _ e => e, ht⟩ (fun m σ H3 _ z => by
      obtain ⟨_, _, _, s3, _⟩ := z
      exact SqT.of (s3 _ _ et)) ?_ ?_
    · rintro m y σ H3 hy ⟨tw, v3, rfl, s3, e3⟩
      obtain ⟨b, p, ip, rfl, sp⟩ := (st.same s3).get hy
      obtain ⟨dy, bv, tv2, eb, _, _⟩ := sp.ex
      have lw : (progF' (ps.take m) wd).length = wd.length := prog_len _ _
      have sw := bits_so (w := progF' (ps.take m) wd) (by omega) (by omega)
      refine ⟨_, rfl, b, dy, _, rfl, eb, gNo (by decide +kernel) (by decide +kernel) (by decide +kernel) (by decide +kernel), _, rfl, ?_⟩
      refine ⟨b, tw, p.1, p.2, _, rfl, sp, ⟨.inr e3, bits_vok, by rw [List.length_map]; omega⟩, fun so' => absurd sw so', fun so' i hi => (no_odd hi).elim, fun so' w' hw' t' H4 s4 ht0' ht' => ?_⟩
      have ew := bVs_inj hw'
      refine ⟨t', _, rfl, s3.trans s4, ?_⟩
      rw [ht', prog_take ip, ew]
    · rintro σ H3 ⟨tw, v3, rfl, s3, e3⟩
      rw [List.take_of_length_le (by omega)] at e3
      exact ⟨_, rfl, hQ tw H3 (s1.trans s3) e3⟩
end
end Aw

namespace Aw
open PySem PySem.Spec PyProof.Rows L2 NdefX
/-! ### what a step does is taken back by its inverse -/
theorem word_ext {a b : List Bool} (h : a.length = b.length) (g : ∀ i, i < a.length → a.getD i false = b.getD i false) : a = b := by
  refine List.ext_getElem h fun i h1 h2 => ?_
  have e := g i h1
  rw [List.getD_eq_getElem?_getD, List.getD_eq_getElem?_getD, List.getElem?_eq_getElem h1, List.getElem?_eq_getElem h2] at e
  exact e
theorem range_at {g : Nat → Bool} {n i : Nat} (h : i < n) : ((List.range n).map g).getD i false = g i := by
  rw [List.getD_eq_getElem?_getD, List.getElem?_map, List.getElem?_range h]
  rfl
def dvd (M b : Int) : Bool := decide (b % M = 0)
def ownInv (r : Row) : Bool := match r.2.2 with
  | none => false
  | some p => !dvd p.2 (r.2.1.getD 0)
/-- the row of the inverse step -/
def invR (r : Row) : Row :=
  if r.1 = "roll" then ("roll", some (-(r.2.1.getD 0)), none) else if r.1 = "deal" then ("undeal", r.2.1, r.2.2) else if r.1 = "undeal" then ("deal", r.2.1, r.2.2) else
  if r.1 = "near" then (if ownInv r = true then r else ("sum", r.2.1, r.2.2)) else if r.1 = "sum" then (if ownInv r = true then r else ("near", r.2.1, r.2.2)) else r
theorem place_back {k1 k2 : Str} {b1 b2 n i : Int} (h0 : 0 ≤ i) (h1 : i < n)
    (hk : (k1 = "turn" ∧ k2 = "turn") ∨ (k1 = "roll" ∧ k2 = "roll" ∧ b2 = -b1) ∨ (k1 = "deal" ∧ k2 = "undeal") ∨ (k1 = "undeal" ∧ k2 = "deal") ∨ (k1 = "swap" ∧ k2 = "swap")) : placeF k1 b1 n (placeF k2 b2 n i) = i := by
  have e1 : ¬ ("roll" : Str) = "turn" := by decide +kernel
  have e2 : ¬ ("deal" : Str) = "turn" := by decide +kernel
  have e3 : ¬ ("deal" : Str) = "roll" := by decide +kernel
  have e4 : ¬ ("undeal" : Str) = "turn" := by decide +kernel
  have e5 : ¬ ("undeal" : Str) = "roll" := by decide +kernel
  have e6 : ¬ ("undeal" : Str) = "deal" := by decide +kernel
  have e7 : ¬ ("swap" : Str) = "turn" := by decide +kernel
  have e8 : ¬ ("swap" : Str) = "roll" := by decide +kernel
  have e9 : ¬ ("swap" : Str) = "deal" := by decide +kernel
  have e10 : ¬ ("swap" : Str) = "undeal" := by decide +kernel
  rcases hk with ⟨rfl, rfl⟩ | ⟨rfl, rfl, rfl⟩ | ⟨rfl, rfl⟩ | ⟨rfl, rfl⟩ | ⟨rfl, rfl⟩
  · unfold placeF
    rw [if_pos rfl, if_pos rfl]
    omega
  · unfold placeF
    rw [if_neg e1, if_pos rfl, if_neg e1, if_pos rfl, Int.emod_sub_emod, show i - -b1 - b1 = i by omega]
    exact Int.emod_eq_of_lt h0 h1
  · unfold placeF
    rw [if_neg e2, if_neg e3, if_pos rfl, if_neg e4, if_neg e5, if_neg e6, if_pos rfl]
    split <;> split <;> omega
  · unfold placeF
    rw [if_neg e4, if_neg e5, if_neg e6, if_pos rfl, if_neg e2, if_neg e3, if_pos rfl]
    split <;> split <;> omega
  · unfold placeF
    rw [if_neg e7, if_neg e8, if_neg e9, if_neg e10, if_neg e7, if_neg e8, if_neg e9, if_neg e10]
    split <;> split <;> (try split) <;> omega
theorem moved_at {k : Str} {b : Int} {w : List Bool} {i : Nat} (h : i < w.length) : (movedF k b w).getD i false = bitAt w (placeF k b w.length i) := range_at h
theorem moved_back {k1 k2 : Str} {b1 b2 : Int} {w : List Bool} (hp : ∀ i : Int, 0 ≤ i → i < w.length → placeF k1 b1 w.length (placeF k2 b2 w.length i) = i) : movedF k2 b2 (movedF k1 b1 w) = w := by
  have l1 : (movedF k1 b1 w).length = w.length := (List.length_map ..).trans List.length_range
  have l2 : (movedF k2 b2 (movedF k1 b1 w)).length = w.length := ((List.length_map ..).trans List.length_range).trans l1
  refine word_ext l2 fun i hi => ?_
  rw [l2] at hi
  rw [moved_at (by rw [l1]; exact hi), l1]
  have hq := place_in (k := k2) (by_ := b2) (n := w.length) (i := i) (by omega) (by omega)
  obtain ⟨j, hj⟩ : ∃ j : Nat, placeF k2 b2 w.length i = (j : Int) := ⟨_, (Int.toNat_of_nonneg hq.1).symm⟩
  have hj2 : j < w.length := by omega
  have hb := hp i (by omega) (by omega)
  rw [hj] at hb ⊢
  show (movedF k1 b1 w).getD j false = _
  rw [moved_at hj2, hb]
  rfl
theorem flipped_back {k : Str} {t : Option (Int × Int)} {w : List Bool} : flippedF k t (flippedF k t w) = w := by
  have l1 : (flippedF k t w).length = w.length := (List.length_map ..).trans List.length_range
  have l2 : (flippedF k t (flippedF k t w)).length = w.length := ((List.length_map ..).trans List.length_range).trans l1
  refine word_ext l2 fun i hi => ?_
  rw [l2] at hi
  unfold flippedF
  rw [range_at (by rw [List.length_map, List.length_range]; exact hi), range_at hi, List.length_map, List.length_range, Bool.xor_assoc, Bool.xor_self, Bool.xor_false]
/-! near and sum over the chosen places -/
def cNear (c : Int → Bool) (b : Int) (w : List Bool) : List Bool := (List.range w.length).map fun i : Nat => if c i then w.getD i false ^^ farB w (i + b) else w.getD i false
def cSum (c : Int → Bool) (b : Int) (w : List Bool) : List Bool := (List.range w.length).map fun i : Nat => if c i then sumAt w b (w.length + 1) i else w.getD i false
theorem cNear_len {c : Int → Bool} {b : Int} {w : List Bool} : (cNear c b w).length = w.length := (List.length_map ..).trans List.length_range
theorem cSum_len {c : Int → Bool} {b : Int} {w : List Bool} : (cSum c b w).length = w.length := (List.length_map ..).trans List.length_range
theorem bitAt_nat' (w : List Bool) (i : Nat) : bitAt w (i : Int) = w.getD i false := rfl
theorem near_sum {c : Int → Bool} {b : Int} {w : List Bool} (hb : b ≠ 0) (hc : ∀ i, c i = true → c (i + b) = true) : cNear c b (cSum c b w) = w := by
  refine word_ext (cNear_len.trans cSum_len) fun i hi => ?_
  rw [cNear_len, cSum_len] at hi
  unfold cNear
  rw [range_at (by rw [cSum_len]; exact hi)]
  have a1 : (cSum c b w).getD i false = if c i then sumAt w b (w.length + 1) i else w.getD i false := range_at hi
  by_cases ci : c i = true
  · rw [if_pos ci, a1, if_pos ci, sumAt_next hb (by omega) (by omega), bitAt_nat']
    have e : farB (cSum c b w) (i + b) = sumAt w b (w.length + 1) (i + b) := by
      unfold farB
      rw [cSum_len]
      by_cases h : 0 ≤ (i : Int) + b ∧ (i : Int) + b < w.length
      · rw [if_pos h]
        obtain ⟨j, hj⟩ : ∃ j : Nat, (i : Int) + b = (j : Int) := ⟨_, (Int.toNat_of_nonneg h.1).symm⟩
        have cj := hc _ ci
        rw [hj] at h cj ⊢
        show (cSum c b w).getD j false = _
        unfold cSum
        rw [range_at (by omega), if_pos cj]
      · rw [if_neg h, sumAt_out h]
    rw [e, Bool.xor_assoc, Bool.xor_self, Bool.xor_false]
  · rw [if_neg ci, a1, if_neg ci]
theorem sum_near_at {c : Int → Bool} {b : Int} {w : List Bool} (hc : ∀ i, c i = true → c (i + b) = true) : ∀ (f : Nat) (j : Int), c j = true → (0 < b ∧ (w.length : Int) - j ≤ f) ∨ (b < 0 ∧ j + 1 ≤ f) → sumAt (cNear c b w) b f j = farB w j
  | 0, j, _, h => by
    unfold farB
    rw [if_neg (by omega)]
    rfl
  | f + 1, j, cj, h => by
    unfold farB
    by_cases e : 0 ≤ j ∧ j < w.length
    · have e' : 0 ≤ j ∧ j < (cNear c b w).length := by rw [cNear_len]; exact e
      show (if _ then _ else _) = _
      rw [if_pos e', if_pos e]
      obtain ⟨i, rfl⟩ : ∃ i : Nat, j = (i : Int) := ⟨_, (Int.toNat_of_nonneg e.1).symm⟩
      rw [sum_near_at hc f ((i : Int) + b) (hc _ cj) (by omega), bitAt_nat', bitAt_nat']
      have a1 : (cNear c b w).getD i false = if c i then w.getD i false ^^ farB w (i + b) else w.getD i false := range_at (by omega)
      rw [a1, if_pos cj, Bool.xor_assoc, Bool.xor_self, Bool.xor_false]
    · rw [if_neg e, sumAt_out (by rw [cNear_len]; exact e)]
theorem sum_near {c : Int → Bool} {b : Int} {w : List Bool} (hb : b ≠ 0) (hc : ∀ i, c i = true → c (i + b) = true) : cSum c b (cNear c b w) = w := by
  refine word_ext (cSum_len.trans cNear_len) fun i hi => ?_
  rw [cSum_len, cNear_len] at hi
  unfold cSum
  rw [range_at (by rw [cNear_len]; exact hi)]
  by_cases ci : c i = true
  · rw [if_pos ci, sum_near_at hc _ _ ci (by rw [cNear_len]; omega)]
    unfold farB
    rw [if_pos (by omega)]
    rfl
  · rw [if_neg ci]
    unfold cNear
    rw [range_at hi, if_neg ci]
theorem near_near {c : Int → Bool} {b : Int} {w : List Bool} (hc : ∀ i, c i = true → c (i + b) = false) : cNear c b (cNear c b w) = w := by
  refine word_ext (cNear_len.trans cNear_len) fun i hi => ?_
  rw [cNear_len, cNear_len] at hi
  have a1 : ∀ {v : List Bool} {i : Nat}, i < v.length → (cNear c b v).getD i false = if c i then v.getD i false ^^ farB v (i + b) else v.getD i false := fun h => range_at h
  rw [a1 (by rw [cNear_len]; exact hi), a1 hi]
  by_cases ci : c i = true
  · rw [if_pos ci, if_pos ci]
    have e : farB (cNear c b w) (i + b) = farB w (i + b) := by
      unfold farB
      rw [cNear_len]
      by_cases h : 0 ≤ (i : Int) + b ∧ (i : Int) + b < w.length
      · rw [if_pos h, if_pos h]
        obtain ⟨j, hj⟩ : ∃ j : Nat, (i : Int) + b = (j : Int) := ⟨_, (Int.toNat_of_nonneg h.1).symm⟩
        have cj := hc _ ci
        rw [hj] at h cj ⊢
        rw [bitAt_nat', bitAt_nat', a1 (by omega), if_neg (by rw [cj]; decide)]
      · rw [if_neg h, if_neg h]
    rw [e, Bool.xor_assoc, Bool.xor_self, Bool.xor_false]
  · rw [if_neg ci, if_neg ci]
/-! the steps that mix -/
theorem near_c {b : Option Int} {t : Option (Int × Int)} {w : List Bool} : doneF ("near", b, t) w = cNear (chosenF t) (b.getD 0) w := by
  unfold doneF
  dsimp only
  rw [if_neg mN, if_neg (by decide +kernel), m_n]
  refine List.map_congr_left fun i hi => ?_
  have hi := List.mem_range.mp hi
  by_cases c : chosenF t i = true
  · rw [if_pos c, if_pos c, bitAt_nat']
    exact range_at hi
  · rw [if_neg c, if_neg c]
theorem sum_c {b : Option Int} {t : Option (Int × Int)} {w : List Bool} : doneF ("sum", b, t) w = cSum (chosenF t) (b.getD 0) w := by
  unfold doneF
  dsimp only
  rw [if_neg mM, if_neg (by decide +kernel), m_m]
  refine List.map_congr_left fun i hi => ?_
  have hi := List.mem_range.mp hi
  by_cases c : chosenF t i = true
  · rw [if_pos c, if_pos c, bitAt_nat']
    exact range_at hi
  · rw [if_neg c, if_neg c]
theorem chosen_on {M R b i : Int} (hM : 0 < M) (h : b % M = 0) (hc : chosenF (some (R, M)) i = true) : chosenF (some (R, M)) (i + b) = true := by
  have hc : decide (i % M = R) = true := hc
  show decide ((i + b) % M = R) = true
  rw [decide_eq_true_eq] at hc ⊢
  rw [Int.add_emod, h, Int.add_zero, Int.emod_emod_of_dvd _ (Int.dvd_refl M), hc]
theorem chosen_off {M R b i : Int} (hM : 0 < M) (h : b % M ≠ 0) (hc : chosenF (some (R, M)) i = true) : chosenF (some (R, M)) (i + b) = false := by
  have hc : decide (i % M = R) = true := hc
  show decide ((i + b) % M = R) = false
  rw [decide_eq_true_eq] at hc
  refine decide_eq_false fun z => h ?_
  have e : (i + b) % M = i % M := z.trans hc.symm
  have := Int.emod_emod_of_dvd b (Int.dvd_refl M)
  have h2 : ((i + b) - i) % M = 0 := by
    rw [Int.sub_emod, e, Int.sub_self]
    exact Int.zero_emod M
  rw [show i + b - i = b by omega] at h2
  exact h2
theorem gather_back {b : Option Int} {w : List Bool} : doneF ("gather", b, none) (doneF ("gather", b, none) w) = w := by
  have gc : ∀ v : List Bool, 0 < v.length → doneF ("gather", b, none) v = v.foldl (· ^^ ·) false :: v.drop 1 := fun v hv => by
    unfold doneF
    dsimp only
    rw [if_neg mG, if_neg (by decide +kernel), m_g]
    refine word_ext (by rw [List.length_map, List.length_range, List.length_cons, List.length_drop]; omega) fun i hi => ?_
    rw [List.length_map, List.length_range] at hi
    rw [range_at hi, if_pos (show chosenF none (i : Int) = true from rfl)]
    rfl
  cases w with
  | nil => rfl
  | cons a w =>
    rw [gc _ (by rw [done_len]; exact Nat.succ_pos _), gc (a :: w) (Nat.succ_pos _)]
    show (List.foldl (· ^^ ·) false (List.foldl (· ^^ ·) (false ^^ a) w :: w)) :: w = a :: w
    congr 1
    rw [List.foldl_cons, Bool.false_xor, Bool.false_xor, foldl_xor w (List.foldl _ _ _), foldl_xor w a, Bool.xor_assoc, Bool.xor_self, Bool.xor_false]
theorem spread_back {b : Option Int} {w : List Bool} : doneF ("spread", b, none) (doneF ("spread", b, none) w) = w := by
  have gc : ∀ v : List Bool, 0 < v.length → doneF ("spread", b, none) v = v.headD false :: (v.drop 1).map (fun b => b ^^ v.headD false) := fun v hv => by
    unfold doneF
    dsimp only
    rw [if_neg mS, if_neg (by decide +kernel), m_s]
    refine word_ext (by rw [List.length_map, List.length_range, List.length_cons, List.length_map, List.length_drop]; omega) fun i hi => ?_
    rw [List.length_map, List.length_range] at hi
    rw [range_at hi, if_pos (show chosenF none (i : Int) = true from rfl)]
    rfl
  cases w with
  | nil => rfl
  | cons a w =>
    rw [gc _ (by rw [done_len]; exact Nat.succ_pos _), gc (a :: w) (Nat.succ_pos _)]
    show a :: (w.map (fun b => b ^^ a)).map (fun b => b ^^ a) = a :: w
    congr 1
    rw [List.map_map]
    conv => rhs; rw [← List.map_id w]
    refine List.map_congr_left fun x _ => ?_
    show ((x ^^ a) ^^ a) = x
    rw [Bool.xor_assoc, Bool.xor_self, Bool.xor_false]
end Aw
namespace Aw
open PySem PySem.Spec PyProof.Rows L2 NdefX
/-- what is so of every row of a known step, for its inverse -/
def invOk (r : Row) : Bool :=
  if r.1 = "turn" ∨ r.1 = "swap" ∨ r.1 = "deal" ∨ r.1 = "undeal" ∨ r.1 = "gather" ∨ r.1 = "spread" then r.2.2.isNone else
  if r.1 = "roll" then r.2.1.isSome && r.2.2.isNone else
  if r.1 = "near" ∨ r.1 = "sum" then decide (r.2.1.getD 0 ≠ 0) && (match r.2.2 with | none => true | some p => decide (0 < p.2) && (decide (r.1 = "near") || dvd p.2 (r.2.1.getD 0))) else decide (r.1 ∈ flipsL)
theorem known_inv : ∀ p ∈ known, invOk p.2 = true := by decide +kernel
theorem known_invR : ∀ p ∈ known, ((textOf (invR p.2), invR p.2) ∈ known) ∧ invR (invR p.2) = p.2 := by decide +kernel
theorem mvl {k : Str} (h : k = "turn" ∨ k = "roll" ∨ k = "deal" ∨ k = "undeal" ∨ k = "swap") : k ∈ movesL := by
  rcases h with rfl | rfl | rfl | rfl | rfl <;> decide +kernel
theorem done_moved {k : Str} {b : Option Int} {t : Option (Int × Int)} {w : List Bool} (h : k ∈ movesL) : doneF (k, b, t) w = movedF k (b.getD 0) w := if_pos h
theorem inv_done {r : Row} {w : List Bool} (h : invOk r = true) : doneF (invR r) (doneF r w) = w := by
  obtain ⟨k, b, t⟩ := r
  unfold invOk at h
  dsimp only at h
  by_cases e1 : k = "turn"
  · subst e1
    have : invR ("turn", b, t) = (("turn", b, t) : Row) := by
      unfold invR
      dsimp only
      rw [if_neg (by decide), if_neg (by decide), if_neg (by decide), if_neg (by decide), if_neg (by decide)]
    rw [this, done_moved (mvl (.inl rfl)), done_moved (mvl (.inl rfl))]
    exact moved_back fun i h0 h1 => place_back h0 h1 (.inl ⟨rfl, rfl⟩)
  by_cases e2 : k = "swap"
  · subst e2
    have : invR ("swap", b, t) = (("swap", b, t) : Row) := by
      unfold invR
      dsimp only
      rw [if_neg (by decide), if_neg (by decide), if_neg (by decide), if_neg (by decide), if_neg (by decide)]
    rw [this, done_moved (mvl (.inr (.inr (.inr (.inr rfl))))), done_moved (mvl (.inr (.inr (.inr (.inr rfl)))))]
    exact moved_back fun i h0 h1 => place_back h0 h1 (.inr (.inr (.inr (.inr ⟨rfl, rfl⟩))))
  by_cases e3 : k = "deal"
  · subst e3
    have : invR ("deal", b, t) = (("undeal", b, t) : Row) := by
      unfold invR
      dsimp only
      rw [if_neg (by decide), if_pos rfl]
    rw [this, done_moved (mvl (.inr (.inr (.inr (.inl rfl))))), done_moved (mvl (.inr (.inr (.inl rfl))))]
    exact moved_back fun i h0 h1 => place_back h0 h1 (.inr (.inr (.inl ⟨rfl, rfl⟩)))
  by_cases e4 : k = "undeal"
  · subst e4
    have : invR ("undeal", b, t) = (("deal", b, t) : Row) := by
      unfold invR
      dsimp only
      rw [if_neg (by decide), if_neg (by decide), if_pos rfl]
    rw [this, done_moved (mvl (.inr (.inr (.inl rfl)))), done_moved (mvl (.inr (.inr (.inr (.inl rfl)))))]
    exact moved_back fun i h0 h1 => place_back h0 h1 (.inr (.inr (.inr (.inl ⟨rfl, rfl⟩))))
  by_cases e5 : k = "roll"
  · subst e5
    have : invR ("roll", b, t) = (("roll", some (-(b.getD 0)), none) : Row) := if_pos rfl
    rw [this, done_moved (mvl (.inr (.inl rfl))), done_moved (mvl (.inr (.inl rfl)))]
    exact moved_back fun i h0 h1 => place_back h0 h1 (.inr (.inl ⟨rfl, rfl, rfl⟩))
  by_cases e6 : k = "gather"
  · subst e6
    rw [if_pos (by decide)] at h
    obtain rfl : t = none := by cases t with | none => rfl | some _ => cases h
    have : invR ("gather", b, none) = (("gather", b, none) : Row) := by
      unfold invR
      dsimp only
      rw [if_neg (by decide), if_neg (by decide), if_neg (by decide), if_neg (by decide), if_neg (by decide)]
    rw [this]
    exact gather_back
  by_cases e7 : k = "spread"
  · subst e7
    rw [if_pos (by decide)] at h
    obtain rfl : t = none := by cases t with | none => rfl | some _ => cases h
    have : invR ("spread", b, none) = (("spread", b, none) : Row) := by
      unfold invR
      dsimp only
      rw [if_neg (by decide), if_neg (by decide), if_neg (by decide), if_neg (by decide), if_neg (by decide)]
    rw [this]
    exact spread_back
  rw [if_neg (fun z => by rcases z with z | z | z | z | z | z <;> contradiction), if_neg e5] at h
  by_cases e8 : k = "near"
  · subst e8
    rw [if_pos (.inl rfl)] at h
    obtain ⟨hb, h⟩ := Bool.and_eq_true_iff.mp h
    have hb0 : b.getD 0 ≠ 0 := of_decide_eq_true hb
    have iR : invR ("near", b, t) = if ownInv ("near", b, t) = true then (("near", b, t) : Row) else ("sum", b, t) := by
      unfold invR
      dsimp only
      rw [if_neg (by decide), if_neg (by decide), if_neg (by decide), if_pos rfl]
    rw [iR]
    cases t with
    | none =>
      rw [if_neg (by show ¬ false = true; decide), sum_c, near_c]
      exact sum_near hb0 fun _ _ => rfl
    | some p =>
      obtain ⟨hM, _⟩ := Bool.and_eq_true_iff.mp h
      have hM := of_decide_eq_true hM
      cases hd : dvd p.2 (b.getD 0) with
      | true =>
        rw [if_neg (by show ¬ (!dvd p.2 (b.getD 0)) = true; rw [hd]; decide), sum_c, near_c]
        exact sum_near hb0 fun i hc => chosen_on hM (of_decide_eq_true hd) hc
      | false =>
        rw [if_pos (by show (!dvd p.2 (b.getD 0)) = true; rw [hd]; rfl), near_c, near_c]
        exact near_near fun i hc => chosen_off hM (of_decide_eq_false hd) hc
  by_cases e9 : k = "sum"
  · subst e9
    rw [if_pos (.inr rfl)] at h
    obtain ⟨hb, h⟩ := Bool.and_eq_true_iff.mp h
    have hb0 : b.getD 0 ≠ 0 := of_decide_eq_true hb
    have iR : invR ("sum", b, t) = if ownInv ("sum", b, t) = true then (("sum", b, t) : Row) else ("near", b, t) := by
      unfold invR
      dsimp only
      rw [if_neg (by decide), if_neg (by decide), if_neg (by decide), if_neg (by decide), if_pos rfl]
    rw [iR]
    cases t with
    | none =>
      rw [if_neg (by show ¬ false = true; decide), near_c, sum_c]
      exact near_sum hb0 fun _ _ => rfl
    | some p =>
      obtain ⟨hM, h⟩ := Bool.and_eq_true_iff.mp h
      have hM := of_decide_eq_true hM
      have hd : dvd p.2 (b.getD 0) = true := by
        rw [Bool.or_eq_true] at h
        exact h.resolve_left (fun z => absurd (of_decide_eq_true z) (by decide +kernel))
      rw [if_neg (by show ¬ (!dvd p.2 (b.getD 0)) = true; rw [hd]; decide), near_c, sum_c]
      exact near_sum hb0 fun i hc => chosen_on hM (of_decide_eq_true hd) hc
  rw [if_neg (fun z => by rcases z with z | z <;> contradiction)] at h
  have hf := of_decide_eq_true h
  have iR : invR (k, b, t) = (k, b, t) := by
    unfold invR
    dsimp only
    rw [if_neg e5, if_neg e3, if_neg e4, if_neg e8, if_neg e9]
  have hm : ¬ k ∈ movesL := fun z => move_flip k z hf
  have df : ∀ v, doneF (k, b, t) v = flippedF k t v := fun v => by
    unfold doneF
    rw [if_neg hm, if_pos hf]
  rw [iR, df, df]
  exact flipped_back
/-- the rows of the inverse of a program -/
def invP (ps : List (Str × Row)) : List (Str × Row) := ps.reverse.map fun p => (textOf (invR p.2), invR p.2)
theorem progF_app {ps qs : List (Str × Row)} {w : List Bool} : progF' (ps ++ qs) w = progF' qs (progF' ps w) := List.foldl_append ..
theorem inv_prog {w : List Bool} : ∀ {ps : List (Str × Row)}, (∀ p ∈ ps, p ∈ known) → progF' (invP ps) (progF' ps w) = w
  | [], _ => rfl
  | p :: ps, h => by
    have e1 : invP (p :: ps) = invP ps ++ [(textOf (invR p.2), invR p.2)] := by
      unfold invP
      rw [List.reverse_cons, List.map_append]
      rfl
    have e2 : progF' (p :: ps) w = progF' ps (doneF p.2 w) := rfl
    rw [e1, progF_app, e2, inv_prog (fun q hq => h q (List.mem_cons_of_mem _ hq))]
    exact inv_done (known_inv p (h p (List.mem_cons_self ..)))
theorem invP_known {ps : List (Str × Row)} (h : ∀ p ∈ ps, p ∈ known) : ∀ p ∈ invP ps, p ∈ known := fun p hp => by
  obtain ⟨q, hq, rfl⟩ := List.mem_map.mp hp
  exact (known_invR q (h q (List.mem_reverse.mp hq))).1
theorem invP_len {ps : List (Str × Row)} : (invP ps).length = ps.length := by unfold invP; rw [List.length_map, List.length_reverse]
theorem invP_twice {ps : List (Str × Row)} (h : ∀ p ∈ ps, p ∈ known) : invP (invP ps) = ps := by
  unfold invP
  rw [← List.map_reverse, List.reverse_reverse, List.map_map]
  conv => rhs; rw [← List.map_id ps]
  refine List.map_congr_left fun p hp => ?_
  have := (known_invR p (h p hp)).2
  show (textOf (invR (invR p.2)), invR (invR p.2)) = p
  rw [this, known_text p (h p hp)]
theorem inv_prog' {w : List Bool} {ps : List (Str × Row)} (h : ∀ p ∈ ps, p ∈ known) : progF' ps (progF' (invP ps) w) = w := by
  have := inv_prog (w := w) (invP_known h)
  rw [invP_twice h] at this
  exact this
theorem prog_inj {ps : List (Str × Row)} (h : ∀ p ∈ ps, p ∈ known) {v w : List Bool} (e : progF' ps v = progF' ps w) : v = w := by
  rw [← inv_prog (w := v) h, e, inv_prog h]
end Aw

namespace Aw
open PySem PySem.Spec PyProof.Rows L2 NdefX
def rowsK (ps : List (Str × Row)) : List PyData := ps.map fun p => rowD p.2
theorem rowsK_get {K : PySem.W.Frag} {H : Hp} {us : List V} {ps : List (Str × Row)} {i : Nat} {u : V} (h : DqAll K H us (rowsK ps)) (hu : us[i]? = some u) : ∃ p, ps[i]? = some p ∧ Dq K H u (rowD p.2) := by
  obtain ⟨d, hd, dq⟩ := h.get hu
  unfold rowsK at hd
  rw [List.getElem?_map] at hd
  cases e : ps[i]? with
  | none => rw [e] at hd; cases hd
  | some p =>
    rw [e] at hd
    have e2 : rowD p.2 = d := Option.some.inj hd
    exact ⟨p, rfl, by rw [e2]; exact dq⟩
end Aw

namespace Aw
open PySem PySem.Spec PyProof.Rows L2 NdefX
def spLPt (K : PySem.W.Frag) : Sp := fun vs H Q _ => ∃ (ls : Addr) (us : List V) (ps : List (Str × Row)), vs = [.ref ls] ∧ H ls = some (.lst us) ∧ DqAll K H us (rowsK ps) ∧ (∀ p ∈ ps, p ∈ known) ∧ ps.length ≤ 30 ∧ ∀ H', Same H H' → Q (.str (textP ps)) H'
section
variable {P : Program} {w : World} {K : PySem.W.Frag} {mg : Str → Option Value} {base : Heap} {fTx : Addr}
theorem scLPt : FnScope ["_law_steps_here", "_law_step_here"] ["_law_steps_here"] (defScope sLPt) := ⟨rfl, rfl, rfl, by decide +kernel, rfl, by decide +kernel, by decide +kernel⟩
theorem ok_lpt {f : Addr} {fd fd1 : FuncData} (F : Fun K "_law_program_text" "_law_program_text" sLPt f fd)
    (GTx : FnOk P w K mg base CX0 1 fTx fd1 ["_law_step_here"] (spText K)) (FTx : Fun K "_law_text" "_law_text" sText fTx fd1) (bTx : Binds K fd1 ["_law_step_here"] []) (gTx : mg "_law_text" = some (.ref fTx)) : FnOk P w K mg base CX0 2 f fd ["_law_steps_here"] (spLPt K) := by
  refine F.ok scLPt (fun vs H Q E h => ?_) (fun cdv A outer s H vs Q E hr h => ?_)
  · obtain ⟨ls, us, ps, rfl, _⟩ := h
    rfl
  · obtain ⟨ls, us, ps, rfl, hls, dus, hk, hn, hQ⟩ := h
    have nd := scLPt.nd
    refine ⟨_, (pss_one (ps_ret (pe_join pe_str (pe_lc (own := [("_law_step_here", 1)]) (g := (gName 1)) (tt := tYes) rfl nd (pi_list (pv 0)) (blkOk_by (own := [("_law_step_here", 1)]) (N := ["_law_steps_here", "_law_step_here"]) (sc := defScope sLPt) (by decide +kernel)) (fun _ _ _ _ _ => (pg_name (i := 1) nd rfl (Or.inl rfl))) (fun _ _ _ _ _ => pts_nil) (fun _ _ _ _ _ => (pe_call GTx (hr.mono (by decide)) (by rfl) gTx FTx.kp bTx .nil pass0 (pa_cons (pv 1) pa_nil))))))), ?_⟩
    have lu : us.length = ps.length := dus.length.trans (List.length_map ..)
    refine ⟨⟨_, rfl⟩, _, rfl, ls, rfl, ⟨us, SqL.of hls⟩, fun D hD => ?_⟩
    refine lc_list (a := ls) (xs := us) (fun m H2 => Same H H2 ∧ H2 D = some (.lst ((ps.take m).map fun p => V.str p.1))) ⟨same_upd hD, upd_same⟩ (fun m H2 hm p => SqL.of (p.1 _ _ hls)) ?_ ?_
    · rintro m u H2 hu ⟨s2, e2⟩
      obtain ⟨p, ip, dq⟩ := rowsK_get dus hu
      have et : ps.take (m + 1) = ps.take m ++ [p] := by
        rw [List.take_succ, ip]
        rfl
      have hp := hk p (List.mem_of_getElem? ip)
      refine ⟨rfl, _, rfl, u, p.2, rfl, dq.keep (TK.same s2), known_smI p hp, _, e2, small200' (by rw [List.length_map, List.length_take]; omega), same_fresh hD s2, ?_⟩
      rw [upd_same, et, List.map_append, known_text p hp]
      rfl
    · rintro H2 ⟨s2, e2⟩
      have e2 : H2 D = some (.lst ((ps.map (·.1)).map V.str)) := by
        rw [List.take_of_length_le (by omega)] at e2
        rw [List.map_map]
        exact e2
      have h2 := sum20 hk
      refine ⟨" then ", D, ps.map (·.1), rfl, rfl, .inl (SqL.of e2), by rw [List.length_map, show (" then " : Str).length = 6 from rfl]; omega, ?_⟩
      rw [TL.join_eq]
      exact hQ H2 s2
end
end Aw

namespace Aw
open PySem PySem.Spec PyProof.Rows L2 NdefX
def kindsR : List Str := ["turn", "roll", "deal", "undeal", "swap", "near", "sum", "near at", "sum at", "gather", "spread", "flip", "flip first", "flip last"]
def isRow (r : Row) : Bool := decide ((textOf r, r) ∈ known)
theorem row_sumAt : ∀ b ∈ ([2, -2, 3, -3] : List Int), ∀ j : Nat, j < b.natAbs → isRow ("sum", some b, some ((j : Int), (b.natAbs : Int))) = true := by decide +kernel
theorem row_nearAt : ∀ b ∈ ([1, -1, 2, -2, 3, -3] : List Int), ∀ w : Nat, w < 3 → ∀ j : Nat, j < w + 2 → isRow ("near", some b, some ((j : Int), 2 + (w : Int))) = true := by decide +kernel
theorem row_plain : ∀ k ∈ (["roll", "near", "sum"] : List Str), ∀ b ∈ ([1, -1, 2, -2, 3, -3] : List Int), isRow (k, some b, none) = true := by decide +kernel
theorem row_flip : ∀ w : Nat, w < 3 → ∀ j : Nat, j < w + 2 → isRow ("flip", none, some ((j : Int), 2 + (w : Int))) = true := by decide +kernel
theorem row_bare : ∀ k ∈ kindsR, k ≠ "sum at" → k ≠ "near at" → ¬ k ∈ (["roll", "near", "sum"] : List Str) → k ≠ "flip" → isRow (k, none, none) = true := by decide +kernel
theorem nd3 : ∀ k ∈ (["sum", "near", "flip"] : List Str), ¬ (k = "deal" ∨ k = "undeal") := by decide +kernel
/-- the kind of a row that is drawn so -/
def bkF (k : Str) : Str := if k = "sum at" then "sum" else if k = "near at" then "near" else k
theorem bk_plain {k : Str} (h1 : k ≠ "sum at") (h2 : k ≠ "near at") : bkF k = k := (if_neg h1).trans (if_neg h2)
def spLStep (K : PySem.W.Frag) : Sp := fun vs H Q _ => ∃ (p c l : Addr) (n : Nat) (ks : List Str), vs = [.ref p, .ref l] ∧ Pen H p c n ∧ n ≤ 900000 ∧ H l = some (.lst (ks.map V.str)) ∧ 0 < ks.length ∧ ks.length ≤ 1000 ∧ (∀ k ∈ ks, k ∈ kindsR) ∧
  ∀ (u : V) (r : Row) (H' : Hp), isRow r = true → (∃ kd ∈ ks, r.1 = bkF kd) → Dq K H' u (rowD r) → But p H H' → Pen H' p c (n + 6) → Q u H'
section
variable {P : Program} {w : World} {K : PySem.W.Frag} {mg : Str → Option Value} {base : Heap}
theorem scLStep : FnScope ["_law_pen_here", "_law_kinds", "_law_kind", "_law_by", "_law_whole"] ["_law_pen_here", "_law_kinds"] (defScope sLStep) := ⟨rfl, rfl, rfl, by decide +kernel, rfl, by decide +kernel, by decide +kernel⟩
theorem intAt {l : List Int} {r : Nat} {v : V} (h : (l.map V.int)[r]? = some v) : ∃ z, z ∈ l ∧ v = .int z := by
  rw [List.getElem?_map] at h
  cases e : l[r]? with
  | none => rw [e] at h; cases h
  | some z => rw [e] at h; cases h; exact ⟨z, List.mem_of_getElem? e, rfl⟩
theorem ok_lstep {f g fP : Addr} {fd gd pd : FuncData} (F : Fun K "_law_step" "_law_step" sLStep f fd) (T : TxtP mg g) (gA : mg "abs" = none) (G : Fun K "_law_draw" "_law_draw" sDraw g gd) (bG : Binds K gd ["_law_pen_here", "_law_many"] []) (FP : Fun K "_law_pick" "_law_pick" sPick fP pd) (bP : Binds K pd ["_law_pen_here", "_law_some"] []) (gP : mg "_law_pick" = some (.ref fP)) :
    FnOk P w K mg base CX0 3 f fd ["_law_pen_here", "_law_kinds"] (spLStep K) := by
  have GD : FnOk P w K mg base CX0 1 g gd ["_law_pen_here", "_law_many"] spDraw := ok_draw G T
  have GP : FnOk P w K mg base CX0 2 fP pd ["_law_pen_here", "_law_some"] (spPick K) := ok_pick FP T G bG
  refine F.ok scLStep (fun vs H Q E h => ?_) (fun cdv A outer s H vs Q E hr h => ?_)
  · obtain ⟨p, c, l, n, ks, rfl, _⟩ := h
    rfl
  · obtain ⟨p, c, l, n, ks, rfl, Pn, hn, hl, h0, h1, hk, k⟩ := h
    have nd := scLStep.nd
    refine ⟨_, (pss_cons (ps_par3 (i := 2) (j := 3) (l := 4) rfl nd rfl rfl rfl (by decide) (by decide) (by decide) rfl rfl rfl (pa_cons (pe_call GP (hr.mono (by decide)) (by rfl) gP FP.kp bP .nil pass0 (pa_cons (pv 0) (pa_cons (pv 1) pa_nil))) (pa_cons (pe_call GP (hr.mono (by decide)) (by rfl) gP FP.kp bP .nil pass0 (pa_cons (pv 0) (pa_cons (pe_lst (pa_cons pe_int (pa_cons (pe_un un_neg pe_int) (pa_cons pe_int (pa_cons (pe_un un_neg pe_int) (pa_cons pe_int (pa_cons (pe_un un_neg pe_int) pa_nil))))))) pa_nil))) (pa_cons (pe_op op_add pe_int (pe_call GD (hr.mono (by decide)) (by rfl) T.draw G.kp bG .nil pass0 (pa_cons (pv 0) (pa_cons pe_int pa_nil)))) pa_nil))) (by rfl))
      (pss_cons (ps_if (pt_cmpR op_eq (pv 2) pe_str (nomark _))
        (pss_cons (ps_set (i := 3) nd rfl (Or.inl rfl) (pe_call GP (hr.mono (by decide)) (by rfl) gP FP.kp bP .nil pass0 (pa_cons (pv 0) (pa_cons (pe_lst (pa_cons pe_int (pa_cons (pe_un un_neg pe_int) (pa_cons pe_int (pa_cons (pe_un un_neg pe_int) pa_nil))))) pa_nil))))
        (pss_one (ps_ret (pe_tup (pa_cons pe_str (pa_cons (pv 3) (pa_cons (pe_tup (pa_cons (pe_call GD (hr.mono (by decide)) (by rfl) T.draw G.kp bG .nil pass0 (pa_cons (pv 0) (pa_cons (pe_callB call_abs (by rfl) gA (by decide +kernel) (pa_cons (pv 3) pa_nil)) pa_nil))) (pa_cons (pe_callB call_abs (by rfl) gA (by decide +kernel) (pa_cons (pv 3) pa_nil)) pa_nil))) pa_nil))))))) pss_nil)
      (pss_cons (ps_if (pt_cmpR op_eq (pv 2) pe_str (nomark _))
        (pss_one (ps_ret (pe_tup (pa_cons pe_str (pa_cons (pv 3) (pa_cons (pe_tup (pa_cons (pe_call GD (hr.mono (by decide)) (by rfl) T.draw G.kp bG .nil pass0 (pa_cons (pv 0) (pa_cons (pv 4) pa_nil))) (pa_cons (pv 4) pa_nil))) pa_nil)))))) pss_nil)
      (pss_cons (ps_if (pt_cmpR op_in_seq (pv 2) (pe_tup (pa_cons pe_str (pa_cons pe_str (pa_cons pe_str pa_nil)))) (by rfl))
        (pss_one (ps_ret (pe_tup (pa_cons (pv 2) (pa_cons (pv 3) (pa_cons pe_non pa_nil)))))) pss_nil)
      (pss_cons (ps_if (pt_cmpR op_eq (pv 2) pe_str (nomark _))
        (pss_one (ps_ret (pe_tup (pa_cons (pv 2) (pa_cons pe_non (pa_cons (pe_tup (pa_cons (pe_call GD (hr.mono (by decide)) (by rfl) T.draw G.kp bG .nil pass0 (pa_cons (pv 0) (pa_cons (pv 4) pa_nil))) (pa_cons (pv 4) pa_nil))) pa_nil)))))) pss_nil)
      (pss_one (ps_ret (pe_tup (pa_cons (pv 2) (pa_cons pe_non (pa_cons pe_non pa_nil))))))))))), ?_⟩
    refine ⟨_, rfl, _, rfl, p, c, l, ks.map V.str, n, rfl, Pn, by omega, SqL.of hl, by rw [List.length_map]; exact h0, by rw [List.length_map]; omega, fun r1 v1 H1 hv1 b1 P1 => ?_⟩
    obtain ⟨kd, ik, rfl⟩ := strIx hv1
    have mk := hk kd (List.mem_of_getElem? ik)
    refine ⟨_, rfl, 1, rfl, 2, rfl, 3, rfl, by show 6 ≤ sizeLine; decide, fun l2 hl2 => ?_⟩
    refine ⟨p, c, l2, ([1, -1, 2, -2, 3, -3] : List Int).map V.int, n + 1, rfl, P1.new hl2, by omega, SqL.of upd_same, by decide, by decide, fun r2 v2 H2 hv2 b2 P2 => ?_⟩
    obtain ⟨by_, mb, rfl⟩ := intAt hv2
    have b12 := b1.trans ((But.same (same_upd hl2)).trans b2)
    refine ⟨_, rfl, p, c, 3, n + 2, rfl, P2, by omega, by decide, by decide, fun r3 H3 w0 w1 b3 P3 => ?_⟩
    have b13 := b12.trans b3
    obtain ⟨wn, rfl⟩ : ∃ wn : Nat, r3 = (wn : Int) := ⟨r3.toNat, by omega⟩
    have hw : wn < 3 := by omega
    refine ⟨2, (wn : Int), rfl, rfl, _, _, _, rfl, ?_⟩
    refine ⟨_, rfl, rfl, _, rfl, ?_⟩
    refine ite_str (fun e => ?_) (fun e1 => ?_)
    · refine ⟨_, rfl, 2, rfl, 3, rfl, by show 4 ≤ sizeLine; decide, fun l4 hl4 => ?_⟩
      refine ⟨p, c, l4, ([2, -2, 3, -3] : List Int).map V.int, n + 3, rfl, P3.new hl4, by omega, SqL.of upd_same, by decide, by decide, fun r4 v4 H4 hv4 b4 P4 => ?_⟩
      obtain ⟨by4, mb4, rfl⟩ := intAt hv4
      have ab : (if by4 < 0 then -by4 else by4) = (by4.natAbs : Int) := by split <;> omega
      have pos : 0 < by4.natAbs ∧ by4.natAbs < 5 := (by decide +kernel : ∀ b ∈ ([2, -2, 3, -3] : List Int), 0 < b.natAbs ∧ b.natAbs < 5) by4 mb4
      refine ⟨_, rfl, _, rfl, _, rfl, by4, rfl, p, c, _, n + 4, rfl, P4, by omega, by rw [ab]; omega, by rw [ab]; omega, fun r5 H5 a0 a1 b5 P5 => ?_⟩
      rw [ab] at a1
      obtain ⟨jn, rfl⟩ : ∃ jn : Nat, r5 = (jn : Int) := ⟨r5.toNat, by omega⟩
      refine ⟨_, rfl, by4, rfl, by show 2 ≤ sizeLine; decide, fun t1 ht1 => ⟨by show 3 ≤ sizeLine; decide, fun t2 ht2 => ?_⟩⟩
      rw [ab] at ht2 ⊢
      refine k _ ("sum", some by4, some ((jn : Int), (by4.natAbs : Int))) _ (row_sumAt by4 mb4 jn (by omega)) ⟨kd, List.mem_of_getElem? ik, (show ("sum" : Str) = bkF kd by rw [show kd = "sum at" from e]; decide +kernel)⟩ (row_dq (fun _ => .int _) ht2) ?_ ?_
      · exact b13.trans ((But.same (same_upd hl4)).trans (b4.trans (b5.trans (But.same ((same_upd ht1).trans (same_upd ht2))))))
      · exact ((P5.new ht1).new ht2).mono (by omega)
    refine ⟨_, rfl, rfl, _, rfl, ?_⟩
    refine ite_str (fun e => ?_) (fun e2 => ?_)
    · refine ⟨_, rfl, _, rfl, _, rfl, p, c, _, n + 3, rfl, P3, by omega, by omega, by omega, fun r5 H5 a0 a1 b5 P5 => ?_⟩
      obtain ⟨jn, rfl⟩ : ∃ jn : Nat, r5 = (jn : Int) := ⟨r5.toNat, by omega⟩
      refine ⟨_, rfl, by show 2 ≤ sizeLine; decide, fun t1 ht1 => ⟨by show 3 ≤ sizeLine; decide, fun t2 ht2 => ?_⟩⟩
      exact k _ ("near", some by_, some ((jn : Int), 2 + (wn : Int))) _ (row_nearAt by_ mb wn hw jn (by omega)) ⟨kd, List.mem_of_getElem? ik, (show ("near" : Str) = bkF kd by rw [show kd = "near at" from e]; decide +kernel)⟩ (row_dq (fun _ => .int _) ht2) (b13.trans (b5.trans (But.same ((same_upd ht1).trans (same_upd ht2))))) (((P5.new ht1).new ht2).mono (by omega))
    refine ⟨_, rfl, by show 3 ≤ sizeLine; decide, fun t ht => ⟨t, _, rfl, .inr (SqT.of upd_same), rfl, by decide +kernel, _, rfl, ?_⟩⟩
    show if inV (.str kd) ((["roll", "near", "sum"] : List Str).map V.str) = true then _ else _
    rw [in_strs]
    have P4 := P3.new (o := .tup [.str "roll", .str "near", .str "sum"]) ht
    have b14 := b13.trans (But.same (same_upd (o := .tup [.str "roll", .str "near", .str "sum"]) ht))
    refine ite_dec (fun e => ?_) (fun e3 => ?_)
    · refine ⟨_, rfl, _, rfl, by show 3 ≤ sizeLine; decide, fun t2 ht2 => ?_⟩
      exact k _ (kd, some by_, none) _ (row_plain kd e by_ mb) ⟨kd, List.mem_of_getElem? ik, (bk_plain e1 e2).symm⟩ (.tup (SqT.of upd_same) (.cons (.str _) (.cons (.int _) (.cons .non .nil)))) (b14.trans (But.same (same_upd ht2))) ((P4.new ht2).mono (by omega))
    refine ⟨_, rfl, rfl, _, rfl, ?_⟩
    refine ite_str (fun e => ?_) (fun e4 => ?_)
    · refine ⟨_, rfl, _, rfl, _, rfl, p, c, _, n + 3, rfl, P4, by omega, by omega, by omega, fun r5 H5 a0 a1 b5 P5 => ?_⟩
      obtain ⟨jn, rfl⟩ : ∃ jn : Nat, r5 = (jn : Int) := ⟨r5.toNat, by omega⟩
      refine ⟨_, rfl, by show 2 ≤ sizeLine; decide, fun t1 ht1 => ⟨by show 3 ≤ sizeLine; decide, fun t2 ht2 => ?_⟩⟩
      refine k _ ("flip", none, some ((jn : Int), 2 + (wn : Int))) _ (row_flip wn hw jn (by omega)) ⟨kd, List.mem_of_getElem? ik, ((bk_plain e1 e2).trans (show kd = "flip" from e)).symm⟩ ?_ (b14.trans (b5.trans (But.same ((same_upd ht1).trans (same_upd ht2))))) (((P5.new ht1).new ht2).mono (by omega))
      have e : kd = "flip" := e
      subst e
      exact row_dq (fun _ => .non) ht2
    · refine ⟨_, rfl, by show 3 ≤ sizeLine; decide, fun t2 ht2 => ?_⟩
      exact k _ (kd, none, none) _ (row_bare kd mk e1 e2 e3 e4) ⟨kd, List.mem_of_getElem? ik, (bk_plain e1 e2).symm⟩ (.tup (SqT.of upd_same) (.cons (.str _) (.cons .non (.cons .non .nil)))) (b14.trans (But.same (same_upd ht2))) ((P4.new ht2).mono (by omega))
end
end Aw

namespace Aw
open PySem PySem.Spec PyProof.Rows L2 NdefX
def noDeal (k : Str) : Bool := !decide (k ∈ (["deal", "undeal"] : List Str))
theorem strsDp {K : PySem.W.Frag} {H : Hp} : ∀ l : List Str, DpAll K H (l.map V.str) (l.map PyData.str)
  | [] => .nil
  | _ :: l => .cons (.str _) (strsDp l)
theorem strs_sh {l : List Str} (h : ∀ z ∈ l, z ∈ kindsR) : SeqAt.shaped (.list (l.map PyData.str)) = true := by
  have hs : ∀ z ∈ kindsR, PyData.strOk z = true := by decide +kernel
  have a : PyData.canLayAll0 (l.map PyData.str) = true ∧ PyData.depthAll (l.map PyData.str) ≤ 3 := by
    induction l with
    | nil => exact ⟨rfl, by simp [PyData.depthAll]⟩
    | cons z l ih =>
      obtain ⟨i1, i2⟩ := ih fun y hy => h y (List.mem_cons_of_mem _ hy)
      have hz := hs z (h z (List.mem_cons_self ..))
      rw [List.map_cons]
      refine ⟨?_, ?_⟩
      · simp only [PyData.canLayAll0, PyData.canLay0, i1, hz, Bool.and_self]
      · simp only [PyData.depthAll, PyData.depth]
        omega
  unfold SeqAt.shaped
  refine Bool.and_eq_true_iff.mpr ⟨?_, decide_eq_true ?_⟩
  · simp only [PyData.canLay0, a.1]
  · simp only [PyData.depth]
    have := a.2
    omega
theorem eqv_strs {l : List Str} : PyData.eqv (.list (l.map PyData.str)) (.list []) = decide (l = []) := by
  cases l with
  | nil => simp [PyData.eqv, PyData.eqvAll]
  | cons z l => simp [PyData.eqv, PyData.eqvAll]
theorem bk_deal {ks : List Str} {r : Str} (h : ∃ kd ∈ ks, r = bkF kd) (h2 : r = "deal" ∨ r = "undeal") : r ∈ ks := by
  obtain ⟨kd, hk, rfl⟩ := h
  have e1 : kd ≠ "sum at" := fun z => by rw [z] at h2; revert h2; decide +kernel
  have e2 : kd ≠ "near at" := fun z => by rw [z] at h2; revert h2; decide +kernel
  rw [bk_plain e1 e2]
  exact hk
def spLSteps (K : PySem.W.Frag) : Sp := fun vs H Q _ => ∃ (p c l : Addr) (m n : Nat) (ks : List Str), vs = [.ref p, .int (m : Nat), .ref l] ∧ Pen H p c n ∧ n ≤ 800000 ∧ m ≤ 5 ∧ H l = some (.lst (ks.map V.str)) ∧ (∀ k ∈ ks, k ∈ kindsR) ∧ ks.length ≤ 50 ∧
  ∀ (L : Addr) (us : List V) (ps : List (Str × Row)) (H' : Hp), But p H H' → H L = none → H' L = some (.lst us) → DqAll K H' us (rowsK ps) → (∀ q ∈ ps, q ∈ known) → (∀ q ∈ ps, ∃ kd ∈ ks, q.2.1 = bkF kd) → ps.length ≤ m → boundsE ps = none → Pen H' p c (n + 6 * m) → Q (.ref L) H'
section
variable {P : Program} {w : World} {K : PySem.W.Frag} {mg : Str → Option Value} {base : Heap} {fS : Addr}
theorem scLSteps : FnScope ["_law_pen_here", "_law_many", "_law_kinds", "_law_found", "_law_k", "_law_some", "_law_row", "_law_kind"] ["_law_pen_here", "_law_many", "_law_kinds"] (defScope sLSteps) := ⟨rfl, rfl, rfl, by decide +kernel, rfl, by decide +kernel, by decide +kernel⟩
theorem ok_lsteps {f : Addr} {fd sd : FuncData} (F : Fun K "_law_steps" "_law_steps" sLSteps f fd) (gR : mg "range" = none) (gLn : mg "len" = none)
    (GS : FnOk P w K mg base CX0 3 fS sd ["_law_pen_here", "_law_kinds"] (spLStep K)) (FS : Fun K "_law_step" "_law_step" sLStep fS sd) (bS : Binds K sd ["_law_pen_here", "_law_kinds"] []) (gS : mg "_law_step" = some (.ref fS)) : FnOk P w K mg base CX0 4 f fd ["_law_pen_here", "_law_many", "_law_kinds"] (spLSteps K) := by
  refine F.ok scLSteps (fun vs H Q E h => ?_) (fun cdv A outer s H vs Q E hr h => ?_)
  · obtain ⟨p, c, l, m, n, ks, rfl, _⟩ := h
    rfl
  · obtain ⟨p, c, l, m, n, ks, rfl, pn, hn, hm, hl, hks, lks, hQ⟩ := h
    have nd := scLSteps.nd
    refine ⟨_, (pss_cons (ps_set (i := 3) nd rfl (Or.inl rfl) (pe_lst pa_nil))
      (pss_cons (ps_for PassesOwn.never rfl (pi_range1 rfl gR (pa_cons (pv 1) pa_nil)) (pg_name (i := 4) nd rfl (Or.inl rfl))
        (pss_cons (ps_set (i := 5) nd rfl (Or.inl rfl) (pv 2))
        (pss_cons (ps_if (pt_cmpR op_eq (pe_callB call_len_seq (by rfl) gLn PySem.boot_len (pa_cons (pe_lc (own := [("_law_row", 6)]) (g := (gName 6)) rfl nd (pi_list (pv 3)) (blkOk_by (own := [("_law_row", 6)]) (N := ["_law_pen_here", "_law_many", "_law_kinds", "_law_found", "_law_k", "_law_some", "_law_row", "_law_kind"]) (sc := defScope sLSteps) (by decide +kernel)) (fun _ _ _ _ _ => (pg_name (i := 6) nd rfl (Or.inl rfl))) (fun _ _ _ _ _ => pts_one (pt_cmpR (show OpR _ (compareOp .In) (rIn K false) from op_in_seq) (show PE _ _ (tOp (rIxT K) (tVar 6) (tC (.int 0))) from pe_ix ix_tup (pv 6) pe_int (fun _ _ => rfl)) (pe_tup (pa_cons pe_str (pa_cons pe_str pa_nil))) (by rfl))) (fun _ _ _ _ _ => pe_int)) pa_nil)) pe_int (nomark _))
          (pss_one (ps_setLc (i := 5) (own := [("_law_kind", 7)]) (g := (gName 7)) rfl nd rfl rfl (sw_true rfl rfl (by rfl) (by decide +kernel)) (pi_list (pv 2)) (blkOk_by (own := [("_law_kind", 7)]) (N := ["_law_pen_here", "_law_many", "_law_kinds", "_law_found", "_law_k", "_law_some", "_law_row", "_law_kind"]) (sc := defScope sLSteps) (by decide +kernel)) (fun _ _ _ _ _ => (pg_name (i := 7) nd rfl (Or.inl rfl))) (fun _ _ _ _ _ => pts_one (pt_cmpR (show OpR _ (compareOp .NotIn) (rIn K true) from op_notIn_seq) (pv 7) (pe_tup (pa_cons pe_str (pa_cons pe_str pa_nil))) (by rfl))) (fun _ _ _ _ _ => (pv 7)))) pss_nil)
        (pss_one (ps_if (pt_cmpR (op_neD hr.units) (pv 5) (pe_lst pa_nil) (nomark _))
          (pss_one (ps_expr (pe_bm PySem.F.plainAttrs_list PySem.F.slot_list_append PySem.F.type_list_append mt_append (pv 3) (pa_cons (pe_call GS hr (by rfl) gS FS.kp bS .nil pass0 (pa_cons (pv 0) (pa_cons (pv 5) pa_nil))) pa_nil)))) pss_nil)))))
      (pss_one (ps_ret (pv 3))))), ?_⟩
    refine ⟨Nat.zero_le _, fun L hL => ?_⟩
    have eL : upd H L (.lst []) L = some (.lst []) := upd_same
    have sL := same_upd (o := .lst []) hL
    have lp : L ≠ p := fun z => by obtain ⟨o, e⟩ := pn.some1; rw [← z, hL] at e; cases e
    have lc : L ≠ c := fun z => by obtain ⟨o, e⟩ := pn.some2; rw [← z, hL] at e; cases e
    refine ⟨_, rfl, _, rfl, by omega, by omega, ?_⟩
    refine for_range (n := (m : Int).toNat) (fun q σ H3 => ∃ (v4 v5 v6 v7 : Option V) (us : List V) (ps : List (Str × Row)), σ = [some (.ref p), some (.int m), some (.ref l), some (.ref L), v4, v5, v6, v7] ∧ But p H H3 ∧ Pen H3 p c (n + 6 * q) ∧ H3 L = some (.lst us) ∧ DqAll K H3 us (rowsK ps) ∧ (∀ q ∈ ps, q ∈ known ∧ ∃ kd ∈ ks, q.2.1 = bkF kd) ∧ ps.length ≤ q ∧ (ps.filter isDeal).length ≤ 2) ⟨none, none, none, none, [], [], rfl, But.same sL, pn.same sL, eL, .nil, fun _ h => absurd h List.not_mem_nil, Nat.le_refl _, Nat.zero_le _⟩ ?_ ?_
    · rintro q σ H3 hq ⟨v4, v5, v6, v7, us, ps, rfl, b3, p3, e3, d3, hk, lq, dl⟩
      have lu : us.length = ps.length := d3.length.trans (List.length_map ..)
      have hl3 := but_lst b3 pn hl
      refine ⟨_, rfl, ?_⟩
      refine ⟨_, rfl, L, rfl, ⟨_, SqL.of e3⟩, fun D hD => ?_⟩
      refine lc_list (a := L) (xs := us) (fun i H4 => Same H3 H4 ∧ ∃ ws : List V, H4 D = some (.lst ws) ∧ ws.length = ((ps.take i).filter isDeal).length) ⟨same_upd hD, [], upd_same, rfl⟩ (fun i H4 hi z => SqL.of (z.1 _ _ e3)) ?_ ?_
      · rintro i u H4 hu ⟨s4, ws, e4, l4⟩
        obtain ⟨z, iz, dq⟩ := rowsK_get d3 hu
        obtain ⟨t, w2, w3, rfl, st, _, _⟩ := row_get (dq.keep (TK.same s4))
        have et : ps.take (i + 1) = ps.take i ++ [z] := by
          rw [List.take_succ, iz]
          rfl
        refine ⟨rfl, _, rfl, t, _, 0, _, rfl, rfl, st, rfl, by show 2 ≤ sizeLine; decide, fun K1 hK1 => ⟨K1, _, rfl, .inr (SqT.of upd_same), rfl, flat_strs ["deal", "undeal"], _, rfl, ?_⟩⟩
        show if inV (.str z.2.1) ((["deal", "undeal"] : List Str).map V.str) = true then _ else _
        rw [in_strs]
        have sk := same_upd (o := .tup [.str "deal", .str "undeal"]) hK1
        refine ite_dec (fun g => ?_) (fun g => ?_)
        · refine ⟨ws, sk _ _ e4, ?_, same_fresh hD (s4.trans sk), _, upd_same, ?_⟩
          · have := List.length_filter_le isDeal (ps.take i)
            rw [List.length_take] at this
            exact Nat.lt_of_lt_of_le (by omega : ws.length < 1000) kz
          · rw [et, List.filter_append, List.filter_cons_of_pos (by exact decide_eq_true g), List.length_append, List.length_append, l4]
            rfl
        · refine ⟨s4.trans sk, ws, sk _ _ e4, ?_⟩
          rw [et, List.filter_append, List.filter_cons_of_neg (by exact fun y => g (of_decide_eq_true y)), List.filter_nil, List.append_nil]
          exact l4
      rintro H4 ⟨s34, ws, e4, l4⟩
      rw [List.take_of_length_le (by omega)] at l4
      refine ⟨D, ws, rfl, .inl (SqL.of e4), rfl, _, rfl, ?_⟩
      have hl4 := s34 _ _ hl3
      refine ite_int (fun g => ?_) (fun g => ?_)
      · have g2 : ws.length = 2 := by omega
        refine ⟨_, rfl, l, rfl, ⟨_, SqL.of hl4⟩, fun D2 hD2 => ?_⟩
        refine lc_list (a := l) (xs := ks.map V.str) (fun i H5 => Same H4 H5 ∧ H5 D2 = some (.lst (((ks.take i).filter noDeal).map V.str))) ⟨same_upd hD2, upd_same⟩ (fun i H5 hi z => SqL.of (z.1 _ _ hl4)) ?_ ?_
        · rintro i y H5 hy ⟨s5, e5⟩
          obtain ⟨z, iz, rfl⟩ := strIx hy
          have hi : i < ks.length := (List.getElem?_eq_some_iff.mp iz).1
          have et : ks.take (i + 1) = ks.take i ++ [z] := by
            rw [List.take_succ, iz]
            rfl
          refine ⟨rfl, _, rfl, by show 2 ≤ sizeLine; decide, fun K1 hK1 => ⟨K1, _, rfl, .inr (SqT.of upd_same), rfl, flat_strs ["deal", "undeal"], _, rfl, ?_⟩⟩
          show if (!inV (.str z) ((["deal", "undeal"] : List Str).map V.str)) = true then _ else _
          rw [in_strs]
          have sk := same_upd (o := .tup [.str "deal", .str "undeal"]) hK1
          cases g : noDeal z with
          | true =>
            have g' : (!decide (z ∈ (["deal", "undeal"] : List Str))) = true := g
            rw [g']
            refine iteT ⟨_, rfl, _, sk _ _ e5, ?_, same_fresh hD2 (s5.trans sk), ?_⟩
            · rw [List.length_map]
              have := List.length_filter_le noDeal (ks.take i)
              rw [List.length_take] at this
              exact Nat.lt_of_lt_of_le (by omega : _ < 1000) kz
            · rw [upd_same, et, List.filter_append, List.filter_cons_of_pos g, List.map_append]
              rfl
          | false =>
            have g' : (!decide (z ∈ (["deal", "undeal"] : List Str))) = false := g
            rw [g']
            refine iteF ⟨s5.trans sk, ?_⟩
            rw [et, List.filter_append, List.filter_cons_of_neg (by rw [g]; decide), List.filter_nil, List.append_nil]
            exact sk _ _ e5
        rintro H5 ⟨s45, e5⟩
        have eK : H5 D2 = some (.lst ((ks.filter noDeal).map V.str)) := by rw [List.length_map, List.take_length] at e5; exact e5
        have hkf : ∀ k ∈ ks.filter noDeal, k ∈ kindsR := fun k hk => hks k (List.mem_filter.mp hk).1
        have lkf := List.length_filter_le noDeal ks
        have s35 := s34.trans s45
        have sh1 : SeqAt.shaped (.list ((ks.filter noDeal).map PyData.str)) = true := strs_sh hkf
        refine ⟨_, rfl, Nat.zero_le _, fun N hN => ?_⟩
        have sN := same_upd (o := .lst []) hN
        refine ⟨.list ((ks.filter noDeal).map PyData.str), .list [], .lst (SqL.of (sN _ _ eK)) (strsDp (ks.filter noDeal)), .lst (SqL.of upd_same) .nil, sh1, by decide +kernel, _, rfl, ?_⟩
        rw [eqv_strs]
        have sA := s35.trans sN
        by_cases hne : (ks.filter noDeal) = []
        · rw [decide_eq_true hne]
          refine iteF ?_
          exact ⟨_, _, _, _, us, ps, rfl, b3.trans (But.same sA), (p3.same sA).mono (by omega), sA _ _ e3, d3.keep (TK.same sA), hk, by omega, dl⟩
        rw [decide_eq_false hne]
        refine iteT ?_
        have hpos : 0 < (ks.filter noDeal).length := List.length_pos_iff.mpr hne
        have eLA := sA _ _ e3
        refine ⟨_, rfl, .inl ⟨rfl, _, SqL.of eLA⟩, _, rfl, _, rfl, p, c, D2, _, (ks.filter noDeal), rfl, p3.same sA, by omega, sN _ _ eK, hpos, by omega, hkf, fun u r H9 hr hdl dq b9 p9 => ?_⟩
        have e9 := but_lst b9 (p3.same sA) eLA
        have d9 := (d3.keep (TK.same sA)).keep (TK.but b9 (p3.same sA))
        refine ⟨L, us, _, rfl, rfl, e9, small200' (by omega), ?_⟩
        have hkn : (textOf r, r) ∈ known := of_decide_eq_true hr
        refine ⟨_, _, _, _, us ++ [u], ps ++ [(textOf r, r)], rfl, fun b o e ne => ?_, (p9.upd lp lc).mono (by omega), upd_same, ?_, fun z hz => ?_, by rw [List.length_append]; show ps.length + 1 ≤ q + 1; omega, ?_⟩
        · rw [upd_ne (ne_of_none e hL)]
          exact b9 _ _ (sA _ _ (b3 _ _ e ne)) ne
        · unfold rowsK
          rw [List.map_append]
          exact (d9.append (.cons dq .nil)).keep (TK.lst e9)
        · rcases List.mem_append.mp hz with e | e
          · exact hk z e
          · rw [List.mem_singleton.mp e]
            exact ⟨hkn, hdl.elim fun kd z => ⟨kd, (List.mem_filter.mp z.1).1, z.2⟩⟩
        · rw [List.filter_append, List.length_append]
          have hno : isDeal (textOf r, r) = false := decide_eq_false fun z => by
            have z2 : r.1 = "deal" ∨ r.1 = "undeal" := by
              have z3 : r.1 ∈ (["deal", "undeal"] : List Str) := z
              simp only [List.mem_cons, List.not_mem_nil, or_false] at z3
              exact z3
            have := (List.mem_filter.mp (bk_deal hdl z2)).2
            rw [noDeal, decide_eq_true z] at this
            cases this
          rw [List.filter_cons_of_neg (by rw [hno]; decide)]
          exact dl
      · have g2 : ws.length ≠ 2 := fun z => g (by rw [z]; rfl)
        have eK := hl4
        have sh1 : SeqAt.shaped (.list (ks.map PyData.str)) = true := strs_sh hks
        refine ⟨_, rfl, Nat.zero_le _, fun N hN => ?_⟩
        have sN := same_upd (o := .lst []) hN
        refine ⟨.list (ks.map PyData.str), .list [], .lst (SqL.of (sN _ _ eK)) (strsDp ks), .lst (SqL.of upd_same) .nil, sh1, by decide +kernel, _, rfl, ?_⟩
        rw [eqv_strs]
        have sA := s34.trans sN
        by_cases hne : ks = []
        · rw [decide_eq_true hne]
          refine iteF ?_
          exact ⟨_, _, _, _, us, ps, rfl, b3.trans (But.same sA), (p3.same sA).mono (by omega), sA _ _ e3, d3.keep (TK.same sA), hk, by omega, dl⟩
        rw [decide_eq_false hne]
        refine iteT ?_
        have hpos : 0 < ks.length := List.length_pos_iff.mpr hne
        have eLA := sA _ _ e3
        refine ⟨_, rfl, .inl ⟨rfl, _, SqL.of eLA⟩, _, rfl, _, rfl, p, c, l, _, ks, rfl, p3.same sA, by omega, sN _ _ eK, hpos, by omega, hks, fun u r H9 hr hdl dq b9 p9 => ?_⟩
        have e9 := but_lst b9 (p3.same sA) eLA
        have d9 := (d3.keep (TK.same sA)).keep (TK.but b9 (p3.same sA))
        refine ⟨L, us, _, rfl, rfl, e9, small200' (by omega), ?_⟩
        have hkn : (textOf r, r) ∈ known := of_decide_eq_true hr
        refine ⟨_, _, _, _, us ++ [u], ps ++ [(textOf r, r)], rfl, fun b o e ne => ?_, (p9.upd lp lc).mono (by omega), upd_same, ?_, fun z hz => ?_, by rw [List.length_append]; show ps.length + 1 ≤ q + 1; omega, ?_⟩
        · rw [upd_ne (ne_of_none e hL)]
          exact b9 _ _ (sA _ _ (b3 _ _ e ne)) ne
        · unfold rowsK
          rw [List.map_append]
          exact (d9.append (.cons dq .nil)).keep (TK.lst e9)
        · rcases List.mem_append.mp hz with e | e
          · exact hk z e
          · rw [List.mem_singleton.mp e]
            exact ⟨hkn, hdl⟩
        · rw [List.filter_append, List.length_append]
          have : ([(textOf r, r)].filter isDeal).length ≤ 1 := List.length_filter_le ..
          omega
    · rintro σ H3 ⟨v4, v5, v6, v7, us, ps, rfl, b3, p3, e3, d3, hk, lq, dl⟩
      refine ⟨_, rfl, hQ L us ps H3 b3 hL e3 d3 (fun q hq => (hk q hq).1) (fun q hq => (hk q hq).2) (by omega) ?_ (p3.mono (by omega))⟩
      unfold boundsE
      rw [if_neg (by omega), if_neg (by omega)]
end
end Aw

namespace Aw
open PySem PySem.Spec PyProof.Rows L2 NdefX
theorem StepsAt.penB {K : PySem.W.Frag} {C : Addr} {H H' : Hp} {p c : Addr} {n : Nat} (b : But p H H') (P : Pen H p c n) : ∀ {vs : List V} {ps : List (Str × Row)}, StepsAt K C H vs ps → StepsAt K C H' vs ps
  | _, _, .nil => .nil
  | _, _, .cons s t => .cons (s.penB b P) (StepsAt.penB b P t)
theorem ProgAt.penB {K : PySem.W.Frag} {C CS : Addr} {H H' : Hp} {p c a : Addr} {n : Nat} {x : Str} {ps : List (Str × Row)} (S : ProgAt K C CS H a x ps) (b : But p H H') (P : Pen H p c n) : ProgAt K C CS H' a x ps := by
  obtain ⟨dx, t, ys, e1, e2, st⟩ := S.ex
  have ne : a ≠ p := by
    obtain ⟨cells, i, l, e3, _⟩ := P.ex
    exact ne_of e1 e3 (fun z => by cases z)
  exact ⟨dx, t, ys, b _ _ e1 ne, but_tup b P e2, st.penB b P⟩
theorem TK.butL {H H' : Hp} {l : Addr} {xs : List V} (b : But l H H') (h : H l = some (.lst xs)) : TK H H' :=
  ⟨fun a ys e => b a _ e (ne_of e h (fun z => by cases z)), fun a o ys e => b a _ e (ne_of e h (fun z => by cases z))⟩
theorem Pen.butL {H H' : Hp} {l p c : Addr} {n : Nat} (P : Pen H p c n) (b : But l H H') (lp : l ≠ p) (lc : l ≠ c) : Pen H' p c n := by
  obtain ⟨cells, i, j, e1, e2, h3⟩ := P.ex
  exact ⟨cells, i, j, b _ _ e1 lp.symm, b _ _ e2 lc.symm, h3⟩
theorem StepAt.butL {K : PySem.W.Frag} {CS : Addr} {H H' : Hp} {l a : Addr} {ws : List V} {x : Str} {r : Row} (S : StepAt K CS H a x r) (b : But l H H') (h : H l = some (.lst ws)) : StepAt K CS H' a x r := by
  obtain ⟨dx, bb, t, e, h1, h2⟩ := S.ex
  exact ⟨⟨dx, bb, t, b _ _ e (ne_of e h (fun z => by cases z)), h1.keep (TK.butL b h), h2.keep (TK.butL b h)⟩, S.pr⟩
theorem StepsAt.butL {K : PySem.W.Frag} {C : Addr} {H H' : Hp} {l : Addr} {ws : List V} (b : But l H H') (h : H l = some (.lst ws)) : ∀ {vs : List V} {ps : List (Str × Row)}, StepsAt K C H vs ps → StepsAt K C H' vs ps
  | _, _, .nil => .nil
  | _, _, .cons s t => .cons (s.butL b h) (StepsAt.butL b h t)
theorem ProgAt.butL {K : PySem.W.Frag} {C CS : Addr} {H H' : Hp} {l a : Addr} {ws : List V} {x : Str} {ps : List (Str × Row)} (S : ProgAt K C CS H a x ps) (b : But l H H') (h : H l = some (.lst ws)) : ProgAt K C CS H' a x ps := by
  obtain ⟨dx, t, ys, e1, e2, st⟩ := S.ex
  exact ⟨dx, t, ys, b _ _ e1 (ne_of e1 h (fun z => by cases z)), b _ _ e2 (ne_of e2 h (fun z => by cases z)), st.butL b h⟩
/-- the steps' list and the program of these steps -/
structure Kit4 (K : PySem.W.Frag) (C CS : Addr) (H : Hp) (ls a : Addr) (us : List V) (ps : List (Str × Row)) : Prop where
  hls : H ls = some (.lst us)
  dus : DqAll K H us (rowsK ps)
  pa : ProgAt K C CS H a (textP ps) ps
theorem Kit4.same {K : PySem.W.Frag} {C CS : Addr} {H H' : Hp} {ls a : Addr} {us : List V} {ps : List (Str × Row)} (k : Kit4 K C CS H ls a us ps) (s : Same H H') : Kit4 K C CS H' ls a us ps := ⟨s _ _ k.hls, k.dus.keep (TK.same s), k.pa.same s⟩
theorem Kit4.pen {K : PySem.W.Frag} {C CS : Addr} {H H' : Hp} {ls a p c : Addr} {n : Nat} {us : List V} {ps : List (Str × Row)} (k : Kit4 K C CS H ls a us ps) (b : But p H H') (P : Pen H p c n) : Kit4 K C CS H' ls a us ps := ⟨but_lst b P k.hls, k.dus.keep (TK.but b P), k.pa.penB b P⟩
theorem Kit4.butL {K : PySem.W.Frag} {C CS : Addr} {H H' : Hp} {ls a l : Addr} {ws us : List V} {ps : List (Str × Row)} (k : Kit4 K C CS H ls a us ps) (b : But l H H') (h : H l = some (.lst ws)) (ne : ls ≠ l) : Kit4 K C CS H' ls a us ps := ⟨b _ _ k.hls ne, k.dus.keep (TK.butL b h), k.pa.butL b h⟩
theorem Pen.ne1 {H : Hp} {p c l : Addr} {n : Nat} (P : Pen H p c n) (h : H l = none) : l ≠ p := fun z => by obtain ⟨o, e⟩ := P.some1; rw [← z, h] at e; cases e
theorem Pen.ne2 {H : Hp} {p c l : Addr} {n : Nat} (P : Pen H p c n) (h : H l = none) : l ≠ c := fun z => by obtain ⟨o, e⟩ := P.some2; rw [← z, h] at e; cases e
theorem DqAll.take {K : PySem.W.Frag} {H : Hp} : ∀ {vs : List V} {ds : List PyData} (i : Nat), DqAll K H vs ds → DqAll K H (vs.take i) (ds.take i)
  | _, _, 0, _ => .nil
  | _, _, _ + 1, .nil => .nil
  | _, _, i + 1, .cons s t => .cons s (DqAll.take i t)
theorem bounds_len {ps : List (Str × Row)} (h : boundsE ps = none) : ps.length ≤ 5 := by
  unfold boundsE at h
  by_cases z : 5 < ps.length
  · rw [if_pos z] at h; cases h
  · omega
theorem textP_str (ps : List (Str × Row)) (hk : ∀ p ∈ ps, p ∈ known) (hn : ps.length ≤ 30) : (textP ps).length ≤ 1000 := by
  have h1 := join_len " then " (ps.map (·.1))
  have h2 := sum20 hk
  rw [List.length_map, show (" then " : Str).length = 6 from rfl] at h1
  unfold textP
  omega
theorem strOk_app {x y : Str} (hx : PyData.strOk x = true) (hy : PyData.strOk y = true) : PyData.strOk (x ++ y) = true := by
  show (x.cps ++ y.cps).all (· < 0x110000) = true
  rw [Array.all_append]
  exact Bool.and_eq_true_iff.mpr ⟨hx, hy⟩
theorem strOk_join : ∀ {l : List Str}, (∀ z ∈ l, PyData.strOk z = true) → PyData.strOk (Str.join " then " l) = true
  | [], _ => by decide +kernel
  | [x], h => h x (List.mem_cons_self ..)
  | x :: y :: r, h => strOk_app (strOk_app (h x (List.mem_cons_self ..)) (by decide +kernel)) (strOk_join fun z hz => h z (List.mem_cons_of_mem _ hz))
theorem known_strs {ps : List (Str × Row)} (h : ∀ p ∈ ps, p ∈ known) : ∀ z ∈ ps.map (·.1), PyData.strOk z = true := fun z hz => by
  obtain ⟨q, hq, rfl⟩ := List.mem_map.mp hz
  have : ∀ p ∈ known, PyData.strOk p.1 = true := by decide +kernel
  exact this q (h q hq)
theorem sh_textP {ps : List (Str × Row)} (h : ∀ p ∈ ps, p ∈ known) : SeqAt.shaped (.str (textP ps)) = true := by
  unfold SeqAt.shaped
  refine Bool.and_eq_true_iff.mpr ⟨?_, decide_eq_true ?_⟩
  · simp only [PyData.canLay0]
    exact strOk_join (known_strs h)
  · simp only [PyData.depth]
    decide
end Aw

namespace Aw
open PySem PySem.Spec PyProof.Rows L2 NdefX
section
variable {prog : Program} {w : World} {A : Around} {E : Value → Shared → Prop} {s : Shared}
theorem applied_rev {sl : Addr} {vl vu vs : Value} {n : Nat} {Q : Int × Int × Nat → Shared → Prop} (hs : s.heap.IsSliceOf sl vl vu vs) (pl : IsPart vl none) (pu : IsPart vu none) (ps : IsPart vs (some (-1)))
    (h : Q ((n : Int) - 1, -1, n) s) : wpAny (model prog w) A (Builtin.Slice.sliceApplied (.ref sl) (pure (n : Int))) Q E s := by
  obtain ⟨os, hos, hcs, hds⟩ := id hs
  unfold Builtin.Slice.sliceApplied Builtin.Slice.sliceFields
  refine wpAny_bind (wpAny_bind (wpAny_field hos hds (x := vl) rfl (wpAny_bind (wpAny_field hos hds (x := vu) rfl (wpAny_bind (wpAny_field hos hds (x := vs) rfl (wpAny_pure ?_)))))))
  refine wpAny_bind (HT.slicePart_ ps ?_)
  show wpAny _ _ (if ((-1 : Int) == 0) = true then _ else _) _ _ s
  rw [if_neg (by decide)]
  refine wpAny_bind (HT.slicePart_ pl (wpAny_bind (HT.slicePart_ pu (wpAny_bind (wpAny_pure ?_)))))
  show wpAny _ _ (pure ((n : Int) - 1, (-1 : Int), Builtin.Slice.slicePlaces ((n : Int) - 1) (-1) (-1))) _ _ s
  have e : Builtin.Slice.slicePlaces ((n : Int) - 1) (-1) (-1) = n := by
    unfold Builtin.Slice.slicePlaces
    rw [if_neg (by decide)]
    by_cases z : (n : Int) - 1 > -1
    · rw [if_pos z]
      have : (((n : Int) - 1 - -1 - 1) / (- -1) + 1) = (n : Int) := by
        rw [show (- -1 : Int) = 1 from rfl, Int.ediv_one]
        omega
      rw [this]
      exact Int.toNat_natCast n
    · rw [if_neg z]
      omega
  rw [e]
  exact wpAny_pure h
theorem pick_rev (xs : Array Value) : ((List.range xs.size).filterMap fun (m : Nat) => xs[((((xs.size : Nat) : Int) - 1) + (m : Int) * -1).toNat]?).toArray = xs.toList.reverse.toArray := by
  congr 1
  have e1 : ∀ m ∈ List.range xs.size, xs[((((xs.size : Nat) : Int) - 1) + (m : Int) * -1).toNat]? = xs.toList.reverse[m]? := fun m hm => by
    have hm := List.mem_range.mp hm
    rw [List.getElem?_reverse (by rw [Array.length_toList]; exact hm), Array.length_toList, Array.getElem?_toList]
    congr 1
    omega
  have cong : ∀ (l : List Nat) (f g : Nat → Option Value), (∀ m ∈ l, f m = g m) → l.filterMap f = l.filterMap g := fun l f g h => by
    induction l with
    | nil => rfl
    | cons x l ih =>
      rw [List.filterMap_cons, List.filterMap_cons, h x (List.mem_cons_self ..), ih fun m hm => h m (List.mem_cons_of_mem _ hm)]
  rw [cong _ _ _ e1]
  have : ∀ l : List Value, (List.range l.length).filterMap (fun m => l[m]?) = l := fun l => by
    induction l with
    | nil => rfl
    | cons x l ih =>
      rw [List.length_cons, List.range_succ_eq_map, List.filterMap_cons, List.filterMap_map]
      show x :: _ = x :: l
      congr 1
  have e2 := this xs.toList.reverse
  rw [List.length_reverse, Array.length_toList] at e2
  exact e2
theorem getItem_tuple_rev {t sl : Addr} {items : Array Value} {vl vu vs : Value} {Q : Value → Shared → Prop} (ht : IsTup s.heap t items) (hs : s.heap.IsSliceOf sl vl vu vs) (pl : IsPart vl none) (pu : IsPart vu none) (ps : IsPart vs (some (-1)))
    (h : Q (.ref s.heap.objs.size) { s with heap := s.heap.push { cls := .type "tuple", data := .seq items.toList.reverse.toArray } })
    (hsz : items.size ≤ sizeLine) : wpAny (model prog w) A (getItem (.ref t) (.ref sl)) Q E s := by
  have htake : PySem.sizeOk (Data.seq items.toList.reverse.toArray) := by
    show items.toList.reverse.toArray.size ≤ sizeLine
    rw [List.size_toArray, List.length_reverse, Array.length_toList]
    exact hsz
  obtain ⟨os, hos, hcs, hds⟩ := id hs
  have hTs : s.TypeIs (.ref sl) "slice" := ⟨os, hos, hcs⟩
  unfold getItem
  try with_reducible refine wpAny_holding ?_
  first | refine wpAny_bind (wpAny_pure ?_) | skip
  refine wpAny_bind (wpAny_sequenceKey ht.typeIs (by decide) ?_)
  refine wpAny_bind (wpAny_callSpecial?_slot (name := Str.ofString "__getitem__") ht.typeIs PyProof.Rows.slot_tuple_getitem
    (wpAny_call_entry PyProof.Rows.slot_tuple_getitem ht.typeIs entry_tuple_getitem ?_ (args_tuple_getitem _ _)))
  show wpAny _ _ (Builtin.Tuple.tupleItemsOf (.ref t) >>= _) _ _ s
  refine wpAny_bind (tupleItemsOf_ ht ?_)
  refine wpAny_bind (wpAny_typeOf hTs ?_)
  rw [if_pos (by decide)]
  refine wpAny_bind (applied_rev hs pl pu ps ?_)
  have hno : ¬ (((((items.size : Nat) : Int) - 1) == 0 && (-1 : Int) == 1 && items.size == items.size) = true) := by
    intro q
    rw [Bool.and_eq_true, Bool.and_eq_true] at q
    exact absurd q.1.2 (by decide)
  show wpAny _ _ (if ((((items.size : Nat) : Int) - 1) == 0 && (-1 : Int) == 1 && items.size == items.size) = true then _ else _) _ _ s
  rw [if_neg hno, pick_rev]
  first
    | exact wpAny_bind (m := Builtin.Tuple.tupleExact _) (wpAny_newObj_type (wpAny_pure ⟨_, rfl, wpAny_pure h⟩) htake)
    | exact wpAny_bind (m := Builtin.Tuple.tupleExact _) (wpAny_newObj_type (wpAny_bind (wpAny_pure (wpAny_pure ⟨_, rfl, wpAny_pure h⟩))) htake)
    | exact wpAny_bind (wpAny_bind (m := Builtin.Tuple.tupleExact _) (wpAny_newObj_type (wpAny_pure (wpAny_pure ⟨_, rfl, wpAny_pure h⟩)) htake))
    | exact wpAny_bind (wpAny_bind (m := Builtin.Tuple.tupleExact _) (wpAny_newObj_type (wpAny_pure ⟨_, rfl, wpAny_pure h⟩) htake))
end
/-- t[::-1] of a tuple -/
def tRevT (K : PySem.W.Frag) (te : TE) : TE := fun σ H Q => te σ H fun x H1 => ∃ a xs, x = .ref a ∧ SqT K H1 a xs ∧ ∀ p, H1 p = none → Q (.ref p) (upd H1 p (.tup xs.reverse))
theorem pe_revT {X : Cx} {e : Expr} {te : TE} {k : Nat} {p1 p2 p3 pos : Pos} (he : PE X e te) : PE X (.Subscript e (.Slice none none (some (.UnaryOp .USub (.Constant (.int 1) k p1) p2)) p3) pos) (tRevT X.K te) := by
  refine ⟨fun pins s σ H Q I h => ?_⟩
  refine Subscript_ (thn (he.run pins s σ H _ I h) fun v s1 ⟨x, H1, I1, r1, q1⟩ => ?_)
  obtain ⟨a, xs, ex, hx, q⟩ := q1
  subst ex
  cases r1
  have hst : PO X (some (.UnaryOp .USub (.Constant (.int 1) k p1) p2)) (tPart (tUn (rU fun i => .int (-i)) (tC (.int 1)))) := po_some (pe_un un_neg pe_int)
  refine wpAny_Slice (thn (po_none.run pins s1 σ H1 (fun o H2 => o = none ∧ H2 = H1) I1 ⟨rfl, rfl⟩) fun vl s2 ⟨l, H2, I2, pl, el, e2⟩ => ?_)
  subst el e2
  refine thn (po_none.run pins s2 σ H2 (fun o H3 => o = none ∧ H3 = H2) I2 ⟨rfl, rfl⟩) fun vu s3 ⟨u, H3, I3, pu, eu, e3⟩ => ?_
  subst eu e3
  refine thn (hst.run pins s3 σ H3 (fun o H4 => o = some (-1) ∧ H4 = H3) I3 ⟨1, rfl, -1, rfl, rfl, rfl⟩) fun vs s4 ⟨o, H4, I4, ps, eo, e4⟩ => ?_
  subst eo e4
  have I5 : Inv X pins σ H4 { s4 with heap := s4.heap.push { cls := .type "slice", data := .fields #[vl, vu, vs] } } := I4.kept (t' := s4.toks) fun b ob q => Heap.get?_push_of_some _ q
  obtain ⟨its, r, ht, hz⟩ := I5.tuple hx
  have hlen := r.length
  show wpAny (model X.prog X.w) X.A (subscriptTail e (.Slice none none (some (.UnaryOp .USub (.Constant (.int 1) k p1) p2)) p3) (.ref a) (.ref s4.heap.objs.size)) (EP X pins σ Q) X.xe { s4 with heap := s4.heap.push { cls := .type "slice", data := .fields #[vl, vu, vs] } }
  refine tail_any (ops := [.ref a, .ref s4.heap.objs.size]) ht.typeIs PyProof.Rows.slot_tuple_getitem.lookup ?_ (by with_unfolding_all rfl)
  refine getItem_tuple_rev ht (Heap.IsSliceOf.new _ vl vu vs) pl pu ps ?_ (by rw [List.size_toArray]; omega)
  refine ⟨.ref _, _, I5.laid (t' := s4.toks) (o := .tup xs.reverse) (fun b ob q => Heap.get?_push_of_some _ q) (Nat.le_refl _) ?_, rfl, q _ (I5.hok.fresh (Nat.le_refl _))⟩
  exact ⟨by rw [List.length_reverse]; exact hz, _, r.reverse, IsTup.new _ _⟩
end Aw

namespace Aw
open PySem PySem.Spec PyProof.Rows L2 NdefX
theorem emp_app (x : Str) : Str.empty ++ x = x := by
  cases x with
  | mk c => exact congrArg Str.mk (Array.empty_append ..)
/-- the text of a step with a number C -/
def stepT (k : Str) (b : Int) (o : Option (Int × Int)) : Str := match o with
  | none => k ++ " " ++ strI b
  | some p => k ++ " " ++ strI b ++ " at " ++ strI p.1 ++ " of " ++ strI p.2
theorem stepT_text : ∀ p ∈ known, ∀ b, p.2.2.1 = some b → stepT p.2.1 b p.2.2.2 = textOf p.2 := by decide +kernel
def smST (k : Str) (b : Int) (o : Option (Int × Int)) : Prop := b.natAbs.log2 < 1920 ∧ (∀ p, o = some p → p.1.natAbs.log2 < 1920 ∧ p.2.natAbs.log2 < 1920) ∧ (stepT k b o).length ≤ 1000
def spSText (K : PySem.W.Frag) : Sp := fun vs H Q _ => ∃ (k : Str) (b : Int) (rv : V) (o : Option (Int × Int)), vs = [.str k, .int b, rv] ∧ Dq K H rv (restD o) ∧ smST k b o ∧ Q (.str (stepT k b o)) H
def ownB (b : Option Int) (o : Option (Int × Int)) : Bool := match o with
  | none => false
  | some p => !decide ((b.getD 0) % p.2 = 0)
def spOwnI (K : PySem.W.Frag) : Sp := fun vs H Q _ => ∃ (bv rv : V) (b : Option Int) (o : Option (Int × Int)), vs = [bv, rv] ∧ Dq K H bv (optD b) ∧ Dq K H rv (restD o) ∧ restOk o ∧ (o ≠ none → b ≠ none) ∧ Q (.bl (ownB b o)) H
section
variable {P : Program} {w : World} {K : PySem.W.Frag} {mg : Str → Option Value} {base : Heap}
theorem scSText : FnScope ["kind", "by", "rest", "at", "of"] ["kind", "by", "rest"] (defScope sSText) := ⟨rfl, rfl, rfl, by decide +kernel, rfl, by decide +kernel, by decide +kernel⟩
theorem ok_stext {f : Addr} {fd : FuncData} (F : Fun K "step_text" "step_text" sSText f fd) : FnOk P w K mg base CX0 1 f fd ["kind", "by", "rest"] (spSText K) := by
  refine F.ok scSText (fun vs H Q E h => ?_) (fun cdv A outer s H vs Q E hr h => ?_)
  · obtain ⟨k, b, rv, o, rfl, _⟩ := h
    rfl
  · obtain ⟨k, b, rv, o, rfl, dr, ⟨h1, h2, h3⟩, hQ⟩ := h
    have nd := scSText.nd
    refine ⟨_, (pss_cons (ps_if (pt_cmpR op_isN (pv 2) pe_non (nomark _))
        (pss_one (ps_ret (pe_joined (.cons (pe_fmt (pv 0)) (.cons pe_str (.cons (pe_fmt (pv 1)) .nil)))))) pss_nil)
      (pss_cons (ps_asg (pv 2) (pg_tup rfl (pgs_cons (pg_name (i := 3) nd rfl (Or.inl rfl)) (pgs_cons (pg_name (i := 4) nd rfl (Or.inl rfl)) pgs_nil))))
      (pss_one (ps_ret (pe_joined (.cons (pe_fmt (pv 0)) (.cons pe_str (.cons (pe_fmt (pv 1)) (.cons pe_str (.cons (pe_fmt (pv 3)) (.cons pe_str (.cons (pe_fmt (pv 4)) .nil)))))))))))), ?_⟩
    cases o with
    | none =>
      obtain rfl := dr.of_none
      refine ⟨_, rfl, rfl, _, rfl, ?_⟩
      refine iteT ?_
      have e3 : ((k ++ " " ++ strI b : Str)).length ≤ 1000 := h3
      have hz : ∀ {x : Str}, x.length ≤ 1000 → x.length ≤ sizeLine := fun h => Nat.le_trans h kz
      refine ⟨_, rfl, .inl ⟨k, rfl, hz (len_left (len_left e3)), k, rfl, ?_, " ", rfl, ?_, _, rfl, .inr ⟨b, rfl, h1, _, rfl, ?_, ?_⟩⟩⟩
      · rw [emp_app]; exact hz (len_left (len_left e3))
      · rw [emp_app]; exact hz (len_left e3)
      · rw [emp_app]; exact hz e3
      · show Q (.str (Str.empty ++ k ++ " " ++ strI b)) H
        rw [emp_app]
        exact hQ
    | some p =>
      obtain ⟨t, xs, rfl, st, dxs⟩ := dr.of_tuple
      cases dxs with
      | cons g1 dxs => cases dxs with
        | cons g2 dxs =>
          cases dxs
          obtain rfl := g1.of_int
          obtain rfl := g2.of_int
          refine ⟨_, rfl, rfl, _, rfl, ?_⟩
          refine iteF ?_
          refine ⟨_, rfl, t, _, rfl, st, rfl, _, _, rfl, _, _, rfl, rfl, ?_⟩
          obtain ⟨q1, q2⟩ := h2 p rfl
          have e3 : ((k ++ " " ++ strI b ++ " at " ++ strI p.1 ++ " of " ++ strI p.2 : Str)).length ≤ 1000 := h3
          have hz : ∀ {x : Str}, x.length ≤ 1000 → x.length ≤ sizeLine := fun h => Nat.le_trans h kz
          have e4 := len_left e3
          have e5 := len_left e4
          have e6 := len_left e5
          have e7 := len_left e6
          have e8 := len_left e7
          have e9 := len_left e8
          refine ⟨_, rfl, .inl ⟨k, rfl, hz e9, k, rfl, ?_, " ", rfl, ?_, _, rfl, .inr ⟨b, rfl, h1, _, rfl, ?_, " at ", rfl, ?_, _, rfl, .inr ⟨p.1, rfl, q1, _, rfl, ?_, " of ", rfl, ?_, _, rfl, .inr ⟨p.2, rfl, q2, _, rfl, ?_, ?_⟩⟩⟩⟩⟩
          · rw [emp_app]; exact hz e9
          · rw [emp_app]; exact hz e8
          · rw [emp_app]; exact hz e7
          · rw [emp_app]; exact hz e6
          · rw [emp_app]; exact hz e5
          · rw [emp_app]; exact hz e4
          · rw [emp_app]; exact hz e3
          · show Q (.str (Str.empty ++ k ++ " " ++ strI b ++ " at " ++ strI p.1 ++ " of " ++ strI p.2)) H
            rw [emp_app]
            exact hQ
theorem scOwnI : FnScope ["by", "rest"] ["by", "rest"] (defScope sOwnI) := ⟨rfl, rfl, rfl, by decide +kernel, rfl, by decide +kernel, by decide +kernel⟩
theorem ok_owni {f : Addr} {fd : FuncData} (F : Fun K "is_own_inverse" "is_own_inverse" sOwnI f fd) : FnOk P w K mg base CX0 1 f fd ["by", "rest"] (spOwnI K) := by
  refine F.ok scOwnI (fun vs H Q E h => ?_) (fun cdv A outer s H vs Q E hr h => ?_)
  · obtain ⟨bv, rv, b, o, rfl, _⟩ := h
    rfl
  · obtain ⟨bv, rv, b, o, rfl, db, dr, ro, hn, hQ⟩ := h
    have nd := scOwnI.nd
    refine ⟨_, (pss_one (ps_ret (pe_and (pe_cmpR op_notN (pv 1) pe_non (nomark _)) (pe_one (pe_cmpR op_ne (pe_op op_mod (pv 0) (pe_ix ix_tup (pv 1) pe_int (fun _ _ => rfl))) pe_int (nomark _)))))), ?_⟩
    cases o with
    | none =>
      obtain rfl := dr.of_none
      refine ⟨_, rfl, rfl, _, rfl, ?_⟩
      exact iteF hQ
    | some p =>
      obtain ⟨t, xs, rfl, st, dxs⟩ := dr.of_tuple
      cases dxs with
      | cons g1 dxs => cases dxs with
        | cons g2 dxs =>
          cases dxs
          obtain rfl := g1.of_int
          obtain rfl := g2.of_int
          obtain ⟨i, rfl⟩ : ∃ i, b = some i := Option.ne_none_iff_exists'.mp (hn (by simp))
          obtain rfl := db.of_int
          refine ⟨_, rfl, rfl, _, rfl, ?_⟩
          refine iteT ?_
          refine ⟨_, rfl, _, rfl, t, _, 1, _, rfl, rfl, st, rfl, _, _, rfl, rfl, (ro p rfl).1, rfl, ?_⟩
          have hQ : Q (.bl (!decide (i % p.2 = 0))) H := hQ
          rw [dec_ints]
          exact hQ
end
end Aw

namespace Aw
open PySem PySem.Spec PyProof.Rows L2 NdefX
/-! ### ~x by an own __invert__ -/
section
variable {X : Cx} {C f : Addr} {fd : FuncData} {ps : List Str} {sp : Sp} {k : Nat} {CX : CXT}
def rInvO (C : Addr) (sp : Sp) : V → Hp → VK → Prop := fun x H Q => ∃ (a dx : Addr) (fs : List (Str × V)), x = .ref a ∧ H a = some (.ins C dx fs) ∧ sp [.ref a] H Q E0
theorem un_invO (hs : PySem.W.findIn X.K (.ref C) "__invert__" = some (some (.ref f))) (hf : PySem.W.isFn X.K (.ref f) = true) (F : FnOk X.prog X.w X.K X.mg X.base CX0 k f fd ps sp) (hr : Room k X.A) (hb : Binds X.K fd ps []) : UnR X (unaryOp .Invert) (rInvO C sp) := by
  intro pins s σ H x v Q I rx h
  obtain ⟨a, dx, fs, rfl, ha, hsp⟩ := h
  cases rx
  obtain ⟨mA, J, _⟩ := ins_get I.hok ha
  obtain ⟨od, J, _⟩ := J.look
  obtain ⟨m, hF⟩ := I.fr
  exact PySem.W.ksp_inv hF I.ok.mod.kin J hs hf (run_fn (vs := [V.ref a]) (us := [Value.ref a]) (ds := []) (dvs := []) F hr hb .nil pass0 I (.cons rfl .nil) hsp)
end
/-! ### Step.__invert__ -/
structure OthK (K : PySem.W.Frag) (w : World) (mg : Str → Option Value) (d : Addr) (es : Array DictEntry) (n : Nat) : Prop where
  g : mg "OTHER_KINDS" = some (.ref d)
  D : KDict K w d es n
  no : ∀ z, otherL.lookup z = none → PySem.W.nsIn K d z = some none
  yes : ∀ z y, otherL.lookup z = some y → ∃ u, PySem.W.nsIn K d z = some (some u) ∧ RelV (.str y) u
def invFact (p : Str × Row) : Bool := if p.2.1 = "roll" then (match p.2.2.1 with | some b => decide (stepT "roll" (-b) none = textOf (invR p.2)) && decide ((-b).natAbs.log2 < 1920) | none => false) else (match otherL.lookup p.2.1 with
  | none => decide (invR p.2 = p.2)
  | some o => if ownB p.2.2.1 p.2.2.2 = true then decide (invR p.2 = p.2) else decide (o ++ cutS p.1 (some (p.2.1.length : Nat)) none = textOf (invR p.2)) && decide (o.length ≤ 100) && (p.2.2.2.isNone || p.2.2.1.isSome))
theorem known_fact : ∀ p ∈ known, invFact p = true := by decide +kernel
def byRest (p : Str × Row) : Bool := p.2.2.2.isNone || (p.2.2.1.isSome || decide (p.2.1 = "flip"))
theorem known_byRest : ∀ p ∈ known, byRest p = true := by decide +kernel
theorem other_flip : otherL.lookup ("flip" : Str) = none := by decide +kernel
def spSInv (K : PySem.W.Frag) (CS : Addr) : Sp := fun vs H Q _ => ∃ (a : Addr) (x : Str) (r : Row), vs = [.ref a] ∧ StepAt K CS H a x r ∧ ∀ b H', Same H H' → StepAt K CS H' b (textOf (invR r)) (invR r) → Q (.ref b) H'
section
variable {P : Program} {w : World} {K : PySem.W.Frag} {mg : Str → Option Value} {base : Heap} {CS CB fP fI fTx fOw dO : Addr} {eO : Array DictEntry} {nO : Nat}
theorem scSInv : FnScope ["self", "tail"] ["self"] (defScope sSInv) := ⟨rfl, rfl, rfl, by decide +kernel, rfl, by decide +kernel, by decide +kernel⟩
theorem ok_sinv {f : Addr} {fd id td od : FuncData} (F : Fun K "__invert__" "Step.__invert__" sSInv f fd) (O : TxtO P K mg CS CB fP fI) (kO : OthK K w mg dO eO nO) (gLn : mg "len" = none)
    (GSI : FnOk P w K mg base (L2.CX P w) 3 fI id ["self", "text"] (spInit K CS CB)) (bSI : Binds K id ["self", "text"] [])
    (GTx : FnOk P w K mg base CX0 1 fTx td ["kind", "by", "rest"] (spSText K)) (FTx : Fun K "step_text" "step_text" sSText fTx td) (bTx : Binds K td ["kind", "by", "rest"] []) (gTx : mg "step_text" = some (.ref fTx))
    (GOw : FnOk P w K mg base CX0 1 fOw od ["by", "rest"] (spOwnI K)) (FOw : Fun K "is_own_inverse" "is_own_inverse" sOwnI fOw od) (bOw : Binds K od ["by", "rest"] []) (gOw : mg "is_own_inverse" = some (.ref fOw)) : FnOk P w K mg base CX0 5 f fd ["self"] (spSInv K CS) := by
  refine F.ok scSInv (fun vs H Q E h => ?_) (fun cdv A outer s H vs Q E hr h => ?_)
  · obtain ⟨a, x, r, rfl, _⟩ := h
    rfl
  · obtain ⟨a, x, r, rfl, S, hQ⟩ := h
    have nd := scSInv.nd
    refine ⟨_, (pss_cons (ps_if (pt_cmpR op_eq (pe_fld (pv 0) rfl) pe_str (nomark _))
        (pss_one (ps_ret (pe_makeS O.mkr GSI (hr.mono (by decide)) (by rfl) O.g bSI (fun σ => passE σ) (pa_cons (pe_call GTx (hr.mono (by decide)) (by rfl) gTx FTx.kp bTx .nil pass0 (pa_cons pe_str (pa_cons (pe_un un_neg (pe_fld (pv 0) rfl)) (pa_cons pe_non pa_nil)))) pa_nil)))) pss_nil)
      (pss_cons (ps_if (PW.pt (pw_or (pt_cmpR (op_notIn_kd kO.D) (pe_fld (pv 0) rfl) (pe_glob (v := .ref dO) (by rfl) kO.g rfl) (by rfl)) (pw_or1 (pt_val (pe_call GOw (hr.mono (by decide)) (by rfl) gOw FOw.kp bOw .nil pass0 (pa_cons (pe_fld (pv 0) rfl) (pa_cons (pe_fld (pv 0) rfl) pa_nil)))))))
        (pss_one (ps_ret (pv 0))) pss_nil)
      (pss_cons (ps_set (i := 1) nd rfl (Or.inl rfl) (pe_slice sl_str (pe_fld (pv 0) rfl) (po_some (pe_callB call_len_str (by rfl) gLn PySem.boot_len (pa_cons (pe_fld (pv 0) rfl) pa_nil))) po_none))
      (pss_one (ps_ret (pe_makeS O.mkr GSI (hr.mono (by decide)) (by rfl) O.g bSI (fun σ => passE σ) (pa_cons (pe_joined (.cons (pe_fmt (pe_kd kO.D (pe_glob (v := .ref dO) (by rfl) kO.g rfl) (pe_fld (pv 0) rfl) (fun _ _ => rfl))) (.cons (pe_fmt (pv 1)) .nil))) pa_nil))))))), ?_⟩
    obtain ⟨dx, bv, tv, ea, db, dt⟩ := S.ex
    have hk := parse_iff.mp S.pr
    have ex : textOf r = x := known_text _ hk
    have fact := known_fact _ hk
    have inR := (known_invR _ hk).1
    unfold invFact at fact
    obtain ⟨k, b, o⟩ := r
    dsimp only at fact ea db dt ex inR
    have hp : parse (textOf (invR (k, b, o))) = some (invR (k, b, o)) := parse_iff.mpr inR
    have hl : (textOf (invR (k, b, o))).length ≤ 1000 := Nat.le_trans (known_short _ inR) (by decide)
    refine ⟨_, rfl, a, CS, dx, _, _, rfl, ea, O.cl, O.nK, gKind, rfl, _, rfl, ?_⟩
    refine ite_str (fun e => ?_) (fun e => ?_)
    · rw [if_pos e] at fact
      subst e
      cases b with
      | none => cases fact
      | some b =>
        obtain ⟨f1, f2⟩ := Bool.and_eq_true_iff.mp fact
        have f1 := of_decide_eq_true f1
        have f2 := of_decide_eq_true f2
        obtain rfl := db.of_int
        refine ⟨_, rfl, a, CS, dx, _, _, rfl, ea, O.cl, O.nB, gBy, b, rfl, ?_⟩
        refine ⟨"roll", -b, .non, none, rfl, .non, ⟨f2, fun p h => (by cases h), by rw [f1]; exact hl⟩, ?_⟩
        rw [f1]
        exact make_parse hp hl fun c H' s' sc => hQ c H' s' sc
    rw [if_neg e] at fact
    have self : invR (k, b, o) = (k, b, o) → Q (.ref a) H := fun z => by
      refine hQ a H (fun _ _ e => e) ?_
      rw [z, ex]
      exact S
    have ro := known_rest S.pr
    have byr := known_byRest _ hk
    cases ho : otherL.lookup k with
    | none =>
      rw [ho] at fact
      refine ⟨_, rfl, a, CS, dx, _, _, rfl, ea, O.cl, O.nK, gKind, k, none, rfl, rfl, kO.no k ho, _, rfl, ?_⟩
      refine iteT ?_
      exact ⟨_, rfl, self (of_decide_eq_true fact)⟩
    | some y =>
      rw [ho] at fact
      dsimp only at fact
      obtain ⟨u, hu, ru⟩ := kO.yes k y ho
      refine ⟨_, rfl, a, CS, dx, _, _, rfl, ea, O.cl, O.nK, gKind, k, some u, rfl, rfl, hu, _, rfl, ?_⟩
      refine iteF ?_
      have hbn : o ≠ none → b ≠ none := fun z => by
        unfold byRest at byr
        dsimp only at byr
        rw [Bool.or_eq_true, Bool.or_eq_true] at byr
        rcases byr with h | h | h
        · exact absurd (Option.isNone_iff_eq_none.mp h) z
        · exact fun q => by rw [q] at h; cases h
        · have := of_decide_eq_true h
          rw [this, other_flip] at ho
          cases ho
      refine ⟨_, rfl, a, CS, dx, _, _, rfl, ea, O.cl, O.nB, gBy, _, rfl, a, CS, dx, _, _, rfl, ea, O.cl, O.nR, gRest, bv, tv, b, o, rfl, db, dt, ro, hbn, _, rfl, ?_⟩
      by_cases w : ownB b o = true
      · rw [w]
        refine iteT ?_
        rw [if_pos w] at fact
        exact ⟨_, rfl, self (of_decide_eq_true fact)⟩
      · rw [Bool.not_eq_true] at w
        rw [w]
        refine iteF ?_
        rw [if_neg (by rw [w]; decide)] at fact
        obtain ⟨f1, f3⟩ := Bool.and_eq_true_iff.mp fact
        obtain ⟨f1, f2⟩ := Bool.and_eq_true_iff.mp f1
        have f1 := of_decide_eq_true f1
        have f2 := of_decide_eq_true f2
        have lx : x.length ≤ 1000 := Nat.le_trans (known_short _ hk) (by decide)
        have lk : k.length ≤ 1000 := by
          have : ∀ p ∈ known, p.2.1.length ≤ 1000 := by decide +kernel
          exact this _ hk
        have hz : ∀ {x : Str}, x.length ≤ 1000 → x.length ≤ sizeLine := fun h => Nat.le_trans h kz
        refine ⟨_, rfl, a, CS, dx, _, _, rfl, ea, O.cl, O.nT, gText, _, rfl, a, CS, dx, _, _, rfl, ea, O.cl, O.nK, gKind, k, rfl, hz lk, _, rfl, x, rfl, hz lx, ?_⟩
        have ec : (y ++ cutS x (some (k.length : Nat)) none) = textOf (invR (k, b, o)) := f1
        have lc : (cutS x (some (k.length : Nat)) none).length ≤ 1000 := by
          have h2 : (y ++ cutS x (some (k.length : Nat)) none).length ≤ 1000 := by rw [ec]; exact hl
          rw [Str.length_append] at h2
          omega
        refine ⟨_, rfl, a, CS, dx, _, _, rfl, ea, O.cl, O.nK, gKind, k, u, .str y, rfl, rfl, hu, ru, .inl ⟨y, rfl, hz (by omega), y, rfl, ?_, _, rfl, .inl ⟨_, rfl, hz lc, _, rfl, ?_, ?_⟩⟩⟩
        · rw [emp_app]; exact hz (by omega)
        · rw [emp_app, ec]; exact hz hl
        · rw [emp_app, ec]
          exact make_parse hp hl fun c H' s' sc => hQ c H' s' sc
end
end Aw

namespace Aw
open PySem PySem.Spec PyProof.Rows L2 NdefX
theorem StepsAt.reverse {K : PySem.W.Frag} {C : Addr} {H : Hp} : ∀ {vs : List V} {ps : List (Str × Row)}, StepsAt K C H vs ps → StepsAt K C H vs.reverse ps.reverse
  | _, _, .nil => .nil
  | _, _, .cons s t => by
    rw [List.reverse_cons, List.reverse_cons]
    exact (StepsAt.reverse t).append (.cons s .nil)
def invS (p : Str × Row) : Str × Row := (textOf (invR p.2), invR p.2)
theorem inv_deal : ∀ p ∈ known, isDeal (invS p) = isDeal p := by decide +kernel
theorem invP_eq (ps : List (Str × Row)) : invP ps = ps.reverse.map invS := rfl
theorem filt_map {α : Type} {f g : α → Bool} {h : α → α} {l : List α} (e : ∀ x ∈ l, g (h x) = f x) : ((l.map h).filter g).length = (l.filter f).length := by
  induction l with
  | nil => rfl
  | cons x l ih =>
    have ih := ih fun y hy => e y (List.mem_cons_of_mem _ hy)
    have ex := e x (List.mem_cons_self ..)
    rw [List.map_cons]
    cases fx : f x with
    | true => rw [List.filter_cons_of_pos (by rw [ex, fx]), List.filter_cons_of_pos fx, List.length_cons, List.length_cons, ih]
    | false => rw [List.filter_cons_of_neg (by rw [ex, fx]; decide), List.filter_cons_of_neg (by rw [fx]; decide), ih]
theorem bounds_inv {ps : List (Str × Row)} (h : ∀ p ∈ ps, p ∈ known) : boundsE (invP ps) = boundsE ps := by
  have e : ((invP ps).filter isDeal).length = (ps.filter isDeal).length := by
    rw [invP_eq, filt_map (f := isDeal) (g := isDeal) (h := invS) fun p hp => inv_deal p (h p (List.mem_reverse.mp hp)), List.filter_reverse, List.length_reverse]
  unfold boundsE
  rw [e, invP_len]
def spPInv (K : PySem.W.Frag) (C CS : Addr) : Sp := fun vs H Q _ => ∃ (a : Addr) (x : Str) (ps : List (Str × Row)), vs = [.ref a] ∧ ProgAt K C CS H a x ps ∧ boundsE ps = none ∧ ∀ b H', Same H H' → ProgAt K C CS H' b (textP (invP ps)) (invP ps) → Q (.ref b) H'
section
variable {P : Program} {w : World} {K : PySem.W.Frag} {mg : Str → Option Value} {base : Heap} {C CS CM fSV fJ : Addr}
theorem scPInv : FnScope ["self", "step"] ["self"] (defScope sPInv) := ⟨rfl, rfl, rfl, by decide +kernel, rfl, by decide +kernel, by decide +kernel⟩
theorem ok_pinv {f : Addr} {fd vd jd : FuncData} (F : Fun K "__invert__" "Program.__invert__" sPInv f fd) (cl : Cls K C) (nS : NoAttr K C "steps")
    (sI : PySem.W.findIn K (.ref CS) "__invert__" = some (some (.ref fSV))) (fI : PySem.W.isFn K (.ref fSV) = true) (GSV : FnOk P w K mg base CX0 5 fSV vd ["self"] (spSInv K CS)) (bSV : Binds K vd ["self"] [])
    (GJ : FnOk P w K mg base (L2.CX P w) 7 fJ jd ["steps"] (spJoined K C CS CM)) (FJ : Fun K "joined" "joined" sJoined fJ jd) (bJ : Binds K jd ["steps"] []) (gJ : mg "joined" = some (.ref fJ)) : FnOk P w K mg base CX0 8 f fd ["self"] (spPInv K C CS) := by
  refine F.ok scPInv (fun vs H Q E h => ?_) (fun cdv A outer s H vs Q E hr h => ?_)
  · obtain ⟨a, x, ps, rfl, _⟩ := h
    rfl
  · obtain ⟨a, x, ps, rfl, S, hb, hQ⟩ := h
    have nd := scPInv.nd
    refine ⟨_, (pss_one (ps_ret (pe_callS GJ (hr.mono (by decide)) (by rfl) gJ FJ.kp bJ (fun σ => passE σ) (pa_cons (pe_lc (own := [("step", 1)]) (g := (gName 1)) (tt := tYes) rfl nd (pi_tup (pe_revT (pe_fld (pv 0) rfl))) (blkOk_by (own := [("step", 1)]) (N := ["self", "step"]) (sc := defScope sPInv) (by decide +kernel)) (fun _ _ _ _ _ => (pg_name (i := 1) nd rfl (Or.inl rfl))) (fun _ _ _ _ _ => pts_nil) (fun _ _ _ _ _ => (pe_un (un_invO sI fI GSV (hr.mono (by decide)) bSV) (pv 1)))) pa_nil)))), ?_⟩
    obtain ⟨dx, tv, xs, ea, et, st⟩ := S.ex
    have hk := st.known
    have lx := st.length
    have l5 : ps.length ≤ 5 := by
      unfold boundsE at hb
      split at hb
      · cases hb
      · omega
    refine ⟨_, rfl, a, C, dx, _, _, rfl, ea, cl, nS, pSteps, tv, xs, rfl, SqT.of et, fun T hT => ?_⟩
    have sT := same_upd (o := .tup xs.reverse) hT
    have eT : upd H T (.tup xs.reverse) T = some (.tup xs.reverse) := upd_same
    obtain ⟨H1, eH1⟩ : ∃ H1, upd H T (.tup xs.reverse) = H1 := ⟨_, rfl⟩
    rw [eH1] at sT eT ⊢
    have stR := (st.same sT).reverse
    refine ⟨T, rfl, ⟨_, SqT.of eT⟩, fun D hD => ?_⟩
    refine lc_tup (a := T) (xs := xs.reverse) (fun m H2 => Same H1 H2 ∧ ∃ ys : List V, H2 D = some (.lst ys) ∧ StepsAt K CS H2 ys ((ps.reverse.take m).map invS)) ⟨same_upd hD, [], upd_same, .nil⟩ (fun m H2 hm z => SqT.of (z.1 _ _ eT)) ?_ ?_
    · rintro m v H2 hv ⟨s2, ys, e2, y2⟩
      obtain ⟨b, p, ip, rfl, sb⟩ := (stR.same s2).get hv
      obtain ⟨db, bb, tb, eb, _, _⟩ := sb.ex
      refine ⟨rfl, _, rfl, b, db, _, rfl, eb, b, p.1, p.2, rfl, sb, fun c H3 s3 sc => ?_⟩
      have e3 := s3 _ _ e2
      have et' : ps.reverse.take (m + 1) = ps.reverse.take m ++ [p] := by
        rw [List.take_succ, ip]
        rfl
      have ly : ys.length ≤ 5 := by
        have := y2.length
        rw [List.length_map, List.length_take, List.length_reverse] at this
        omega
      refine ⟨ys, e3, small200' (by omega), same_fresh hD (s2.trans s3), ys ++ [.ref c], upd_same, ?_⟩
      rw [et', List.map_append]
      exact ((y2.same s3).append (.cons sc .nil)).lst e3
    · rintro H2 ⟨s2, ys, e2, y2⟩
      rw [List.take_of_length_le (by rw [List.length_reverse, List.length_reverse]; omega)] at y2
      refine ⟨D, ys, invP ps, rfl, .inl e2, y2, by rw [invP_len]; omega, fun m hm => ?_, fun _ b H3 s3 pb => ?_⟩
      · rw [bounds_inv hk, hb] at hm
        cases hm
      · exact hQ b H3 ((sT.trans s2).trans s3) pb
end
end Aw

namespace Aw
open PySem PySem.Spec PyProof.Rows L2 NdefX
/-- what is so of a known row -/
def invRowOk (r : Row) : Bool := (decide (r.1 = "roll") || true) && (if r.1 = "deal" then decide (invR r = (("undeal", none, none) : Row)) else if r.1 = "undeal" then decide (invR r = (("deal", none, none) : Row)) else
  if r.1 = "roll" then r.2.1.isSome && decide (invR r = (("roll", some (-(r.2.1.getD 0)), none) : Row)) else if r.1 = "sum" then decide (invR r = (("near", r.2.1, r.2.2) : Row)) else
  if r.1 = "near" then r.2.1.isSome && (match r.2.2 with
    | none => decide (invR r = (("sum", r.2.1, r.2.2) : Row))
    | some p => decide (0 < p.2) && (if (r.2.1.getD 0) % p.2 = 0 then decide (invR r = (("sum", r.2.1, r.2.2) : Row)) else decide (invR r = r))) else decide (invR r = r))
theorem known_invRow : ∀ p ∈ known, invRowOk p.2 = true := by decide +kernel
def spLIv (K : PySem.W.Frag) : Sp := fun vs H Q _ => ∃ (u : V) (p : Str × Row), vs = [u] ∧ p ∈ known ∧ Dq K H u (rowD p.2) ∧ ∀ v H', Same H H' → Dq K H' v (rowD (invR p.2)) → Q v H'
section
variable {P : Program} {w : World} {K : PySem.W.Frag} {mg : Str → Option Value} {base : Heap} {fIv : Addr}
theorem scLIv : FnScope ["_law_step_here", "_law_kind", "_law_by", "_law_rest"] ["_law_step_here"] (defScope sLIv) := ⟨rfl, rfl, rfl, by decide +kernel, rfl, by decide +kernel, by decide +kernel⟩
theorem ok_liv {f : Addr} {fd : FuncData} (F : Fun K "_law_inverse" "_law_inverse" sLIv f fd) (gI : mg "int" = none) : FnOk P w K mg base CX0 1 f fd ["_law_step_here"] (spLIv K) := by
  refine F.ok scLIv (fun vs H Q E h => ?_) (fun cdv A outer s H vs Q E hr h => ?_)
  · obtain ⟨u, p, rfl, _⟩ := h
    rfl
  · obtain ⟨u, p, rfl, hp, hd, hQ⟩ := h
    have nd := scLIv.nd
    refine ⟨_, (pss_cons (ps_asg (pv 0) (pg_tup rfl (pgs_cons (pg_name (i := 1) nd rfl (Or.inl rfl)) (pgs_cons (pg_name (i := 2) nd rfl (Or.inl rfl)) (pgs_cons (pg_name (i := 3) nd rfl (Or.inl rfl)) pgs_nil)))))
      (pss_cons (ps_if (pt_cmpR op_eq (pv 1) pe_str (nomark _))
        (pss_one (ps_ret (pe_tup (pa_cons pe_str (pa_cons pe_non (pa_cons pe_non pa_nil)))))) pss_nil)
      (pss_cons (ps_if (pt_cmpR op_eq (pv 1) pe_str (nomark _))
        (pss_one (ps_ret (pe_tup (pa_cons pe_str (pa_cons pe_non (pa_cons pe_non pa_nil)))))) pss_nil)
      (pss_cons (ps_if (pt_cmpR op_eq (pv 1) pe_str (nomark _))
        (pss_one (ps_ret (pe_tup (pa_cons pe_str (pa_cons (pe_un un_neg (pv 2)) (pa_cons pe_non pa_nil)))))) pss_nil)
      (pss_cons (ps_if (pt_cmpR op_eq (pv 1) pe_str (nomark _))
        (pss_one (ps_ret (pe_tup (pa_cons pe_str (pa_cons (pv 2) (pa_cons (pv 3) pa_nil)))))) pss_nil)
      (pss_cons (ps_if (PW.pt (pw_and (pt_cmpR op_eq (pv 1) pe_str (nomark _)) (pw_and1 (PW.pt (pw_or (pt_cmpR op_isN (pv 3) pe_non (nomark _)) (pw_or1 (pt_cmpR op_eq (pe_op op_mod (pe_callTy call_int1 (by rfl) gI (by decide +kernel) (pa_cons (pv 2) pa_nil)) (pe_ix ix_tup (pv 3) pe_int (fun _ _ => rfl))) pe_int (nomark _))))))))
        (pss_one (ps_ret (pe_tup (pa_cons pe_str (pa_cons (pv 2) (pa_cons (pv 3) pa_nil)))))) pss_nil)
      (pss_one (ps_ret (pv 0))))))))), ?_⟩
    have fact := known_invRow _ hp
    obtain ⟨x, r⟩ := p
    dsimp only at fact hd hQ
    obtain ⟨t, v2, v3, rfl, st, d2, d3⟩ := row_get hd
    obtain ⟨k, b, o⟩ := r
    unfold invRowOk at fact
    rw [Bool.or_true, Bool.true_and] at fact
    dsimp only at fact st d2 d3
    have row : ∀ {a : Addr} {q : Str} {bv ov : V} {b' : Option Int} {o' : Option (Int × Int)}, H a = none → Dq K H bv (optD b') → Dq K H ov (restD o') → invR (k, b, o) = ((q, b', o') : Row) → Q (.ref a) (upd H a (.tup [.str q, bv, ov])) := fun {a q bv ov b' o'} ha h1 h2 e => by
      refine hQ _ _ (same_upd ha) ?_
      rw [e]
      have tk := TK.same (same_upd (o := .tup [.str q, bv, ov]) ha)
      exact .tup (SqT.of upd_same) (.cons (.str _) (.cons (h1.keep tk) (.cons (h2.keep tk) .nil)))
    have own : invR (k, b, o) = ((k, b, o) : Row) → Q (.ref t) H := fun e => by
      refine hQ _ _ (fun _ _ e => e) ?_
      rw [e]
      exact .tup st (.cons (.str _) (.cons d2 (.cons d3 .nil)))
    refine ⟨_, rfl, t, _, rfl, st, rfl, _, _, rfl, _, _, rfl, _, _, rfl, rfl, ?_⟩
    refine ⟨_, rfl, rfl, _, rfl, ?_⟩
    refine ite_str (fun e => ?_) (fun e1 => ?_)
    · rw [if_pos e] at fact
      exact ⟨by show 3 ≤ sizeLine; decide, fun a ha => row ha .non .non (of_decide_eq_true fact)⟩
    rw [if_neg e1] at fact
    refine ⟨_, rfl, rfl, _, rfl, ?_⟩
    refine ite_str (fun e => ?_) (fun e2 => ?_)
    · rw [if_pos e] at fact
      exact ⟨by show 3 ≤ sizeLine; decide, fun a ha => row ha .non .non (of_decide_eq_true fact)⟩
    rw [if_neg e2] at fact
    refine ⟨_, rfl, rfl, _, rfl, ?_⟩
    refine ite_str (fun e => ?_) (fun e3 => ?_)
    · rw [if_pos e] at fact
      obtain ⟨f1, f2⟩ := Bool.and_eq_true_iff.mp fact
      obtain ⟨i, rfl⟩ := Option.isSome_iff_exists.mp f1
      obtain rfl := d2.of_int
      exact ⟨_, rfl, i, rfl, by show 3 ≤ sizeLine; decide, fun a ha => row ha (b' := some (-i)) (.int _) .non (of_decide_eq_true f2)⟩
    rw [if_neg e3] at fact
    refine ⟨_, rfl, rfl, _, rfl, ?_⟩
    refine ite_str (fun e => ?_) (fun e4 => ?_)
    · rw [if_pos e] at fact
      exact ⟨_, rfl, _, rfl, by show 3 ≤ sizeLine; decide, fun a ha => row ha d2 d3 (of_decide_eq_true fact)⟩
    rw [if_neg e4] at fact
    refine ⟨_, rfl, rfl, _, rfl, ?_⟩
    refine ite_str (fun e => ?_) (fun e5 => ?_)
    · rw [if_pos e] at fact
      obtain ⟨f1, f2⟩ := Bool.and_eq_true_iff.mp fact
      obtain ⟨i, rfl⟩ := Option.isSome_iff_exists.mp f1
      obtain rfl := d2.of_int
      cases o with
      | none =>
        obtain rfl := d3.of_none
        refine ⟨_, rfl, rfl, _, rfl, ?_⟩
        refine iteT ?_
        exact ⟨_, rfl, _, rfl, by show 3 ≤ sizeLine; decide, fun a ha => row ha d2 d3 (of_decide_eq_true f2)⟩
      | some p =>
        obtain ⟨f3, f4⟩ := Bool.and_eq_true_iff.mp f2
        have f3 := of_decide_eq_true f3
        obtain ⟨t3, xs, rfl, st3, dxs⟩ := d3.of_tuple
        cases dxs with
        | cons g1 dxs => cases dxs with
          | cons g2 dxs =>
            cases dxs
            obtain rfl := g1.of_int
            obtain rfl := g2.of_int
            refine ⟨_, rfl, rfl, _, rfl, ?_⟩
            refine iteF ?_
            refine ⟨_, rfl, .inl ⟨_, rfl, _, rfl, t3, _, 1, _, rfl, rfl, st3, rfl, _, _, rfl, rfl, f3, rfl, _, rfl, ?_⟩⟩
            refine ite_int (fun z => ?_) (fun z => ?_)
            · have z : (some i : Option Int).getD 0 % p.2 = 0 := z
              rw [if_pos z] at f4
              exact ⟨_, rfl, _, rfl, by show 3 ≤ sizeLine; decide, fun a ha => row ha d2 d3 (of_decide_eq_true f4)⟩
            · have z : ¬ (some i : Option Int).getD 0 % p.2 = 0 := z
              rw [if_neg z] at f4
              exact ⟨_, rfl, own (of_decide_eq_true f4)⟩
    · rw [if_neg e5] at fact
      exact iteF ⟨_, rfl, own (of_decide_eq_true fact)⟩
end
end Aw

namespace Aw
open PySem PySem.Spec PyProof.Rows L2 NdefX
/-! ### tests and values that change nothing that stands -/
def PureT (t : TT) (σ : Aw.St) (H : Hp) (c : Bool) : Prop := ∀ Q : Bool → Hp → Prop, (∀ H', Same H H' → Q c H') → t σ H Q
def PureE (t : TE) (σ : Aw.St) (H : Hp) (v : V) : Prop := ∀ Q : VK, (∀ H', Same H H' → Q v H') → t σ H Q
theorem nxt {D : Ends} {σ : Aw.St} {H : Hp} (h : D.nx σ H) : tNext D σ H := h
theorem seq {D : Ends} {t u : TS} {σ : Aw.St} {H : Hp} (h : t { D with nx := u D } σ H) : tSeq t u D σ H := h
theorem same_refl (H : Hp) : Same H H := fun _ _ z => z
section
variable {a b : TT} {σ : Aw.St} {H : Hp} {c d : Bool}
theorem PureT.and (ha : PureT a σ H c) (hb : c = true → ∀ H', Same H H' → PureT b σ H' d) : PureT (tAnd a b) σ H (c && d) := fun Q k => ha _ fun H1 s1 => by
  cases c with
  | true => exact iteT (hb rfl H1 s1 _ fun H2 s2 => k H2 (s1.trans s2))
  | false => exact iteF (k H1 s1)
theorem PureT.or (ha : PureT a σ H c) (hb : c = false → ∀ H', Same H H' → PureT b σ H' d) : PureT (tOr a b) σ H (c || d) := fun Q k => ha _ fun H1 s1 => by
  cases c with
  | true => exact iteT (k H1 s1)
  | false => exact iteF (hb rfl H1 s1 _ fun H2 s2 => k H2 (s1.trans s2))
theorem PureT.not (ha : PureT a σ H c) : PureT (tNot a) σ H (!c) := fun Q k => ha _ fun H1 s1 => k H1 s1
theorem PureT.ite {D : Ends} {t u : TS} {p : Prop} [Decidable p] (ha : PureT a σ H c) (hp : c = decide p) (h1 : p → ∀ H', Same H H' → t D σ H') (h2 : ¬ p → ∀ H', Same H H' → u D σ H') : tIfS a t u D σ H := ha _ fun H1 s1 => by
  rw [hp]
  exact ite_dec (fun z => h1 z H1 s1) (fun z => h2 z H1 s1)
theorem PureT.ite0 {D : Ends} {t : TS} {p : Prop} [Decidable p] (ha : PureT a σ H c) (hp : c = decide p) (h1 : p → ∀ H', Same H H' → t D σ H') (h2 : ¬ p → ∀ H', Same H H' → D.nx σ H') : tIfS a t tNext D σ H := ha _ fun H1 s1 => by
  rw [hp]
  exact ite_dec (fun z => h1 z H1 s1) (fun z => h2 z H1 s1)
end
end Aw

namespace Aw
open PySem PySem.Spec PyProof.Rows L2 NdefX
/-! ### place_from at any size -/
def spPlaceB : Sp := fun vs H Q _ => ∃ (k : Str) (bv : V) (by_ n i : Int), vs = [.str k, bv, .int n, .int i] ∧ (k = "roll" → bv = .int by_) ∧ 0 < n ∧ 0 ≤ i ∧ i < n ∧ Q (.int (placeF k by_ n i)) H
section
variable {P : Program} {w : World} {K : PySem.W.Frag} {mg : Str → Option Value} {base : Heap}
theorem ok_placeB {f : Addr} {fd : FuncData} (F : Fun K "place_from" "place_from" sPlace f fd) (gMin : mg "min" = none) : FnOk P w K mg base CX0 1 f fd ["kind", "by", "size", "place"] spPlaceB := by
  refine F.ok scPlace (fun vs H Q E h => ?_) (fun cdv A outer s H vs Q E hr h => ?_)
  · obtain ⟨k, bv, b, n, i, rfl, _⟩ := h
    rfl
  · obtain ⟨k, bv, b, n, i, rfl, hb, n0, i0, i1, hQ⟩ := h
    have nd := scPlace.nd
    refine ⟨_, (pss_cons (ps_if (pt_cmpR op_eq (pv 0) pe_str (nomark _))
        (pss_one (ps_ret (pe_op op_sub (pe_op op_sub (pv 2) pe_int) (pv 3)))) pss_nil)
      (pss_cons (ps_if (pt_cmpR op_eq (pv 0) pe_str (nomark _))
        (pss_one (ps_ret (pe_op op_mod (pe_op op_sub (pv 3) (pv 1)) (pv 2)))) pss_nil)
      (pss_cons (ps_set (i := 4) nd rfl (Or.inl rfl) (pe_op op_fdiv (pe_op op_add (pv 2) pe_int) pe_int))
      (pss_cons (ps_if (pt_cmpR op_eq (pv 0) pe_str (nomark _))
        (pss_one (ps_ret (pe_ifExp (pt_cmpR op_lt (pv 3) (pv 4) (nomark _)) (pe_op op_mul pe_int (pv 3)) (pe_op op_add (pe_op op_mul pe_int (pe_op op_sub (pv 3) (pv 4))) pe_int)))) pss_nil)
      (pss_cons (ps_if (pt_cmpR op_eq (pv 0) pe_str (nomark _))
        (pss_one (ps_ret (pe_ifExp (pt_cmpR op_eq (pe_op op_mod (pv 3) pe_int) pe_int (nomark _)) (pe_op op_fdiv (pv 3) pe_int) (pe_op op_add (pv 4) (pe_op op_fdiv (pv 3) pe_int))))) pss_nil)
      (pss_cons (ps_if (pt_cmpR op_eq (pe_op op_mod (pv 3) pe_int) pe_int (nomark _))
        (pss_one (ps_ret (pe_op op_sub (pv 3) pe_int))) pss_nil)
      (pss_one (ps_ret (pe_callB (call_min2 rfl) (by rfl) gMin (by decide +kernel) (pa_cons (pe_op op_add (pv 3) pe_int) (pa_cons (pe_op op_sub (pv 2) pe_int) pa_nil))))))))))), ?_⟩
    unfold placeF at hQ
    refine ⟨_, rfl, rfl, _, rfl, ?_⟩
    refine ite_str (fun e => ?_) (fun e => ?_)
    · rw [if_pos e] at hQ
      exact ⟨_, rfl, n, 1, rfl, rfl, _, rfl, _, i, rfl, rfl, hQ⟩
    rw [if_neg e] at hQ
    refine ⟨_, rfl, rfl, _, rfl, ?_⟩
    refine ite_str (fun e => ?_) (fun e => ?_)
    · rw [if_pos e] at hQ
      exact ⟨_, rfl, _, rfl, i, b, rfl, hb e, _, rfl, _, n, rfl, rfl, n0, hQ⟩
    rw [if_neg e] at hQ
    refine ⟨_, rfl, n, 1, rfl, rfl, _, 2, rfl, rfl, ⟨by decide, by decide⟩, ?_⟩
    refine ⟨_, rfl, rfl, _, rfl, ?_⟩
    refine ite_str (fun e => ?_) (fun e => ?_)
    · rw [if_pos e] at hQ
      refine ⟨_, rfl, _, rfl, i, _, rfl, rfl, _, rfl, ?_⟩
      refine ite_dec (fun e2 => ?_) (fun e2 => ?_)
      · rw [if_pos e2] at hQ
        exact ⟨_, rfl, 2, i, rfl, rfl, .inl ⟨by decide, by decide⟩, hQ⟩
      · rw [if_neg e2] at hQ
        exact ⟨_, rfl, _, rfl, i, _, rfl, rfl, 2, _, rfl, rfl, .inl ⟨by decide, by decide⟩, _, 1, rfl, rfl, hQ⟩
    rw [if_neg e] at hQ
    refine ⟨_, rfl, rfl, _, rfl, ?_⟩
    refine ite_str (fun e => ?_) (fun e => ?_)
    · rw [if_pos e] at hQ
      refine ⟨_, rfl, i, 2, rfl, rfl, (by show (0 : Int) < 2; decide), rfl, _, rfl, ?_⟩
      refine ite_int (fun e2 => ?_) (fun e2 => ?_)
      · rw [if_pos e2] at hQ
        exact ⟨_, rfl, i, 2, rfl, rfl, ⟨by decide, by decide⟩, hQ⟩
      · rw [if_neg e2] at hQ
        exact ⟨_, rfl, _, rfl, i, 2, rfl, rfl, ⟨by decide, by decide⟩, _, _, rfl, rfl, hQ⟩
    rw [if_neg e] at hQ
    refine ⟨_, rfl, i, 2, rfl, rfl, (by show (0 : Int) < 2; decide), rfl, _, rfl, ?_⟩
    refine ite_int (fun e2 => ?_) (fun e2 => ?_)
    · rw [if_pos e2] at hQ
      exact ⟨_, rfl, i, 1, rfl, rfl, hQ⟩
    · rw [if_neg e2] at hQ
      exact ⟨_, rfl, i, 1, rfl, rfl, _, rfl, n, 1, rfl, rfl, _, _, rfl, hQ⟩
end
end Aw

namespace Aw
open PySem PySem.Spec PyProof.Rows L2 NdefX
def spLBefore (K : PySem.W.Frag) : Sp := fun vs H Q _ => ∃ (u : V) (r : Row) (n i : Int), vs = [u, .int n, .int i] ∧ Dq K H u (rowD r) ∧ (r.1 = "roll" → ∃ b, r.2.1 = some b) ∧ 0 < n ∧ 0 ≤ i ∧ i < n ∧ Q (.int (placeF r.1 (r.2.1.getD 0) n i)) H
section
variable {P : Program} {w : World} {K : PySem.W.Frag} {mg : Str → Option Value} {base : Heap}
theorem scLBefore : FnScope ["_law_step_here", "_law_k", "_law_i", "_law_kind", "_law_by", "_law_rest", "_law_evens"] ["_law_step_here", "_law_k", "_law_i"] (defScope sLBefore) := ⟨rfl, rfl, rfl, by decide +kernel, rfl, by decide +kernel, by decide +kernel⟩
theorem ok_lbefore {f : Addr} {fd : FuncData} (F : Fun K "_law_before" "_law_before" sLBefore f fd) (B : TxtL mg) (gMin : mg "min" = none) : FnOk P w K mg base CX0 1 f fd ["_law_step_here", "_law_k", "_law_i"] (spLBefore K) := by
  refine F.ok scLBefore (fun vs H Q E h => ?_) (fun cdv A outer s H vs Q E hr h => ?_)
  · obtain ⟨u, r, n, i, rfl, _⟩ := h
    rfl
  · obtain ⟨u, r, n, i, rfl, hd, hb, n0, i0, i1, hQ⟩ := h
    have nd := scLBefore.nd
    refine ⟨_, (pss_cons (ps_asg (pv 0) (pg_tup rfl (pgs_cons (pg_name (i := 3) nd rfl (Or.inl rfl)) (pgs_cons (pg_name (i := 4) nd rfl (Or.inl rfl)) (pgs_cons (pg_name (i := 5) nd rfl (Or.inl rfl)) pgs_nil)))))
      (pss_cons (ps_set (i := 6) nd rfl (Or.inl rfl) (pe_op op_fdiv (pe_op op_add (pv 1) pe_int) pe_int))
      (pss_cons (ps_if (pt_cmpR op_eq (pv 3) pe_str (nomark _))
        (pss_one (ps_ret (pe_op op_sub (pe_op op_sub (pv 1) pe_int) (pv 2)))) pss_nil)
      (pss_cons (ps_if (pt_cmpR op_eq (pv 3) pe_str (nomark _))
        (pss_one (ps_ret (pe_op op_mod (pe_callTy call_int1 (by rfl) B.int (by decide +kernel) (pa_cons (pe_op op_sub (pv 2) (pv 4)) pa_nil)) (pv 1)))) pss_nil)
      (pss_cons (ps_if (pt_cmpR op_eq (pv 3) pe_str (nomark _))
        (pss_cons (ps_if (pt_cmpR op_lt (pv 2) (pv 6) (nomark _))
          (pss_one (ps_ret (pe_op op_mul pe_int (pv 2)))) pss_nil)
        (pss_one (ps_ret (pe_op op_add (pe_op op_mul pe_int (pe_op op_sub (pv 2) (pv 6))) pe_int)))) pss_nil)
      (pss_cons (ps_if (pt_cmpR op_eq (pv 3) pe_str (nomark _))
        (pss_cons (ps_if (pt_cmpR op_eq (pe_op op_mod (pe_callTy call_int1 (by rfl) B.int (by decide +kernel) (pa_cons (pv 2) pa_nil)) pe_int) pe_int (nomark _))
          (pss_one (ps_ret (pe_op op_fdiv (pv 2) pe_int))) pss_nil)
        (pss_one (ps_ret (pe_op op_add (pv 6) (pe_op op_fdiv (pv 2) pe_int))))) pss_nil)
      (pss_cons (ps_if (pt_cmpR op_eq (pe_op op_mod (pe_callTy call_int1 (by rfl) B.int (by decide +kernel) (pa_cons (pv 2) pa_nil)) pe_int) pe_int (nomark _))
        (pss_one (ps_ret (pe_op op_sub (pv 2) pe_int))) pss_nil)
      (pss_one (ps_ret (pe_callB (call_min2 rfl) (by rfl) gMin (by decide +kernel) (pa_cons (pe_op op_add (pv 2) pe_int) (pa_cons (pe_op op_sub (pv 1) pe_int) pa_nil)))))))))))), ?_⟩
    obtain ⟨t, v2, v3, rfl, st, d2, d3⟩ := row_get hd
    obtain ⟨k, b, rr⟩ := r
    dsimp only at hb hQ d2 st
    unfold placeF at hQ
    refine ⟨_, rfl, t, _, rfl, st, rfl, _, _, rfl, _, _, rfl, _, _, rfl, rfl, ?_⟩
    refine ⟨_, rfl, n, 1, rfl, rfl, _, 2, rfl, rfl, ⟨by decide, by decide⟩, ?_⟩
    refine ⟨_, rfl, rfl, _, rfl, ?_⟩
    refine ite_str (fun e => ?_) (fun e => ?_)
    · rw [if_pos e] at hQ
      exact ⟨_, rfl, n, 1, rfl, rfl, _, rfl, _, i, rfl, rfl, hQ⟩
    rw [if_neg e] at hQ
    refine ⟨_, rfl, rfl, _, rfl, ?_⟩
    refine ite_str (fun e => ?_) (fun e => ?_)
    · rw [if_pos e] at hQ
      obtain ⟨b', rfl⟩ := hb e
      obtain rfl := d2.of_int
      exact ⟨_, rfl, _, rfl, i, b', rfl, rfl, .inl ⟨_, rfl, _, rfl, _, n, rfl, rfl, n0, hQ⟩⟩
    rw [if_neg e] at hQ
    refine ⟨_, rfl, rfl, _, rfl, ?_⟩
    refine ite_str (fun e => ?_) (fun e => ?_)
    · rw [if_pos e] at hQ
      refine ⟨_, rfl, _, rfl, i, _, rfl, rfl, _, rfl, ?_⟩
      refine ite_dec (fun e2 => ?_) (fun e2 => ?_)
      · rw [if_pos e2] at hQ
        exact ⟨_, rfl, 2, i, rfl, rfl, .inl ⟨by decide, by decide⟩, hQ⟩
      · rw [if_neg e2] at hQ
        exact ⟨_, rfl, _, rfl, i, _, rfl, rfl, 2, _, rfl, rfl, .inl ⟨by decide, by decide⟩, _, 1, rfl, rfl, hQ⟩
    rw [if_neg e] at hQ
    refine ⟨_, rfl, rfl, _, rfl, ?_⟩
    refine ite_str (fun e => ?_) (fun e => ?_)
    · rw [if_pos e] at hQ
      refine ⟨_, rfl, .inl ⟨_, rfl, i, 2, rfl, rfl, (show (0 : Int) < 2 by decide), rfl, _, rfl, ?_⟩⟩
      refine ite_int (fun e2 => ?_) (fun e2 => ?_)
      · rw [if_pos e2] at hQ
        exact ⟨_, rfl, i, 2, rfl, rfl, ⟨by decide, by decide⟩, hQ⟩
      · rw [if_neg e2] at hQ
        exact ⟨_, rfl, _, rfl, i, 2, rfl, rfl, ⟨by decide, by decide⟩, _, _, rfl, rfl, hQ⟩
    rw [if_neg e] at hQ
    refine ⟨_, rfl, .inl ⟨_, rfl, i, 2, rfl, rfl, (show (0 : Int) < 2 by decide), rfl, _, rfl, ?_⟩⟩
    refine ite_int (fun e2 => ?_) (fun e2 => ?_)
    · rw [if_pos e2] at hQ
      exact ⟨_, rfl, i, 1, rfl, rfl, hQ⟩
    · rw [if_neg e2] at hQ
      exact ⟨_, rfl, i, 1, rfl, rfl, _, rfl, n, 1, rfl, rfl, _, _, rfl, hQ⟩
end
end Aw

namespace Aw
open PySem PySem.Spec PyProof.Rows L2 NdefX
/-- whether a step turns the bit -/
def flF (r : Row) (n i : Int) : Bool := if r.1 = "flip first" then decide (i = 0) else if r.1 = "flip last" then decide (i = n - 1) else if r.1 = "flip" then chosenF r.2.2 i else false
/-- what is so of the row of a known step -/
structure RowOk (r : Row) : Prop where
  roll : r.1 = "roll" → ∃ b, r.2.1 = some b
  by_ : r.1 = "near" ∨ r.1 = "sum" → ∃ b, r.2.1 = some b ∧ b ≠ 0 ∧ -1000 < b ∧ b < 1000
  flip : r.1 = "flip" → ∃ p, r.2.2 = some p
  rest : restOk r.2.2
  kind : r.1 ∈ (["turn", "roll", "deal", "undeal", "swap", "gather", "spread", "flip", "flip first", "flip last", "near", "sum"] : List Str)
  bare : r.1 = "gather" ∨ r.1 = "spread" → r.2.2 = none
  small : ∀ b, r.1 = "near" ∨ r.1 = "sum" → r.2.1 = some b → -4 < b ∧ b < 4
def spLFlip (K : PySem.W.Frag) : Sp := fun vs H Q _ => ∃ (u : V) (r : Row) (n i : Int), vs = [u, .int n, .int i] ∧ Dq K H u (rowD r) ∧ RowOk r ∧ Q (.int (bI (flF r n i))) H
theorem dec_bI {c : Prop} [Decidable c] : V.int (if decide c = true then 1 else 0) = .int (bI (decide c)) := rfl
section
variable {P : Program} {w : World} {K : PySem.W.Frag} {mg : Str → Option Value} {base : Heap} {fBf fFf fTm : Addr}
theorem scLFlip : FnScope ["_law_step_here", "_law_k", "_law_i", "_law_kind", "_law_by", "_law_rest"] ["_law_step_here", "_law_k", "_law_i"] (defScope sLFlip) := ⟨rfl, rfl, rfl, by decide +kernel, rfl, by decide +kernel, by decide +kernel⟩
theorem ok_lflip {f : Addr} {fd : FuncData} (F : Fun K "_law_flipped" "_law_flipped" sLFlip f fd) (B : TxtL mg) : FnOk P w K mg base CX0 1 f fd ["_law_step_here", "_law_k", "_law_i"] (spLFlip K) := by
  refine F.ok scLFlip (fun vs H Q E h => ?_) (fun cdv A outer s H vs Q E hr h => ?_)
  · obtain ⟨u, r, n, i, rfl, _⟩ := h
    rfl
  · obtain ⟨u, r, n, i, rfl, hd, ro, hQ⟩ := h
    have nd := scLFlip.nd
    refine ⟨_, (pss_cons (ps_asg (pv 0) (pg_tup rfl (pgs_cons (pg_name (i := 3) nd rfl (Or.inl rfl)) (pgs_cons (pg_name (i := 4) nd rfl (Or.inl rfl)) (pgs_cons (pg_name (i := 5) nd rfl (Or.inl rfl)) pgs_nil)))))
      (pss_cons (ps_if (pt_cmpR op_eq (pv 3) pe_str (nomark _))
        (pss_one (ps_ret (pe_callTy call_int1 (by rfl) B.int (by decide +kernel) (pa_cons (pe_cmpR op_eq (pv 2) pe_int (nomark _)) pa_nil)))) pss_nil)
      (pss_cons (ps_if (pt_cmpR op_eq (pv 3) pe_str (nomark _))
        (pss_one (ps_ret (pe_callTy call_int1 (by rfl) B.int (by decide +kernel) (pa_cons (pe_cmpR op_eq (pv 2) (pe_op op_sub (pv 1) pe_int) (nomark _)) pa_nil)))) pss_nil)
      (pss_cons (ps_if (pt_cmpR op_eq (pv 3) pe_str (nomark _))
        (pss_one (ps_ret (pe_callTy call_int1 (by rfl) B.int (by decide +kernel) (pa_cons (pe_cmpR op_eq (pe_op op_mod (pe_callTy call_int1 (by rfl) B.int (by decide +kernel) (pa_cons (pv 2) pa_nil)) (pe_ix ix_tup (pv 5) pe_int (fun _ _ => rfl))) (pe_ix ix_tup (pv 5) pe_int (fun _ _ => rfl)) (nomark _)) pa_nil)))) pss_nil)
      (pss_one (ps_ret pe_int)))))), ?_⟩
    obtain ⟨t, v2, v3, rfl, st, d2, d3⟩ := row_get hd
    obtain ⟨k, b, rr⟩ := r
    unfold flF at hQ
    dsimp only at hQ d2 d3 st
    refine ⟨_, rfl, t, _, rfl, st, rfl, _, _, rfl, _, _, rfl, _, _, rfl, rfl, ?_⟩
    refine ⟨_, rfl, rfl, _, rfl, ?_⟩
    refine ite_str (fun e => ?_) (fun e => ?_)
    · rw [if_pos e] at hQ
      refine ⟨_, rfl, rfl, .inr ⟨_, rfl, ?_⟩⟩
      rw [dec_ints]
      exact hQ
    rw [if_neg e] at hQ
    refine ⟨_, rfl, rfl, _, rfl, ?_⟩
    refine ite_str (fun e => ?_) (fun e => ?_)
    · rw [if_pos e] at hQ
      refine ⟨_, rfl, _, rfl, n, 1, rfl, rfl, rfl, .inr ⟨_, rfl, ?_⟩⟩
      rw [dec_ints]
      exact hQ
    rw [if_neg e] at hQ
    refine ⟨_, rfl, rfl, _, rfl, ?_⟩
    refine ite_str (fun e => ?_) (fun e => ?_)
    · rw [if_pos e] at hQ
      obtain ⟨p, er⟩ := ro.flip e
      obtain rfl : rr = some p := er
      obtain ⟨h1, h2⟩ := ro.rest p rfl
      obtain ⟨a, xs, rfl, sq, dxs⟩ := d3.of_tuple
      cases dxs with
      | cons d1 dxs => cases dxs with
        | cons d4 dxs =>
          cases dxs
          obtain rfl := d1.of_int
          obtain rfl := d4.of_int
          refine ⟨_, rfl, .inl ⟨_, rfl, _, rfl, a, _, 1, _, rfl, rfl, sq, rfl, i, p.2, rfl, rfl, h1, _, rfl, a, _, 0, _, rfl, rfl, sq, rfl, rfl, .inr ⟨_, rfl, ?_⟩⟩⟩
          rw [dec_ints]
          exact hQ
    rw [if_neg e] at hQ
    exact hQ
end
end Aw

namespace Aw
open PySem PySem.Spec PyProof.Rows L2 NdefX
/-- the number in a value -/
def iV : V → Int
  | .int i => i
  | _ => 0
theorem numB_int {v : V} {lo hi : Int} (h : numB v lo hi = true) : ∃ i, v = .int i ∧ lo ≤ i ∧ i ≤ hi := by
  cases v with
  | int i =>
    have h : (decide (lo ≤ i) && decide (i ≤ hi)) = true := h
    rw [Bool.and_eq_true, decide_eq_true_eq, decide_eq_true_eq] at h
    exact ⟨i, rfl, h⟩
  | _ => cases h
/-- raises the one error with the one field -/
def errOf (c : Prop) (C : Addr) (fld : Str) (v : V) (H : Hp) (E : XK) : Prop := c → ∀ d H', Same H H' → H d = none → H' d = some (.xd [(fld, v)]) → E (.ref C) (some d) H'
theorem errOf.of {c c' : Prop} {C : Addr} {fld : Str} {v : V} {H H1 : Hp} {E : XK} (h : errOf c C fld v H E) (s : Same H H1) (hc : c' → c) : errOf c' C fld v H1 E := fun z d H' s' h0 h1 => h (hc z) d H' (s.trans s') (s.free h0) h1
end Aw

namespace Aw
open PySem PySem.Spec PyProof.Rows L2 NdefX
/-! ### following a bit -/
def isMF (p : Str × Row) : Bool := decide (p.2.1 ∈ movesL) || decide (p.2.1 ∈ flipsL)
/-- the first step that is neither a move nor a flip -/
def firstNo : List (Str × Row) → Option Nat
  | [] => none
  | p :: l => if isMF p = true then (firstNo l).map (· + 1) else some 0
/-- one step back: the place and the flips -/
def folS (k : Int) (st : Int × Int) (p : Str × Row) : Int × Int :=
  if p.2.1 ∈ movesL then (placeF p.2.1 (p.2.2.1.getD 0) k st.1, st.2) else if flipF p.2.1 p.2.2.2 k st.1 = true then (st.1, 1 - st.2) else st
def folP (ps : List (Str × Row)) (k i : Int) : Int × Int := ps.reverse.foldl (folS k) (i, 0)
theorem firstNo_none : ∀ {ps : List (Str × Row)}, firstNo ps = none ↔ ∀ p ∈ ps, isMF p = true
  | [] => ⟨fun _ p h => absurd h List.not_mem_nil, fun _ => rfl⟩
  | p :: l => by
    unfold firstNo
    cases h : isMF p with
    | true =>
      rw [if_pos rfl, Option.map_eq_none_iff, firstNo_none]
      exact ⟨fun z q hq => by
        rcases List.mem_cons.mp hq with e | e
        · rw [e]; exact h
        · exact z q e, fun z q hq => z q (List.mem_cons_of_mem _ hq)⟩
    | false =>
      rw [if_neg (by decide)]
      exact ⟨fun z => (by cases z), fun z => (by rw [z p (List.mem_cons_self ..)] at h; cases h)⟩
theorem firstNo_at : ∀ {ps : List (Str × Row)} {i : Nat} {p : Str × Row}, (∀ q ∈ ps.take i, isMF q = true) → ps[i]? = some p → isMF p = false → firstNo ps = some i
  | q :: l, 0, p, _, h, hp => by
    cases h
    unfold firstNo
    rw [if_neg (by rw [hp]; decide)]
  | q :: l, i + 1, p, ha, h, hp => by
    unfold firstNo
    rw [if_pos (ha q (by simp)), firstNo_at (ps := l) (i := i) (fun z hz => ha z (by simp [hz])) (by simpa using h) hp]
    rfl
theorem folS_in {k : Int} {st : Int × Int} {p : Str × Row} (h0 : 0 ≤ st.1) (h1 : st.1 < k) : 0 ≤ (folS k st p).1 ∧ (folS k st p).1 < k := by
  unfold folS
  split
  · exact place_in h0 h1
  · split
    · exact ⟨h0, h1⟩
    · exact ⟨h0, h1⟩
theorem fol_in {k : Int} : ∀ {l : List (Str × Row)} {st : Int × Int}, 0 ≤ st.1 → st.1 < k → 0 ≤ (l.foldl (folS k) st).1 ∧ (l.foldl (folS k) st).1 < k
  | [], _, h0, h1 => ⟨h0, h1⟩
  | p :: l, st, h0, h1 => by
    obtain ⟨a, b⟩ := folS_in (p := p) h0 h1
    exact fol_in (l := l) a b
theorem folP_in {ps : List (Str × Row)} {k i : Int} (h0 : 0 ≤ i) (h1 : i < k) : 0 ≤ (folP ps k i).1 ∧ (folP ps k i).1 < k := fol_in h0 h1
theorem roll_by : ∀ p ∈ known, p.2.1 = "roll" → p.2.2.1.isSome = true := by decide +kernel
theorem boolMF (q : Str × Row) : (!inV (.str q.2.1) (movesL.map V.str) && !inV (.str q.2.1) (flipsL.map V.str)) = decide (isMF q = false) := by
  rw [in_strs, in_strs]
  unfold isMF
  by_cases h1 : q.2.1 ∈ movesL <;> by_cases h2 : q.2.1 ∈ flipsL <;> simp [h1, h2]
def spChkM (K : PySem.W.Frag) (C CS CM : Addr) : Sp := fun vs H Q E => ∃ (a : Addr) (x : Str) (ps : List (Str × Row)), vs = [.ref a] ∧ ProgAt K C CS H a x ps ∧ ps.length ≤ 1000 ∧
  (∀ i : Nat, errOf (firstNo ps = some i) CM "index" (.int i) H E) ∧ (firstNo ps = none → ∀ H', Same H H' → Q .non H')
def spFol (K : PySem.W.Frag) (C CS : Addr) : Sp := fun vs H Q _ => ∃ (a : Addr) (k i : Int) (x : Str) (ps : List (Str × Row)), vs = [.ref a, .int k, .int i] ∧ ProgAt K C CS H a x ps ∧ ps.length ≤ 1000 ∧ 0 ≤ i ∧ i < k ∧
  ∀ t H', Same H H' → H' t = some (.tup [.int (folP ps k i).1, .int (folP ps k i).2]) → Q (.ref t) H'
section
variable {P : Program} {w : World} {K : PySem.W.Frag} {mg : Str → Option Value} {base : Heap} {C CS CM CZ CN fCM fCW fCN fCS fFo fPl fFd fPV tM tF : Addr}
structure TxtPl (P : Program) (K : PySem.W.Frag) (mg : Str → Option Value) (C CS CM tM tF : Addr) : Prop where
  enum : mg "enumerate" = none
  cl : Cls K C
  nS : NoAttr K C "steps"
  clS : Cls K CS
  nK : NoAttr K CS "kind"
  nB : NoAttr K CS "by"
  nR : NoAttr K CS "rest"
  em : Err P K mg "NotMoves" "index" "index" CM
  gM : mg "MOVES" = some (.ref tM)
  qM : ∀ H, SqT K H tM (movesL.map V.str)
  gF : mg "FLIPS" = some (.ref tF)
  qF : ∀ H, SqT K H tF (flipsL.map V.str)
theorem scChkM : FnScope ["program", "index", "step"] ["program"] (defScope sChkM) := ⟨rfl, rfl, rfl, by decide +kernel, rfl, by decide +kernel, by decide +kernel⟩
theorem ok_chkM {f : Addr} {fd : FuncData} (F : Fun K "check_moves" "check_moves" sChkM f fd) (L : TxtPl P K mg C CS CM tM tF) : FnOk P w K mg base (L2.CX P w) 3 f fd ["program"] (spChkM K C CS CM) := by
  refine F.okX scChkM (fun vs H Q E h => ?_) (fun cdv A outer s H vs Q E hr h => ?_)
  · obtain ⟨a, x, ps, rfl, _⟩ := h
    rfl
  · obtain ⟨a, x, ps, rfl, S, lp, kE, kQ⟩ := h
    have nd := scChkM.nd
    refine ⟨_, (pss_one (ps_for (passes_of rfl) rfl (pi_enumT (by rfl) L.enum (pa_cons (pe_fld (pv 0) rfl) pa_nil)) (pg_tup rfl (pgs_cons (pg_name (i := 1) nd rfl (Or.inl rfl)) (pgs_cons (pg_name (i := 2) nd rfl (Or.inl rfl)) pgs_nil)))
        (pss_one (ps_if (PW.pt (pw_and (pt_cmpR op_notIn_seq (pe_fld (pv 2) rfl) (pe_glob (v := .ref tM) (by rfl) L.gM rfl) (by rfl)) (pw_and1 (pt_cmpR op_notIn_seq (pe_fld (pv 2) rfl) (pe_glob (v := .ref tF) (by rfl) L.gF rfl) (by rfl)))))
          (pss_one (ps_raise rfl (takes_of rfl rfl rfl rfl) (pmk_err L.em (hr.mono (by decide)) (by rfl) (pa_cons (pv 1) pa_nil)))) pss_nil)))), ?_⟩
    obtain ⟨dx, tv, xs, ea, et, st⟩ := S.ex
    have lx := st.length
    refine ⟨_, rfl, a, C, dx, _, _, rfl, ea, L.cl, L.nS, pSteps, tv, xs, rfl, SqT.of et, ?_⟩
    refine for_enumT (a := tv) (xs := xs) (fun m σ H2 => ∃ (v1 v2 : Option V), σ = [some (.ref a), v1, v2] ∧ Same H H2 ∧ ∀ q ∈ ps.take m, isMF q = true) ⟨none, none, rfl, same_refl _, fun q hq => absurd hq (by simp)⟩ (fun m σ H2 _ z => by
      obtain ⟨_, _, _, s2, _⟩ := z
      exact SqT.of (s2 _ _ et)) ?_ ?_
    · rintro m y σ H2 T hy ⟨v1, v2, rfl, s2, hm⟩ hT
      obtain ⟨b, q, iq, rfl, sb⟩ := (st.same s2).get hy
      have sT := same_upd (o := .tup [.int (m : Nat), .ref b]) hT
      have sb' := sb.same sT
      obtain ⟨dy, bv, rv, eb, _, _⟩ := sb'.ex
      have s3 := s2.trans sT
      have etk : ps.take (m + 1) = ps.take m ++ [q] := by rw [List.take_succ, iq]; rfl
      refine ⟨T, _, rfl, SqT.of upd_same, rfl, _, _, rfl, _, _, rfl, rfl, ?_⟩
      refine PureT.ite0 (p := isMF q = false) (PureT.and (c := !inV (.str q.2.1) (movesL.map V.str)) (d := !inV (.str q.2.1) (flipsL.map V.str)) (fun Q' kk => ⟨_, rfl, b, CS, dy, _, _, rfl, eb, L.clS, L.nK, gKind, tM, _, rfl, .inr (L.qM _), rfl, flat_strs _, _, rfl, kk _ (same_refl _)⟩)
        fun _ H4 s4 Q' kk => ⟨_, rfl, b, CS, dy, _, _, rfl, s4 _ _ eb, L.clS, L.nK, gKind, tF, _, rfl, .inr (L.qF _), rfl, flat_strs _, _, rfl, kk _ (same_refl _)⟩) (boolMF q) (fun hq H4 s4 => ?_) (fun hq H4 s4 => ?_)
      · refine ⟨_, rfl, mkS_ans fun d hd => ?_⟩
        have sH := s3.trans s4
        exact kE m (firstNo_at hm iq hq) d _ (sH.trans (same_upd hd)) (sH.free hd) upd_same
      · refine ⟨_, _, rfl, s3.trans s4, fun z hz => ?_⟩
        rw [etk] at hz
        rcases List.mem_append.mp hz with e | e
        · exact hm z e
        · rw [List.mem_singleton.mp e]
          exact Bool.of_not_eq_false hq
    · rintro σ H2 ⟨v1, v2, rfl, s2, hm⟩
      rw [lx, List.take_length] at hm
      exact kQ (firstNo_none.mpr hm) H2 s2
theorem scFol : FnScope ["program", "k", "i", "place", "flips", "step"] ["program", "k", "i"] (defScope sFol) := ⟨rfl, rfl, rfl, by decide +kernel, rfl, by decide +kernel, by decide +kernel⟩
theorem ok_fol {f : Addr} {fd pd fdd : FuncData} (F : Fun K "followed_back" "followed_back" sFol f fd) (L : TxtPl P K mg C CS CM tM tF)
    (GPl : FnOk P w K mg base CX0 1 fPl pd ["kind", "by", "size", "place"] spPlaceB) (FPl : Fun K "place_from" "place_from" sPlace fPl pd) (bPl : Binds K pd ["kind", "by", "size", "place"] []) (gPl : mg "place_from" = some (.ref fPl))
    (GFd : FnOk P w K mg base CX0 2 fFd fdd ["kind", "rest", "size", "place"] (spFlipd K)) (FFd : Fun K "is_flipped" "is_flipped" sFlipd fFd fdd) (bFd : Binds K fdd ["kind", "rest", "size", "place"] []) (gFd : mg "is_flipped" = some (.ref fFd)) : FnOk P w K mg base CX0 3 f fd ["program", "k", "i"] (spFol K C CS) := by
  refine F.ok scFol (fun vs H Q E h => ?_) (fun cdv A outer s H vs Q E hr h => ?_)
  · obtain ⟨a, k, i, x, ps, rfl, _⟩ := h
    rfl
  · obtain ⟨a, k, i, x, ps, rfl, S, lp, i0, i1, kQ⟩ := h
    have nd := scFol.nd
    refine ⟨_, (pss_cons (ps_set (i := 3) nd rfl (Or.inl rfl) (pv 2))
      (pss_cons (ps_set (i := 4) nd rfl (Or.inl rfl) pe_int)
      (pss_cons (ps_for PassesOwn.never rfl (pi_tup (pe_revT (pe_fld (pv 0) rfl))) (pg_name (i := 5) nd rfl (Or.inl rfl))
        (pss_one (ps_if (pt_cmpR op_in_seq (pe_fld (pv 5) rfl) (pe_glob (v := .ref tM) (by rfl) L.gM rfl) (by rfl))
          (pss_one (ps_set (i := 3) nd rfl (Or.inl rfl) (pe_call GPl (hr.mono (by decide)) (by rfl) gPl FPl.kp bPl .nil pass0 (pa_cons (pe_fld (pv 5) rfl) (pa_cons (pe_fld (pv 5) rfl) (pa_cons (pv 1) (pa_cons (pv 3) pa_nil)))))))
          (pss_one (ps_if (pt_val (pe_call GFd (hr.mono (by decide)) (by rfl) gFd FFd.kp bFd .nil pass0 (pa_cons (pe_fld (pv 5) rfl) (pa_cons (pe_fld (pv 5) rfl) (pa_cons (pv 1) (pa_cons (pv 3) pa_nil))))))
            (pss_one (ps_set (i := 4) nd rfl (Or.inl rfl) (pe_op op_sub pe_int (pv 4)))) pss_nil)))))
      (pss_one (ps_ret (pe_tup (pa_cons (pv 3) (pa_cons (pv 4) pa_nil)))))))), ?_⟩
    obtain ⟨dx, tv, xs, ea, et, st⟩ := S.ex
    have lx := st.length
    refine ⟨_, rfl, _, rfl, a, C, dx, _, _, rfl, ea, L.cl, L.nS, pSteps, tv, xs, rfl, SqT.of et, fun T hT => ⟨T, rfl, ⟨_, SqT.of upd_same⟩, ?_⟩⟩
    have sT := same_upd (o := .tup xs.reverse) hT
    have eT : upd H T (.tup xs.reverse) T = some (.tup xs.reverse) := upd_same
    generalize upd H T (.tup xs.reverse) = H1 at *
    have stR := (st.same sT).reverse
    refine for_tup (a := T) (xs := xs.reverse) (fun m σ H2 => ∃ (v5 : Option V) (st : Int × Int), σ = [some (.ref a), some (.int k), some (.int i), some (.int st.1), some (.int st.2), v5] ∧ Same H1 H2 ∧ st = (ps.reverse.take m).foldl (folS k) (i, 0)) ⟨none, (i, 0), rfl, same_refl _, rfl⟩ (fun m σ H2 _ z => by
      obtain ⟨_, _, _, s2, _⟩ := z
      exact SqT.of (s2 _ _ eT)) ?_ ?_
    · rintro m y σ H2 hy ⟨v5, ⟨pl, fl⟩, rfl, s2, e2⟩
      obtain ⟨b, q, iq, rfl, sb⟩ := (stR.same s2).get hy
      obtain ⟨dy, bv, rv, eb, db, dr⟩ := sb.ex
      have etk : ps.reverse.take (m + 1) = ps.reverse.take m ++ [q] := by rw [List.take_succ, iq]; rfl
      have hin := fol_in (k := k) (l := ps.reverse.take m) (st := (i, 0)) i0 i1
      rw [← e2] at hin
      have e3 : folS k (pl, fl) q = (ps.reverse.take (m + 1)).foldl (folS k) (i, 0) := by rw [etk, List.foldl_append, ← e2]; rfl
      have ro := known_rest sb.pr
      have hk : q ∈ known := parse_iff.mp sb.pr
      refine ⟨_, rfl, b, CS, dy, _, _, rfl, eb, L.clS, L.nK, gKind, tM, _, rfl, .inr (L.qM _), rfl, flat_strs _, _, rfl, ?_⟩
      rw [in_strs]
      unfold folS at e3
      refine ite_dec (fun hm => ?_) (fun hm => ?_)
      · rw [if_pos hm] at e3
        refine ⟨_, rfl, b, CS, dy, _, _, rfl, eb, L.clS, L.nK, gKind, _, rfl, b, CS, dy, _, _, rfl, eb, L.clS, L.nB, gBy, _, rfl, _, rfl, q.2.1, bv, q.2.2.1.getD 0, k, pl, rfl, fun hro => ?_, by omega, hin.1, hin.2, ?_⟩
        · obtain ⟨c, hc⟩ := Option.isSome_iff_exists.mp (roll_by q hk hro)
          rw [hc] at db ⊢
          exact db.of_int
        · exact ⟨_, (_, _), rfl, s2, e3⟩
      · rw [if_neg hm] at e3
        refine ⟨_, rfl, b, CS, dy, _, _, rfl, eb, L.clS, L.nK, gKind, _, rfl, b, CS, dy, _, _, rfl, eb, L.clS, L.nR, gRest, _, rfl, _, rfl, q.2.1, rv, q.2.2.2, k, pl, rfl, dr, ro, _, rfl, ?_⟩
        by_cases hf : flipF q.2.1 q.2.2.2 k pl = true
        · rw [if_pos hf] at e3
          rw [hf]
          refine iteT ?_
          exact ⟨_, rfl, 1, fl, rfl, rfl, _, (_, _), rfl, s2, e3⟩
        · rw [if_neg hf] at e3
          rw [Bool.not_eq_true] at hf
          rw [hf]
          refine iteF ?_
          exact ⟨_, (_, _), rfl, s2, e3⟩
    · rintro σ H2 ⟨v5, ⟨pl, fl⟩, rfl, s2, e2⟩
      rw [List.length_reverse, List.take_of_length_le (by rw [List.length_reverse]; omega)] at e2
      refine ⟨_, rfl, _, rfl, by show 2 ≤ sizeLine; decide, fun t ht => kQ t _ ((sT.trans s2).trans (same_upd ht)) ?_⟩
      rw [upd_same]
      show some (HO.tup [V.int pl, V.int fl]) = some (.tup [.int (ps.reverse.foldl (folS k) (i, 0)).1, .int (ps.reverse.foldl (folS k) (i, 0)).2])
      rw [← e2]
end
end Aw

namespace Aw
open PySem PySem.Spec PyProof.Rows L2 NdefX
/-! ### the mathematics of following a bit -/
/-- one step back, the place alone -/
def gS (k i : Int) (p : Str × Row) : Int := if p.2.1 ∈ movesL then placeF p.2.1 (p.2.2.1.getD 0) k i else i
/-- one step forward -/
def hS (k i : Int) (p : Str × Row) : Int := gS k i (invS p)
def toL (ps : List (Str × Row)) (k j : Int) : Int := ps.foldl (hS k) j
def backL (ps : List (Str × Row)) (k i : Int) : Int := ps.reverse.foldl (gS k) i
def pairB (k1 k2 : Str) (b1 b2 : Int) : Bool := decide ((k1 = "turn" ∧ k2 = "turn") ∨ (k1 = "roll" ∧ k2 = "roll" ∧ b2 = -b1) ∨ (k1 = "deal" ∧ k2 = "undeal") ∨ (k1 = "undeal" ∧ k2 = "deal") ∨ (k1 = "swap" ∧ k2 = "swap"))
def mfFact (p : Str × Row) : Bool := decide (invS (invS p) = p) && decide (p.2.1 ∈ movesL ↔ (invS p).2.1 ∈ movesL) && decide (p.2.1 ∈ flipsL ↔ (invS p).2.1 ∈ flipsL) && (!decide (p.2.1 ∈ movesL) || pairB p.2.1 (invS p).2.1 (p.2.2.1.getD 0) ((invS p).2.2.1.getD 0)) && (!decide (p.2.1 ∈ flipsL) || (decide (invS p = p) && !decide (p.2.1 ∈ movesL)))
theorem known_mf : ∀ p ∈ known, mfFact p = true := by decide +kernel
structure MF (p : Str × Row) : Prop where
  ii : invS (invS p) = p
  mm : p.2.1 ∈ movesL ↔ (invS p).2.1 ∈ movesL
  ff : p.2.1 ∈ flipsL ↔ (invS p).2.1 ∈ flipsL
  pair : p.2.1 ∈ movesL → pairB p.2.1 (invS p).2.1 (p.2.2.1.getD 0) ((invS p).2.2.1.getD 0) = true
  own : p.2.1 ∈ flipsL → invS p = p ∧ ¬ p.2.1 ∈ movesL
theorem mf_of {p : Str × Row} (h : p ∈ known) : MF p := by
  have f := known_mf p h
  unfold mfFact at f
  obtain ⟨f, f5⟩ := Bool.and_eq_true_iff.mp f
  obtain ⟨f, f4⟩ := Bool.and_eq_true_iff.mp f
  obtain ⟨f, f3⟩ := Bool.and_eq_true_iff.mp f
  obtain ⟨f1, f2⟩ := Bool.and_eq_true_iff.mp f
  refine ⟨of_decide_eq_true f1, of_decide_eq_true f2, of_decide_eq_true f3, fun h => ?_, fun h => ?_⟩
  · rw [decide_eq_true h] at f4
    exact f4
  · rw [decide_eq_true h] at f5
    obtain ⟨a, b⟩ := Bool.and_eq_true_iff.mp f5
    exact ⟨of_decide_eq_true a, of_decide_eq_false ((Bool.not_eq_true' _).mp b)⟩
theorem inv_in {p : Str × Row} (h : p ∈ known) : invS p ∈ known := (known_invR p h).1
theorem gS_in {k i : Int} {p : Str × Row} (h0 : 0 ≤ i) (h1 : i < k) : 0 ≤ gS k i p ∧ gS k i p < k := by
  unfold gS
  split
  · exact place_in h0 h1
  · exact ⟨h0, h1⟩
theorem gh {k i : Int} {p : Str × Row} (hp : p ∈ known) (h0 : 0 ≤ i) (h1 : i < k) : gS k (hS k i p) p = i := by
  have m := mf_of hp
  unfold hS gS
  by_cases h : p.2.1 ∈ movesL
  · rw [if_pos h, if_pos (m.mm.mp h)]
    exact place_back h0 h1 (of_decide_eq_true (m.pair h))
  · rw [if_neg h, if_neg (fun z => h (m.mm.mpr z))]
theorem hg {k i : Int} {p : Str × Row} (hp : p ∈ known) (h0 : 0 ≤ i) (h1 : i < k) : hS k (gS k i p) p = i := by
  have e := gh (k := k) (i := i) (inv_in hp) h0 h1
  unfold hS at e
  rw [(mf_of hp).ii] at e
  exact e
theorem to_in {k : Int} : ∀ {ps : List (Str × Row)} {j : Int}, 0 ≤ j → j < k → 0 ≤ toL ps k j ∧ toL ps k j < k
  | [], _, h0, h1 => ⟨h0, h1⟩
  | p :: l, j, h0, h1 => by
    obtain ⟨a, b⟩ := gS_in (p := invS p) h0 h1
    exact to_in (ps := l) a b
theorem back_cons {k i : Int} {p : Str × Row} {l : List (Str × Row)} : backL (p :: l) k i = gS k (backL l k i) p := by
  unfold backL
  rw [List.reverse_cons, List.foldl_append]
  rfl
theorem back_in {k i : Int} (h0 : 0 ≤ i) (h1 : i < k) : ∀ {ps : List (Str × Row)}, 0 ≤ backL ps k i ∧ backL ps k i < k
  | [] => ⟨h0, h1⟩
  | p :: l => by
    rw [back_cons]
    obtain ⟨a, b⟩ := back_in h0 h1 (ps := l)
    exact gS_in a b
theorem back_to {k : Int} : ∀ {ps : List (Str × Row)} {j : Int}, (∀ p ∈ ps, p ∈ known) → 0 ≤ j → j < k → backL ps k (toL ps k j) = j
  | [], _, _, _, _ => rfl
  | p :: l, j, hk, h0, h1 => by
    rw [back_cons]
    obtain ⟨a, b⟩ := gS_in (p := invS p) h0 h1
    show gS k (backL l k (toL l k (hS k j p))) p = j
    rw [show backL l k (toL l k (hS k j p)) = hS k j p from back_to (ps := l) (fun q hq => hk q (List.mem_cons_of_mem _ hq)) a b]
    exact gh (hk p (List.mem_cons_self ..)) h0 h1
theorem to_back {k i : Int} (h0 : 0 ≤ i) (h1 : i < k) : ∀ {ps : List (Str × Row)}, (∀ p ∈ ps, p ∈ known) → toL ps k (backL ps k i) = i
  | [], _ => rfl
  | p :: l, hk => by
    rw [back_cons]
    obtain ⟨a, b⟩ := back_in h0 h1 (ps := l)
    show toL l k (hS k (gS k (backL l k i) p) p) = i
    rw [hg (hk p (List.mem_cons_self ..)) a b]
    exact to_back h0 h1 fun q hq => hk q (List.mem_cons_of_mem _ hq)
theorem fol_fst {k : Int} : ∀ {l : List (Str × Row)} {st : Int × Int}, (l.foldl (folS k) st).1 = l.foldl (gS k) st.1
  | [], _ => rfl
  | p :: l, st => by
    rw [List.foldl_cons, List.foldl_cons, fol_fst]
    congr 1
    unfold folS gS
    split
    · rfl
    · split <;> rfl
theorem folP_fst {ps : List (Str × Row)} {k i : Int} : (folP ps k i).1 = backL ps k i := fol_fst
theorem inv_rev {ps : List (Str × Row)} : (invP ps).reverse = ps.map invS := by
  rw [invP_eq, ← List.map_reverse, List.reverse_reverse]
theorem folI {ps : List (Str × Row)} {k j : Int} : folP (invP ps) k j = (ps.map invS).foldl (folS k) (j, 0) := by
  unfold folP
  rw [inv_rev]
theorem folI_fst {ps : List (Str × Row)} {k j : Int} : (folP (invP ps) k j).1 = toL ps k j := by
  rw [folI, fol_fst, List.foldl_map]
  rfl
theorem inv_all {ps : List (Str × Row)} (hk : ∀ p ∈ ps, p ∈ known) : ∀ p ∈ invP ps, p ∈ known := fun p hp => by
  rw [invP_eq] at hp
  obtain ⟨q, hq, rfl⟩ := List.mem_map.mp hp
  exact inv_in (hk q (List.mem_reverse.mp hq))
theorem inv_mf {ps : List (Str × Row)} (hk : ∀ p ∈ ps, p ∈ known) (hm : ∀ p ∈ ps, isMF p = true) : ∀ p ∈ invP ps, isMF p = true := fun p hp => by
  rw [invP_eq] at hp
  obtain ⟨q, hq, rfl⟩ := List.mem_map.mp hp
  have hq := List.mem_reverse.mp hq
  have m := mf_of (hk q hq)
  have h := hm q hq
  unfold isMF at h ⊢
  rw [Bool.or_eq_true, decide_eq_true_eq, decide_eq_true_eq] at h ⊢
  exact h.elim (fun z => .inl (m.mm.mp z)) fun z => .inr (m.ff.mp z)
theorem inv_inv {ps : List (Str × Row)} (hk : ∀ p ∈ ps, p ∈ known) : invP (invP ps) = ps := by
  rw [invP_eq, inv_rev, List.map_map]
  have : ∀ l : List (Str × Row), (∀ p ∈ l, p ∈ known) → l.map (invS ∘ invS) = l := fun l hl => by
    induction l with
    | nil => rfl
    | cons p l ih =>
      rw [List.map_cons, ih fun q hq => hl q (List.mem_cons_of_mem _ hq)]
      congr 1
      exact (mf_of (hl p (List.mem_cons_self ..))).ii
  exact this ps hk
end Aw

namespace Aw
open PySem PySem.Spec PyProof.Rows L2 NdefX
/-! ### forward, as the law does it -/
def fwdS (k : Int) (st : Int × Int) (p : Str × Row) : Int × Int :=
  if p.2.1 ∈ flipsL then (st.1, (st.2 + bI (flF p.2 k st.1)) % 2) else (placeF (invR p.2).1 ((invR p.2).2.1.getD 0) k st.1, st.2)
def folL (ps : List (Str × Row)) (k j : Int) : Int × Int := ps.foldl (fwdS k) (j, 0)
theorem flip_eq {r : Row} {n i : Int} (h : r.1 ∈ flipsL) : flF r n i = flipF r.1 r.2.2 n i := by
  obtain ⟨k, b, t⟩ := r
  have h : k = "flip" ∨ k = "flip first" ∨ k = "flip last" := by simpa [flipsL] using h
  unfold flF flipF
  dsimp only
  rcases h with rfl | rfl | rfl
  · rw [if_neg (by decide +kernel), if_neg (by decide +kernel), if_pos rfl, if_neg (by decide +kernel), if_neg (by decide +kernel)]
  · rw [if_pos rfl, if_pos rfl]
  · rw [if_neg (by decide +kernel), if_pos rfl, if_neg (by decide +kernel), if_pos rfl]
theorem fwd_one {k : Int} {st : Int × Int} {p : Str × Row} (hp : p ∈ known) (hm : isMF p = true) (h2 : st.2 = 0 ∨ st.2 = 1) : folS k st (invS p) = fwdS k st p ∧ ((fwdS k st p).2 = 0 ∨ (fwdS k st p).2 = 1) := by
  have m := mf_of hp
  unfold folS fwdS
  by_cases hf : p.2.1 ∈ flipsL
  · obtain ⟨e1, e2⟩ := m.own hf
    rw [e1, if_neg e2, if_pos hf, ← flip_eq hf]
    obtain ⟨a, c⟩ := st
    dsimp only at h2 ⊢
    cases flF p.2 k a with
    | true =>
      rw [if_pos rfl]
      rcases h2 with rfl | rfl
      · exact ⟨rfl, .inr rfl⟩
      · exact ⟨rfl, .inl rfl⟩
    | false =>
      rw [if_neg (by decide)]
      rcases h2 with rfl | rfl
      · exact ⟨rfl, .inl rfl⟩
      · exact ⟨rfl, .inr rfl⟩
  · have hv : p.2.1 ∈ movesL := by
      unfold isMF at hm
      rw [decide_eq_false hf, Bool.or_false] at hm
      exact of_decide_eq_true hm
    rw [if_pos (m.mm.mp hv), if_neg hf]
    exact ⟨rfl, h2⟩
theorem fwd_all {k : Int} : ∀ {ps : List (Str × Row)} {st : Int × Int}, (∀ p ∈ ps, p ∈ known) → (∀ p ∈ ps, isMF p = true) → (st.2 = 0 ∨ st.2 = 1) → (ps.map invS).foldl (folS k) st = ps.foldl (fwdS k) st ∧ ((ps.foldl (fwdS k) st).2 = 0 ∨ (ps.foldl (fwdS k) st).2 = 1)
  | [], _, _, _, h2 => ⟨rfl, h2⟩
  | p :: l, st, hk, hm, h2 => by
    obtain ⟨e, h3⟩ := fwd_one (k := k) (hk p (List.mem_cons_self ..)) (hm p (List.mem_cons_self ..)) h2
    rw [List.map_cons, List.foldl_cons, List.foldl_cons, e]
    exact fwd_all (ps := l) (fun q hq => hk q (List.mem_cons_of_mem _ hq)) (fun q hq => hm q (List.mem_cons_of_mem _ hq)) h3
theorem folL_eq {ps : List (Str × Row)} {k j : Int} (hk : ∀ p ∈ ps, p ∈ known) (hm : ∀ p ∈ ps, isMF p = true) : folP (invP ps) k j = folL ps k j := folI.trans (fwd_all hk hm (.inl rfl)).1
theorem folL_fst {ps : List (Str × Row)} {k j : Int} (hk : ∀ p ∈ ps, p ∈ known) (hm : ∀ p ∈ ps, isMF p = true) : (folL ps k j).1 = toL ps k j := by rw [← folL_eq hk hm, folI_fst]
theorem folL_01 {ps : List (Str × Row)} {k j : Int} (hk : ∀ p ∈ ps, p ∈ known) (hm : ∀ p ∈ ps, isMF p = true) : (folL ps k j).2 = 0 ∨ (folL ps k j).2 = 1 := (fwd_all hk hm (.inl rfl)).2
/-- the law's way back -/
theorem folL_back {ps : List (Str × Row)} {k j : Int} (hk : ∀ p ∈ ps, p ∈ known) (hm : ∀ p ∈ ps, isMF p = true) : (folL (invP ps) k j).1 = backL ps k j := by
  rw [← folL_eq (inv_all hk) (inv_mf hk hm), inv_inv hk, folP_fst]
/-! ### what is done with a word -/
theorem done_at9 {r : Row} {w : List Bool} {i : Nat} (h : i < w.length) : (doneF r w).getD i false = if r.1 ∈ movesL then bitAt w (placeF r.1 (r.2.1.getD 0) w.length i) else if r.1 ∈ flipsL then w.getD i false ^^ flipF r.1 r.2.2 w.length i else if chosenF r.2.2 i then bitAt (mixedF r.1 (r.2.1.getD 0) w) i else w.getD i false := by
  unfold doneF
  by_cases hm : r.1 ∈ movesL
  · rw [if_pos hm, if_pos hm]; exact range_at h
  rw [if_neg hm, if_neg hm]
  by_cases hf : r.1 ∈ flipsL
  · rw [if_pos hf, if_pos hf]; exact range_at h
  rw [if_neg hf, if_neg hf]
  exact range_at h
theorem step_bit {w : List Bool} {st : Int × Int} {p : Str × Row} (hp : p ∈ known) (hm : isMF p = true) (h2 : st.2 = 0 ∨ st.2 = 1) (h0 : 0 ≤ st.1) (h1 : st.1 < w.length) :
    (doneF p.2 w).getD (fwdS w.length st p).1.toNat false = ((w.getD st.1.toNat false ^^ decide (st.2 = 1)) ^^ decide ((fwdS w.length st p).2 = 1)) ∧ 0 ≤ (fwdS w.length st p).1 ∧ (fwdS w.length st p).1 < w.length := by
  have m := mf_of hp
  obtain ⟨i, c⟩ := st
  dsimp only at h0 h1 h2
  unfold fwdS
  by_cases hf : p.2.1 ∈ flipsL
  · obtain ⟨_, e2⟩ := m.own hf
    rw [if_pos hf]
    dsimp only
    refine ⟨?_, h0, h1⟩
    have ei : ((i.toNat : Nat) : Int) = i := Int.toNat_of_nonneg h0
    rw [done_at9 (by omega), if_neg e2, if_pos hf, ei, ← flip_eq hf]
    cases flF p.2 w.length i with
    | true => rcases h2 with rfl | rfl <;> cases w.getD i.toNat false <;> rfl
    | false => rcases h2 with rfl | rfl <;> cases w.getD i.toNat false <;> rfl
  · have hv : p.2.1 ∈ movesL := by
      unfold isMF at hm
      rw [decide_eq_false hf, Bool.or_false] at hm
      exact of_decide_eq_true hm
    rw [if_neg hf]
    dsimp only
    have hin := place_in (k := (invR p.2).1) (by_ := (invR p.2).2.1.getD 0) h0 h1
    refine ⟨?_, hin⟩
    have ei : (((placeF (invR p.2).1 ((invR p.2).2.1.getD 0) w.length i).toNat : Nat) : Int) = placeF (invR p.2).1 ((invR p.2).2.1.getD 0) w.length i := Int.toNat_of_nonneg hin.1
    rw [done_at9 (by omega), if_pos hv, ei, show placeF p.2.1 (p.2.2.1.getD 0) w.length (placeF (invR p.2).1 ((invR p.2).2.1.getD 0) w.length i) = i from place_back h0 h1 (of_decide_eq_true (m.pair hv))]
    unfold bitAt
    rcases h2 with rfl | rfl <;> cases w.getD i.toNat false <;> rfl
theorem word_bit : ∀ {ps : List (Str × Row)} {w : List Bool} {st : Int × Int}, (∀ p ∈ ps, p ∈ known) → (∀ p ∈ ps, isMF p = true) → (st.2 = 0 ∨ st.2 = 1) → 0 ≤ st.1 → st.1 < w.length →
    (progF' ps w).getD (ps.foldl (fwdS w.length) st).1.toNat false = ((w.getD st.1.toNat false ^^ decide (st.2 = 1)) ^^ decide ((ps.foldl (fwdS w.length) st).2 = 1))
  | [], w, st, _, _, _, _, _ => by
    show w.getD st.1.toNat false = ((w.getD st.1.toNat false ^^ decide (st.2 = 1)) ^^ decide (st.2 = 1))
    cases w.getD st.1.toNat false <;> cases decide (st.2 = 1) <;> rfl
  | p :: l, w, st, hk, hm, h2, h0, h1 => by
    have hp := hk p (List.mem_cons_self ..)
    have hmp := hm p (List.mem_cons_self ..)
    obtain ⟨e, a, b⟩ := step_bit (w := w) hp hmp h2 h0 h1
    have h3 := (fwd_one (k := (w.length : Int)) hp hmp h2).2
    have lw : (doneF p.2 w).length = w.length := done_len
    have ih := word_bit (ps := l) (w := doneF p.2 w) (st := fwdS w.length st p) (fun q hq => hk q (List.mem_cons_of_mem _ hq)) (fun q hq => hm q (List.mem_cons_of_mem _ hq)) h3 a (by rw [lw]; exact b)
    rw [lw] at ih
    show (progF' l (doneF p.2 w)).getD (l.foldl (fwdS w.length) (fwdS w.length st p)).1.toNat false = _
    rw [ih, e]
    show _ = ((w.getD st.1.toNat false ^^ decide (st.2 = 1)) ^^ decide ((l.foldl (fwdS w.length) (fwdS w.length st p)).2 = 1))
    cases w.getD st.1.toNat false <;> cases decide (st.2 = 1) <;> cases decide ((fwdS w.length st p).2 = 1) <;> cases decide ((l.foldl (fwdS w.length) (fwdS w.length st p)).2 = 1) <;> rfl
end Aw

namespace Aw
open PySem PySem.Spec PyProof.Rows L2 NdefX
theorem VOk.but {H H' : Hp} {p : Addr} {v : V} (b : But p H H') (hn : v ≠ .ref p) (h : VOk H v) : VOk H' v := by
  cases h with
  | str x h => exact .str x h
  | non => exact .non
  | bl b => exact .bl b
  | int i => exact .int i
  | lst h => exact .lst (b _ _ h (fun z => hn (congrArg V.ref z)))
  | tup h => exact .tup (b _ _ h (fun z => hn (congrArg V.ref z)))
  | dct h => exact .dct (b _ _ h (fun z => hn (congrArg V.ref z)))
/-- a value that is no pen -/
def VP (p : Addr) (H : Hp) (v : V) : Prop := VOk H v ∧ v ≠ .ref p
theorem VP.same {p : Addr} {H H' : Hp} {v : V} (h : VP p H v) (s : Same H H') : VP p H' v := ⟨h.1.same s, h.2⟩
theorem VP.but {p : Addr} {H H' : Hp} {v : V} (h : VP p H v) (b : But p H H') : VP p H' v := ⟨h.1.but b h.2, h.2⟩
theorem VP.int {p : Addr} {H : Hp} (i : Int) : VP p H (.int i) := ⟨.int i, fun z => by cases z⟩
theorem VP.fl {p : Addr} {H : Hp} {v : V} (h : VOk H v) (hn : flatB v = true) : VP p H v := ⟨h, fun z => by rw [z] at hn; cases hn⟩
theorem mem5 {α : Type} {P : α → Prop} {a b c d e v : α} (h : v ∈ [a, b, c, d, e]) (h1 : P a) (h2 : P b) (h3 : P c) (h4 : P d) (h5 : P e) : P v := by
  simp only [List.mem_cons, List.not_mem_nil, or_false] at h
  rcases h with rfl | rfl | rfl | rfl | rfl <;> assumption
theorem al_v {K : PySem.W.Frag} {H : Hp} {n : Nat} {v : V} (h : VOk H v) : Al K H (n + 1) v v := by
  cases h with
  | str x h => exact Al.flat rfl
  | non => exact Al.flat rfl
  | bl b => exact Al.flat rfl
  | int i => exact Al.flat rfl
  | lst h => exact Al.ref
  | tup h => exact Al.ref
  | dct h => exact Al.ref
theorem mem7 {α : Type} {P : α → Prop} {a b c d e f g v : α} (h : v ∈ [a, b, c, d, e, f, g]) (h1 : P a) (h2 : P b) (h3 : P c) (h4 : P d) (h5 : P e) (h6 : P f) (h7 : P g) : P v := by
  simp only [List.mem_cons, List.not_mem_nil, or_false] at h
  rcases h with rfl | rfl | rfl | rfl | rfl | rfl | rfl <;> assumption
theorem VP.newT {p c t : Addr} {n : Nat} {H H' : Hp} {xs : List V} (P : Pen H p c n) (ht : H t = none) (e : H' t = some (.tup xs)) : VP p H' (.ref t) := ⟨.tup e, fun z => by obtain ⟨o, eo⟩ := P.some1; rw [V.ref.inj z] at ht; rw [ht] at eo; cases eo⟩
theorem VP.newL {p c t : Addr} {n : Nat} {H H' : Hp} {xs : List V} (P : Pen H p c n) (ht : H t = none) (e : H' t = some (.lst xs)) : VP p H' (.ref t) := ⟨.lst e, fun z => by obtain ⟨o, eo⟩ := P.some1; rw [V.ref.inj z] at ht; rw [ht] at eo; cases eo⟩
end Aw

namespace Aw
open PySem PySem.Spec PyProof.Rows L2 NdefX
def oddKinds : List Str := ["near", "sum", "near at", "sum at", "gather", "spread"]
theorem odd_mf : ∀ kd ∈ oddKinds, ¬ bkF kd ∈ movesL ∧ ¬ bkF kd ∈ flipsL ∧ ¬ bkF kd ∈ (["deal", "undeal"] : List Str) := by decide +kernel
theorem odd_in : ∀ kd ∈ oddKinds, kd ∈ kindsR := by decide +kernel
theorem mixed_no {ps : List (Str × Row)} {q : Str × Row} {i : Nat} (hm : ∀ p ∈ ps, isMF p = true) (hi : i ≤ ps.length) (hq : isMF q = false) : firstNo (ps.take i ++ [q] ++ ps.drop i) = some i := by
  have lt : (ps.take i).length = i := by rw [List.length_take]; omega
  refine firstNo_at (p := q) (fun z hz => ?_) ?_ hq
  · rw [List.append_assoc, List.take_append_of_le_length (by omega)] at hz
    exact hm z (List.mem_of_mem_take (List.mem_of_mem_take hz))
  · rw [List.append_assoc, List.getElem?_append_right (by omega), lt, Nat.sub_self]
    rfl
theorem mixed_bounds {ps : List (Str × Row)} {q : Str × Row} {i : Nat} (hl : ps.length ≤ 4) (hd : (ps.filter isDeal).length ≤ 2) (hq : isDeal q = false) : boundsE (ps.take i ++ [q] ++ ps.drop i) = none := by
  have e : ((ps.take i ++ [q] ++ ps.drop i).filter isDeal).length = (ps.filter isDeal).length := by
    rw [List.filter_append, List.filter_append, List.filter_cons_of_neg (by rw [hq]; decide), List.filter_nil, List.append_nil, ← List.filter_append, List.take_append_drop]
  have l : (ps.take i ++ [q] ++ ps.drop i).length = ps.length + 1 := by
    simp only [List.length_append, List.length_take, List.length_drop, List.length_cons, List.length_nil]
    omega
  unfold boundsE
  rw [l, e, if_neg (by omega), if_neg (by omega)]
theorem deals_take {ps : List (Str × Row)} (h : boundsE ps = none) (i : Nat) : ((ps.take i).filter isDeal).length ≤ 2 := by
  have h2 : (ps.filter isDeal).length ≤ 2 := by
    unfold boundsE at h
    split at h
    · cases h
    · split at h
      · cases h
      · omega
  have : ((ps.take i).filter isDeal).length ≤ (ps.filter isDeal).length := ((List.take_sublist i ps).filter _).length_le
  omega
/-- a flat value or a tuple, no pen -/
structure VQ (p : Addr) (H : Hp) (v : V) : Prop where
  vp : VP p H v
  tp : ∀ a, v = .ref a → ∃ xs, H a = some (.tup xs)
theorem VQ.same {p : Addr} {H H' : Hp} {v : V} (h : VQ p H v) (s : Same H H') : VQ p H' v := ⟨h.vp.same s, fun a e => by obtain ⟨xs, z⟩ := h.tp a e; exact ⟨xs, s _ _ z⟩⟩
theorem VQ.but {p : Addr} {H H' : Hp} {v : V} (h : VQ p H v) (b : But p H H') : VQ p H' v := ⟨h.vp.but b, fun a e => by
  obtain ⟨xs, z⟩ := h.tp a e
  exact ⟨xs, b _ _ z (fun q => h.vp.2 (by rw [e, q]))⟩⟩
theorem VQ.butL {p M : Addr} {H H' : Hp} {v : V} {ws : List V} (h : VQ p H v) (b : But M H H') (hM : H M = some (.lst ws)) : VQ p H' v := by
  have ne : v ≠ .ref M := fun e => by obtain ⟨xs, z⟩ := h.tp M e; rw [hM] at z; cases z
  exact ⟨⟨h.vp.1.but b ne, h.vp.2⟩, fun a e => by
    obtain ⟨xs, z⟩ := h.tp a e
    exact ⟨xs, b _ _ z (fun q => ne (by rw [e, q]))⟩⟩
theorem VQ.fl {p : Addr} {H : Hp} {v : V} (h : VOk H v) (hn : flatB v = true) : VQ p H v := ⟨.fl h hn, fun a e => by rw [e] at hn; cases hn⟩
theorem VQ.newT {p c t : Addr} {n : Nat} {H H' : Hp} {xs : List V} (P : Pen H p c n) (ht : H t = none) (e : H' t = some (.tup xs)) : VQ p H' (.ref t) := ⟨VP.newT P ht e, fun a z => ⟨xs, by rw [← V.ref.inj z]; exact e⟩⟩
theorem DqAll.drop {K : PySem.W.Frag} {H : Hp} : ∀ {vs : List V} {ds : List PyData} (i : Nat), DqAll K H vs ds → DqAll K H (vs.drop i) (ds.drop i)
  | _, _, 0, h => h
  | _, _, _ + 1, .nil => .nil
  | _, _, i + 1, .cons s t => DqAll.drop i t
end Aw

namespace Aw
open PySem PySem.Spec PyProof.Rows L2 NdefX
/-! ### going on and on -/
def itF (f : Int → Int) : Nat → Int → Int
  | 0, j => j
  | n + 1, j => f (itF f n j)
theorem itF_add (f : Int → Int) (m n : Nat) (j : Int) : itF f (m + n) j = itF f m (itF f n j) := by
  induction m with
  | zero => rw [Nat.zero_add]; rfl
  | succ m ih => rw [Nat.succ_add]; show f _ = f _; rw [ih]
theorem itF_succ' (f : Int → Int) (n : Nat) (j : Int) : itF f (n + 1) j = itF f n (f j) := itF_add f n 1 j
/-- a permutation of the places below k and its inverse -/
structure Perm (f g : Int → Int) (k : Int) : Prop where
  fi : ∀ j, 0 ≤ j → j < k → 0 ≤ f j ∧ f j < k
  gi : ∀ j, 0 ≤ j → j < k → 0 ≤ g j ∧ g j < k
  gf : ∀ j, 0 ≤ j → j < k → g (f j) = j
  fg : ∀ j, 0 ≤ j → j < k → f (g j) = j
theorem Perm.in_ {f g : Int → Int} {k j : Int} (p : Perm f g k) (h0 : 0 ≤ j) (h1 : j < k) : ∀ n, 0 ≤ itF f n j ∧ itF f n j < k
  | 0 => ⟨h0, h1⟩
  | n + 1 => by
    obtain ⟨a, b⟩ := p.in_ h0 h1 n
    exact p.fi _ a b
theorem Perm.swap {f g : Int → Int} {k : Int} (p : Perm f g k) : Perm g f k := ⟨p.gi, p.fi, p.fg, p.gf⟩
/-- back the way -/
theorem Perm.back {f g : Int → Int} {k j : Int} (p : Perm f g k) (h0 : 0 ≤ j) (h1 : j < k) : ∀ n, itF g n (itF f n j) = j
  | 0 => rfl
  | n + 1 => by
    obtain ⟨a, b⟩ := p.in_ h0 h1 n
    rw [itF_succ']
    show itF g n (g (f (itF f n j))) = j
    rw [p.gf _ a b]
    exact p.back h0 h1 n
/-- the first return -/
structure Ret (f : Int → Int) (j : Int) (c : Nat) : Prop where
  pos : 1 ≤ c
  ret : itF f c j = j
  no : ∀ i, 0 < i → i < c → itF f i j ≠ j
theorem Ret.uniq {f : Int → Int} {j : Int} {c d : Nat} (a : Ret f j c) (b : Ret f j d) : c = d := by
  have h1 := a.pos
  have h2 := b.pos
  rcases Nat.lt_trichotomy c d with h | h | h
  · exact absurd a.ret (b.no c (by omega) h)
  · exact h
  · exact absurd b.ret (a.no d (by omega) h)
theorem Ret.mul {f : Int → Int} {j : Int} {c : Nat} (a : Ret f j c) : ∀ q, itF f (q * c) j = j
  | 0 => by rw [Nat.zero_mul]; rfl
  | q + 1 => by rw [Nat.succ_mul, itF_add, a.ret, a.mul q]
theorem Ret.mod {f : Int → Int} {j : Int} {c : Nat} (a : Ret f j c) (n : Nat) : itF f n j = itF f (n % c) j := by
  have e := Nat.div_add_mod n c
  calc itF f n j = itF f (n % c + n / c * c) j := by rw [Nat.mul_comm, Nat.add_comm, e]
    _ = itF f (n % c) j := by rw [itF_add, a.mul]
/-- any number of times, below 0 too -/
def aftF (f g : Int → Int) (t : Int) (j : Int) : Int := if 0 ≤ t then itF f t.toNat j else itF g (-t).toNat j
theorem aft_mod {f g : Int → Int} {k j : Int} {c : Nat} (p : Perm f g k) (h0 : 0 ≤ j) (h1 : j < k) (a : Ret f j c) (t : Int) : aftF f g t j = itF f (t % (c : Int)).toNat j := by
  have hc := a.pos
  unfold aftF
  by_cases ht : 0 ≤ t
  · rw [if_pos ht, a.mod]
    congr 1
    obtain ⟨n, rfl⟩ : ∃ n : Nat, t = (n : Int) := ⟨t.toNat, by omega⟩
    rw [← Int.natCast_emod, Int.toNat_natCast, Int.toNat_natCast]
  · rw [if_neg ht]
    obtain ⟨n, hn⟩ : ∃ n : Nat, -t = (n : Int) := ⟨(-t).toNat, by omega⟩
    have m0 : 0 ≤ t % (c : Int) := Int.emod_nonneg _ (by omega)
    obtain ⟨r, hr⟩ : ∃ r : Nat, t % (c : Int) = (r : Int) := ⟨(t % (c : Int)).toNat, by omega⟩
    rw [hn, hr, Int.toNat_natCast, Int.toNat_natCast]
    -- n + r is a multiple of c
    have d : ∃ q : Nat, n + r = q * c := by
      have h2 := Int.emod_add_mul_ediv t (c : Int)
      have hq : (n : Int) + (r : Int) = (-(t / (c : Int))) * (c : Int) := by
        rw [hr] at h2
        have : (-(t / (c : Int))) * (c : Int) = -((c : Int) * (t / (c : Int))) := by rw [Int.neg_mul, Int.mul_comm]
        omega
      have q0 : 0 ≤ -(t / (c : Int)) := by
        rcases Int.lt_or_le (-(t / (c : Int))) 0 with z | z
        · have : (-(t / (c : Int))) * (c : Int) ≤ 0 := by
            have := Int.mul_nonneg (a := -(-(t / (c : Int)))) (b := (c : Int)) (by omega) (by omega)
            rw [Int.neg_mul] at this
            omega
          omega
        · exact z
      refine ⟨(-(t / (c : Int))).toNat, ?_⟩
      have e : ((-(t / (c : Int))).toNat : Int) = -(t / (c : Int)) := Int.toNat_of_nonneg q0
      have : ((n + r : Nat) : Int) = (((-(t / (c : Int))).toNat * c : Nat) : Int) := by
        rw [Int.natCast_mul, e]
        omega
      exact Int.ofNat_inj.mp this
    obtain ⟨q, hq⟩ := d
    have e1 : itF f n (itF f r j) = j := by rw [← itF_add, hq, a.mul]
    obtain ⟨r0, r1⟩ := p.in_ h0 h1 r
    have e2 := p.back r0 r1 n
    rw [e1] at e2
    exact e2
/-- the places of the way, the first c of them -/
def wayP (f : Int → Int) (j : Int) (c : Nat) : List V := (List.range c).map fun i => V.int (itF f i j)
theorem wayP_succ (f : Int → Int) (j : Int) (c : Nat) : wayP f j (c + 1) = wayP f j c ++ [V.int (itF f c j)] := by
  unfold wayP
  rw [List.range_succ, List.map_append]
  rfl
theorem wayP_len (f : Int → Int) (j : Int) (c : Nat) : (wayP f j c).length = c := by
  unfold wayP
  rw [List.length_map, List.length_range]
theorem wayP_get {f : Int → Int} {j : Int} {c i : Nat} (h : i < c) : (wayP f j c)[i]? = some (V.int (itF f i j)) := by
  unfold wayP
  rw [List.getElem?_map, List.getElem?_range h]
  rfl
theorem perm_prog {ps : List (Str × Row)} (hk : ∀ p ∈ ps, p ∈ known) (k : Int) : Perm (toL ps k) (backL ps k) k :=
  ⟨fun _ a b => to_in a b, fun _ a b => back_in a b, fun _ a b => back_to hk a b, fun _ a b => to_back a b hk⟩
theorem toL_inv {ps : List (Str × Row)} (hk : ∀ p ∈ ps, p ∈ known) (k j : Int) : toL (invP ps) k j = backL ps k j := by
  unfold toL backL
  rw [invP_eq, List.foldl_map]
  have : ∀ (l : List (Str × Row)) (i : Int), (∀ p ∈ l, p ∈ known) → l.foldl (fun x y => hS k x (invS y)) i = l.foldl (gS k) i := by
    intro l
    induction l with
    | nil => intro i _; rfl
    | cons p l ih =>
      intro i h
      rw [List.foldl_cons, List.foldl_cons, ih _ fun q hq => h q (List.mem_cons_of_mem _ hq)]
      congr 1
      unfold hS
      rw [(mf_of (h p (List.mem_cons_self ..))).ii]
  exact this _ _ fun p hp => hk p (List.mem_reverse.mp hp)
/-- the flips of c rounds -/
def flN (ps : List (Str × Row)) (k j : Int) : Nat → Int
  | 0 => 0
  | 1 => (folP (invP ps) k j).2
  | c + 1 => Builtin.bitXor (flN ps k j c) (folP (invP ps) k (itF (toL ps k) c j)).2
theorem flN_succ {ps : List (Str × Row)} {k j : Int} : ∀ {c : Nat}, 1 ≤ c → flN ps k j (c + 1) = Builtin.bitXor (flN ps k j c) (folP (invP ps) k (itF (toL ps k) c j)).2
  | 0, h => by omega
  | _ + 1, _ => rfl
end Aw

namespace Aw
open PySem PySem.Spec PyProof.Rows L2 NdefX
def spTrip (K : PySem.W.Frag) (C CS CT : Addr) : Sp := fun vs H Q E => ∃ (a : Addr) (k j : Int) (most : Nat) (x : Str) (ps : List (Str × Row)), vs = [.ref a, .int k, .int j, .int (most : Nat)] ∧ ProgAt K C CS H a x ps ∧ boundsE ps = none ∧ 0 ≤ j ∧ j < k ∧ 1 ≤ most ∧ most ≤ 200 ∧
  errOf (∀ i, 0 < i → i ≤ most → itF (toL ps k) i j ≠ j) CT "most" (.int (most : Nat)) H E ∧
  ∀ c, Ret (toL ps k) j c → c ≤ most → ∀ t L H', Same H H' → H' t = some (.tup [.ref L, .int (flN ps k j c)]) → H' L = some (.lst (wayP (toL ps k) j c)) → Q (.ref t) H'
section
variable {P : Program} {w : World} {K : PySem.W.Frag} {mg : Str → Option Value} {base : Heap} {C CS CT fFo fPV : Addr}
structure TxtTr (P : Program) (w : World) (K : PySem.W.Frag) (mg : Str → Option Value) (base : Heap) (C CS CT fFo fPV : Addr) (od vd : FuncData) : Prop where
  GFo : FnOk P w K mg base CX0 3 fFo od ["program", "k", "i"] (spFol K C CS)
  FFo : Fun K "followed_back" "followed_back" sFol fFo od
  bFo : Binds K od ["program", "k", "i"] []
  gFo : mg "followed_back" = some (.ref fFo)
  iP : PySem.W.findIn K (.ref C) "__invert__" = some (some (.ref fPV))
  fiP : PySem.W.isFn K (.ref fPV) = true
  GPV : FnOk P w K mg base CX0 8 fPV vd ["self"] (spPInv K C CS)
  bPV : Binds K vd ["self"] []
  gL : mg "len" = none
  et : Err P K mg "TooMany" "most" "most" CT
theorem scTrip : FnScope ["program", "k", "j", "most", "back", "places", "place", "flips", "more"] ["program", "k", "j", "most"] (defScope sTrip) := ⟨rfl, rfl, rfl, by decide +kernel, rfl, by decide +kernel, by decide +kernel⟩
theorem ok_trip {f : Addr} {fd od vd : FuncData} (F : Fun K "trip_of" "trip_of" sTrip f fd) (W : TxtTr P w K mg base C CS CT fFo fPV od vd) : FnOk P w K mg base (L2.CX P w) 9 f fd ["program", "k", "j", "most"] (spTrip K C CS CT) := by
  obtain ⟨GFo, FFo, bFo, gFo, iP, fiP, GPV, bPV, gL, et⟩ := W
  refine F.okX scTrip (fun vs H Q E h => ?_) (fun cdv A outer s H vs Q E hr h => ?_)
  · obtain ⟨a, k, j, most, x, ps, rfl, _⟩ := h
    rfl
  · obtain ⟨a, k, j, most, x, ps, rfl, S, hb, j0, j1, m0, m1, kE, kQ⟩ := h
    have nd := scTrip.nd
    refine ⟨_, (pss_cons (ps_set (i := 4) nd rfl (Or.inl rfl) (pe_un (un_invO iP fiP GPV (hr.mono (by decide)) bPV) (pv 0)))
      (pss_cons (ps_set (i := 5) nd rfl (Or.inl rfl) (pe_lst (pa_cons (pv 2) pa_nil)))
      (pss_cons (ps_asg (pe_call GFo (hr.mono (by decide)) (by rfl) gFo FFo.kp bFo .nil pass0 (pa_cons (pv 4) (pa_cons (pv 1) (pa_cons (pv 2) pa_nil)))) (pg_tup rfl (pgs_cons (pg_name (i := 6) nd rfl (Or.inl rfl)) (pgs_cons (pg_name (i := 7) nd rfl (Or.inl rfl)) pgs_nil))))
      (pss_cons (ps_while (passes_of rfl) (pt_cmpR op_ne (pv 6) (pv 2) (nomark _))
        (pss_cons (ps_if (pt_cmpR op_eq (pe_callB call_len_seq (by rfl) gL PySem.boot_len (pa_cons (pv 5) pa_nil)) (pv 3) (nomark _))
          (pss_one (ps_raise rfl (takes_of rfl rfl rfl rfl) (pmk_err et (hr.mono (by decide)) (by rfl) (pa_cons (pv 3) pa_nil)))) pss_nil)
        (pss_cons (ps_expr (pe_bm PySem.F.plainAttrs_list PySem.F.slot_list_append PySem.F.type_list_append mt_append (pv 5) (pa_cons (pv 6) pa_nil)))
        (pss_cons (ps_asg (pe_call GFo (hr.mono (by decide)) (by rfl) gFo FFo.kp bFo .nil pass0 (pa_cons (pv 4) (pa_cons (pv 1) (pa_cons (pv 6) pa_nil)))) (pg_tup rfl (pgs_cons (pg_name (i := 6) nd rfl (Or.inl rfl)) (pgs_cons (pg_name (i := 8) nd rfl (Or.inl rfl)) pgs_nil))))
        (pss_one (ps_set (i := 7) nd rfl (Or.inl rfl) (pe_op op_xor (pv 7) (pv 8))))))))
      (pss_one (ps_ret (pe_tup (pa_cons (pv 5) (pa_cons (pv 7) pa_nil))))))))), ?_⟩
    have l5 := bounds_len hb
    have hk : ∀ q ∈ ps, q ∈ known := by obtain ⟨dx, tv, xs, _, _, st⟩ := S.ex; exact st.known
    have pm := perm_prog hk k
    obtain ⟨dx, tv, xs, ea, et', st⟩ := S.ex
    refine ⟨_, rfl, a, dx, _, rfl, ea, a, x, ps, rfl, S, hb, fun b H1 s1 Sb => ?_⟩
    refine ⟨_, rfl, by show 1 ≤ sizeLine; decide, fun L hL => ?_⟩
    have s2 := s1.trans (same_upd (o := .lst [.int j]) hL)
    have Sb2 := Sb.same (same_upd (o := .lst [.int j]) hL)
    refine ⟨_, rfl, _, rfl, _, rfl, b, k, j, _, _, rfl, Sb2, by rw [invP_len]; omega, j0, j1, fun t H3 s3 e3 => ?_⟩
    refine ⟨t, _, rfl, SqT.of e3, rfl, _, _, rfl, _, _, rfl, rfl, ?_⟩
    rw [folI_fst]
    have sL := same_upd (o := .lst [.int j]) hL
    have eL : upd H1 L (.lst [.int j]) L = some (.lst [.int j]) := upd_same
    refine ⟨fun m σ H4 => ∃ (c : Nat) (v8 : Option V), m + c = most + 1 ∧ 1 ≤ c ∧ c ≤ most ∧ σ = [some (.ref a), some (.int k), some (.int j), some (.int (most : Nat)), some (.ref b), some (.ref L), some (.int (itF (toL ps k) c j)), some (.int (flN ps k j c)), v8] ∧ Same H1 H4 ∧ H4 L = some (.lst (wayP (toL ps k) j c)) ∧ ∀ i, 0 < i → i < c → itF (toL ps k) i j ≠ j, ⟨most, 1, none, rfl, by decide, m0, rfl, sL.trans s3, s3 _ _ eL, fun i h0 h1 => by omega⟩, ?_⟩
    rintro m σ H4 ⟨c, v8, hm, c0, c1, rfl, s4, e4, no⟩
    obtain ⟨x0, x1⟩ := pm.in_ j0 j1 c
    refine ⟨_, rfl, _, rfl, rfl, _, rfl, ite_ndec (fun ne => ?_) (fun e => ?_)⟩
    · have ne : itF (toL ps k) c j ≠ j := fun z => ne (congrArg V.int z)
      have no' : ∀ i, 0 < i → i < c + 1 → itF (toL ps k) i j ≠ j := fun i h0 h1 => by
        by_cases z : i = c
        · rw [z]; exact ne
        · exact no i h0 (by omega)
      refine ⟨fun σ H5 => ∃ (v8 : Option V), c + 1 ≤ most ∧ σ = [some (.ref a), some (.int k), some (.int j), some (.int (most : Nat)), some (.ref b), some (.ref L), some (.int (itF (toL ps k) (c + 1) j)), some (.int (flN ps k j (c + 1))), v8] ∧ Same H1 H5 ∧ H5 L = some (.lst (wayP (toL ps k) j (c + 1))), fun σ' H5 z => ?_, ?_⟩
      · obtain ⟨v8', h1, h2, h3, h4⟩ := z
        exact ⟨m - 1, by omega, c + 1, v8', by omega, by omega, h1, h2, h3, h4, no'⟩
      refine ⟨_, rfl, L, _, rfl, .inl (SqL.of e4), _, rfl, rfl, _, rfl, ?_⟩
      rw [wayP_len]
      refine ite_int (fun ec => ?_) (fun nc => ?_)
      · have ec : c = most := Int.ofNat_inj.mp ec
        subst ec
        refine ⟨_, rfl, mkS_ans fun d hd => ?_⟩
        exact kE (fun i h0 h1 => no' i h0 (by omega)) d _ ((s1.trans s4).trans (same_upd hd)) ((s1.trans s4).free hd) upd_same
      · have nc : c ≠ most := fun z => nc (by rw [z])
        refine ⟨_, rfl, .inl ⟨rfl, _, SqL.of e4⟩, _, rfl, L, _, _, rfl, rfl, e4, by rw [wayP_len]; exact Nat.lt_of_lt_of_le (by omega : c < 1000) kz, ?_⟩
        have eL5 : upd H4 L (.lst (wayP (toL ps k) j c ++ [V.int (itF (toL ps k) c j)])) L = some (.lst (wayP (toL ps k) j (c + 1))) := by rw [upd_same, wayP_succ]
        have s5 : Same H1 (upd H4 L (.lst (wayP (toL ps k) j c ++ [V.int (itF (toL ps k) c j)]))) := same_fresh hL s4
        generalize upd H4 L (.lst (wayP (toL ps k) j c ++ [V.int (itF (toL ps k) c j)])) = H5 at *
        refine ⟨_, rfl, _, rfl, _, rfl, b, k, _, _, _, rfl, Sb.same s5, by rw [invP_len]; omega, x0, x1, fun t6 H6 s6 e6 => ?_⟩
        refine ⟨t6, _, rfl, SqT.of e6, rfl, _, _, rfl, _, _, rfl, rfl, ?_⟩
        rw [folI_fst]
        refine ⟨_, rfl, _, rfl, _, _, rfl, rfl, ?_⟩
        refine ⟨some (V.int (folP (invP ps) k (itF (toL ps k) c j)).2), by omega, ?_, s5.trans s6, s6 _ _ eL5⟩
        rw [flN_succ c0]
        rfl
    · have e : itF (toL ps k) c j = j := V.int.inj e
      dsimp only
      refine ⟨_, rfl, _, rfl, by show 2 ≤ sizeLine; decide, fun t5 ht5 => ?_⟩
      have s6 := same_upd (o := .tup [.ref L, .int (flN ps k j c)]) ht5
      exact kQ c ⟨c0, e, no⟩ c1 t5 L _ ((s1.trans s4).trans s6) upd_same (s6 _ _ e4)
end
end Aw

namespace Aw
open PySem PySem.Spec PyProof.Rows L2 NdefX
/-! ### home again, and not flipped -/
/-- flips of n rounds -/
def flB (f : Int → Int) (b : Int → Bool) : Nat → Int → Bool
  | 0, _ => false
  | n + 1, x => flB f b n x ^^ b (itF f n x)
theorem flB_add (f : Int → Int) (b : Int → Bool) (m n : Nat) (x : Int) : flB f b (m + n) x = (flB f b n x ^^ flB f b m (itF f n x)) := by
  induction m with
  | zero => rw [Nat.zero_add]; show _ = (_ ^^ false); rw [Bool.xor_false]
  | succ m ih =>
    rw [Nat.succ_add]
    show (flB f b (m + n) x ^^ b (itF f (m + n) x)) = (_ ^^ (flB f b m (itF f n x) ^^ b (itF f m (itF f n x))))
    rw [ih, itF_add, Bool.xor_assoc]
def home (f : Int → Int) (b : Int → Bool) (m : Nat) (x : Int) : Prop := itF f m x = x ∧ flB f b m x = false
/-- the rounds that bring one place home -/
def wN (f : Int → Int) (b : Int → Bool) (c : Nat) (x : Int) : Nat := c * (1 + (if flB f b c x = true then 1 else 0))
theorem Ret.dvd {f : Int → Int} {j : Int} {c : Nat} (a : Ret f j c) {m : Nat} : itF f m j = j ↔ c ∣ m := by
  constructor
  · intro h
    rw [a.mod] at h
    rcases Nat.eq_zero_or_pos (m % c) with z | z
    · exact Nat.dvd_of_mod_eq_zero z
    · exact absurd h (a.no _ z (Nat.mod_lt _ a.pos))
  · rintro ⟨q, rfl⟩
    rw [Nat.mul_comm]
    exact a.mul q
theorem Ret.flips {f : Int → Int} {b : Int → Bool} {j : Int} {c : Nat} (a : Ret f j c) : ∀ q, flB f b (q * c) j = (decide (q % 2 = 1) && flB f b c j)
  | 0 => by rw [Nat.zero_mul]; rfl
  | q + 1 => by
    rw [Nat.succ_mul, flB_add, a.ret, a.flips q]
    rcases Nat.mod_two_eq_zero_or_one q with z | z
    · rw [show decide (q % 2 = 1) = false from decide_eq_false (by omega), show decide ((q + 1) % 2 = 1) = true from decide_eq_true (by omega)]
      simp
    · rw [show decide (q % 2 = 1) = true from decide_eq_true (by omega), show decide ((q + 1) % 2 = 1) = false from decide_eq_false (by omega)]
      simp
theorem Ret.home {f : Int → Int} {b : Int → Bool} {j : Int} {c : Nat} (a : Ret f j c) {m : Nat} : home f b m j ↔ wN f b c j ∣ m := by
  have hc := a.pos
  unfold Aw.home wN
  constructor
  · rintro ⟨h1, h2⟩
    obtain ⟨q, rfl⟩ := a.dvd.mp h1
    rw [Nat.mul_comm c q, a.flips] at h2
    cases e : flB f b c j with
    | false => rw [if_neg (by decide)]; exact ⟨q, by rw [Nat.add_zero, Nat.mul_one]⟩
    | true =>
      rw [e, Bool.and_true, decide_eq_false_iff_not] at h2
      rw [if_pos rfl]
      exact ⟨q / 2, by rw [Nat.mul_assoc]; congr 1; omega⟩
  · intro h
    have hd : c ∣ m := Nat.dvd_trans ⟨_, rfl⟩ h
    obtain ⟨q, rfl⟩ := hd
    refine ⟨a.dvd.mpr ⟨q, rfl⟩, ?_⟩
    rw [Nat.mul_comm c q, a.flips]
    cases e : flB f b c j with
    | false => rw [Bool.and_false]
    | true =>
      rw [e, if_pos rfl] at h
      have h2 : 2 ∣ q := Nat.dvd_of_mul_dvd_mul_left hc h
      rw [Bool.and_true, decide_eq_false_iff_not]
      omega
/-- t is the least number of rounds after which all is home -/
def HomeN (f : Int → Int) (b : Int → Bool) (k : Int) (t : Nat) : Prop := 0 < t ∧ ∀ m : Nat, t ∣ m ↔ ∀ x, 0 ≤ x → x < k → home f b m x
theorem HomeN.uniq {f : Int → Int} {b : Int → Bool} {k : Int} {s t : Nat} (h : HomeN f b k s) (g : HomeN f b k t) : s = t :=
  Nat.dvd_antisymm ((h.2 t).mpr ((g.2 t).mp (Nat.dvd_refl t))) ((g.2 s).mpr ((h.2 s).mp (Nat.dvd_refl s)))
theorem Perm.inj {f g : Int → Int} {k x y : Int} (p : Perm f g k) (x0 : 0 ≤ x) (x1 : x < k) (y0 : 0 ≤ y) (y1 : y < k) (e : f x = f y) : x = y := by rw [← p.gf x x0 x1, ← p.gf y y0 y1, e]
theorem home_next {f g : Int → Int} {b : Int → Bool} {k x : Int} (p : Perm f g k) (x0 : 0 ≤ x) (x1 : x < k) {m : Nat} : home f b m (f x) ↔ home f b m x := by
  obtain ⟨y0, y1⟩ := p.in_ x0 x1 m
  have e1 : itF f m (f x) = f (itF f m x) := (itF_succ' f m x).symm
  have fl : itF f m x = x → flB f b m (f x) = flB f b m x := fun h => by
    have a1 := flB_add f b m 1 x
    have a2 : flB f b (m + 1) x = (flB f b m x ^^ b (itF f m x)) := rfl
    have a3 : flB f b 1 x = b x := Bool.false_xor _
    rw [a2, h, a3] at a1
    have a1 : (flB f b m x ^^ b x) = (b x ^^ flB f b m (f x)) := a1
    revert a1
    cases flB f b m x <;> cases b x <;> cases flB f b m (f x) <;> simp
  unfold home
  constructor
  · rintro ⟨h1, h2⟩
    have h : itF f m x = x := p.inj y0 y1 x0 x1 (e1.symm.trans h1)
    exact ⟨h, by rw [← fl h]; exact h2⟩
  · rintro ⟨h1, h2⟩
    exact ⟨by rw [e1, h1], by rw [fl h1]; exact h2⟩
theorem home_it {f g : Int → Int} {b : Int → Bool} {k x : Int} (p : Perm f g k) (x0 : 0 ≤ x) (x1 : x < k) {m : Nat} : ∀ i, home f b m (itF f i x) ↔ home f b m x
  | 0 => Iff.rfl
  | i + 1 => by
    obtain ⟨y0, y1⟩ := p.in_ x0 x1 i
    exact (home_next p y0 y1).trans (home_it p x0 x1 i)
/-! ### a return there is -/
theorem php : ∀ (k : Nat) (g : Nat → Nat), (∀ i, i ≤ k → g i < k) → ∃ a b, a < b ∧ b ≤ k ∧ g a = g b
  | 0, g, h => absurd (h 0 (Nat.le_refl _)) (Nat.not_lt_zero _)
  | k + 1, g, h => by
    by_cases z : ∃ a, a ≤ k ∧ g a = g (k + 1)
    · obtain ⟨a, h1, h2⟩ := z
      exact ⟨a, k + 1, by omega, Nat.le_refl _, h2⟩
    · have z' : ∀ a, a ≤ k → g a ≠ g (k + 1) := fun a h1 h2 => z ⟨a, h1, h2⟩
      have hv := h (k + 1) (Nat.le_refl _)
      obtain ⟨a, b, h1, h2, h3⟩ := php k (fun i => if g (k + 1) < g i then g i - 1 else g i) fun i hi => by
        have h4 := h i (by omega)
        have h5 := z' i hi
        split <;> omega
      refine ⟨a, b, h1, by omega, ?_⟩
      have ha := z' a (by omega)
      have hb := z' b h2
      split at h3 <;> split at h3 <;> omega
theorem ret_ex {f g : Int → Int} {k j : Int} (p : Perm f g k) (h0 : 0 ≤ j) (h1 : j < k) : ∃ c : Nat, Ret f j c ∧ (c : Int) ≤ k := by
  obtain ⟨a, b, ab, bk, e⟩ := php k.toNat (fun i => (itF f i j).toNat) fun i _ => by
    obtain ⟨y0, y1⟩ := p.in_ h0 h1 i
    omega
  have e' : itF f a j = itF f b j := by
    obtain ⟨y0, _⟩ := p.in_ h0 h1 a
    obtain ⟨z0, _⟩ := p.in_ h0 h1 b
    omega
  have r : itF f (b - a) j = j := by
    have e2 : itF f a (itF f (b - a) j) = itF f a j := by rw [← itF_add, show a + (b - a) = b by omega, ← e']
    obtain ⟨y0, y1⟩ := p.in_ h0 h1 (b - a)
    have := congrArg (itF g a) e2
    rwa [p.back y0 y1, p.back h0 h1] at this
  -- the least one
  have least : ∀ n : Nat, (∃ c, 1 ≤ c ∧ c ≤ n ∧ itF f c j = j) → ∃ c, Ret f j c ∧ c ≤ n := by
    intro n
    induction n with
    | zero => rintro ⟨c, h1, h2, _⟩; omega
    | succ n ih =>
      rintro ⟨c, c1, c2, ce⟩
      by_cases z : ∃ c, 1 ≤ c ∧ c ≤ n ∧ itF f c j = j
      · obtain ⟨d, hd, dn⟩ := ih z
        exact ⟨d, hd, by omega⟩
      · have cn : c = n + 1 := by
          rcases Nat.lt_or_ge c (n + 1) with q | q
          · exact absurd ⟨c, c1, by omega, ce⟩ z
          · omega
        exact ⟨c, ⟨c1, ce, fun i i0 i1 q => z ⟨i, i0, by omega, q⟩⟩, c2⟩
  obtain ⟨c, hc, cn⟩ := least (b - a) ⟨b - a, by omega, Nat.le_refl _, r⟩
  exact ⟨c, hc, by omega⟩
/-! ### what has been seen -/
theorem cnt_le (S : Int → Bool) (N : Nat) : ((List.range N).filter fun i : Nat => S (i : Int)).length ≤ N := by
  have := List.length_filter_le (fun i : Nat => S (i : Int)) (List.range N)
  rwa [List.length_range] at this
theorem cnt_add {S : Int → Bool} {x : Int} (x0 : 0 ≤ x) (hx : S x = false) : ∀ N : Nat, x < N → ((List.range N).filter fun i : Nat => (S (i : Int) || decide ((i : Int) = x))).length = ((List.range N).filter fun i : Nat => S (i : Int)).length + 1
  | 0, h => by omega
  | N + 1, h => by
    rw [List.range_succ, List.filter_append, List.filter_append, List.length_append, List.length_append]
    by_cases z : (N : Int) = x
    · have same : ((List.range N).filter fun i : Nat => (S (i : Int) || decide ((i : Int) = x))) = (List.range N).filter fun i : Nat => S (i : Int) := List.filter_congr fun i hi => by
        have := List.mem_range.mp hi
        rw [decide_eq_false (by omega), Bool.or_false]
      rw [same, List.filter_cons_of_pos (by rw [z, hx]; exact decide_eq_true rfl), List.filter_cons_of_neg (by rw [z, hx]; decide)]
      rfl
    · rw [cnt_add x0 hx N (by omega)]
      have e : ((S (N : Int) || decide ((N : Int) = x))) = S (N : Int) := by rw [decide_eq_false z, Bool.or_false]
      have e2 : ([N].filter fun i : Nat => (S (i : Int) || decide ((i : Int) = x))) = [N].filter fun i : Nat => S (i : Int) := List.filter_congr fun i hi => by
        rw [List.mem_singleton.mp hi]
        exact e
      rw [e2]
      omega
/-- the places seen and the number so far -/
structure Seen (f : Int → Int) (b : Int → Bool) (k : Int) (S : Int → Bool) (n t : Nat) : Prop where
  in_ : ∀ x, S x = true → 0 ≤ x ∧ x < k
  cl : ∀ x, 0 ≤ x → x < k → (S (f x) = S x)
  cnt : ((List.range k.toNat).filter fun i : Nat => S (i : Int)).length = n
  pos : 0 < t
  dv : ∀ m : Nat, t ∣ m ↔ ∀ x, S x = true → home f b m x
  bd : ∃ P : Nat, t ∣ 2 * P ∧ 0 < P ∧ P ^ 3 ≤ 3 ^ n
theorem Seen.start (f : Int → Int) (b : Int → Bool) (k : Int) : Seen f b k (fun _ => false) 0 1 := by
  refine ⟨fun x h => Bool.noConfusion h, fun _ _ _ => rfl, ?_, by decide, fun m => ⟨fun _ x h => Bool.noConfusion h, fun _ => Nat.one_dvd m⟩, 1, by decide, by decide, by decide⟩
  rw [List.filter_eq_nil_iff.mpr fun i _ => by decide]
  rfl
theorem Seen.n_le {f : Int → Int} {b : Int → Bool} {k : Int} {S : Int → Bool} {n t : Nat} (h : Seen f b k S n t) (k1 : k ≤ 100) : n ≤ 100 := by
  have := cnt_le S k.toNat
  rw [h.cnt] at this
  omega
theorem Seen.t_lt {f : Int → Int} {b : Int → Bool} {k : Int} {S : Int → Bool} {n t : Nat} (h : Seen f b k S n t) (k1 : k ≤ 100) : t < 2 ^ 64 := by
  obtain ⟨P, h1, h2, h3⟩ := h.bd
  have hn := h.n_le k1
  have : P < 2 ^ 63 := by
    rcases Nat.lt_or_ge P (2 ^ 63) with z | z
    · exact z
    · have a := Nat.pow_le_pow_left z 3
      have b := Nat.pow_le_pow_right (show 0 < 3 by decide) hn
      have c : (3 : Nat) ^ 100 < (2 ^ 63) ^ 3 := by decide +kernel
      omega
  have := Nat.le_of_dvd (by omega) h1
  omega
/-- the places of a round -/
def onB (f : Int → Int) (j : Int) (c : Nat) (x : Int) : Bool := (List.range c).any fun i => decide (x = itF f i j)
theorem onB_succ (f : Int → Int) (j : Int) (c : Nat) (x : Int) : onB f j (c + 1) x = (onB f j c x || decide (x = itF f c j)) := by
  unfold onB
  rw [List.range_succ, List.any_append]
  simp
theorem onB_iff {f : Int → Int} {j : Int} {c : Nat} {x : Int} : onB f j c x = true ↔ ∃ i, i < c ∧ x = itF f i j := by
  unfold onB
  rw [List.any_eq_true]
  constructor
  · rintro ⟨i, hi, e⟩
    exact ⟨i, List.mem_range.mp hi, of_decide_eq_true e⟩
  · rintro ⟨i, hi, e⟩
    exact ⟨i, List.mem_range.mpr hi, decide_eq_true e⟩
theorem Ret.ne {f g : Int → Int} {k j : Int} {c : Nat} (p : Perm f g k) (h0 : 0 ≤ j) (h1 : j < k) (a : Ret f j c) {i l : Nat} (il : i < l) (lc : l < c) : itF f i j ≠ itF f l j := fun e => by
  have e2 : itF f i (itF f (l - i) j) = itF f i j := by rw [← itF_add, show i + (l - i) = l by omega, ← e]
  obtain ⟨y0, y1⟩ := p.in_ h0 h1 (l - i)
  have := congrArg (itF g i) e2
  rw [p.back y0 y1, p.back h0 h1] at this
  exact a.no (l - i) (by omega) (by omega) this
theorem cube_le : ∀ c : Nat, c < 101 → c ^ 3 ≤ 3 ^ c := by decide +kernel
/-- part of a round is added -/
theorem Seen.part {f g : Int → Int} {b : Int → Bool} {k j : Int} {S : Int → Bool} {n t c : Nat} (h : Seen f b k S n t) (p : Perm f g k) (h0 : 0 ≤ j) (h1 : j < k) (hj : S j = false) (a : Ret f j c) : ∀ i, i ≤ c →
    ((List.range k.toNat).filter fun l : Nat => (S (l : Int) || onB f j i (l : Int))).length = n + i ∧ (i < c → (S (itF f i j) || onB f j i (itF f i j)) = false)
  | 0, _ => ⟨by
      rw [← h.cnt, Nat.add_zero]
      congr 1
      exact List.filter_congr fun l _ => by simp [onB], fun _ => by
      show (S j || onB f j 0 j) = false
      rw [hj]
      rfl⟩
  | i + 1, hi => by
    obtain ⟨e1, e2⟩ := h.part p h0 h1 hj a i (by omega)
    obtain ⟨y0, y1⟩ := p.in_ h0 h1 i
    refine ⟨?_, fun hc => ?_⟩
    · have := cnt_add (S := fun x => (S x || onB f j i x)) y0 (e2 (by omega)) k.toNat (by omega)
      rw [e1] at this
      rw [← Nat.add_assoc, ← this]
      congr 1
      exact List.filter_congr fun l _ => by rw [onB_succ, Bool.or_assoc]
    · have hs : ∀ l, S (itF f l j) = false := by
        intro l
        induction l with
        | zero => exact hj
        | succ l ih =>
          obtain ⟨z0, z1⟩ := p.in_ h0 h1 l
          exact (h.cl _ z0 z1).trans ih
      rw [hs, Bool.false_or]
      refine Bool.eq_false_iff.mpr fun z => ?_
      obtain ⟨l, hl, e⟩ := onB_iff.mp z
      exact (a.ne p h0 h1 hl hc) e.symm
/-- a whole round is added -/
theorem Seen.next {f g : Int → Int} {b : Int → Bool} {k j : Int} {S : Int → Bool} {n t c : Nat} (h : Seen f b k S n t) (p : Perm f g k) (h0 : 0 ≤ j) (h1 : j < k) (hj : S j = false) (a : Ret f j c) (c1 : c ≤ 100) :
    Seen f b k (fun x => (S x || onB f j c x)) (n + c) (t.lcm (wN f b c j)) := by
  have hc := a.pos
  have wp : 0 < wN f b c j := Nat.mul_pos hc (by omega)
  refine ⟨fun x hx => ?_, fun x x0 x1 => ?_, (h.part p h0 h1 hj a c (Nat.le_refl _)).1, Nat.lcm_pos h.pos wp, fun m => ?_, ?_⟩
  · rcases Bool.or_eq_true_iff.mp hx with z | z
    · exact h.in_ x z
    · obtain ⟨i, _, rfl⟩ := onB_iff.mp z
      exact p.in_ h0 h1 i
  · rw [h.cl x x0 x1]
    congr 1
    rw [Bool.eq_iff_iff, onB_iff, onB_iff]
    constructor
    · rintro ⟨i, hi, e⟩
      cases i with
      | zero =>
        refine ⟨c - 1, by omega, ?_⟩
        obtain ⟨y0, y1⟩ := p.in_ h0 h1 (c - 1)
        refine p.inj x0 x1 y0 y1 (e.trans ?_)
        show j = itF f (c - 1 + 1) j
        rw [show c - 1 + 1 = c by omega, a.ret]
      | succ i =>
        obtain ⟨y0, y1⟩ := p.in_ h0 h1 i
        exact ⟨i, by omega, p.inj x0 x1 y0 y1 e⟩
    · rintro ⟨i, hi, rfl⟩
      by_cases z : i + 1 = c
      · refine ⟨0, by omega, ?_⟩
        show itF f (i + 1) j = j
        rw [z, a.ret]
      · exact ⟨i + 1, by omega, rfl⟩
  · rw [Nat.lcm_dvd_iff, h.dv, ← a.home]
    constructor
    · rintro ⟨h2, h3⟩ x hx
      rcases Bool.or_eq_true_iff.mp hx with z | z
      · exact h2 x z
      · obtain ⟨i, _, rfl⟩ := onB_iff.mp z
        exact (home_it p h0 h1 i).mpr h3
    · intro hh
      exact ⟨fun x hx => hh x (by rw [hx]; rfl), hh j (by
        rw [hj, Bool.false_or]
        exact onB_iff.mpr ⟨0, by omega, rfl⟩)⟩
  · obtain ⟨P, d, pp, le⟩ := h.bd
    refine ⟨P * c, Nat.lcm_dvd_iff.mpr ⟨Nat.dvd_trans d ⟨c, by rw [Nat.mul_assoc]⟩, ?_⟩, Nat.mul_pos pp hc, ?_⟩
    · unfold wN
      split
      · exact ⟨P, by rw [show 1 + 1 = 2 from rfl]; ac_rfl⟩
      · exact ⟨2 * P, by rw [Nat.add_zero, Nat.mul_one]; ac_rfl⟩
    · rw [Nat.mul_pow, Nat.pow_add]
      exact Nat.mul_le_mul le (cube_le c (by omega))
/-- all is seen -/
theorem Seen.all {f : Int → Int} {b : Int → Bool} {k : Int} {S : Int → Bool} {n t : Nat} (h : Seen f b k S n t) (ha : ∀ x, 0 ≤ x → x < k → S x = true) : HomeN f b k t :=
  ⟨h.pos, fun m => (h.dv m).trans ⟨fun q x x0 x1 => q x (ha x x0 x1), fun q x hx => q x (h.in_ x hx).1 (h.in_ x hx).2⟩⟩
end Aw

namespace Aw
open PySem PySem.Spec PyProof.Rows L2 NdefX
/-! ### math.lcm -/
section
variable {X : Cx}
def rLcm : List V → Hp → VK → Prop := fun vs H Q => ∃ a b : Nat, vs = [.int (a : Nat), .int (b : Nat)] ∧ a < 2 ^ 64 ∧ b < 2 ^ 64 ∧ Q (.int ((Nat.lcm a b : Nat) : Int)) H
theorem cr_lcm : CallR X (.builtin "math.lcm") rLcm := by
  intro pins s σ H vs us Q I r h
  obtain ⟨a, b, rfl, ha, hb, q⟩ := h
  obtain ⟨t, u, rfl⟩ := Vals.int2 r
  exact PySem.W.mc_lcm (by rw [Int.natAbs_natCast]; exact ha) (by rw [Int.natAbs_natCast]; exact hb) fun _ => ⟨.int _, H, I.tok _, ⟨_, rfl⟩, by rw [Int.natAbs_natCast, Int.natAbs_natCast]; exact q⟩
end
theorem folS_01 {k : Int} {st : Int × Int} {p : Str × Row} (h : st.2 = 0 ∨ st.2 = 1) : (folS k st p).2 = 0 ∨ (folS k st p).2 = 1 := by
  unfold folS
  split
  · exact h
  · split
    · show 1 - st.2 = 0 ∨ 1 - st.2 = 1
      omega
    · exact h
theorem fol_01 {k : Int} : ∀ {l : List (Str × Row)} {st : Int × Int}, (st.2 = 0 ∨ st.2 = 1) → ((l.foldl (folS k) st).2 = 0 ∨ (l.foldl (folS k) st).2 = 1)
  | [], _, h => h
  | p :: l, _, h => fol_01 (l := l) (folS_01 (p := p) h)
/-- whether the bit that starts at x is flipped in one round -/
def flb (ps : List (Str × Row)) (k x : Int) : Bool := decide ((folP (invP ps) k x).2 = 1)
theorem fol_bI (ps : List (Str × Row)) (k x : Int) : (folP (invP ps) k x).2 = bI (flb ps k x) := by
  unfold flb
  have h : (folP (invP ps) k x).2 = 0 ∨ (folP (invP ps) k x).2 = 1 := fol_01 (l := (invP ps).reverse) (k := k) (st := (x, 0)) (.inl rfl)
  rcases h with e | e
  · rw [e]; rfl
  · rw [e]; rfl
theorem bx_bI (a b : Bool) : Builtin.bitXor (bI a) (bI b) = bI (a ^^ b) := by cases a <;> cases b <;> decide +kernel
theorem flN_val (ps : List (Str × Row)) (k j : Int) : ∀ c : Nat, flN ps k j c = bI (flB (toL ps k) (flb ps k) c j)
  | 0 => rfl
  | 1 => by
    show (folP (invP ps) k j).2 = bI (false ^^ flb ps k j)
    rw [Bool.false_xor]
    exact fol_bI ps k j
  | c + 2 => by
    rw [flN_succ (by omega), flN_val ps k j (c + 1), fol_bI, bx_bI]
    rfl
def spHome (K : PySem.W.Frag) (C CS CM CZ : Addr) : Sp := fun vs H Q E => ∃ (a : Addr) (v : V) (x : Str) (ps : List (Str × Row)), vs = [.ref a, v] ∧ ProgAt K C CS H a x ps ∧ boundsE ps = none ∧ VOk H v ∧ (∀ i : Nat, errOf (firstNo ps = some i) CM "index" (.int i) H E) ∧ errOf (firstNo ps = none ∧ numB v 1 100 = false) CZ "size" v H E ∧
  (firstNo ps = none → ∀ k : Int, v = .int k → 1 ≤ k → k ≤ 100 → ∀ t : Nat, HomeN (toL ps k) (flb ps k) k t → ∀ H', Same H H' → Q (.int (t : Nat)) H')
section
variable {P : Program} {w : World} {K : PySem.W.Frag} {mg : Str → Option Value} {base : Heap} {C CS CM CZ CT fCM fNum fTr : Addr} {tM : Tok}
theorem scHome : FnScope ["program", "k", "seen", "times", "j", "places", "flips", "place"] ["program", "k"] (defScope sHome) := ⟨rfl, rfl, rfl, by decide +kernel, rfl, by decide +kernel, by decide +kernel⟩
theorem ok_home {f : Addr} {fd cd nd' td : FuncData} (F : Fun K "times_home" "times_home" sHome f fd) (gR : mg "range" = none) (gL : mg "len" = none) (gSet : mg "set" = none) (gLcm : mg "lcm" = some (.builtin "math.lcm")) (gMH : mg "MOST_SIZE_HOME" = some (.int 100 tM)) (eZ : Err P K mg "BadSize" "size" "size" CZ)
    (GCM : FnOk P w K mg base (L2.CX P w) 3 fCM cd ["program"] (spChkM K C CS CM)) (FCM : Fun K "check_moves" "check_moves" sChkM fCM cd) (bCM : Binds K cd ["program"] []) (gCM : mg "check_moves" = some (.ref fCM))
    (GNum : FnOk P w K mg base CX0 1 fNum nd' ["value", "low", "high"] spNum) (FNum : Fun K "is_number" "is_number" sNum fNum nd') (bNum : Binds K nd' ["value", "low", "high"] []) (gNum : mg "is_number" = some (.ref fNum))
    (GTr : FnOk P w K mg base (L2.CX P w) 9 fTr td ["program", "k", "j", "most"] (spTrip K C CS CT)) (FTr : Fun K "trip_of" "trip_of" sTrip fTr td) (bTr : Binds K td ["program", "k", "j", "most"] []) (gTr : mg "trip_of" = some (.ref fTr)) : FnOk P w K mg base (L2.CX P w) 10 f fd ["program", "k"] (spHome K C CS CM CZ) := by
  refine F.okX scHome (fun vs H Q E h => ?_) (fun cdv A outer s H vs Q E hr h => ?_)
  · obtain ⟨a, v, x, ps, rfl, _⟩ := h
    rfl
  · obtain ⟨a, v, x, ps, rfl, S, hb, hv, kM, kZ, kQ⟩ := h
    have nd := scHome.nd
    refine ⟨_, (pss_cons (ps_expr (pe_callS GCM (hr.mono (by decide)) (by rfl) gCM FCM.kp bCM (fun σ => passAt (takes_of rfl rfl rfl rfl) σ) (pa_cons (pv 0) pa_nil)))
      (pss_cons (ps_if (pt_not (pt_val (pe_call GNum (hr.mono (by decide)) (by rfl) gNum FNum.kp bNum .nil pass0 (pa_cons (pv 1) (pa_cons pe_int (pa_cons (pe_glob (v := .int 100) (by rfl) gMH ⟨_, rfl⟩) pa_nil))))))
        (pss_one (ps_raise rfl (takes_of rfl rfl rfl rfl) (pmk_err eZ (hr.mono (by decide)) (by rfl) (pa_cons (pv 1) pa_nil)))) pss_nil)
      (pss_cons (ps_set (i := 2) nd rfl (Or.inl rfl) (pe_callTy0 cr_set0 (by rfl) gSet (by decide +kernel)))
      (pss_cons (ps_set (i := 3) nd rfl (Or.inl rfl) pe_int)
      (pss_cons (ps_for (passes_of rfl) rfl (pi_range1 rfl gR (pa_cons (pv 1) pa_nil)) (pg_name (i := 4) nd rfl (Or.inl rfl))
        (pss_one (ps_if (pt_cmpR or_snotin (pv 4) (pv 2) (by rfl))
          (pss_cons (ps_asg (pe_callS GTr (hr.mono (by decide)) (by rfl) gTr FTr.kp bTr (fun σ => passAt (takes_of rfl rfl rfl rfl) σ) (pa_cons (pv 0) (pa_cons (pv 1) (pa_cons (pv 4) (pa_cons (pv 1) pa_nil))))) (pg_tup rfl (pgs_cons (pg_name (i := 5) nd rfl (Or.inl rfl)) (pgs_cons (pg_name (i := 6) nd rfl (Or.inl rfl)) pgs_nil))))
          (pss_cons (ps_for (passes_of rfl) rfl (pi_list (pv 5)) (pg_name (i := 7) nd rfl (Or.inl rfl))
            (pss_one (ps_expr (pe_sadd (pv 2) (pa_cons (pv 7) pa_nil)))))
          (pss_one (ps_set (i := 3) nd rfl (Or.inl rfl) (pe_callBfun cr_lcm (by rfl) gLcm (pa_cons (pv 3) (pa_cons (pe_op op_mul (pe_callB call_len_seq (by rfl) gL PySem.boot_len (pa_cons (pv 5) pa_nil)) (pe_op op_add pe_int (pv 6))) pa_nil))))))) pss_nil)))
      (pss_one (ps_ret (pv 3)))))))), ?_⟩
    have l5 := bounds_len hb
    have hk : ∀ q ∈ ps, q ∈ known := by obtain ⟨dx, tv, xs, _, _, st⟩ := S.ex; exact st.known
    -- BODY
    refine ⟨_, rfl, a, x, ps, rfl, S, by omega, kM, fun hn H1 s1 => ?_⟩
    refine ⟨_, rfl, v, 1, 100, rfl, hv.same s1, _, rfl, ?_⟩
    cases hz : numB v 1 100 with
    | false =>
      refine iteT ?_
      refine ⟨_, rfl, mkS_ans fun d hd => ?_⟩
      exact kZ ⟨hn, hz⟩ d _ (s1.trans (same_upd hd)) (s1.free hd) upd_same
    | true =>
      obtain ⟨k, rfl, k1, k2⟩ := numB_int hz
      refine iteF ?_
      refine nxt ?_
      dsimp only
      have pm := perm_prog hk k
      refine ⟨rfl, fun sA hsA => ?_⟩
      have hsA0 : H sA = none := s1.free hsA
      refine ⟨_, rfl, k, rfl, by omega, by omega, ?_⟩
      refine for_range (n := k.toNat) (fun j σ H3 => ∃ (v4 v5 v6 v7 : Option V) (Z : Int → Bool) (n t : Nat), σ = [some (.ref a), some (.int k), some (.ref sA), some (.int (t : Nat)), v4, v5, v6, v7] ∧ Same H H3 ∧ H3 sA = some (SetO w sA Z n) ∧ Seen (toL ps k) (flb ps k) k Z n t ∧ ∀ i : Int, 0 ≤ i → i < j → Z i = true) ⟨none, none, none, none, fun _ => false, 0, 1, rfl, s1.trans (same_upd hsA), upd_same, Seen.start _ _ _, fun i h0 h1 => by omega⟩ ?_ ?_
      · rintro j σ H3 hj ⟨v4, v5, v6, v7, Z, n, t, rfl, s3, e3, sn, hi⟩
        have j0 : (0 : Int) ≤ 0 + (j : Nat) := by omega
        have j1 : (0 : Int) + (j : Nat) < k := by omega
        obtain ⟨jj, hjj⟩ : ∃ jj : Int, (0 : Int) + (j : Nat) = jj := ⟨_, rfl⟩
        dsimp only
        rw [hjj] at j0 j1 ⊢
        refine ⟨_, rfl, _, rfl, jj, sA, Z, n, rfl, rfl, e3, _, rfl, ?_⟩
        cases hZ : Z jj with
        | true =>
          refine iteF (nxt ?_)
          refine ⟨_, _, _, _, Z, n, t, rfl, s3, e3, sn, fun i h0 h1 => ?_⟩
          by_cases z : i = jj
          · rw [z]; exact hZ
          · exact hi i h0 (by omega)
        | false =>
          refine iteT ?_
          obtain ⟨c, rc, ck⟩ := ret_ex pm j0 j1
          have kn : k = ((k.toNat : Nat) : Int) := by omega
          refine ⟨_, rfl, _, rfl, _, rfl, _, rfl, a, k, jj, k.toNat, x, ps, by rw [← kn], S.same s3, hb, j0, j1, by omega, by omega, fun z _ _ _ _ _ => absurd rc.ret (z c rc.pos (by omega)), fun c' rc' le t5 L H4 s4 et eL => ?_⟩
          obtain rfl : c' = c := rc'.uniq rc
          refine ⟨t5, _, rfl, SqT.of et, rfl, _, _, rfl, _, _, rfl, rfl, ?_⟩
          have e4 := s4 _ _ e3
          have nLs : L ≠ sA := ne_of eL e4 (fun z => by cases z)
          refine ⟨_, rfl, L, rfl, ⟨_, SqL.of eL⟩, ?_⟩
          refine for_list (a := L) (xs := wayP (toL ps k) jj c') (fun i σ H5 => ∃ v7 : Option V, σ = [some (.ref a), some (.int k), some (.ref sA), some (.int (t : Nat)), some (.int jj), some (.ref L), some (.int (flN ps k jj c')), v7] ∧ Same H H5 ∧ H5 L = some (.lst (wayP (toL ps k) jj c')) ∧ H5 sA = some (SetO w sA (fun x => (Z x || onB (toL ps k) jj i x)) (n + i))) ⟨v7, rfl, s3.trans s4, eL, ?_⟩ (fun i σ H5 _ z => by
            obtain ⟨_, _, _, e, _⟩ := z
            exact SqL.of e) ?_ ?_
          · have ez : (fun x => (Z x || onB (toL ps k) jj 0 x)) = Z := by
              funext x
              show (Z x || false) = Z x
              rw [Bool.or_false]
            rw [ez]
            exact e4
          · rintro i y σ H5 hy ⟨v7', rfl, s5, e5, f5⟩
            have ic : i < c' := by
              have := (List.getElem?_eq_some_iff.mp hy).1
              rwa [wayP_len] at this
            rw [wayP_get ic] at hy
            obtain rfl := Option.some.inj hy
            obtain ⟨p1, p2⟩ := sn.part pm j0 j1 hZ rc i (by omega)
            have hno := p2 ic
            have hni : n + i ≤ 100 := by
              have := cnt_le (fun x => (Z x || onB (toL ps k) jj i x)) k.toNat
              rw [p1] at this
              omega
            refine ⟨_, rfl, ⟨sA, _, _, rfl, f5⟩, _, rfl, sA, itF (toL ps k) i jj, _, n + i, rfl, rfl, f5, by show n + i + 1 < 4096; omega, ?_⟩
            refine ⟨_, rfl, same_fresh hsA0 s5, ?_, ?_⟩
            · rw [upd_ne nLs]
              exact e5
            · rw [upd_same, if_neg (by rw [hno]; decide)]
              congr 2
              funext x
              rw [onB_succ, Bool.or_assoc]
          · rintro σ H5 ⟨v7', rfl, s5, e5, f5⟩
            rw [wayP_len] at f5
            dsimp only
            have hn2 := sn.next pm j0 j1 hZ rc (by omega)
            have hw : ((c' : Nat) : Int) * (1 + flN ps k jj c') = ((wN (toL ps k) (flb ps k) c' jj : Nat) : Int) := by
              rw [flN_val]
              unfold wN
              cases flB (toL ps k) (flb ps k) c' jj
              · rw [if_neg (by decide)]; show (c' : Int) * (1 + 0) = _; omega
              · rw [if_pos rfl]; show (c' : Int) * (1 + 1) = _; omega
            have wle : wN (toL ps k) (flb ps k) c' jj ≤ 200 := by
              unfold wN
              split <;> omega
            refine ⟨_, rfl, _, rfl, L, _, rfl, .inl (SqL.of e5), _, rfl, 1, _, rfl, rfl, _, _, rfl, rfl, .inl ⟨by rw [wayP_len]; omega, by rw [wayP_len]; omega⟩, t, wN (toL ps k) (flb ps k) c' jj, by rw [wayP_len]; show [V.int (t : Nat), V.int (((c' : Nat) : Int) * (1 + flN ps k jj c'))] = _; rw [hw], sn.t_lt k2, by omega, ?_⟩
            refine ⟨_, _, _, _, _, n + c', _, rfl, s5, f5, hn2, fun i h0 h1 => ?_⟩
            by_cases z : i = jj
            · rw [z]
              refine Bool.or_eq_true_iff.mpr (.inr (onB_iff.mpr ⟨0, rc.pos, rfl⟩))
            · exact Bool.or_eq_true_iff.mpr (.inl (hi i h0 (by omega)))
      · rintro σ H3 ⟨v4, v5, v6, v7, Z, n, t, rfl, s3, e3, sn, hi⟩
        exact ⟨_, rfl, kQ hn k rfl k1 k2 t (sn.all fun i h0 h1 => hi i h0 (by omega)) H3 s3⟩
end
end Aw

namespace Aw
open PySem PySem.Spec PyProof.Rows L2 NdefX
def tb_t11 (K : PySem.W.Frag) (C CS CM CZ : Addr) (W : WX) : TS := tAsg (tCallS (spHome K C CS CM CZ) (WE W) (tCons (tVar 0) (tCons (tVar 1) tNil))) (gName 2)
def ts_t11 (K : PySem.W.Frag) (CM CZ : Addr) (a : Addr) (cls : Value) (d : Option Addr) : TS :=
  tIfS (tB (tCB (rIsP K a cls d) (tCons (tVar 3) (tCons (tC (.ref CM)) tNil)))) (tAsg (tTup (tCons (tC (.str "NotMoves")) (tCons (tXp K a cls d "index" (tVar 3)) tNil))) (gName 2))
    (tIfS (tB (tCB (rIsP K a cls d) (tCons (tVar 3) (tCons (tC (.ref CZ)) tNil)))) (tAsg (tTup (tCons (tC (.str "BadSize")) (tCons (tXp K a cls d "size" (tVar 3)) tNil))) (gName 2)) tNext)
def spLTold (K : PySem.W.Frag) (C CS : Addr) : Sp := fun vs H Q _ => ∃ (a : Addr) (v : V) (x : Str) (ps : List (Str × Row)), vs = [.ref a, v] ∧ ProgAt K C CS H a x ps ∧ boundsE ps = none ∧ VOk H v ∧
  (∀ i : Nat, firstNo ps = some i → ∀ t H', Same H H' → H' t = some (.tup [.str "NotMoves", .int (i : Nat)]) → Q (.ref t) H') ∧ (firstNo ps = none → numB v 1 100 = false → ∀ t H', Same H H' → H' t = some (.tup [.str "BadSize", v]) → Q (.ref t) H') ∧
  (firstNo ps = none → ∀ k : Int, v = .int k → 1 ≤ k → k ≤ 100 → ∀ t : Nat, HomeN (toL ps k) (flb ps k) k t → ∀ H', Same H H' → Q (.int (t : Nat)) H')
section
variable {P : Program} {w : World} {K : PySem.W.Frag} {mg : Str → Option Value} {base : Heap} {C CS CM CZ CW fHo : Addr}
theorem scLTold : FnScope ["_law_program", "_law_k", "_law_found", "e"] ["_law_program", "_law_k"] (defScope sLTold) := ⟨rfl, rfl, rfl, by decide +kernel, rfl, by decide +kernel, by decide +kernel⟩
theorem ok_ltold {f : Addr} {fd hd' : FuncData} (F : Fun K "_law_told" "_law_told" sLTold f fd) (gW : mg "WordsError" = some (.ref CW)) (isi : mg "isinstance" = none) (eM : Err P K mg "NotMoves" "index" "index" CM) (eZ : Err P K mg "BadSize" "size" "size" CZ)
    (GHo : FnOk P w K mg base (L2.CX P w) 10 fHo hd' ["program", "k"] (spHome K C CS CM CZ)) (FHo : Fun K "times_home" "times_home" sHome fHo hd') (bHo : Binds K hd' ["program", "k"] []) (gHo : mg "times_home" = some (.ref fHo))
    (xM : PySem.W.exmOne K (.ref CM) (.ref CW) = some true) (xZ : PySem.W.exmOne K (.ref CZ) (.ref CW) = some true) (kMM : PySem.W.kitOne K (.ref CM) (.ref CM) = some true) (kZM : PySem.W.kitOne K (.ref CZ) (.ref CM) = some false) (kZZ : PySem.W.kitOne K (.ref CZ) (.ref CZ) = some true) : FnOk P w K mg base CX0 11 f fd ["_law_program", "_law_k"] (spLTold K C CS) := by
  refine F.ok scLTold (fun vs H Q E h => ?_) (fun cdv A outer s H vs Q E hr h => ?_)
  · obtain ⟨a, v, x, ps, rfl, _⟩ := h
    rfl
  · obtain ⟨a, v, x, ps, rfl, S, hb, hv, kM, kZ, kQ⟩ := h
    have nd := scLTold.nd
    refine ⟨_, (pss_cons (ps_set (i := 2) nd rfl (Or.inl rfl) (pe_tup (pa_cons pe_str (pa_cons pe_non pa_nil))))
      (pss_cons (ps_try_as (i := 3) (tb := fun W => tb_t11 K C CS CM CZ W) (ts := fun a cls d => ts_t11 K CM CZ a cls d) (Wout := fun _ _ _ _ => False) rfl rfl nd rfl rfl ⟨rfl, by decide, Or.inl gW⟩ takes0
        (fun W pn xe tk _ => (pss_one (ps_set (i := 2) nd rfl (Or.inl rfl) (pe_callS GHo hr (by rfl) gHo FHo.kp bHo (fun σ => passAt tk σ) (pa_cons (pv 0) (pa_cons (pv 1) pa_nil))))))
        (fun a oe cls d pn hz hf => (pss_one (ps_if (pt_val (pe_callB (call_isP (List.mem_cons_self ..) hz hf) (by rfl) isi (by decide +kernel) (pa_cons (pv 3) (pa_cons (pe_glob (v := .ref CM) (by rfl) eM.g rfl) pa_nil))))
          (pss_one (ps_set (i := 2) nd rfl (Or.inl rfl) (pe_tup (pa_cons pe_str (pa_cons (pe_xp (List.mem_cons_self ..) hz hf (pv 3)) pa_nil)))))
          (pss_one (ps_if (pt_val (pe_callB (call_isP (List.mem_cons_self ..) hz hf) (by rfl) isi (by decide +kernel) (pa_cons (pv 3) (pa_cons (pe_glob (v := .ref CZ) (by rfl) eZ.g rfl) pa_nil))))
            (pss_one (ps_set (i := 2) nd rfl (Or.inl rfl) (pe_tup (pa_cons pe_str (pa_cons (pe_xp (List.mem_cons_self ..) hz hf (pv 3)) pa_nil))))) pss_nil))))))
      (pss_one (ps_ret (pv 2))))), ?_⟩
    refine ⟨by show 2 ≤ sizeLine; decide, fun t0 ht0 => ?_⟩
    have s0 := same_upd (o := .tup [.str "none", .non]) ht0
    obtain ⟨H1, hH1⟩ : ∃ H1, upd H t0 (.tup [.str "none", .non]) = H1 := ⟨_, rfl⟩
    change tb_t11 K C CS CM CZ _ _ _ (upd H t0 (.tup [.str "none", .non]))
    rw [hH1] at s0 ⊢
    refine ⟨_, rfl, _, rfl, a, v, x, ps, rfl, S.same s0, hb, hv.same s0, fun i hi d H2 s2 hd0 hd => ?_, fun hz d H2 s2 hd0 hd => ?_, fun hn k hk k0 k1 t ht H2 s2 => ⟨_, rfl, kQ hn k hk k0 k1 t ht _ (s0.trans s2)⟩⟩
    · refine ⟨true, xM, fun _ ax hax => ?_, fun z => Bool.noConfusion z⟩
      have hdd : ∀ dd', some d = some dd' → ∃ fs, H2 dd' = some (.xd fs) := fun dd' e => ⟨_, by cases e; exact hd⟩
      refine ⟨_, rfl, CM, .ref CM, .ref CM, true, rfl, rfl, eM.D, hdd, .own _, kMM, _, rfl, ?_⟩
      refine iteT ?_
      refine ⟨_, rfl, rfl, CM, d, _, _, rfl, eM.D, eM.hno, rfl, hd, rfl, by show 2 ≤ sizeLine; decide, fun t ht => ?_⟩
      exact ⟨_, rfl, kM i hi t _ ((s0.trans s2).trans (same_upd ht)) upd_same⟩
    · refine ⟨true, xZ, fun _ ax hax => ?_, fun z => Bool.noConfusion z⟩
      have hdd : ∀ dd', some d = some dd' → ∃ fs, H2 dd' = some (.xd fs) := fun dd' e => ⟨_, by cases e; exact hd⟩
      refine ⟨_, rfl, CZ, .ref CM, .ref CM, false, rfl, rfl, eZ.D, hdd, .own _, kZM, _, rfl, ?_⟩
      refine iteF ?_
      refine ⟨_, rfl, CZ, .ref CZ, .ref CZ, true, rfl, rfl, eZ.D, hdd, .own _, kZZ, _, rfl, ?_⟩
      refine iteT ?_
      refine ⟨_, rfl, rfl, CZ, d, _, _, rfl, eZ.D, eZ.hno, rfl, hd, rfl, by show 2 ≤ sizeLine; decide, fun t ht => ?_⟩
      exact ⟨_, rfl, kZ hz.1 hz.2 t _ ((s0.trans s2).trans (same_upd ht)) upd_same⟩
end
end Aw

namespace Aw
open PySem PySem.Spec PyProof.Rows L2 NdefX
/-! ### rounds known in closed form -/
theorem pl_turn (b k i : Int) : placeF "turn" b k i = k - 1 - i := by unfold placeF; rw [if_pos rfl]
theorem pl_roll (b k i : Int) : placeF "roll" b k i = (i - b) % k := by unfold placeF; rw [if_neg (by decide +kernel), if_pos rfl]
theorem pl_deal (b k i : Int) : placeF "deal" b k i = if i < (k + 1) / 2 then 2 * i else 2 * (i - (k + 1) / 2) + 1 := by unfold placeF; rw [if_neg (by decide +kernel), if_neg (by decide +kernel), if_pos rfl]
theorem pl_undeal (b k i : Int) : placeF "undeal" b k i = if i % 2 = 0 then i / 2 else (k + 1) / 2 + i / 2 := by unfold placeF; rw [if_neg (by decide +kernel), if_neg (by decide +kernel), if_neg (by decide +kernel), if_pos rfl]
theorem pl_swap (b k i : Int) : placeF "swap" b k i = if i % 2 = 1 then i - 1 else if k - 1 < i + 1 then k - 1 else i + 1 := by unfold placeF; rw [if_neg (by decide +kernel), if_neg (by decide +kernel), if_neg (by decide +kernel), if_neg (by decide +kernel)]
theorem hS_mv {k i : Int} {p : Str × Row} {r : Row} (e : (invS p).2 = r) (h : r.1 ∈ movesL) : hS k i p = placeF r.1 (r.2.1.getD 0) k i := by
  subst e
  exact if_pos h
theorem hS_fl {k i : Int} {p : Str × Row} {r : Row} (e : (invS p).2 = r) (h : ¬ r.1 ∈ movesL) : hS k i p = i := by
  subst e
  exact if_neg h
theorem fS_mv {k : Int} {st : Int × Int} {p : Str × Row} {r : Row} (e : (invS p).2 = r) (h : r.1 ∈ movesL) : folS k st (invS p) = (placeF r.1 (r.2.1.getD 0) k st.1, st.2) := by
  subst e
  exact if_pos h
theorem fS_fl {k : Int} {st : Int × Int} {p : Str × Row} {r : Row} (e : (invS p).2 = r) (h : ¬ r.1 ∈ movesL) : folS k st (invS p) = if flipF r.1 r.2.2 k st.1 = true then (st.1, 1 - st.2) else st := by
  subst e
  exact if_neg h
theorem flb_eq (ps : List (Str × Row)) (k x : Int) : flb ps k x = decide (((ps.map invS).foldl (folS k) (x, 0)).2 = 1) := by
  unfold flb
  rw [folI]
theorem flB_no {f : Int → Int} {b : Int → Bool} (h : ∀ x, b x = false) : ∀ (n : Nat) (x : Int), flB f b n x = false
  | 0, _ => rfl
  | n + 1, x => by
    show (flB f b n x ^^ b (itF f n x)) = false
    rw [flB_no h n x, h]
    rfl
theorem home_no {f : Int → Int} {b : Int → Bool} (h : ∀ x, b x = false) {m : Nat} {x : Int} : home f b m x ↔ itF f m x = x := ⟨fun z => z.1, fun z => ⟨z, flB_no h m x⟩⟩
/-! #### roll -/
theorem it_roll {f : Int → Int} {k b : Int} (hf : ∀ x, f x = (x + b) % k) (k1 : 0 < k) {x : Int} (x0 : 0 ≤ x) (x1 : x < k) : ∀ m : Nat, itF f m x = (x + m * b) % k
  | 0 => by
    show x = _
    rw [Int.natCast_zero, Int.zero_mul, Int.add_zero, Int.emod_eq_of_lt x0 x1]
  | m + 1 => by
    show f (itF f m x) = _
    rw [it_roll hf k1 x0 x1 m, hf, Int.emod_add_emod, Int.natCast_succ, Int.add_mul, Int.one_mul, Int.add_assoc]
theorem roll_home {f : Int → Int} {k b : Int} (hf : ∀ x, f x = (x + b) % k) (k1 : 0 < k) {x : Int} (x0 : 0 ≤ x) (x1 : x < k) {m : Nat} : itF f m x = x ↔ k ∣ m * b := by
  rw [it_roll hf k1 x0 x1]
  constructor
  · intro h
    have e := Int.emod_add_mul_ediv (x + m * b) k
    rw [h] at e
    exact ⟨(x + m * b) / k, by omega⟩
  · rintro ⟨q, e⟩
    rw [e, Int.add_mul_emod_self_left, Int.emod_eq_of_lt x0 x1]
theorem gcd_dvd {k b m : Nat} (k1 : 0 < k) : k / Nat.gcd k b ∣ m ↔ k ∣ m * b := by
  have g0 : 0 < Nat.gcd k b := Nat.gcd_pos_of_pos_left _ k1
  have hk : Nat.gcd k b * (k / Nat.gcd k b) = k := Nat.mul_div_cancel' (Nat.gcd_dvd_left k b)
  have hb : Nat.gcd k b * (b / Nat.gcd k b) = b := Nat.mul_div_cancel' (Nat.gcd_dvd_right k b)
  have co : Nat.Coprime (k / Nat.gcd k b) (b / Nat.gcd k b) := Nat.coprime_div_gcd_div_gcd g0
  constructor
  · rintro ⟨q, rfl⟩
    refine ⟨q * (b / Nat.gcd k b), ?_⟩
    calc k / Nat.gcd k b * q * b = k / Nat.gcd k b * q * (Nat.gcd k b * (b / Nat.gcd k b)) := by rw [hb]
      _ = Nat.gcd k b * (k / Nat.gcd k b) * (q * (b / Nat.gcd k b)) := by ac_rfl
      _ = k * (q * (b / Nat.gcd k b)) := by rw [hk]
  · intro h
    have h2 : Nat.gcd k b * (k / Nat.gcd k b) ∣ Nat.gcd k b * (m * (b / Nat.gcd k b)) := by
      rw [hk, show Nat.gcd k b * (m * (b / Nat.gcd k b)) = m * (Nat.gcd k b * (b / Nat.gcd k b)) by ac_rfl, hb]
      exact h
    exact co.dvd_of_dvd_mul_right (Nat.dvd_of_mul_dvd_mul_left g0 h2)
theorem home_roll {f : Int → Int} {bb : Int → Bool} {k b : Int} (hf : ∀ x, f x = (x + b) % k) (hb : ∀ x, bb x = false) (k1 : 0 < k) : HomeN f bb k (k.natAbs / Nat.gcd k.natAbs b.natAbs) := by
  have kn : 0 < k.natAbs := by omega
  refine ⟨Nat.div_pos (Nat.le_of_dvd kn (Nat.gcd_dvd_left _ _)) (Nat.gcd_pos_of_pos_left _ kn), fun m => ?_⟩
  rw [gcd_dvd kn]
  have e : k.natAbs ∣ m * b.natAbs ↔ k ∣ (m : Int) * b := by
    rw [← Int.natAbs_dvd_natAbs, Int.natAbs_mul, Int.natAbs_natCast]
  rw [e]
  constructor
  · exact fun h x x0 x1 => (home_no hb).mpr ((roll_home hf k1 x0 x1).mpr h)
  · exact fun h => (roll_home hf k1 (Int.le_refl 0) k1).mp ((home_no hb).mp (h 0 (Int.le_refl 0) k1))
/-! #### deals -/
/-- the order of 2, counted -/
def ordS (M : Nat) : Nat → Nat × Nat
  | 0 => (2 % M, 1)
  | n + 1 => if (ordS M n).1 ≠ 1 ∧ 1 < M then ((ordS M n).1 * 2 % M, (ordS M n).2 + 1) else ordS M n
def ordN (M : Nat) : Nat := (ordS M M).2
def ordOk (M : Nat) : Bool := decide (M % 2 = 0) || (decide (0 < ordN M) && (decide (2 ^ ordN M % M = 1 % M) && (List.range (ordN M)).all fun i => decide (i = 0) || decide (M = 1) || !decide (2 ^ i % M = 1 % M)))
theorem ord_all : ∀ M : Nat, M < 100 → ordOk M = true := by decide +kernel
structure OrdAt (M d : Nat) : Prop where
  pos : 0 < d
  ret : 2 ^ d % M = 1 % M
  no : ∀ i, 0 < i → i < d → M ≠ 1 → 2 ^ i % M ≠ 1 % M
theorem ord_at {M : Nat} (h1 : M % 2 = 1) (h2 : M < 100) : OrdAt M (ordN M) := by
  have h := ord_all M h2
  unfold ordOk at h
  rw [decide_eq_false (by omega), Bool.false_or, Bool.and_eq_true, Bool.and_eq_true, decide_eq_true_eq, decide_eq_true_eq, List.all_eq_true] at h
  refine ⟨h.1, h.2.1, fun i i0 i1 n1 e => ?_⟩
  have := h.2.2 i (List.mem_range.mpr i1)
  rw [decide_eq_false (by omega), decide_eq_false n1, decide_eq_true e] at this
  cases this
theorem ord_mul {M d : Nat} (h : 2 ^ d % M = 1 % M) : ∀ q, 2 ^ (d * q) % M = 1 % M
  | 0 => rfl
  | q + 1 => by rw [Nat.mul_succ, Nat.pow_add, Nat.mul_mod, ord_mul h q, h, ← Nat.mul_mod]
theorem ord_dvd {M d : Nat} (o : OrdAt M d) (h1 : M = 1 → d = 1) {m : Nat} : d ∣ m ↔ 2 ^ m % M = 1 % M := by
  constructor
  · rintro ⟨q, rfl⟩
    exact ord_mul o.ret q
  · intro h
    by_cases z : M = 1
    · rw [h1 z]
      exact Nat.one_dvd m
    · have e : 2 ^ m % M = 2 ^ (m % d) % M := by
        conv => lhs; rw [← Nat.div_add_mod m d, Nat.pow_add, Nat.mul_mod, ord_mul o.ret, ← Nat.mul_mod, Nat.one_mul]
      rw [e] at h
      rcases Nat.eq_zero_or_pos (m % d) with q | q
      · exact Nat.dvd_of_mod_eq_zero q
      · exact absurd h (o.no _ q (Nat.mod_lt _ o.pos) z)
theorem ord_one : ordN 1 = 1 := by decide +kernel
/-- where the bit at x goes in a deal -/
def dealG (k x : Int) : Int := if x % 2 = 0 then x / 2 else (k + 1) / 2 + x / 2
theorem deal_two {k x : Int} : ∃ q : Int, 2 * dealG k x = x + q * (k - 1 + k % 2) ∧ (q = 0 ∨ q = 1) := by
  unfold dealG
  by_cases h : x % 2 = 0
  · rw [if_pos h]
    exact ⟨0, by omega, .inl rfl⟩
  · rw [if_neg h]
    exact ⟨1, by omega, .inr rfl⟩
theorem deal_it (k x : Int) : ∀ m : Nat, ∃ q : Int, 2 ^ m * itF (dealG k) m x = x + q * (k - 1 + k % 2)
  | 0 => ⟨0, by show 2 ^ 0 * x = _; omega⟩
  | m + 1 => by
    obtain ⟨q, hq⟩ := deal_it k x m
    obtain ⟨r, hr, _⟩ := deal_two (k := k) (x := itF (dealG k) m x)
    refine ⟨q + 2 ^ m * r, ?_⟩
    show 2 ^ (m + 1) * dealG k (itF (dealG k) m x) = _
    rw [Int.pow_succ, Int.mul_assoc, hr, Int.mul_add, hq, Int.add_mul, ← Int.mul_assoc, Int.add_assoc]
theorem deal_in {k x : Int} (x0 : 0 ≤ x) (x1 : x < k) : 0 ≤ dealG k x ∧ dealG k x < k := by
  unfold dealG
  by_cases h : x % 2 = 0
  · rw [if_pos h]; omega
  · rw [if_neg h]; omega
theorem deal_ends {k : Int} (k0 : k % 2 = 0) (k1 : 0 < k) : ∀ m : Nat, itF (dealG k) m 0 = 0 ∧ itF (dealG k) m (k - 1) = k - 1
  | 0 => ⟨rfl, rfl⟩
  | m + 1 => by
    obtain ⟨a, b⟩ := deal_ends k0 k1 m
    refine ⟨?_, ?_⟩
    · show dealG k (itF (dealG k) m 0) = 0
      rw [a]; unfold dealG; rw [if_pos (by decide)]; rfl
    · show dealG k (itF (dealG k) m (k - 1)) = k - 1
      rw [b]; unfold dealG; rw [if_neg (by omega)]; omega
theorem deal_in_it {k x : Int} (x0 : 0 ≤ x) (x1 : x < k) : ∀ m : Nat, 0 ≤ itF (dealG k) m x ∧ itF (dealG k) m x < k
  | 0 => ⟨x0, x1⟩
  | m + 1 => by
    obtain ⟨a, b⟩ := deal_in_it x0 x1 m
    exact deal_in a b
theorem pow_cast {M m : Nat} : (2 ^ m % M = 1 % M) ↔ ∃ q : Int, (2 : Int) ^ m = 1 + q * (M : Int) := by
  constructor
  · intro h
    have e1 := Nat.div_add_mod (2 ^ m) M
    have e2 := Nat.div_add_mod 1 M
    rw [h] at e1
    refine ⟨((2 ^ m / M : Nat) : Int) - ((1 / M : Nat) : Int), ?_⟩
    have c1 : ((2 ^ m : Nat) : Int) = (M : Int) * ((2 ^ m / M : Nat) : Int) + ((1 % M : Nat) : Int) := by rw [← Int.natCast_mul, ← Int.natCast_add, e1]
    have c2 : (1 : Int) = (M : Int) * ((1 / M : Nat) : Int) + ((1 % M : Nat) : Int) := by rw [← Int.natCast_mul, ← Int.natCast_add, e2]; rfl
    have c3 : ((2 ^ m : Nat) : Int) = (2 : Int) ^ m := by rw [Int.natCast_pow]; rfl
    rw [← c3, c1, Int.sub_mul, Int.mul_comm _ (M : Int), Int.mul_comm _ (M : Int)]
    omega
  · rintro ⟨q, h⟩
    have c3 : ((2 ^ m : Nat) : Int) = (2 : Int) ^ m := by rw [Int.natCast_pow]; rfl
    have : (((2 ^ m % M : Nat)) : Int) = ((1 % M : Nat) : Int) := by
      rw [Int.natCast_emod, c3, h, Int.add_mul_emod_self_right, Int.natCast_emod]
      rfl
    exact Int.ofNat_inj.mp this
theorem deal_home {k : Int} (k1 : 0 < k) {m M : Nat} (hM : (M : Int) = k - 1 + k % 2) : (∀ x, 0 ≤ x → x < k → itF (dealG k) m x = x) ↔ 2 ^ m % M = 1 % M := by
  rw [pow_cast]
  constructor
  · intro h
    by_cases z : k ≤ 2
    · have : (M : Int) = 1 := by omega
      exact ⟨2 ^ m - 1, by rw [this]; omega⟩
    · obtain ⟨q, hq⟩ := deal_it k 1 m
      rw [h 1 (by omega) (by omega), Int.mul_one, ← hM] at hq
      exact ⟨q, hq⟩
  · rintro ⟨q, h⟩ x x0 x1
    obtain ⟨r, hr⟩ := deal_it k x m
    obtain ⟨y0, y1⟩ := deal_in_it x0 x1 m
    have hy : ∃ s : Int, itF (dealG k) m x = x + s * (M : Int) := by
      refine ⟨r - q * itF (dealG k) m x, ?_⟩
      rw [h, ← hM, Int.add_mul, Int.one_mul] at hr
      rw [Int.sub_mul, Int.mul_right_comm]
      omega
    obtain ⟨s, hs⟩ := hy
    by_cases z : k % 2 = 0
    · obtain ⟨a, b⟩ := deal_ends z k1 m
      by_cases e0 : x = 0
      · rw [e0]; exact a
      · by_cases e1 : x = k - 1
        · rw [e1]; exact b
        · have hMk : (M : Int) = k - 1 := by omega
          rw [hMk] at hs
          rcases Int.lt_trichotomy s 0 with q | q | q
          · have : s * (k - 1) ≤ -1 * (k - 1) := Int.mul_le_mul_of_nonneg_right (by omega) (by omega)
            omega
          · rw [q] at hs; omega
          · have : 1 * (k - 1) ≤ s * (k - 1) := Int.mul_le_mul_of_nonneg_right (by omega) (by omega)
            omega
    · have hMk : (M : Int) = k := by omega
      rw [hMk] at hs
      rcases Int.lt_trichotomy s 0 with q | q | q
      · have : s * k ≤ -1 * k := Int.mul_le_mul_of_nonneg_right (by omega) (by omega)
        omega
      · rw [q] at hs; omega
      · have : 1 * k ≤ s * k := Int.mul_le_mul_of_nonneg_right (by omega) (by omega)
        omega
theorem home_deal {bb : Int → Bool} {k : Int} (hb : ∀ x, bb x = false) (k1 : 0 < k) (k2 : k ≤ 100) {M : Nat} (hM : (M : Int) = k - 1 + k % 2) : HomeN (dealG k) bb k (ordN M) := by
  have o := ord_at (M := M) (by omega) (by omega)
  refine ⟨o.pos, fun m => ?_⟩
  rw [ord_dvd o (fun z => by rw [z]; exact ord_one), ← deal_home k1 hM]
  exact ⟨fun h x x0 x1 => (home_no hb).mpr (h x x0 x1), fun h x x0 x1 => (home_no hb).mp (h x x0 x1)⟩
/-- the other way round it is the same -/
theorem home_back {f g : Int → Int} {b b' : Int → Bool} {k : Int} (p : Perm f g k) (hb : ∀ x, b x = false) (hb' : ∀ x, b' x = false) {t : Nat} (h : HomeN f b k t) : HomeN g b' k t := by
  refine ⟨h.1, fun m => (h.2 m).trans ⟨fun q x x0 x1 => ?_, fun q x x0 x1 => ?_⟩⟩
  · have e := (home_no hb).mp (q x x0 x1)
    have := p.back x0 x1 m
    rw [e] at this
    exact (home_no hb').mpr this
  · have e := (home_no hb').mp (q x x0 x1)
    have := p.swap.back x0 x1 m
    rw [e] at this
    exact (home_no hb).mpr this
theorem home_congr {f g : Int → Int} {b c : Int → Bool} {k : Int} (hin : ∀ x, 0 ≤ x → x < k → 0 ≤ f x ∧ f x < k) (hf : ∀ x, 0 ≤ x → x < k → f x = g x) (hb : ∀ x, 0 ≤ x → x < k → b x = c x) {t : Nat} (h : HomeN g c k t) : HomeN f b k t := by
  have e : ∀ (m : Nat) (x : Int), 0 ≤ x → x < k → itF f m x = itF g m x ∧ flB f b m x = flB g c m x ∧ 0 ≤ itF f m x ∧ itF f m x < k := by
    intro m
    induction m with
    | zero => exact fun x x0 x1 => ⟨rfl, rfl, x0, x1⟩
    | succ m ih =>
      intro x x0 x1
      obtain ⟨a1, a2, a3, a4⟩ := ih x x0 x1
      obtain ⟨b1, b2⟩ := hin _ a3 a4
      refine ⟨?_, ?_, b1, b2⟩
      · show f (itF f m x) = g (itF g m x)
        rw [hf _ a3 a4, a1]
      · show (flB f b m x ^^ b (itF f m x)) = (flB g c m x ^^ c (itF g m x))
        rw [hb _ a3 a4, a1, a2]
  refine ⟨h.1, fun m => (h.2 m).trans ⟨fun q x x0 x1 => ?_, fun q x x0 x1 => ?_⟩⟩
  · obtain ⟨a1, a2, _⟩ := e m x x0 x1
    obtain ⟨h1, h2⟩ := q x x0 x1
    exact ⟨a1.trans h1, a2.trans h2⟩
  · obtain ⟨a1, a2, _⟩ := e m x x0 x1
    obtain ⟨h1, h2⟩ := q x x0 x1
    exact ⟨a1.symm.trans h1, a2.symm.trans h2⟩
/-! #### the last bit alone is flipped -/
theorem it_id : ∀ (m : Nat) (x : Int), itF (fun y => y) m x = x
  | 0, _ => rfl
  | m + 1, x => it_id m x
theorem fl_last {k : Int} : ∀ (m : Nat) (x : Int), flB (fun y => y) (fun y => decide (y = k - 1)) m x = (decide (x = k - 1) && decide (m % 2 = 1))
  | 0, x => by rw [show decide (0 % 2 = 1) = false from rfl, Bool.and_false]; rfl
  | m + 1, x => by
    show (flB (fun y => y) (fun y => decide (y = k - 1)) m x ^^ decide (itF (fun y => y) m x = k - 1)) = _
    rw [fl_last m x, it_id]
    rcases Nat.mod_two_eq_zero_or_one m with z | z
    · rw [show decide (m % 2 = 1) = false from decide_eq_false (by omega), show decide ((m + 1) % 2 = 1) = true from decide_eq_true (by omega)]
      cases decide (x = k - 1) <;> rfl
    · rw [show decide (m % 2 = 1) = true from decide_eq_true (by omega), show decide ((m + 1) % 2 = 1) = false from decide_eq_false (by omega)]
      cases decide (x = k - 1) <;> rfl
theorem home_last {k : Int} (k1 : 0 < k) : HomeN (fun y => y) (fun y => decide (y = k - 1)) k 2 := by
  refine ⟨by decide, fun m => ⟨fun h x _ _ => ⟨it_id m x, ?_⟩, fun h => ?_⟩⟩
  · rw [fl_last, show decide (m % 2 = 1) = false from decide_eq_false (by omega), Bool.and_false]
  · have := (h (k - 1) (by omega) (by omega)).2
    rw [fl_last, decide_eq_true rfl, Bool.true_and, decide_eq_false_iff_not] at this
    omega
/-! #### swap then turn -/
def swG (k x : Int) : Int := k - 1 - (if x % 2 = 1 then x - 1 else if k - 1 < x + 1 then k - 1 else x + 1)
theorem swE {k x : Int} (k0 : k % 2 = 0) (x0 : 0 ≤ x) (x1 : x < k) : swG k (swG k x) = x := by
  unfold swG
  by_cases h : x % 2 = 1
  · rw [if_pos h, if_pos (by omega)]; omega
  · have h1 : ¬ k - 1 < x + 1 := by omega
    rw [if_neg h, if_neg h1, if_neg (by omega), if_neg (by omega)]; omega
theorem sw_in {k x : Int} (x0 : 0 ≤ x) (x1 : x < k) : 0 ≤ swG k x ∧ swG k x < k := by
  unfold swG
  by_cases h : x % 2 = 1
  · rw [if_pos h]; omega
  · rw [if_neg h]
    by_cases h2 : k - 1 < x + 1
    · rw [if_pos h2]; omega
    · rw [if_neg h2]; omega
theorem it_swE {k : Int} (k0 : k % 2 = 0) : ∀ (m : Nat) (x : Int), 0 ≤ x → x < k → itF (swG k) m x = if m % 2 = 0 then x else swG k x
  | 0, _, _, _ => rfl
  | m + 1, x, x0, x1 => by
    show swG k (itF (swG k) m x) = _
    rw [it_swE k0 m x x0 x1]
    by_cases h : m % 2 = 0
    · rw [if_pos h, if_neg (by omega)]
    · rw [if_neg h, if_pos (by omega), swE k0 x0 x1]
theorem home_swE {bb : Int → Bool} {k : Int} (hb : ∀ x, bb x = false) (k0 : k % 2 = 0) (k1 : 0 < k) : HomeN (swG k) bb k (if k = 2 then 1 else 2) := by
  by_cases h : k = 2
  · rw [if_pos h]
    subst h
    refine ⟨by decide, fun m => ⟨fun _ x x0 x1 => (home_no hb).mpr ?_, fun _ => Nat.one_dvd m⟩⟩
    have e : swG 2 x = x := by
      have : x = 0 ∨ x = 1 := by omega
      rcases this with rfl | rfl <;> decide
    rw [it_swE k0 m x x0 x1, e]
    split <;> rfl
  · rw [if_neg h]
    refine ⟨by decide, fun m => ⟨fun hm x x0 x1 => (home_no hb).mpr ?_, fun hh => ?_⟩⟩
    · rw [it_swE k0 m x x0 x1, if_pos (by omega)]
    · have := (home_no hb).mp (hh 0 (Int.le_refl 0) k1)
      rw [it_swE k0 m 0 (Int.le_refl 0) k1] at this
      by_cases z : m % 2 = 0
      · omega
      · rw [if_neg z] at this
        unfold swG at this
        rw [if_neg (by decide), if_neg (by omega)] at this
        omega
theorem it_swO {k : Int} (k0 : k % 2 = 1) : ∀ m : Nat, (m : Int) < k → itF (swG k) m 0 = if m % 2 = 0 then (m : Int) else k - 1 - m
  | 0, _ => rfl
  | m + 1, h => by
    show swG k (itF (swG k) m 0) = _
    rw [it_swO k0 m (by omega)]
    by_cases z : m % 2 = 0
    · rw [if_pos z, if_neg (by omega)]
      unfold swG
      rw [if_neg (by omega), if_neg (by omega)]
      omega
    · rw [if_neg z, if_pos (by omega)]
      unfold swG
      rw [if_pos (by omega)]
      omega
theorem ret_swO {k : Int} (k0 : k % 2 = 1) (k1 : 0 < k) : Ret (swG k) 0 k.toNat := by
  refine ⟨by omega, ?_, fun i i0 i1 => ?_⟩
  · obtain ⟨m, hm⟩ : ∃ m : Nat, k.toNat = m + 1 := ⟨k.toNat - 1, by omega⟩
    rw [hm]
    show swG k (itF (swG k) m 0) = 0
    rw [it_swO k0 m (by omega), if_pos (by omega)]
    unfold swG
    rw [if_neg (by omega), if_pos (by omega)]
    omega
  · rw [it_swO k0 i (by omega)]
    split <;> omega
theorem reach_home {f g : Int → Int} {b : Int → Bool} {k : Int} {c : Nat} (p : Perm f g k) (k1 : 0 < k) (a : Ret f 0 c) (hr : ∀ x, 0 ≤ x → x < k → ∃ i : Nat, x = itF f i 0) : HomeN f b k (wN f b c 0) := by
  refine ⟨Nat.mul_pos a.pos (by omega), fun m => ?_⟩
  rw [← a.home]
  constructor
  · intro h x x0 x1
    obtain ⟨i, rfl⟩ := hr x x0 x1
    exact (home_it p (Int.le_refl 0) k1 i).mpr h
  · exact fun h => h 0 (Int.le_refl 0) k1
theorem home_swO {g : Int → Int} {bb : Int → Bool} {k : Int} (p : Perm (swG k) g k) (hb : ∀ x, bb x = false) (k0 : k % 2 = 1) (k1 : 0 < k) : HomeN (swG k) bb k k.toNat := by
  have h := reach_home (b := bb) p k1 (ret_swO k0 k1) fun x x0 x1 => by
    by_cases z : x % 2 = 0
    · refine ⟨x.toNat, ?_⟩
      rw [it_swO k0 x.toNat (by omega), if_pos (by omega)]
      omega
    · refine ⟨(k - 1 - x).toNat, ?_⟩
      rw [it_swO k0 _ (by omega), if_neg (by omega)]
      omega
  unfold wN at h
  rw [flB_no hb, if_neg (by decide), Nat.add_zero, Nat.mul_one] at h
  exact h
/-! #### flip each second, then roll by one -/
theorem it_one {f : Int → Int} {k : Int} (hf : ∀ x, f x = (x + 1) % k) : ∀ m : Nat, (m : Int) < k → itF f m 0 = m
  | 0, _ => rfl
  | m + 1, h => by
    show f (itF f m 0) = _
    rw [it_one hf m (by omega), hf, Int.emod_eq_of_lt (by omega) (by omega)]
    rfl
theorem fl_one {f : Int → Int} {k : Int} (hf : ∀ x, f x = (x + 1) % k) : ∀ m : Nat, (m : Int) ≤ k → flB f (fun x => decide (x % 2 = 0)) m 0 = decide ((m + 1) / 2 % 2 = 1)
  | 0, _ => rfl
  | m + 1, h => by
    show (flB f (fun x => decide (x % 2 = 0)) m 0 ^^ decide (itF f m 0 % 2 = 0)) = _
    rw [fl_one hf m (by omega), it_one hf m (by omega)]
    by_cases z : m % 2 = 0
    · rw [show decide ((m : Int) % 2 = 0) = true from decide_eq_true (by omega)]
      by_cases y : (m + 1) / 2 % 2 = 1
      · rw [decide_eq_true y, decide_eq_false (by omega)]; rfl
      · rw [decide_eq_false y, decide_eq_true (by omega)]; rfl
    · rw [show decide ((m : Int) % 2 = 0) = false from decide_eq_false (by omega), Bool.xor_false]
      by_cases y : (m + 1) / 2 % 2 = 1
      · rw [decide_eq_true y, decide_eq_true (by omega)]
      · rw [decide_eq_false y, decide_eq_false (by omega)]
theorem home_one {f g : Int → Int} {k : Int} (p : Perm f g k) (hf : ∀ x, f x = (x + 1) % k) (k1 : 0 < k) : HomeN f (fun x => decide (x % 2 = 0)) k (k.toNat * (1 + (k.toNat + 1) / 2 % 2)) := by
  have a : Ret f 0 k.toNat := by
    refine ⟨by omega, ?_, fun i i0 i1 => ?_⟩
    · obtain ⟨m, hm⟩ : ∃ m : Nat, k.toNat = m + 1 := ⟨k.toNat - 1, by omega⟩
      rw [hm]
      show f (itF f m 0) = 0
      rw [it_one hf m (by omega), hf, show (m : Int) + 1 = k by omega, Int.emod_self]
    · rw [it_one hf i (by omega)]
      omega
  have h := reach_home (b := fun x => decide (x % 2 = 0)) p k1 a fun x x0 x1 => ⟨x.toNat, by rw [it_one hf x.toNat (by omega)]; omega⟩
  unfold wN at h
  rw [fl_one hf k.toNat (by omega)] at h
  have e : (if decide ((k.toNat + 1) / 2 % 2 = 1) = true then 1 else 0) = (k.toNat + 1) / 2 % 2 := by
    by_cases z : (k.toNat + 1) / 2 % 2 = 1
    · rw [decide_eq_true z, if_pos rfl]; omega
    · rw [decide_eq_false z, if_neg (by decide)]; omega
  rw [e] at h
  exact h
end Aw
namespace Aw
open PySem PySem.Spec PyProof.Rows L2 NdefX
/-! #### the programs of the law -/
abbrev rTurn : Row := ("turn", none, none)
abbrev rSwap : Row := ("swap", none, none)
abbrev rDeal : Row := ("deal", none, none)
abbrev rUndeal : Row := ("undeal", none, none)
abbrev rFF : Row := ("flip first", none, none)
abbrev rF2 : Row := ("flip", none, some (0, 2))
abbrev rRoll (b : Int) : Row := ("roll", some b, none)
abbrev rw' (r : Row) : Str × Row := (textOf r, r)
theorem noFl {k : Int} : ∀ {ps : List (Str × Row)} {st : Int × Int}, (∀ p ∈ ps, p ∈ known ∧ p.2.1 ∈ movesL) → ((ps.map invS).foldl (folS k) st).2 = st.2
  | [], _, _ => rfl
  | p :: ps, st, h => by
    obtain ⟨h1, h2⟩ := h p List.mem_cons_self
    rw [List.map_cons, List.foldl_cons, noFl fun q hq => h q (List.mem_cons_of_mem _ hq)]
    rw [fS_mv rfl ((mf_of h1).mm.mp h2)]
theorem flb_no {ps : List (Str × Row)} (h : ∀ p ∈ ps, p ∈ known ∧ p.2.1 ∈ movesL) (k x : Int) : flb ps k x = false := by
  rw [flb_eq, noFl h]
  rfl
/-- a program of the law with its number of rounds -/
structure KnownH (ps : List (Str × Row)) (k : Int) (d : Nat) : Prop where
  kn : ∀ p ∈ ps, p ∈ known
  mf : ∀ p ∈ ps, isMF p = true
  bd : boundsE ps = none
  hm : HomeN (toL ps k) (flb ps k) k d
theorem all_mem {ps : List (Str × Row)} {q : Str × Row → Bool} (h : ps.all q = true) : ∀ p ∈ ps, q p = true := List.all_eq_true.mp h
theorem knH_roll {k b : Int} (hb : b ∈ ([1, 2, 3, -1, -2, -3] : List Int)) (k1 : 0 < k) : KnownH [rw' (rRoll b)] k (k.natAbs / Nat.gcd k.natAbs b.natAbs) := by
  have h1 : ∀ b ∈ ([1, 2, 3, -1, -2, -3] : List Int), rw' (rRoll b) ∈ known ∧ isMF (rw' (rRoll b)) = true ∧ boundsE [rw' (rRoll b)] = none ∧ (invS (rw' (rRoll b))).2 = rRoll (-b) := by decide +kernel
  obtain ⟨a1, a2, a3, a4⟩ := h1 b hb
  have hk : ∀ p ∈ [rw' (rRoll b)], p ∈ known := fun p hp => by rw [List.mem_singleton.mp hp]; exact a1
  have mv : ("roll" : Str) ∈ movesL := by decide +kernel
  refine ⟨hk, fun p hp => by rw [List.mem_singleton.mp hp]; exact a2, a3, home_roll (fun x => ?_) (flb_no (fun p hp => ⟨hk p hp, by rw [List.mem_singleton.mp hp]; exact mv⟩) k) k1⟩
  show hS k x (rw' (rRoll b)) = _
  rw [hS_mv a4 mv]
  show placeF "roll" (-b) k x = _
  rw [pl_roll, Int.sub_neg]
theorem knH_deal {k : Int} (k1 : 0 < k) (k2 : k ≤ 100) {M : Nat} (hM : (M : Int) = k - 1 + k % 2) : KnownH [rw' rDeal] k (ordN M) ∧ KnownH [rw' rUndeal] k (ordN M) := by
  have hk : ∀ p ∈ [rw' rDeal], p ∈ known := by decide +kernel
  have hk2 : ∀ p ∈ [rw' rUndeal], p ∈ known := by decide +kernel
  have mv : ∀ p ∈ [rw' rDeal], p.2.1 ∈ movesL := by decide +kernel
  have mv2 : ∀ p ∈ [rw' rUndeal], p.2.1 ∈ movesL := by decide +kernel
  have f1 := flb_no (fun p hp => ⟨hk p hp, mv p hp⟩) k
  have f2 := flb_no (fun p hp => ⟨hk2 p hp, mv2 p hp⟩) k
  have e : toL [rw' rDeal] k = dealG k := by
    funext x
    show hS k x (rw' rDeal) = _
    rw [hS_mv (r := rUndeal) (by decide +kernel) (by decide +kernel)]
    show placeF "undeal" 0 k x = _
    rw [pl_undeal]
    rfl
  have h1 : HomeN (toL [rw' rDeal] k) (flb [rw' rDeal] k) k (ordN M) := by
    rw [e]
    exact home_deal f1 k1 k2 hM
  refine ⟨⟨hk, by decide +kernel, by decide +kernel, h1⟩, hk2, by decide +kernel, by decide +kernel, ?_⟩
  have h2 := home_back (b' := flb [rw' rUndeal] k) (perm_prog hk k) f1 f2 h1
  have e2 : toL [rw' rUndeal] k = backL [rw' rDeal] k := by
    funext x
    rw [← toL_inv hk, show invP [rw' rDeal] = [rw' rUndeal] by decide +kernel]
  rw [e2]
  exact h2
theorem knH_last {k : Int} (k1 : 0 < k) : KnownH [rw' rTurn, rw' rFF, rw' rTurn] k 2 := by
  have hk : ∀ p ∈ [rw' rTurn, rw' rFF, rw' rTurn], p ∈ known := by decide +kernel
  have iT : (invS (rw' rTurn)).2 = rTurn := by decide +kernel
  have iF : (invS (rw' rFF)).2 = rFF := by decide +kernel
  have mT : ("turn" : Str) ∈ movesL := by decide +kernel
  have mF : ¬ ("flip first" : Str) ∈ movesL := by decide +kernel
  refine ⟨hk, by decide +kernel, by decide +kernel, home_congr (perm_prog hk k).fi (fun x _ _ => ?_) (fun x _ _ => ?_) (home_last k1)⟩
  · show hS k (hS k (hS k x (rw' rTurn)) (rw' rFF)) (rw' rTurn) = x
    rw [hS_mv (r := rTurn) iT mT, hS_fl (r := rFF) iF mF, hS_mv (r := rTurn) iT mT]
    show placeF "turn" 0 k (placeF "turn" 0 k x) = x
    rw [pl_turn, pl_turn]
    omega
  · rw [flb_eq]
    show decide ((folS k (folS k (folS k (x, 0) (invS (rw' rTurn))) (invS (rw' rFF))) (invS (rw' rTurn))).2 = 1) = decide (x = k - 1)
    rw [fS_mv (r := rTurn) iT mT, fS_mv (r := rTurn) iT mT, fS_fl (r := rFF) iF mF]
    show decide ((if flipF "flip first" none k (placeF "turn" 0 k x) = true then (placeF "turn" 0 k x, (1 : Int) - 0) else (placeF "turn" 0 k x, 0)).2 = 1) = _
    rw [pl_turn, show flipF "flip first" none k (k - 1 - x) = decide (k - 1 - x = 0) from if_pos rfl]
    by_cases z : x = k - 1
    · rw [decide_eq_true z, decide_eq_true (show k - 1 - x = 0 by omega), if_pos rfl]
      rfl
    · rw [decide_eq_false z, decide_eq_false (show ¬ k - 1 - x = 0 by omega), if_neg (by decide)]
      rfl
theorem knH_swap {k : Int} (k1 : 0 < k) : KnownH [rw' rSwap, rw' rTurn] k (if k % 2 = 1 then k.toNat else if k = 2 then 1 else 2) := by
  have hk : ∀ p ∈ [rw' rSwap, rw' rTurn], p ∈ known := by decide +kernel
  have mv : ∀ p ∈ [rw' rSwap, rw' rTurn], p.2.1 ∈ movesL := by decide +kernel
  have iT : (invS (rw' rTurn)).2 = rTurn := by decide +kernel
  have iS : (invS (rw' rSwap)).2 = rSwap := by decide +kernel
  have f1 := flb_no (fun p hp => ⟨hk p hp, mv p hp⟩) k
  have e : toL [rw' rSwap, rw' rTurn] k = swG k := by
    funext x
    show hS k (hS k x (rw' rSwap)) (rw' rTurn) = _
    rw [hS_mv (r := rTurn) iT (by decide +kernel), hS_mv (r := rSwap) iS (by decide +kernel)]
    show placeF "turn" 0 k (placeF "swap" 0 k x) = _
    rw [pl_turn, pl_swap]
    rfl
  refine ⟨hk, by decide +kernel, by decide +kernel, ?_⟩
  have pm := perm_prog hk k
  rw [e] at pm ⊢
  by_cases z : k % 2 = 1
  · rw [if_pos z]
    exact home_swO pm f1 z k1
  · rw [if_neg z]
    exact home_swE f1 (by omega) k1
theorem knH_one {k : Int} (k1 : 0 < k) : KnownH [rw' rF2, rw' (rRoll 1)] k (k.toNat * (1 + (k.toNat + 1) / 2 % 2)) := by
  have hk : ∀ p ∈ [rw' rF2, rw' (rRoll 1)], p ∈ known := by decide +kernel
  have iF : (invS (rw' rF2)).2 = rF2 := by decide +kernel
  have iR : (invS (rw' (rRoll 1))).2 = rRoll (-1) := by decide +kernel
  have mF : ¬ ("flip" : Str) ∈ movesL := by decide +kernel
  have mR : ("roll" : Str) ∈ movesL := by decide +kernel
  have e : ∀ x, toL [rw' rF2, rw' (rRoll 1)] k x = (x + 1) % k := fun x => by
    show hS k (hS k x (rw' rF2)) (rw' (rRoll 1)) = _
    rw [hS_fl (r := rF2) iF mF, hS_mv (r := rRoll (-1)) iR mR]
    show placeF "roll" (-1) k x = _
    rw [pl_roll]
    rfl
  have eb : flb [rw' rF2, rw' (rRoll 1)] k = fun x => decide (x % 2 = 0) := by
    funext x
    rw [flb_eq]
    show decide ((folS k (folS k (x, 0) (invS (rw' rF2))) (invS (rw' (rRoll 1)))).2 = 1) = decide (x % 2 = 0)
    rw [fS_mv (r := rRoll (-1)) iR mR, fS_fl (r := rF2) iF mF]
    show decide ((if flipF "flip" (some (0, 2)) k x = true then (x, (1 : Int) - 0) else (x, 0)).2 = 1) = _
    have ef : flipF "flip" (some (0, 2)) k x = decide (x % 2 = 0) := by
      unfold flipF
      rw [if_neg (by decide +kernel), if_neg (by decide +kernel)]
      rfl
    rw [ef]
    by_cases z : x % 2 = 0
    · rw [decide_eq_true z, if_pos rfl]; rfl
    · rw [decide_eq_false z, if_neg (by decide)]; rfl
  refine ⟨hk, by decide +kernel, by decide +kernel, ?_⟩
  rw [eb]
  exact home_one (perm_prog hk k) e k1
end Aw

namespace Aw
open PySem PySem.Spec PyProof.Rows L2 NdefX
def spLDiv : Sp := fun vs H Q _ => ∃ a b : Nat, vs = [.int (a : Nat), .int (b : Nat)] ∧ b ≤ 200 ∧ Q (.int ((Nat.gcd a b : Nat) : Int)) H
def spLOrd : Sp := fun vs H Q _ => ∃ M : Nat, vs = [.int 2, .int (M : Nat)] ∧ 1 ≤ M ∧ M ≤ 100 ∧ Q (.int (ordN M : Nat)) H
section
variable {P : Program} {w : World} {K : PySem.W.Frag} {mg : Str → Option Value} {base : Heap}
theorem scLDiv : FnScope ["_law_one", "_law_other", "_law_n"] ["_law_one", "_law_other"] (defScope sLDiv) := ⟨rfl, rfl, rfl, by decide +kernel, rfl, by decide +kernel, by decide +kernel⟩
theorem ok_ldiv {f : Addr} {fd : FuncData} (F : Fun K "_law_divisor" "_law_divisor" sLDiv f fd) (gR : mg "range" = none) (gI : mg "int" = none) : FnOk P w K mg base CX0 1 f fd ["_law_one", "_law_other"] spLDiv := by
  refine F.ok scLDiv (fun vs H Q E h => ?_) (fun cdv A outer s H vs Q E hr h => ?_)
  · obtain ⟨a, b, rfl, _⟩ := h
    rfl
  · obtain ⟨a, b, rfl, hb, hQ⟩ := h
    have nd := scLDiv.nd
    refine ⟨_, (pss_cons (ps_for PassesOwn.never rfl (pi_range1 rfl gR (pa_cons pe_int pa_nil)) (pg_name (i := 2) nd rfl (Or.inl rfl))
        (pss_one (ps_if (pt_cmpR op_gt (pv 1) pe_int (nomark _))
          (pss_one (ps_par (i := 0) (j := 1) rfl nd rfl rfl (by decide) rfl rfl (pa_cons (pv 1) (pa_cons (pe_op op_mod (pe_callTy call_int1 (by rfl) gI (by decide +kernel) (pa_cons (pv 0) pa_nil)) (pv 1)) pa_nil)) (by rfl))) pss_nil)))
      (pss_one (ps_ret (pv 0)))), ?_⟩
    refine ⟨200, rfl, by decide, by decide, ?_⟩
    refine for_range (n := (200 : Int).toNat) (fun q σ H' => ∃ (x y : Nat) (v2 : Option V), σ = [some (.int (x : Nat)), some (.int (y : Nat)), v2] ∧ H' = H ∧ Nat.gcd x y = Nat.gcd a b ∧ (y = 0 ∨ y + q ≤ 200)) ⟨a, b, none, rfl, rfl, rfl, .inr (by omega)⟩ ?_ ?_
    · rintro q σ H' hq ⟨x, y, v2, rfl, rfl, hg, hy⟩
      refine ⟨_, rfl, (y : Nat), 0, rfl, rfl, _, rfl, ite_dec (fun g => ?_) (fun g => ?_)⟩
      · have y0 : 0 < y := by omega
        refine ⟨_, rfl, _, rfl, .inl ⟨_, rfl, _, rfl, (x : Nat), (y : Nat), rfl, rfl, by omega, ⟨_, _, rfl, ?_⟩⟩⟩
        refine ⟨y, x % y, _, rfl, rfl, ?_, ?_⟩
        · rw [← hg, Nat.gcd_comm x y, Nat.gcd_rec y x, Nat.gcd_comm]
        · have := Nat.mod_lt x y0
          omega
      · have y0 : y = 0 := by omega
        subst y0
        exact nxt ⟨x, 0, _, rfl, rfl, hg, .inl rfl⟩
    · rintro σ H' ⟨x, y, v2, rfl, rfl, hg, hy⟩
      have hy : y = 0 ∨ y + 200 ≤ 200 := hy
      have y0 : y = 0 := by omega
      subst y0
      rw [Nat.gcd_zero_right] at hg
      subst hg
      exact ⟨_, rfl, hQ⟩
theorem scLOrd : FnScope ["_law_by", "_law_mod", "_law_power", "_law_due_here", "_law_n"] ["_law_by", "_law_mod"] (defScope sLOrd) := ⟨rfl, rfl, rfl, by decide +kernel, rfl, by decide +kernel, by decide +kernel⟩
theorem ok_lord {f : Addr} {fd : FuncData} (F : Fun K "_law_order" "_law_order" sLOrd f fd) (gR : mg "range" = none) (gI : mg "int" = none) : FnOk P w K mg base CX0 1 f fd ["_law_by", "_law_mod"] spLOrd := by
  refine F.ok scLOrd (fun vs H Q E h => ?_) (fun cdv A outer s H vs Q E hr h => ?_)
  · obtain ⟨M, rfl, _⟩ := h
    rfl
  · obtain ⟨M, rfl, M1, M2, hQ⟩ := h
    have nd := scLOrd.nd
    refine ⟨_, (pss_cons (ps_par (i := 2) (j := 3) rfl nd rfl rfl (by decide) rfl rfl (pa_cons (pe_op op_mod (pe_callTy call_int1 (by rfl) gI (by decide +kernel) (pa_cons (pv 0) pa_nil)) (pv 1)) (pa_cons pe_int pa_nil)) (by rfl))
      (pss_cons (ps_for PassesOwn.never rfl (pi_range1 rfl gR (pa_cons (pv 1) pa_nil)) (pg_name (i := 4) nd rfl (Or.inl rfl))
        (pss_one (ps_if (PW.pt (pw_and (pt_cmpR op_ne (pv 2) pe_int (nomark _)) (pw_and1 (pt_cmpR op_gt (pv 1) pe_int (nomark _)))))
          (pss_one (ps_par (i := 2) (j := 3) rfl nd rfl rfl (by decide) rfl rfl (pa_cons (pe_op op_mod (pe_callTy call_int1 (by rfl) gI (by decide +kernel) (pa_cons (pe_op op_mul (pv 2) (pv 0)) pa_nil)) (pv 1)) (pa_cons (pe_op op_add (pv 3) pe_int) pa_nil)) (by rfl))) pss_nil)))
      (pss_one (ps_ret (pv 3))))), ?_⟩
    refine ⟨_, rfl, .inl ⟨_, rfl, _, rfl, 2, (M : Nat), rfl, rfl, by omega, ⟨_, _, rfl, ?_⟩⟩⟩
    refine ⟨_, rfl, (M : Nat), rfl, by omega, by omega, ?_⟩
    refine for_range (n := (M : Int).toNat) (fun q σ H' => ∃ (v4 : Option V), σ = [some (.int 2), some (.int (M : Nat)), some (.int ((ordS M q).1 : Nat)), some (.int ((ordS M q).2 : Nat)), v4] ∧ H' = H) ⟨none, rfl, rfl⟩ ?_ ?_
    · rintro q σ H' hq ⟨v4, rfl, rfl⟩
      have e : ordS M (q + 1) = if (ordS M q).1 ≠ 1 ∧ 1 < M then ((ordS M q).1 * 2 % M, (ordS M q).2 + 1) else ordS M q := rfl
      refine ⟨_, rfl, rfl, _, rfl, ite_ndec (fun ne => ?_) (fun ne => ?_)⟩
      · have ne1 : (ordS M q).1 ≠ 1 := fun z => ne (by rw [z]; rfl)
        refine ⟨_, rfl, (M : Nat), 1, rfl, rfl, _, rfl, ite_dec (fun g => ?_) (fun g => ?_)⟩
        · rw [if_pos ⟨ne1, by omega⟩] at e
          refine ⟨_, rfl, _, rfl, ((ordS M q).1 : Nat), 2, rfl, rfl, .inr ⟨by decide, by decide⟩, .inl ⟨_, rfl, _, rfl, _, (M : Nat), rfl, rfl, by omega, _, rfl, ((ordS M q).2 : Nat), 1, rfl, rfl, _, _, rfl, ?_⟩⟩
          refine ⟨some (V.int (0 + (q : Nat))), ?_, rfl⟩
          rw [e]
          rfl
        · rw [if_neg (fun z => g (by have := z.2; omega))] at e
          exact nxt ⟨some (V.int (0 + (q : Nat))), by rw [e]; rfl, rfl⟩
      · rw [if_neg (fun z => z.1 (Int.ofNat_inj.mp (V.int.inj ne)))] at e
        exact iteF (nxt ⟨some (V.int (0 + (q : Nat))), by rw [e]; rfl, rfl⟩)
    · rintro σ H' ⟨v4, rfl, rfl⟩
      exact ⟨_, rfl, hQ⟩
end
end Aw

namespace Aw
open PySem PySem.Spec PyProof.Rows L2 NdefX
theorem row_ok {x : Str} {r : Row} (h : (x, r) ∈ known) : RowOk r := by
  have hb : ∀ hk : r.1 = "near" ∨ r.1 = "sum", ∃ b, r.2.1 = some b ∧ b ≠ 0 ∧ -4 < b ∧ b < 4 := fun hk => by
    have e := k_by _ h hk
    cases eb : r.2.1 with
    | none => rw [show (x, r).2.2.1 = none from eb] at e; cases e
    | some b =>
      rw [show (x, r).2.2.1 = some b from eb] at e
      unfold byB at e
      rw [Bool.and_eq_true, Bool.and_eq_true, decide_eq_true_eq, decide_eq_true_eq] at e
      exact ⟨b, rfl, fun z => by rw [z] at e; exact absurd e.1.1 (by decide), e.1.2, e.2⟩
  refine ⟨fun hk => known_roll (parse_iff.mpr h) hk, fun hk => ?_, fun hk => Option.isSome_iff_exists.mp (k_flip _ h hk), known_rest (parse_iff.mpr h), k_kind _ h, fun hk => Option.isNone_iff_eq_none.mp (k_bare _ h hk), fun b hk e => ?_⟩
  · obtain ⟨b, e, h0, h1, h2⟩ := hb hk
    exact ⟨b, e, h0, by omega, by omega⟩
  · obtain ⟨b', e', h0, h1, h2⟩ := hb hk
    rw [e] at e'
    cases e'
    exact ⟨h1, h2⟩
end Aw

namespace Aw
open PySem PySem.Spec PyProof.Rows L2 NdefX
theorem row_rollX : ∀ p ∈ known, isMF p = true → (invR p.2).1 = "roll" → (invR p.2).2.1.isSome = true := by decide +kernel
/-- one round, the flips counted -/
def fwdC (k : Int) (st : Int × Int) (p : Str × Row) : Int × Int :=
  if p.2.1 ∈ flipsL then (st.1, st.2 + bI (flF p.2 k st.1)) else (placeF (invR p.2).1 ((invR p.2).2.1.getD 0) k st.1, st.2)
def rowC (ps : List (Str × Row)) (k j : Int) : Int × Int := ps.foldl (fwdC k) (j, 0)
theorem rowC_all {k : Int} : ∀ {ps : List (Str × Row)} {st u : Int × Int}, u.1 = st.1 → u.2 % 2 = st.2 → 0 ≤ u.2 → (ps.foldl (fwdC k) u).1 = (ps.foldl (fwdS k) st).1 ∧ (ps.foldl (fwdC k) u).2 % 2 = (ps.foldl (fwdS k) st).2 ∧ 0 ≤ (ps.foldl (fwdC k) u).2
  | [], _, _, h1, h2, h3 => ⟨h1, h2, h3⟩
  | p :: ps, st, u, h1, h2, h3 => by
    rw [List.foldl_cons, List.foldl_cons]
    refine rowC_all ?_ ?_ ?_
    · unfold fwdC fwdS
      split
      · exact h1
      · rw [h1]
    · unfold fwdC fwdS
      split
      · show (u.2 + bI (flF p.2 k u.1)) % 2 = (st.2 + bI (flF p.2 k st.1)) % 2
        rw [h1, ← h2]
        omega
      · exact h2
    · unfold fwdC
      split
      · show 0 ≤ u.2 + bI (flF p.2 k u.1)
        cases flF p.2 k u.1
        · exact (by rw [show bI false = 0 from rfl]; omega)
        · exact (by rw [show bI true = 1 from rfl]; omega)
      · exact h3
theorem rowC_fst {ps : List (Str × Row)} {k j : Int} (hk : ∀ p ∈ ps, p ∈ known) (hm : ∀ p ∈ ps, isMF p = true) : (rowC ps k j).1 = toL ps k j := ((rowC_all (k := k) (ps := ps) (st := (j, 0)) (u := (j, 0)) rfl rfl (Int.le_refl 0)).1).trans (folL_fst hk hm)
theorem rowC_par {ps : List (Str × Row)} {k j : Int} (hk : ∀ p ∈ ps, p ∈ known) (hm : ∀ p ∈ ps, isMF p = true) : (rowC ps k j).2 % 2 = bI (flb ps k j) := by
  rw [← fol_bI, folL_eq hk hm]
  exact (rowC_all (k := k) (ps := ps) (st := (j, 0)) (u := (j, 0)) rfl rfl (Int.le_refl 0)).2.1
theorem rowC_nn {ps : List (Str × Row)} {k j : Int} : 0 ≤ (rowC ps k j).2 := (rowC_all (k := k) (ps := ps) (st := (j, 0)) (u := (j, 0)) rfl rfl (Int.le_refl 0)).2.2
/-- the flips of n rounds, counted -/
def fsN (ps : List (Str × Row)) (k : Int) : Nat → Int → Int
  | 0, _ => 0
  | n + 1, x => fsN ps k n x + (rowC ps k (itF (toL ps k) n x)).2
theorem fsN_par {ps : List (Str × Row)} {k x : Int} (hk : ∀ p ∈ ps, p ∈ known) (hm : ∀ p ∈ ps, isMF p = true) : ∀ n, fsN ps k n x % 2 = bI (flB (toL ps k) (flb ps k) n x) ∧ 0 ≤ fsN ps k n x
  | 0 => ⟨rfl, Int.le_refl 0⟩
  | n + 1 => by
    obtain ⟨a, b⟩ := fsN_par hk hm (x := x) n
    have c := rowC_par (j := itF (toL ps k) n x) (k := k) hk hm
    have d := rowC_nn (ps := ps) (j := itF (toL ps k) n x) (k := k)
    refine ⟨?_, ?_⟩
    · show (fsN ps k n x + (rowC ps k (itF (toL ps k) n x)).2) % 2 = bI (flB (toL ps k) (flb ps k) n x ^^ flb ps k (itF (toL ps k) n x))
      rw [Int.add_emod, a, c]
      cases flB (toL ps k) (flb ps k) n x <;> cases flb ps k (itF (toL ps k) n x) <;> rfl
    · show 0 ≤ fsN ps k n x + (rowC ps k (itF (toL ps k) n x)).2
      omega
/-- the rows of the law, the first n of them -/
structure RowsC (H : Hp) (r : Addr) (ps : List (Str × Row)) (k : Int) (n : Nat) : Prop where
  ex : ∃ ts : List Addr, H r = some (.lst (ts.map V.ref)) ∧ ts.length = n ∧ ∀ i t, ts[i]? = some t → H t = some (.tup [.int (rowC ps k (i : Nat)).1, .int (rowC ps k (i : Nat)).2])
theorem RowsC.same {H H' : Hp} {r : Addr} {ps : List (Str × Row)} {k : Int} {n : Nat} (h : RowsC H r ps k n) (s : Same H H') : RowsC H' r ps k n := by
  obtain ⟨ts, e, l, g⟩ := h.ex
  exact ⟨ts, s _ _ e, l, fun i t z => s _ _ (g i t z)⟩
theorem RowsC.get {H : Hp} {r : Addr} {ps : List (Str × Row)} {k : Int} {n : Nat} (h : RowsC H r ps k n) {j : Int} (j0 : 0 ≤ j) (j1 : j < n) : ∃ (xs : List V) (t : Addr), H r = some (.lst xs) ∧ atI xs j = some (.ref t) ∧ H t = some (.tup [.int (rowC ps k j).1, .int (rowC ps k j).2]) := by
  obtain ⟨ts, e, l, g⟩ := h.ex
  obtain ⟨i, rfl⟩ : ∃ i : Nat, j = (i : Int) := ⟨j.toNat, by omega⟩
  have hi : i < ts.length := by omega
  refine ⟨_, ts[i], e, atI_nat ?_, g i _ (List.getElem?_eq_getElem hi)⟩
  rw [List.getElem?_map, List.getElem?_eq_getElem hi]
  rfl
theorem RowsC.add {H : Hp} {r t : Addr} {ps : List (Str × Row)} {k : Int} {n : Nat} {xs : List V} (h : RowsC H r ps k n) (hx : H r = some (.lst xs)) (ht : H t = some (.tup [.int (rowC ps k (n : Nat)).1, .int (rowC ps k (n : Nat)).2])) : RowsC (upd H r (.lst (xs ++ [.ref t]))) r ps k (n + 1) := by
  obtain ⟨ts, e, l, g⟩ := h.ex
  rw [e] at hx
  cases hx
  refine ⟨ts ++ [t], by rw [upd_same, List.map_append]; rfl, by rw [List.length_append]; show ts.length + 1 = n + 1; omega, fun i u z => ?_⟩
  rcases Nat.lt_or_ge i ts.length with q | q
  · rw [List.getElem?_append_left q] at z
    have := g i u z
    rw [upd_ne (ne_of this e (fun z => by cases z))]
    exact this
  · rw [List.getElem?_append_right q] at z
    have hi : i = n := by
      have := (List.getElem?_eq_some_iff.mp z).1
      have h1 : ([t] : List Addr).length = 1 := rfl
      omega
    subst hi
    rw [← l, Nat.sub_self] at z
    cases z
    rw [upd_ne (ne_of ht e (fun z => by cases z))]
    exact ht
def spLDue (K : PySem.W.Frag) : Sp := fun vs H Q _ => ∃ (l : Addr) (us : List V) (ps : List (Str × Row)) (k : Int), vs = [.ref l, .int k] ∧ H l = some (.lst us) ∧ DqAll K H us (rowsK ps) ∧ (∀ p ∈ ps, p ∈ known) ∧ (∀ p ∈ ps, isMF p = true) ∧ 1 ≤ k ∧ k ≤ 100 ∧
  ∀ t : Nat, HomeN (toL ps k) (flb ps k) k t → ∀ H', Same H H' → Q (.int (t : Nat)) H'
section
variable {P : Program} {w : World} {K : PySem.W.Frag} {mg : Str → Option Value} {base : Heap} {fIv fBe fFl fDi : Addr}
theorem scLDue : FnScope ["_law_steps_here", "_law_k", "_law_rows", "_law_due_here", "_law_j", "_law_here", "_law_flips", "_law_step_here", "_law_many", "_law_n"] ["_law_steps_here", "_law_k"] (defScope sLDue) := ⟨rfl, rfl, rfl, by decide +kernel, rfl, by decide +kernel, by decide +kernel⟩
theorem ok_ldue {f : Addr} {fd vd bd ld dd : FuncData} (F : Fun K "_law_due" "_law_due" sLDue f fd) (gR : mg "range" = none) (gI : mg "int" = none)
    (GIv : FnOk P w K mg base CX0 1 fIv vd ["_law_step_here"] (spLIv K)) (FIv : Fun K "_law_inverse" "_law_inverse" sLIv fIv vd) (bIv : Binds K vd ["_law_step_here"] []) (gIv : mg "_law_inverse" = some (.ref fIv))
    (GBe : FnOk P w K mg base CX0 1 fBe bd ["_law_step_here", "_law_k", "_law_i"] (spLBefore K)) (FBe : Fun K "_law_before" "_law_before" sLBefore fBe bd) (bBe : Binds K bd ["_law_step_here", "_law_k", "_law_i"] []) (gBe : mg "_law_before" = some (.ref fBe))
    (GFl : FnOk P w K mg base CX0 1 fFl ld ["_law_step_here", "_law_k", "_law_i"] (spLFlip K)) (FFl : Fun K "_law_flipped" "_law_flipped" sLFlip fFl ld) (bFl : Binds K ld ["_law_step_here", "_law_k", "_law_i"] []) (gFl : mg "_law_flipped" = some (.ref fFl))
    (GDi : FnOk P w K mg base CX0 1 fDi dd ["_law_one", "_law_other"] spLDiv) (FDi : Fun K "_law_divisor" "_law_divisor" sLDiv fDi dd) (bDi : Binds K dd ["_law_one", "_law_other"] []) (gDi : mg "_law_divisor" = some (.ref fDi)) : FnOk P w K mg base CX0 2 f fd ["_law_steps_here", "_law_k"] (spLDue K) := by
  refine F.ok scLDue (fun vs H Q E h => ?_) (fun cdv A outer s H vs Q E hr h => ?_)
  · obtain ⟨l, us, ps, k, rfl, _⟩ := h
    rfl
  · obtain ⟨l, us, ps, k, rfl, hl, dus, hk, hm, k1, k2, hQ⟩ := h
    have nd := scLDue.nd
    refine ⟨_, (pss_cons (ps_par (i := 2) (j := 3) rfl nd rfl rfl (by decide) rfl rfl (pa_cons (pe_lst pa_nil) (pa_cons pe_int pa_nil)) (by rfl))
      (pss_cons (ps_for PassesOwn.never rfl (pi_range1 rfl gR (pa_cons (pv 1) pa_nil)) (pg_name (i := 4) nd rfl (Or.inl rfl))
        (pss_cons (ps_par (i := 5) (j := 6) rfl nd rfl rfl (by decide) rfl rfl (pa_cons (pv 4) (pa_cons pe_int pa_nil)) (by rfl))
        (pss_cons (ps_for PassesOwn.never rfl (pi_list (pv 0)) (pg_name (i := 7) nd rfl (Or.inl rfl))
          (pss_one (ps_if (pt_cmpR (show OpR _ (compareOp .In) (rIn K false) from op_in_seq) (pe_ix ix_tup (pv 7) pe_int (fun _ _ => rfl)) (pe_tup (pa_cons pe_str (pa_cons pe_str (pa_cons pe_str pa_nil)))) (by rfl))
            (pss_one (ps_set (i := 6) nd rfl (Or.inl rfl) (pe_op op_add (pv 6) (pe_call GFl (hr.mono (by decide)) (by rfl) gFl FFl.kp bFl .nil pass0 (pa_cons (pv 7) (pa_cons (pv 1) (pa_cons (pv 5) pa_nil)))))))
            (pss_one (ps_set (i := 5) nd rfl (Or.inl rfl) (pe_call GBe (hr.mono (by decide)) (by rfl) gBe FBe.kp bBe .nil pass0 (pa_cons (pe_call GIv (hr.mono (by decide)) (by rfl) gIv FIv.kp bIv .nil pass0 (pa_cons (pv 7) pa_nil)) (pa_cons (pv 1) (pa_cons (pv 5) pa_nil)))))))))
        (pss_one (ps_expr (pe_bm PySem.F.plainAttrs_list PySem.F.slot_list_append PySem.F.type_list_append mt_append (pv 2) (pa_cons (pe_tup (pa_cons (pv 5) (pa_cons (pv 6) pa_nil))) pa_nil)))))))
      (pss_cons (ps_for PassesOwn.never rfl (pi_range1 rfl gR (pa_cons (pv 1) pa_nil)) (pg_name (i := 4) nd rfl (Or.inl rfl))
        (pss_cons (ps_par3 (i := 5) (j := 6) (l := 8) rfl nd rfl rfl rfl (by decide) (by decide) (by decide) rfl rfl rfl (pa_cons (pe_ix ix_tup (pe_ix ix_list (pv 2) (pv 4) (fun _ _ => rfl)) pe_int (fun _ _ => rfl)) (pa_cons (pe_ix ix_tup (pe_ix ix_list (pv 2) (pv 4) (fun _ _ => rfl)) pe_int (fun _ _ => rfl)) (pa_cons pe_int pa_nil))) (by rfl))
        (pss_cons (ps_for PassesOwn.never rfl (pi_range1 rfl gR (pa_cons (pv 1) pa_nil)) (pg_name (i := 9) nd rfl (Or.inl rfl))
          (pss_one (ps_if (pt_cmpR op_ne (pv 5) (pv 4) (nomark _))
            (pss_cons (ps_par (i := 6) (j := 8) rfl nd rfl rfl (by decide) rfl rfl (pa_cons (pe_op op_add (pv 6) (pe_ix ix_tup (pe_ix ix_list (pv 2) (pv 5) (fun _ _ => rfl)) pe_int (fun _ _ => rfl))) (pa_cons (pe_op op_add (pv 8) pe_int) pa_nil)) (by rfl))
            (pss_one (ps_set (i := 5) nd rfl (Or.inl rfl) (pe_ix ix_tup (pe_ix ix_list (pv 2) (pv 5) (fun _ _ => rfl)) pe_int (fun _ _ => rfl))))) pss_nil)))
        (pss_cons (ps_set (i := 8) nd rfl (Or.inl rfl) (pe_op op_mul (pv 8) (pe_op op_add pe_int (pe_op op_mod (pe_callTy call_int1 (by rfl) gI (by decide +kernel) (pa_cons (pv 6) pa_nil)) pe_int))))
        (pss_one (ps_set (i := 3) nd rfl (Or.inl rfl) (pe_op op_fdiv (pe_op op_mul (pv 3) (pv 8)) (pe_call GDi (hr.mono (by decide)) (by rfl) gDi FDi.kp bDi .nil pass0 (pa_cons (pv 3) (pa_cons (pv 8) pa_nil))))))))))
      (pss_one (ps_ret (pv 3)))))), ?_⟩
    have lu : us.length = ps.length := dus.length.trans (List.length_map ..)
    have pm := perm_prog hk k
    -- BODY
    refine ⟨Nat.zero_le _, fun R hR => ⟨_, _, rfl, ?_⟩⟩
    have sR := same_upd (o := .lst []) hR
    refine ⟨_, rfl, k, rfl, by omega, by omega, ?_⟩
    refine for_range (n := k.toNat) (fun q σ H3 => ∃ (v4 v5 v6 v7 : Option V), σ = [some (.ref l), some (.int k), some (.ref R), some (.int 1), v4, v5, v6, v7, none, none] ∧ Same H H3 ∧ RowsC H3 R ps k q) ⟨none, none, none, none, rfl, sR, ⟨[], upd_same, rfl, fun i t z => by simp at z⟩⟩ ?_ ?_
    · rintro q σ H3 hq ⟨v4, v5, v6, v7, rfl, s3, rc⟩
      have j0 : (0 : Int) ≤ 0 + (q : Nat) := by omega
      have j1 : (0 : Int) + (q : Nat) < k := by omega
      obtain ⟨j, hj⟩ : ∃ j : Int, (0 : Int) + (q : Nat) = j := ⟨_, rfl⟩
      dsimp only
      rw [hj] at j0 j1 ⊢
      have hjq : j = (q : Nat) := by omega
      refine ⟨_, rfl, _, _, rfl, ?_⟩
      refine ⟨_, rfl, l, rfl, ⟨_, SqL.of (s3 _ _ hl)⟩, ?_⟩
      refine for_list (a := l) (xs := us) (fun m σ H4 => ∃ (v7 : Option V) (st : Int × Int), σ = [some (.ref l), some (.int k), some (.ref R), some (.int 1), some (.int j), some (.int st.1), some (.int st.2), v7, none, none] ∧ Same H3 H4 ∧ st = (ps.take m).foldl (fwdC k) (j, 0) ∧ 0 ≤ st.1 ∧ st.1 < k) ⟨_, (j, 0), rfl, same_refl _, rfl, j0, j1⟩ (fun m σ H4 _ z => by
        obtain ⟨_, _, _, s4, _⟩ := z
        exact SqL.of (s4 _ _ (s3 _ _ hl))) ?_ ?_
      · rintro m y σ H4 hy ⟨v7', ⟨pl, fl⟩, rfl, s4, e2, p0, p1⟩
        dsimp only at p0 p1
        obtain ⟨p, ip, dq0⟩ := rowsK_get dus hy
        have dq := dq0.keep (TK.same (s3.trans s4))
        have hp := hk p (List.mem_of_getElem? ip)
        have hmp := hm p (List.mem_of_getElem? ip)
        obtain ⟨t, w2, w3, rfl, st, _, _⟩ := row_get dq
        have etk : ps.take (m + 1) = ps.take m ++ [p] := by rw [List.take_succ, ip]; rfl
        have e3 : fwdC k (pl, fl) p = (ps.take (m + 1)).foldl (fwdC k) (j, 0) := by rw [etk, List.foldl_append, ← e2]; rfl
        refine ⟨_, rfl, t, _, 0, _, rfl, rfl, st, rfl, by show 3 ≤ sizeLine; decide, fun K1 hK1 => ⟨K1, _, rfl, .inr (SqT.of upd_same), rfl, flat_strs ["flip", "flip first", "flip last"], _, rfl, ?_⟩⟩
        have s5 := s4.trans (same_upd (o := .tup [.str "flip", .str "flip first", .str "flip last"]) hK1)
        have dq3 := dq.keep (TK.same (same_upd (o := .tup [.str "flip", .str "flip first", .str "flip last"]) hK1))
        show if inV (.str p.2.1) ((["flip", "flip first", "flip last"] : List Str).map V.str) = true then _ else _
        rw [in_strs]
        generalize upd H4 K1 (.tup [.str "flip", .str "flip first", .str "flip last"]) = H5 at *
        unfold fwdC at e3
        refine ite_dec (fun hf => ?_) (fun hf => ?_)
        · rw [if_pos (show p.2.1 ∈ flipsL from hf)] at e3
          have rk : RowOk p.2 := row_ok (x := p.1) hp
          refine ⟨_, rfl, _, rfl, _, rfl, _, rfl, _, p.2, k, pl, rfl, dq3, rk, fl, _, rfl, rfl, ?_⟩
          exact ⟨_, (pl, fl + bI (flF p.2 k pl)), rfl, s5, e3, p0, p1⟩
        · rw [if_neg (show ¬ p.2.1 ∈ flipsL from hf)] at e3
          refine ⟨_, rfl, _, p, rfl, hp, dq3, fun iv H6 s6 div => ?_⟩
          have hin := place_in (k := (invR p.2).1) (by_ := (invR p.2).2.1.getD 0) p0 p1
          refine ⟨_, rfl, _, rfl, iv, invR p.2, k, pl, rfl, div, fun z => Option.isSome_iff_exists.mp (row_rollX p hp hmp z), by omega, p0, p1, ?_⟩
          exact ⟨_, (placeF (invR p.2).1 ((invR p.2).2.1.getD 0) k pl, fl), rfl, s5.trans s6, e3, hin⟩
      · rintro σ H4 ⟨v7', ⟨pl, fl⟩, rfl, s4, e2, p0, p1⟩
        rw [List.take_of_length_le (by omega)] at e2
        dsimp only
        have rc4 := rc.same s4
        obtain ⟨ts, eR, lts, g⟩ := rc4.ex
        refine ⟨_, rfl, .inl ⟨rfl, _, SqL.of eR⟩, _, rfl, _, rfl, by show 2 ≤ sizeLine; decide, fun T hT => ?_⟩
        have sT := same_upd (o := .tup [V.int pl, V.int fl]) hT
        have rc5 := rc4.same sT
        have eR5 := sT _ _ eR
        refine ⟨R, _, _, rfl, rfl, eR5, by rw [List.length_map]; exact Nat.lt_of_lt_of_le (show ts.length < 1000 by omega) kz, ?_⟩
        refine ⟨_, _, _, _, rfl, same_fresh hR ((s3.trans s4).trans sT), rc5.add eR5 ?_⟩
        rw [upd_same]
        show some (HO.tup [V.int pl, V.int fl]) = some (.tup [.int ((ps.foldl (fwdC k) (((q : Nat) : Int), 0))).1, .int ((ps.foldl (fwdC k) (((q : Nat) : Int), 0))).2])
        rw [← hjq, ← e2]
    · rintro σ H3 ⟨v4, v5, v6, v7, rfl, s3, rc⟩
      dsimp only
      refine ⟨_, rfl, k, rfl, by omega, by omega, ?_⟩
      refine for_range (n := k.toNat) (fun q σ H4 => ∃ (v4 v5 v6 v7 v8 v9 : Option V) (due : Nat), σ = [some (.ref l), some (.int k), some (.ref R), some (.int (due : Nat)), v4, v5, v6, v7, v8, v9] ∧ H4 = H3 ∧ 0 < due ∧ ∀ m : Nat, due ∣ m ↔ ∀ x : Int, 0 ≤ x → x < q → home (toL ps k) (flb ps k) m x) ⟨v4, v5, v6, v7, none, none, 1, rfl, rfl, by decide, fun m => ⟨fun _ x x0 x1 => by omega, fun _ => Nat.one_dvd m⟩⟩ ?_ ?_
      · rintro q σ H4 hq ⟨v4, v5, v6, v7, v8, v9, due, rfl, rfl, d0, hd⟩
        have j0 : (0 : Int) ≤ 0 + (q : Nat) := by omega
        have j1 : (0 : Int) + (q : Nat) < k := by omega
        obtain ⟨j, hj⟩ : ∃ j : Int, (0 : Int) + (q : Nat) = j := ⟨_, rfl⟩
        dsimp only
        rw [hj] at j0 j1 ⊢
        obtain ⟨c, re, ck⟩ := ret_ex pm j0 j1
        obtain ⟨xs, t, eR, hat, et⟩ := rc.get j0 (by omega)
        refine ⟨_, rfl, _, rfl, R, xs, j, _, rfl, rfl, SqL.of eR, hat, t, _, 0, _, rfl, rfl, SqT.of et, rfl, _, rfl, _, rfl, R, xs, j, _, rfl, rfl, SqL.of eR, hat, t, _, 1, _, rfl, rfl, SqT.of et, rfl, _, _, _, rfl, ?_⟩
        refine ⟨_, rfl, k, rfl, by omega, by omega, ?_⟩
        have c1 := re.pos
        refine for_range (n := k.toNat) (fun n σ H5 => ∃ (v9 : Option V) (i : Nat), σ = [some (.ref l), some (.int k), some (.ref R), some (.int (due : Nat)), some (.int j), some (.int (itF (toL ps k) i j)), some (.int (fsN ps k i j)), v7, some (.int (i : Nat)), v9] ∧ H5 = H4 ∧ 1 ≤ i ∧ i ≤ c ∧ (i = n + 1 ∨ i = c)) ⟨v9, 1, ?_, rfl, by decide, c1, .inl rfl⟩ ?_ ?_
        · have a1 : (rowC ps k j).1 = itF (toL ps k) 1 j := rowC_fst hk hm
          have a2 : (rowC ps k j).2 = fsN ps k 1 j := (Int.zero_add _).symm
          rw [← a1, ← a2]
          rfl
        · rintro n σ H5 hn ⟨v9', i, rfl, rfl, i1, ic, hi⟩
          obtain ⟨y0, y1⟩ := pm.in_ j0 j1 i
          dsimp only
          refine ⟨_, rfl, _, rfl, rfl, _, rfl, ite_ndec (fun ne => ?_) (fun e => ?_)⟩
          · have ne : itF (toL ps k) i j ≠ j := fun z => ne (congrArg V.int z)
            have ic2 : i < c := by
              rcases Nat.lt_or_ge i c with z | z
              · exact z
              · have : i = c := by omega
                rw [this] at ne
                exact absurd re.ret ne
            obtain ⟨ys, u, eR2, hat2, eu⟩ := rc.get y0 (by omega)
            refine ⟨_, rfl, _, rfl, _, rfl, R, ys, _, _, rfl, rfl, SqL.of eR2, hat2, u, _, 1, _, rfl, rfl, SqT.of eu, rfl, _, _, rfl, rfl, _, rfl, _, 1, rfl, rfl, _, _, rfl, ?_⟩
            refine ⟨_, rfl, _, rfl, R, ys, _, _, rfl, rfl, SqL.of eR2, hat2, u, _, 0, _, rfl, rfl, SqT.of eu, rfl, ?_⟩
            refine ⟨some (V.int (0 + (n : Nat))), i + 1, ?_, rfl, by omega, by omega, ?_⟩
            · have a1 : (rowC ps k (itF (toL ps k) i j)).1 = itF (toL ps k) (i + 1) j := rowC_fst hk hm
              rw [← a1]
              rfl
            · rcases hi with z | z
              · exact .inl (by omega)
              · omega
          · have e : itF (toL ps k) i j = j := V.int.inj e
            have ic2 : i = c := by
              rcases Nat.lt_or_ge i c with z | z
              · exact absurd e (re.no i (by omega) z)
              · omega
            exact nxt ⟨_, i, rfl, rfl, i1, ic, .inr ic2⟩
        · rintro σ H5 ⟨v9', i, rfl, rfl, i1, ic, hi⟩
          have ic2 : i = c := by
            rcases hi with z | z
            · omega
            · exact z
          subst ic2
          obtain ⟨fp, fn⟩ := fsN_par (k := k) (x := j) hk hm i
          dsimp only
          refine ⟨_, rfl, _, rfl, .inl ⟨_, rfl, fsN ps k i j, 2, rfl, rfl, (show (0 : Int) < 2 by decide), 1, _, rfl, rfl, (i : Nat), _, rfl, rfl, .inl ⟨by omega, by omega⟩, ?_⟩⟩
          have hw : ((i : Nat) : Int) * (1 + fsN ps k i j % 2) = ((wN (toL ps k) (flb ps k) i j : Nat) : Int) := by
            rw [fp]
            unfold wN
            cases flB (toL ps k) (flb ps k) i j
            · rw [if_neg (by decide)]; show (i : Int) * (1 + 0) = _; omega
            · rw [if_pos rfl]; show (i : Int) * (1 + 1) = _; omega
          have wle : wN (toL ps k) (flb ps k) i j ≤ 200 := by
            unfold wN
            split <;> omega
          have wpos : 0 < wN (toL ps k) (flb ps k) i j := Nat.mul_pos i1 (by omega)
          dsimp only
          rw [hw]
          generalize hW : wN (toL ps k) (flb ps k) i j = W at *
          have gp : 0 < Nat.gcd due W := Nat.gcd_pos_of_pos_left _ d0
          have gl : Nat.gcd due W ≤ W := Nat.le_of_dvd wpos (Nat.gcd_dvd_right due W)
          refine ⟨_, rfl, _, rfl, (due : Nat), (W : Nat), rfl, rfl, .inr ⟨by omega, by omega⟩, _, rfl, _, rfl, due, W, rfl, wle, _, _, rfl, rfl, ⟨by omega, by omega⟩, ?_⟩
          refine ⟨some (V.int j), some (V.int (itF (toL ps k) i j)), some (V.int (fsN ps k i j)), v7, some (V.int (W : Nat)), v9', Nat.lcm due W, ?_, rfl, Nat.lcm_pos d0 wpos, fun m => ?_⟩
          · have e : (due : Int) * (W : Int) / ((Nat.gcd due W : Nat) : Int) = ((Nat.lcm due W : Nat) : Int) := by
              unfold Nat.lcm
              rw [Int.natCast_ediv, Int.natCast_mul]
            rw [← e]
            rfl
          · rw [Nat.lcm_dvd_iff, hd, ← hW, ← re.home]
            constructor
            · rintro ⟨h1, h2⟩ x x0 x1
              by_cases z : x = j
              · rw [z]; exact h2
              · exact h1 x x0 (by omega)
            · exact fun h => ⟨fun x x0 x1 => h x x0 (by omega), h j j0 (by omega)⟩
      · rintro σ H4 ⟨v4, v5, v6, v7, v8, v9, due, rfl, rfl, d0, hd⟩
        refine ⟨_, rfl, hQ due ⟨d0, fun m => (hd m).trans ⟨fun h x x0 x1 => h x x0 (by omega), fun h x x0 x1 => h x x0 (by omega)⟩⟩ _ s3⟩
end
end Aw

namespace Aw
open PySem PySem.Spec PyProof.Rows L2 NdefX
def spLKn (K : PySem.W.Frag) : Sp := fun vs H Q _ => ∃ (p c : Addr) (k : Int) (n : Nat), vs = [.ref p, .int k] ∧ Pen H p c n ∧ n ≤ 900000 ∧ 1 ≤ k ∧ k ≤ 100 ∧
  ∀ (t : Addr) (ps : List (Str × Row)) (d : Nat) (H' : Hp), But p H H' → Pen H' p c (n + 5) → H' t = some (.tup [.str (textP ps), .int (d : Nat)]) → KnownH ps k d → ps.length ≤ 5 → Q (.ref t) H'
theorem roll_text : ∀ b ∈ ([1, 2, 3, -1, -2, -3] : List Int), ("roll " : Str) ++ strI b = textP [rw' (rRoll b)] ∧ b.natAbs.log2 < 1920 ∧ (strI b).length ≤ 10 ∧ b.natAbs ≤ 200 := by decide +kernel
section
variable {P : Program} {w : World} {K : PySem.W.Frag} {mg : Str → Option Value} {base : Heap} {fD fPk fDi fOr : Addr}
theorem scLKn : FnScope ["_law_pen_here", "_law_k", "_law_way", "_law_by"] ["_law_pen_here", "_law_k"] (defScope sLKn) := ⟨rfl, rfl, rfl, by decide +kernel, rfl, by decide +kernel, by decide +kernel⟩
theorem ok_lkn {f : Addr} {fd dd pd vd od : FuncData} (F : Fun K "_law_known" "_law_known" sLKn f fd) (gS : mg "str" = none) (gA : mg "abs" = none) (gI : mg "int" = none)
    (GD : FnOk P w K mg base CX0 1 fD dd ["_law_pen_here", "_law_many"] spDraw) (FD : Fun K "_law_draw" "_law_draw" sDraw fD dd) (bD : Binds K dd ["_law_pen_here", "_law_many"] []) (gD : mg "_law_draw" = some (.ref fD))
    (GPk : FnOk P w K mg base CX0 2 fPk pd ["_law_pen_here", "_law_some"] (spPick K)) (FPk : Fun K "_law_pick" "_law_pick" sPick fPk pd) (bPk : Binds K pd ["_law_pen_here", "_law_some"] []) (gPk : mg "_law_pick" = some (.ref fPk))
    (GDi : FnOk P w K mg base CX0 1 fDi vd ["_law_one", "_law_other"] spLDiv) (FDi : Fun K "_law_divisor" "_law_divisor" sLDiv fDi vd) (bDi : Binds K vd ["_law_one", "_law_other"] []) (gDi : mg "_law_divisor" = some (.ref fDi))
    (GOr : FnOk P w K mg base CX0 1 fOr od ["_law_by", "_law_mod"] spLOrd) (FOr : Fun K "_law_order" "_law_order" sLOrd fOr od) (bOr : Binds K od ["_law_by", "_law_mod"] []) (gOr : mg "_law_order" = some (.ref fOr)) : FnOk P w K mg base CX0 3 f fd ["_law_pen_here", "_law_k"] (spLKn K) := by
  refine F.ok scLKn (fun vs H Q E h => ?_) (fun cdv A outer s H vs Q E hr h => ?_)
  · obtain ⟨p, c, k, n, rfl, _⟩ := h
    rfl
  · obtain ⟨p, c, k, n, rfl, pn, hn, k1, k2, hQ⟩ := h
    have nd := scLKn.nd
    refine ⟨_, (pss_cons (ps_par (i := 2) (j := 3) rfl nd rfl rfl (by decide) rfl rfl (pa_cons (pe_call GD (hr.mono (by decide)) (by rfl) gD FD.kp bD .nil pass0 (pa_cons (pv 0) (pa_cons pe_int pa_nil))) (pa_cons (pe_call GPk (hr.mono (by decide)) (by rfl) gPk FPk.kp bPk .nil pass0 (pa_cons (pv 0) (pa_cons (pe_lst (pa_cons pe_int (pa_cons pe_int (pa_cons pe_int (pa_cons (pe_un un_neg pe_int) (pa_cons (pe_un un_neg pe_int) (pa_cons (pe_un un_neg pe_int) pa_nil))))))) pa_nil))) pa_nil)) (by rfl))
      (pss_cons (ps_if (pt_cmpR op_eq (pv 2) pe_int (nomark _))
        (pss_one (ps_ret (pe_tup (pa_cons (pe_op op_add_str pe_str (pe_callTy call_str_int (by rfl) gS (by decide +kernel) (pa_cons (pv 3) pa_nil))) (pa_cons (pe_op op_fdiv (pv 1) (pe_call GDi (hr.mono (by decide)) (by rfl) gDi FDi.kp bDi .nil pass0 (pa_cons (pv 1) (pa_cons (pe_callB call_abs (by rfl) gA (by decide +kernel) (pa_cons (pv 3) pa_nil)) pa_nil)))) pa_nil))))) pss_nil)
      (pss_cons (ps_if (pt_cmpR op_eq (pv 2) pe_int (nomark _))
        (pss_one (ps_ret (pe_tup (pa_cons (pe_call GPk (hr.mono (by decide)) (by rfl) gPk FPk.kp bPk .nil pass0 (pa_cons (pv 0) (pa_cons (pe_lst (pa_cons pe_str (pa_cons pe_str pa_nil))) pa_nil))) (pa_cons (pe_call GOr (hr.mono (by decide)) (by rfl) gOr FOr.kp bOr .nil pass0 (pa_cons pe_int (pa_cons (pe_op op_add (pe_op op_sub (pv 1) pe_int) (pe_op op_mod (pe_callTy call_int1 (by rfl) gI (by decide +kernel) (pa_cons (pv 1) pa_nil)) pe_int)) pa_nil))) pa_nil))))) pss_nil)
      (pss_cons (ps_if (pt_cmpR op_eq (pv 2) pe_int (nomark _))
        (pss_one (ps_ret (pe_tup (pa_cons pe_str (pa_cons pe_int pa_nil))))) pss_nil)
      (pss_cons (ps_if (pt_cmpR op_eq (pv 2) pe_int (nomark _))
        (pss_one (ps_ret (pe_tup (pa_cons pe_str (pa_cons (pe_ix ix_list (pe_lst (pa_cons (pe_op op_add pe_int (pe_callTy call_int1 (by rfl) gI (by decide +kernel) (pa_cons (pe_cmpR op_ne (pv 1) pe_int (nomark _)) pa_nil))) (pa_cons (pv 1) pa_nil))) (pe_op op_mod (pe_callTy call_int1 (by rfl) gI (by decide +kernel) (pa_cons (pv 1) pa_nil)) pe_int) (fun _ _ => rfl)) pa_nil))))) pss_nil)
      (pss_one (ps_ret (pe_tup (pa_cons pe_str (pa_cons (pe_op op_mul (pv 1) (pe_op op_add pe_int (pe_op op_mod (pe_callTy call_int1 (by rfl) gI (by decide +kernel) (pa_cons (pe_op op_fdiv (pe_op op_add (pv 1) pe_int) pe_int) pa_nil)) pe_int))) pa_nil)))))))))), ?_⟩
    refine ⟨_, rfl, p, c, 5, n, rfl, pn, by omega, by decide, by decide, fun d H1 d0 d1 b1 p1 => ⟨_, rfl, 1, rfl, 2, rfl, 3, rfl, by show 6 ≤ sizeLine; decide, fun lq hlq => ?_⟩⟩
    have sq := same_upd (o := .lst [.int 1, .int 2, .int 3, .int (-1), .int (-2), .int (-3)]) hlq
    refine ⟨p, c, lq, [.int 1, .int 2, .int 3, .int (-1), .int (-2), .int (-3)], n + 1, rfl, p1.same sq, by omega, SqL.of upd_same, by show 0 < 6; decide, by show 6 ≤ 1000000; decide, fun iq vq H3 hq b3 p3 => ⟨_, _, rfl, ?_⟩⟩
    have b13 := (b1.trans (But.same sq)).trans b3
    obtain ⟨b, rfl, hb⟩ : ∃ b : Int, vq = .int b ∧ b ∈ ([1, 2, 3, -1, -2, -3] : List Int) := by
      have hm : vq ∈ ([1, 2, 3, -1, -2, -3] : List Int).map V.int := List.mem_of_getElem? hq
      obtain ⟨b, h1, h2⟩ := List.mem_map.mp hm
      exact ⟨b, h2.symm, h1⟩
    obtain ⟨t1, t2, t3, t4⟩ := roll_text b hb
    refine ⟨_, rfl, rfl, _, rfl, ite_int (fun e => ?_) (fun e => ?_)⟩
    · refine ⟨_, rfl, b, rfl, t2, _, _, rfl, rfl, small200 (by show 5 + (strI b).length ≤ 1000; omega), _, rfl, _, rfl, _, rfl, b, rfl, k.natAbs, b.natAbs, ?_, t4, k, _, rfl, rfl, ?_, by show 2 ≤ sizeLine; decide, fun T hT => ?_⟩
      · show [V.int k, V.int (if b < 0 then -b else b)] = _
        rw [show (if b < 0 then -b else b) = (b.natAbs : Int) by split <;> omega, show k = (k.natAbs : Int) by omega, Int.natAbs_natCast]
      · have g0 : 0 < Nat.gcd k.natAbs b.natAbs := Nat.gcd_pos_of_pos_left _ (by omega)
        have g1 := Nat.le_of_dvd (show 0 < k.natAbs by omega) (Nat.gcd_dvd_left k.natAbs b.natAbs)
        exact ⟨by omega, by omega⟩
      · have sT := same_upd (o := .tup [V.str ("roll " ++ strI b), V.int (k / ((Nat.gcd k.natAbs b.natAbs : Nat) : Int))]) hT
        refine hQ T [rw' (rRoll b)] (k.natAbs / Nat.gcd k.natAbs b.natAbs) _ (b13.trans (But.same sT)) ((p3.same sT).mono (by omega)) ?_ (knH_roll hb (by omega)) (by show 1 ≤ 5; decide)
        rw [← t1]
        refine upd_same.trans ?_
        have e2 : k / ((Nat.gcd k.natAbs b.natAbs : Nat) : Int) = ((k.natAbs / Nat.gcd k.natAbs b.natAbs : Nat) : Int) := by
          rw [Int.natCast_ediv, show ((k.natAbs : Nat) : Int) = k by omega]
        rw [← e2]
        rfl
    refine nxt ?_
    dsimp only
    refine ⟨_, rfl, rfl, _, rfl, ite_int (fun e => ?_) (fun e => ?_)⟩
    · obtain ⟨M, hM⟩ : ∃ M : Nat, (M : Int) = k - 1 + k % 2 := ⟨(k - 1 + k % 2).toNat, by omega⟩
      obtain ⟨kd, ku⟩ := knH_deal (k := k) (by omega) k2 hM
      refine ⟨_, rfl, by show 2 ≤ sizeLine; decide, fun L2 hL2 => ?_⟩
      have sL := same_upd (o := .lst [.str "deal", .str "undeal"]) hL2
      refine ⟨p, c, L2, [.str "deal", .str "undeal"], _, rfl, p3.same sL, by omega, SqL.of upd_same, by show 0 < 2; decide, by show 2 ≤ 1000000; decide, fun iq v2 H4 hq2 b4 p4 => ?_⟩
      have b14 := (b13.trans (But.same sL)).trans b4
      refine ⟨_, rfl, k, 1, rfl, rfl, _, rfl, .inl ⟨_, rfl, k, 2, rfl, rfl, (show (0 : Int) < 2 by decide), _, _, rfl, rfl, M, ?_, by omega, by omega, by show 2 ≤ sizeLine; decide, fun T hT => ?_⟩⟩
      · show [V.int 2, V.int (k - 1 + k % 2)] = _
        rw [← hM]
      have sT := same_upd (o := .tup [v2, V.int (ordN M : Nat)]) hT
      have bT := b14.trans (But.same sT)
      have pT := (p4.same sT).mono (show n + 1 + 1 + 1 ≤ n + 5 by omega)
      have hm := List.mem_of_getElem? hq2
      rcases List.mem_cons.mp hm with rfl | hm
      · exact hQ T [rw' rDeal] (ordN M) _ bT pT (upd_same.trans (by rw [show textP [rw' rDeal] = "deal" by decide +kernel])) kd (by show 1 ≤ 5; decide)
      · obtain rfl := List.mem_singleton.mp hm
        exact hQ T [rw' rUndeal] (ordN M) _ bT pT (upd_same.trans (by rw [show textP [rw' rUndeal] = "undeal" by decide +kernel])) ku (by show 1 ≤ 5; decide)
    refine nxt ?_
    dsimp only
    refine ⟨_, rfl, rfl, _, rfl, ite_int (fun e => ?_) (fun e => ?_)⟩
    · refine ⟨by show 2 ≤ sizeLine; decide, fun T hT => ?_⟩
      have sT := same_upd (o := .tup [.str "turn then flip first then turn", .int 2]) hT
      exact hQ T [rw' rTurn, rw' rFF, rw' rTurn] 2 _ (b13.trans (But.same sT)) ((p3.same sT).mono (by omega)) (upd_same.trans (by rw [show textP [rw' rTurn, rw' rFF, rw' rTurn] = "turn then flip first then turn" by decide +kernel]; rfl)) (knH_last (by omega)) (by show 3 ≤ 5; decide)
    refine nxt ?_
    dsimp only
    refine ⟨_, rfl, rfl, _, rfl, ite_int (fun e => ?_) (fun e => ?_)⟩
    · refine ⟨_, rfl, rfl, .inr ⟨_, rfl, 1, _, rfl, rfl, _, rfl, by show 2 ≤ sizeLine; decide, fun L hL => ?_⟩⟩
      have hs := knH_swap (k := k) (by omega)
      refine ⟨_, rfl, .inl ⟨_, rfl, k, 2, rfl, rfl, (show (0 : Int) < 2 by decide), L, _, k % 2, V.int ((if k % 2 = 1 then k.toNat else if k = 2 then 1 else 2 : Nat) : Int), rfl, rfl, SqL.of upd_same, ?_, by show 2 ≤ sizeLine; decide, fun T hT => ?_⟩⟩
      · by_cases z : k % 2 = 1
        · rw [z, if_pos rfl, show ((k.toNat : Nat) : Int) = k by omega]
          rfl
        · rw [show k % 2 = 0 by omega, if_neg (show ¬ (0 : Int) = 1 by decide)]
          by_cases z2 : k = 2
          · rw [if_pos z2]
            subst z2
            rfl
          · rw [if_neg z2]
            have : (!decide (V.int k = V.int 2)) = true := by rw [decide_eq_false fun q => z2 (V.int.inj q)]; rfl
            rw [this]
            rfl
      · have sL := same_upd (o := .lst [V.int (1 + if (!decide (V.int k = V.int 2)) = true then 1 else 0), V.int k]) hL
        have sT := sL.trans (same_upd (o := .tup [.str "swap then turn", V.int ((if k % 2 = 1 then k.toNat else if k = 2 then 1 else 2 : Nat) : Int)]) hT)
        exact hQ T [rw' rSwap, rw' rTurn] _ _ (b13.trans (But.same sT)) ((p3.same sT).mono (by omega)) (upd_same.trans (by rw [show textP [rw' rSwap, rw' rTurn] = "swap then turn" by decide +kernel])) hs (by show 2 ≤ 5; decide)
    refine nxt ?_
    dsimp only
    refine ⟨_, rfl, _, rfl, k, 1, rfl, rfl, _, 2, rfl, rfl, ⟨by decide, by decide⟩, .inl ⟨_, rfl, _, 2, rfl, rfl, (show (0 : Int) < 2 by decide), 1, _, rfl, rfl, k, _, rfl, rfl, .inl ⟨by omega, by omega⟩, by show 2 ≤ sizeLine; decide, fun T hT => ?_⟩⟩
    have sT := same_upd (o := .tup [.str "flip 0 of 2 then roll 1", V.int (k * (1 + (k + 1) / 2 % 2))]) hT
    refine hQ T [rw' rF2, rw' (rRoll 1)] (k.toNat * (1 + (k.toNat + 1) / 2 % 2)) _ (b13.trans (But.same sT)) ((p3.same sT).mono (by omega)) (upd_same.trans ?_) (knH_one (by omega)) (by show 2 ≤ 5; decide)
    have e2 : k * (1 + (k + 1) / 2 % 2) = ((k.toNat * (1 + (k.toNat + 1) / 2 % 2) : Nat) : Int) := by
      rw [Int.natCast_mul, show ((k.toNat : Nat) : Int) = k by omega, show ((1 + (k.toNat + 1) / 2 % 2 : Nat) : Int) = 1 + (k + 1) / 2 % 2 by omega]
    rw [show textP [rw' rF2, rw' (rRoll 1)] = "flip 0 of 2 then roll 1" by decide +kernel, ← e2]
end
end Aw

namespace Aw
open PySem PySem.Spec PyProof.Rows L2 NdefX
def doneN (ps : List (Str × Row)) : Nat → List Bool → List Bool
  | 0, w => w
  | n + 1, w => progF' ps (doneN ps n w)
theorem doneN_len (ps : List (Str × Row)) (w : List Bool) : ∀ n, (doneN ps n w).length = w.length
  | 0 => rfl
  | n + 1 => (prog_len _ _).trans (doneN_len ps w n)
theorem bit_round {ps : List (Str × Row)} {w : List Bool} {x : Int} (hk : ∀ p ∈ ps, p ∈ known) (hm : ∀ p ∈ ps, isMF p = true) (x0 : 0 ≤ x) (x1 : x < w.length) : (progF' ps w).getD (toL ps w.length x).toNat false = (w.getD x.toNat false ^^ flb ps w.length x) := by
  have wb := word_bit (ps := ps) (w := w) (st := (x, 0)) hk hm (.inl rfl) x0 x1
  have efst := folL_fst (k := (w.length : Int)) (j := x) hk hm
  have esnd : decide ((folL ps w.length x).2 = 1) = flb ps w.length x := by
    unfold flb
    rw [folL_eq hk hm]
  unfold folL at efst esnd
  rw [efst, esnd] at wb
  rw [wb]
  show ((w.getD x.toNat false ^^ false) ^^ flb ps w.length x) = _
  rw [Bool.xor_false]
theorem bit_n {ps : List (Str × Row)} {w : List Bool} {x : Int} (hk : ∀ p ∈ ps, p ∈ known) (hm : ∀ p ∈ ps, isMF p = true) (x0 : 0 ≤ x) (x1 : x < w.length) : ∀ n, (doneN ps n w).getD (itF (toL ps w.length) n x).toNat false = (w.getD x.toNat false ^^ flB (toL ps w.length) (flb ps w.length) n x)
  | 0 => by
    show w.getD x.toNat false = (w.getD x.toNat false ^^ false)
    rw [Bool.xor_false]
  | n + 1 => by
    have pm := perm_prog hk (w.length : Int)
    obtain ⟨y0, y1⟩ := pm.in_ x0 x1 n
    have h := bit_round (w := doneN ps n w) (x := itF (toL ps w.length) n x) hk hm y0 (by rw [doneN_len]; exact y1)
    rw [doneN_len] at h
    show (progF' ps (doneN ps n w)).getD (toL ps w.length (itF (toL ps w.length) n x)).toNat false = (w.getD x.toNat false ^^ (flB (toL ps w.length) (flb ps w.length) n x ^^ flb ps w.length (itF (toL ps w.length) n x)))
    rw [h, bit_n hk hm x0 x1 n, Bool.xor_assoc]
theorem home_word {ps : List (Str × Row)} {w : List Bool} {m : Nat} (hk : ∀ p ∈ ps, p ∈ known) (hm : ∀ p ∈ ps, isMF p = true) (h : ∀ x, 0 ≤ x → x < (w.length : Int) → home (toL ps w.length) (flb ps w.length) m x) : doneN ps m w = w := by
  refine List.ext_getElem (doneN_len ps w m) fun i h1 h2 => ?_
  obtain ⟨a, b⟩ := h (i : Nat) (by omega) (by omega)
  have e := bit_n (ps := ps) (w := w) (x := (i : Nat)) hk hm (by omega) (by omega) m
  rw [a, b, Bool.xor_false, Int.toNat_natCast, List.getD_eq_getElem?_getD, List.getD_eq_getElem?_getD, List.getElem?_eq_getElem h1, List.getElem?_eq_getElem h2] at e
  exact e
theorem home_ex {f g : Int → Int} {b : Int → Bool} {k : Int} (p : Perm f g k) : ∃ t, HomeN f b k t := by
  have go : ∀ n : Nat, (n : Int) ≤ k → ∃ t, 0 < t ∧ ∀ m : Nat, t ∣ m ↔ ∀ x : Int, 0 ≤ x → x < n → home f b m x := by
    intro n
    induction n with
    | zero => exact fun _ => ⟨1, by decide, fun m => ⟨fun _ x x0 x1 => by omega, fun _ => Nat.one_dvd m⟩⟩
    | succ n ih =>
      intro hn
      obtain ⟨t, t0, ht⟩ := ih (by omega)
      obtain ⟨c, rc, _⟩ := ret_ex p (show 0 ≤ (n : Int) by omega) (by omega)
      refine ⟨t.lcm (wN f b c n), Nat.lcm_pos t0 (Nat.mul_pos rc.pos (by omega)), fun m => ?_⟩
      rw [Nat.lcm_dvd_iff, ht, ← rc.home]
      constructor
      · rintro ⟨h1, h2⟩ x x0 x1
        by_cases z : x = (n : Int)
        · rw [z]; exact h2
        · exact h1 x x0 (by omega)
      · exact fun h => ⟨fun x x0 x1 => h x x0 (by omega), h n (by omega) (by omega)⟩
  by_cases hk : 0 ≤ k
  · obtain ⟨t, t0, ht⟩ := go k.toNat (by omega)
    exact ⟨t, t0, fun m => (ht m).trans ⟨fun h x x0 x1 => h x x0 (by omega), fun h x x0 x1 => h x x0 (by omega)⟩⟩
  · exact ⟨1, by decide, fun m => ⟨fun _ x x0 x1 => by omega, fun _ => Nat.one_dvd m⟩⟩
theorem numB_ok {k lo hi : Int} (h0 : lo ≤ k) (h1 : k ≤ hi) : numB (.int k) lo hi = true := by
  show (decide (lo ≤ k) && decide (k ≤ hi)) = true
  rw [decide_eq_true h0, decide_eq_true h1]
  rfl
def spLHr (K : PySem.W.Frag) (C CS : Addr) : Sp := fun vs H Q _ => ∃ (a l p c : Addr) (n : Nat) (us : List V) (ps : List (Str × Row)), vs = [.ref a, .ref l, .ref p] ∧ ProgAt K C CS H a (textP ps) ps ∧ boundsE ps = none ∧ H l = some (.lst us) ∧ DqAll K H us (rowsK ps) ∧ (∀ p ∈ ps, p ∈ known) ∧ (∀ p ∈ ps, isMF p = true) ∧ Pen H p c n ∧ n ≤ 700000 ∧
  ∀ H', But p H H' → Pen H' p c (n + 20) → Q (.bl true) H'
section
variable {P : Program} {w : World} {K : PySem.W.Frag} {mg : Str → Option Value} {base : Heap} {C CS CZ CB fD fPk fDu fTo fBi fPD : Addr}
theorem scLHr : FnScope ["_law_program", "_law_steps_here", "_law_pen_here", "_law_k", "_law_due_here", "_law_found", "_law_bits_here", "_law_made", "_law_n"] ["_law_program", "_law_steps_here", "_law_pen_here"] (defScope sLHr) := ⟨rfl, rfl, rfl, by decide +kernel, rfl, by decide +kernel, by decide +kernel⟩
theorem ok_lhr {f : Addr} {fd dd pd ud td bd nd' : FuncData} (F : Fun K "_law_home_right" "_law_home_right" sLHr f fd) (isi : mg "isinstance" = none) (gB : mg "bool" = none) (gTu : mg "tuple" = none) (gR : mg "range" = none) (cl : Cls K C)
    (GD : FnOk P w K mg base CX0 1 fD dd ["_law_pen_here", "_law_many"] spDraw) (FD : Fun K "_law_draw" "_law_draw" sDraw fD dd) (bD : Binds K dd ["_law_pen_here", "_law_many"] []) (gD : mg "_law_draw" = some (.ref fD))
    (GPk : FnOk P w K mg base CX0 2 fPk pd ["_law_pen_here", "_law_some"] (spPick K)) (FPk : Fun K "_law_pick" "_law_pick" sPick fPk pd) (bPk : Binds K pd ["_law_pen_here", "_law_some"] []) (gPk : mg "_law_pick" = some (.ref fPk))
    (GDu : FnOk P w K mg base CX0 2 fDu ud ["_law_steps_here", "_law_k"] (spLDue K)) (FDu : Fun K "_law_due" "_law_due" sLDue fDu ud) (bDu : Binds K ud ["_law_steps_here", "_law_k"] []) (gDu : mg "_law_due" = some (.ref fDu))
    (GTo : FnOk P w K mg base CX0 11 fTo td ["_law_program", "_law_k"] (spLTold K C CS)) (FTo : Fun K "_law_told" "_law_told" sLTold fTo td) (bTo : Binds K td ["_law_program", "_law_k"] []) (gTo : mg "_law_told" = some (.ref fTo))
    (GBi : FnOk P w K mg base CX0 3 fBi bd ["_law_pen_here", "_law_many"] spLBits) (FBi : Fun K "_law_bits" "_law_bits" sLBits fBi bd) (bBi : Binds K bd ["_law_pen_here", "_law_many"] []) (gBi : mg "_law_bits" = some (.ref fBi))
    (mD : Meth K C "done" fPD) (GPD : FnOk P w K mg base (L2.CX P w) 5 fPD nd' ["self", "bits"] (spPDone K C CS CZ CB)) (bPD : Binds K nd' ["self", "bits"] []) : FnOk P w K mg base CX0 12 f fd ["_law_program", "_law_steps_here", "_law_pen_here"] (spLHr K C CS) := by
  refine F.ok scLHr (fun vs H Q E h => ?_) (fun cdv A outer s H vs Q E hr h => ?_)
  · obtain ⟨a, l, p, c, n, us, ps, rfl, _⟩ := h
    rfl
  · obtain ⟨a, l, p, c, n, us, ps, rfl, S, hb, hl, dus, hk, hm, pn, hn, hQ⟩ := h
    have nd := scLHr.nd
    refine ⟨_, (pss_cons (ps_set (i := 3) nd rfl (Or.inl rfl) (pe_op op_add pe_int (pe_call GD (hr.mono (by decide)) (by rfl) gD FD.kp bD .nil pass0 (pa_cons (pv 2) (pa_cons (pe_call GPk (hr.mono (by decide)) (by rfl) gPk FPk.kp bPk .nil pass0 (pa_cons (pv 2) (pa_cons (pe_lst (pa_cons pe_int (pa_cons pe_int (pa_cons pe_int pa_nil)))) pa_nil))) pa_nil)))))
      (pss_cons (ps_par (i := 4) (j := 5) rfl nd rfl rfl (by decide) rfl rfl (pa_cons (pe_call GDu (hr.mono (by decide)) (by rfl) gDu FDu.kp bDu .nil pass0 (pa_cons (pv 1) (pa_cons (pv 3) pa_nil))) (pa_cons (pe_call GTo hr (by rfl) gTo FTo.kp bTo .nil pass0 (pa_cons (pv 0) (pa_cons (pv 3) pa_nil))) pa_nil)) (by rfl))
      (pss_cons (ps_if (PW.pt (pw_or (pt_cmpR op_ne (pv 5) (pv 4) (nomark _)) (pw_or1 (pt_val (pe_callB call_isi (by rfl) isi (by decide +kernel) (pa_cons (pv 5) (pa_cons (pe_bltn (v := .ty "bool") (by rfl) gB (by decide +kernel) rfl) pa_nil)))))))
        (pss_one (ps_ret pe_bl)) pss_nil)
      (pss_cons (ps_set (i := 6) nd rfl (Or.inl rfl) (pe_callTy call_tuple_of (by rfl) gTu (by decide +kernel) (pa_cons (pe_call GBi (hr.mono (by decide)) (by rfl) gBi FBi.kp bBi .nil pass0 (pa_cons (pv 2) (pa_cons (pv 3) pa_nil))) pa_nil)))
      (pss_cons (ps_set (i := 7) nd rfl (Or.inl rfl) (pv 6))
      (C8.pss_cut (ps_if (PW.pt (pw_and (pt_cmpR op_le (pv 4) pe_int (nomark _)) (pw_and1 (pt_cmpR op_le (pv 3) pe_int (nomark _)))))
        (pss_one (ps_for PassesOwn.never rfl (pi_range1 rfl gR (pa_cons (pv 4) pa_nil)) (pg_name (i := 8) nd rfl (Or.inl rfl))
          (pss_one (ps_set (i := 7) nd rfl (Or.inl rfl) (pe_methSw (pv 0) cl mD GPD (hr.mono (by decide)) bPD (fun σ => passE σ) (pa_cons (pv 7) pa_nil)))))) pss_nil)
      (pss_one (ps_ret (pe_cmpR (op_eqD hr.units) (pv 7) (pv 6) (nomark _)))))))))), ?_⟩
    -- BODY
    refine ⟨_, rfl, _, rfl, by show 3 ≤ sizeLine; decide, fun lq hlq => ?_⟩
    have sq := same_upd (o := .lst [.int 4, .int 12, .int 40]) hlq
    refine ⟨p, c, lq, [.int 4, .int 12, .int 40], n, rfl, pn.same sq, by omega, SqL.of upd_same, by show 0 < 3; decide, by show 3 ≤ 1000000; decide, fun iq vq H1 hq b1 p1 => ?_⟩
    obtain ⟨m, rfl, hm0⟩ : ∃ m : Int, vq = .int m ∧ (m = 4 ∨ m = 12 ∨ m = 40) := by
      have h := List.mem_of_getElem? hq
      simp only [List.mem_cons, List.not_mem_nil, or_false] at h
      rcases h with rfl | rfl | rfl
      · exact ⟨4, rfl, .inl rfl⟩
      · exact ⟨12, rfl, .inr (.inl rfl)⟩
      · exact ⟨40, rfl, .inr (.inr rfl)⟩
    refine ⟨p, c, m, n + 1, rfl, p1, by omega, by omega, by omega, fun d H2 d0 d1 b2 p2 => ⟨1, d, rfl, rfl, ?_⟩⟩
    have b02 := ((But.same sq).trans b1).trans b2
    obtain ⟨k, hkd⟩ : ∃ k : Int, 1 + d = k := ⟨_, rfl⟩
    have k1 : 1 ≤ k := by omega
    have k2 : k ≤ 40 := by omega
    dsimp only
    rw [hkd]
    have S2 := ((S.same sq).penB b1 (pn.same sq)).penB b2 p1
    have hl2 := but_lst b2 p1 (but_lst b1 (pn.same sq) (sq _ _ hl))
    have dus2 := ((dus.keep (TK.same sq)).keep (TK.but b1 (pn.same sq))).keep (TK.but b2 p1)
    obtain ⟨t, ht⟩ := home_ex (b := flb ps k) (perm_prog hk k)
    refine ⟨_, rfl, _, rfl, l, us, ps, k, rfl, hl2, dus2, hk, hm, k1, by omega, fun t' ht' H3 s3 => ?_⟩
    obtain rfl := ht'.uniq ht
    have hno := firstNo_none.mpr hm
    refine ⟨_, rfl, _, rfl, a, .int k, _, ps, rfl, S2.same s3, hb, .int _, (fun i hi => by rw [hno] at hi; cases hi), (fun _ z => by rw [numB_ok k1 (by omega)] at z; cases z), fun _ k' hk' _ _ t2 ht2 H4 s4 => ⟨_, _, rfl, ?_⟩⟩
    obtain rfl := V.int.inj hk'
    obtain rfl := ht2.uniq ht
    have s24 := s3.trans s4
    refine ⟨_, rfl, _, rfl, rfl, _, rfl, ?_⟩
    rw [decide_eq_true rfl]
    refine iteF ?_
    refine ⟨_, rfl, .int _, .ty "bool", .type "int", .type "bool", false, rfl, .ty _, .base (.int _), kit_ty (show kitB "int" "bool" = some false by decide +kernel), _, rfl, ?_⟩
    refine iteF ?_
    refine nxt ?_
    dsimp only
    obtain ⟨kk, rfl⟩ : ∃ kk : Nat, k = (kk : Int) := ⟨k.toNat, by omega⟩
    refine ⟨_, rfl, _, rfl, p, c, kk, n + 2, rfl, by omega, by omega, p2.same s24, by omega, fun w1 l1 H5 hw1 b5 _ hl1 p5 => ?_⟩
    subst hw1
    refine ⟨l1, _, rfl, .inl ⟨SqL.of hl1, fun T hT => ?_⟩⟩
    have sT := same_upd (o := .tup (w1.map bV)) hT
    have S6 := ((S2.same s24).penB b5 (p2.same s24)).same sT
    have p6 := p5.same sT
    have b06 := ((b02.trans (But.same s24)).trans b5).trans (But.same sT)
    have eT : upd H5 T (.tup (w1.map bV)) T = some (.tup (w1.map bV)) := upd_same
    generalize upd H5 T (.tup (w1.map bV)) = H6 at *
    refine ⟨_, rfl, ?_⟩
    refine ⟨fun σ H7 => ∃ (M : Addr) (v8 : Option V), σ = [some (.ref a), some (.ref l), some (.ref p), some (.int (w1.length : Nat)), some (.int (t2 : Nat)), some (.int (t2 : Nat)), some (.ref T), some (.ref M), v8] ∧ Same H6 H7 ∧ H7 M = some (.tup (w1.map bV)), ?_, ?_⟩
    · refine ⟨_, rfl, (t2 : Nat), 30, rfl, rfl, _, rfl, ite_dec (fun g => ?_) (fun g => ?_)⟩
      · refine ⟨_, rfl, (w1.length : Nat), 12, rfl, rfl, _, rfl, ite_dec (fun g2 => ?_) (fun g2 => ?_)⟩
        · refine ⟨_, rfl, (t2 : Nat), rfl, by omega, by omega, ?_⟩
          refine for_range (n := ((t2 : Nat) : Int).toNat) (fun q σ H7 => ∃ (M : Addr) (v8 : Option V), σ = [some (.ref a), some (.ref l), some (.ref p), some (.int (w1.length : Nat)), some (.int (t2 : Nat)), some (.int (t2 : Nat)), some (.ref T), some (.ref M), v8] ∧ Same H6 H7 ∧ H7 M = some (.tup ((doneN ps q w1).map bV))) ⟨T, none, rfl, same_refl _, eT⟩ ?_ ?_
          · rintro q σ H7 hq ⟨M, v8, rfl, s7, e7⟩
            have S7 := S6.same s7
            obtain ⟨dx, _, _, ea, _, _⟩ := S7.ex
            have lq := doneN_len ps w1 q
            refine ⟨_, rfl, a, dx, _, rfl, ea, pNo (by decide +kernel) (by decide +kernel), _, rfl, a, M, _, ps, _, rfl, S7, ⟨.inr e7, bits_vok, by rw [List.length_map]; omega⟩, fun no => absurd (bits_so (w := doneN ps q w1) (by omega) (by omega)) no, fun _ i hi => (no_odd hi).elim, fun _ w' hw' t3 H8 s8 ht3 => ?_⟩
            obtain rfl := bVs_inj hw'
            exact ⟨t3, _, rfl, s7.trans s8, ht3⟩
          · rintro σ H7 ⟨M, v8, rfl, s7, e7⟩
            have ew : doneN ps ((t2 : Nat) : Int).toNat w1 = w1 := home_word hk hm fun x x0 x1 => (ht.2 t2).mp (Nat.dvd_refl _) x x0 x1
            rw [ew] at e7
            exact ⟨M, v8, rfl, s7, e7⟩
        · exact nxt ⟨T, none, rfl, same_refl _, eT⟩
      · exact iteF (nxt ⟨T, none, rfl, same_refl _, eT⟩)
    · rintro σ H7 ⟨M, v8, rfl, s7, e7⟩
      refine ⟨_, rfl, _, rfl, .tuple (bitsD w1), .tuple (bitsD w1), .tup (SqT.of e7) (bits_dp _), .tup (SqT.of (s7 _ _ eT)) (bits_dp _), sh_tup _, sh_tup _, ?_⟩
      rw [eqv_self (sh_tup _)]
      exact hQ _ (b06.trans (But.same s7)) ((p6.same s7).mono (by omega))
end
end Aw

namespace Aw
open PySem PySem.Spec PyProof.Rows L2 NdefX
def moversL : List Str := ["turn", "roll", "deal", "undeal", "swap", "flip", "flip first", "flip last"]
theorem movers_bk : ∀ kd ∈ moversL, bkF kd ∈ movesL ∨ bkF kd ∈ flipsL := by decide +kernel
theorem movers_in : ∀ kd ∈ moversL, kd ∈ kindsR := by decide +kernel
def spMov : Sp := fun vs H Q _ => vs = [] ∧ ∀ l, H l = none → Q (.ref l) (upd H l (.lst (moversL.map V.str)))
section
variable {P : Program} {w : World} {K : PySem.W.Frag} {mg : Str → Option Value} {base : Heap}
theorem scMov : FnScope [] [] (defScope sMov) := ⟨rfl, rfl, rfl, by decide +kernel, rfl, by decide +kernel, by decide +kernel⟩
theorem ok_mov {f : Addr} {fd : FuncData} (F : Fun K "_law_movers" "_law_movers" sMov f fd) : FnOk P w K mg base CX0 1 f fd [] spMov := by
  refine F.ok scMov (fun vs H Q E h => ?_) (fun cdv A outer s H vs Q E hr h => ?_)
  · obtain ⟨rfl, _⟩ := h
    rfl
  · obtain ⟨rfl, k⟩ := h
    refine ⟨_, (pss_one (ps_ret (pe_lst (pa_cons pe_str (pa_cons pe_str (pa_cons pe_str (pa_cons pe_str (pa_cons pe_str (pa_cons pe_str (pa_cons pe_str (pa_cons pe_str pa_nil))))))))))), ?_⟩
    exact ⟨by show 8 ≤ sizeLine; decide, fun l hl => k l hl⟩
end
end Aw

namespace Aw
open PySem PySem.Spec PyProof.Rows L2 NdefX
def spLaw (K : PySem.W.Frag) : Sp := fun vs H Q _ => ∃ (a : Addr) (ns : List Int), vs = [.ref a] ∧ SqL K H a (ns.map V.int) ∧ ns.length ≤ 63 ∧ ∀ H', Q (.bl true) H'
def lastK : List Str := ["near", "sum", "gather", "spread"]
theorem last_odd : ∀ kd ∈ lastK, kd ∈ oddKinds := by decide +kernel
theorem sh_two {n : Str} {d : PyData} (h : PyData.strOk n = true) (h1 : PyData.canLay0 d = true) (h2 : PyData.depth d ≤ 3) : SeqAt.shaped (.tuple [.str n, d]) = true := by
  unfold SeqAt.shaped
  refine Bool.and_eq_true_iff.mpr ⟨?_, decide_eq_true ?_⟩
  · simp only [PyData.canLay0, PyData.canLayAll0, h, h1, Bool.and_self]
  · simp only [PyData.depth, PyData.depthAll]
    omega
/-- a value that is no size, as data -/
structure OddAt (K : PySem.W.Frag) (v : V) (d : PyData) : Prop where
  dp : ∀ H, Dp K H v d
  ok : ∀ H, VOk H v
  no : numB v 1 100 = false
  sh : SeqAt.shaped (.tuple [.str "BadSize", d]) = true
section
variable {P : Program} {w : World} {K : PySem.W.Frag} {mg : Str → Option Value} {base : Heap} {C CS CB CI CM fPI fPen fPk fD fSt fLs fPt fHr fKn fTo fMo : Addr}
theorem scLaw : FnScope ["_law_script", "_law_pen_here", "_law_steps_here", "_law_program", "_law_n", "_law_k", "_law_text_here", "_law_due_here", "_law_odd", "_law_other"] ["_law_script"] (defScope sLaw) := ⟨rfl, rfl, rfl, by decide +kernel, rfl, by decide +kernel, by decide +kernel⟩
theorem ok_law {f : Addr} {fd d0 d1 d2 d3 d4 d5 d6 d7 d8 d9 d10 : FuncData} (F : Fun K "law" "law" sLaw f fd) (J : TxtJ K mg C CS fPI) (gLen : mg "len" = none) (gR : mg "range" = none)
    (GPI : FnOk P w K mg base (L2.CX P w) 5 fPI d0 ["self", "text"] (spPInit K C CS CB CI CM)) (bPI : Binds K d0 ["self", "text"] [])
    (GPen : FnOk P w K mg base CX0 1 fPen d1 ["_law_script"] (spPen K)) (FPen : Fun K "_law_pen" "_law_pen" sPen fPen d1) (bPen : Binds K d1 ["_law_script"] []) (gPen : mg "_law_pen" = some (.ref fPen))
    (GPk : FnOk P w K mg base CX0 2 fPk d2 ["_law_pen_here", "_law_some"] (spPick K)) (FPk : Fun K "_law_pick" "_law_pick" sPick fPk d2) (bPk : Binds K d2 ["_law_pen_here", "_law_some"] []) (gPk : mg "_law_pick" = some (.ref fPk))
    (GD : FnOk P w K mg base CX0 1 fD d3 ["_law_pen_here", "_law_many"] spDraw) (FD : Fun K "_law_draw" "_law_draw" sDraw fD d3) (bD : Binds K d3 ["_law_pen_here", "_law_many"] []) (gD : mg "_law_draw" = some (.ref fD))
    (GMo : FnOk P w K mg base CX0 1 fMo d4 [] spMov) (FMo : Fun K "_law_movers" "_law_movers" sMov fMo d4) (bMo : Binds K d4 [] []) (gMo : mg "_law_movers" = some (.ref fMo))
    (GSt : FnOk P w K mg base CX0 4 fSt d5 ["_law_pen_here", "_law_many", "_law_kinds"] (spLSteps K)) (FSt : Fun K "_law_steps" "_law_steps" sLSteps fSt d5) (bSt : Binds K d5 ["_law_pen_here", "_law_many", "_law_kinds"] []) (gSt : mg "_law_steps" = some (.ref fSt))
    (GLs : FnOk P w K mg base CX0 3 fLs d6 ["_law_pen_here", "_law_kinds"] (spLStep K)) (FLs : Fun K "_law_step" "_law_step" sLStep fLs d6) (bLs : Binds K d6 ["_law_pen_here", "_law_kinds"] []) (gLs : mg "_law_step" = some (.ref fLs))
    (GPt : FnOk P w K mg base CX0 2 fPt d7 ["_law_steps_here"] (spLPt K)) (FPt : Fun K "_law_program_text" "_law_program_text" sLPt fPt d7) (bPt : Binds K d7 ["_law_steps_here"] []) (gPt : mg "_law_program_text" = some (.ref fPt))
    (GHr : FnOk P w K mg base CX0 12 fHr d8 ["_law_program", "_law_steps_here", "_law_pen_here"] (spLHr K C CS)) (FHr : Fun K "_law_home_right" "_law_home_right" sLHr fHr d8) (bHr : Binds K d8 ["_law_program", "_law_steps_here", "_law_pen_here"] []) (gHr : mg "_law_home_right" = some (.ref fHr))
    (GKn : FnOk P w K mg base CX0 3 fKn d9 ["_law_pen_here", "_law_k"] (spLKn K)) (FKn : Fun K "_law_known" "_law_known" sLKn fKn d9) (bKn : Binds K d9 ["_law_pen_here", "_law_k"] []) (gKn : mg "_law_known" = some (.ref fKn))
    (GTo : FnOk P w K mg base CX0 11 fTo d10 ["_law_program", "_law_k"] (spLTold K C CS)) (FTo : Fun K "_law_told" "_law_told" sLTold fTo d10) (bTo : Binds K d10 ["_law_program", "_law_k"] []) (gTo : mg "_law_told" = some (.ref fTo)) : FnOk P w K mg base CX0 13 f fd ["_law_script"] (spLaw K) := by
  refine F.ok scLaw (fun vs H Q E h => ?_) (fun cdv A outer s H vs Q E hr h => ?_)
  · obtain ⟨a, ns, rfl, _⟩ := h
    rfl
  · obtain ⟨a0, ns, rfl, ha, hn, hQ⟩ := h
    have nd := scLaw.nd
    refine ⟨_, (pss_cons (ps_set (i := 1) nd rfl (Or.inl rfl) (pe_call GPen (hr.mono (by decide)) (by rfl) gPen FPen.kp bPen .nil pass0 (pa_cons (pv 0) pa_nil)))
      (pss_cons (ps_set (i := 2) nd rfl (Or.inl rfl) (pe_call GSt (hr.mono (by decide)) (by rfl) gSt FSt.kp bSt .nil pass0 (pa_cons (pv 1) (pa_cons (pe_call GD (hr.mono (by decide)) (by rfl) gD FD.kp bD .nil pass0 (pa_cons (pv 1) (pa_cons pe_int pa_nil))) (pa_cons (pe_call0 GMo (hr.mono (by decide)) (by rfl) gMo FMo.kp bMo .nil pass0) pa_nil)))))
      (pss_cons (ps_set (i := 3) nd rfl (Or.inl rfl) (pe_makeS J.mkr GPI (hr.mono (by decide)) (by rfl) J.g bPI (fun σ => passE σ) (pa_cons (pe_call GPt (hr.mono (by decide)) (by rfl) gPt FPt.kp bPt .nil pass0 (pa_cons (pv 2) pa_nil)) pa_nil)))
      (pss_cons (ps_for PassesOwn.never rfl (pi_range1 rfl gR (pa_cons pe_int pa_nil)) (pg_name (i := 4) nd rfl (Or.inl rfl))
        (pss_cons (ps_if (pt_not (pt_val (pe_call GHr hr (by rfl) gHr FHr.kp bHr .nil pass0 (pa_cons (pv 3) (pa_cons (pv 2) (pa_cons (pv 1) pa_nil))))))
          (pss_one (ps_ret pe_bl)) pss_nil)
        (pss_cons (ps_set (i := 5) nd rfl (Or.inl rfl) (pe_op op_add pe_int (pe_call GD (hr.mono (by decide)) (by rfl) gD FD.kp bD .nil pass0 (pa_cons (pv 1) (pa_cons pe_int pa_nil)))))
        (pss_cons (ps_asg (pe_call GKn (hr.mono (by decide)) (by rfl) gKn FKn.kp bKn .nil pass0 (pa_cons (pv 1) (pa_cons (pv 5) pa_nil))) (pg_tup rfl (pgs_cons (pg_name (i := 6) nd rfl (Or.inl rfl)) (pgs_cons (pg_name (i := 7) nd rfl (Or.inl rfl)) pgs_nil))))
        (pss_one (ps_if (pt_cmpR op_ne (pe_call GTo (hr.mono (by decide)) (by rfl) gTo FTo.kp bTo .nil pass0 (pa_cons (pe_makeS J.mkr GPI (hr.mono (by decide)) (by rfl) J.g bPI (fun σ => passE σ) (pa_cons (pv 6) pa_nil)) (pa_cons (pv 5) pa_nil))) (pv 7) (nomark _))
          (pss_one (ps_ret pe_bl)) pss_nil))))))
      (pss_cons (ps_set (i := 8) nd rfl (Or.inl rfl) (pe_call GPk (hr.mono (by decide)) (by rfl) gPk FPk.kp bPk .nil pass0 (pa_cons (pv 1) (pa_cons (pe_lst (pa_cons pe_int (pa_cons (pe_un un_neg pe_int) (pa_cons pe_int (pa_cons (pe_op op_pow pe_int pe_int) (pa_cons pe_non (pa_cons pe_bl (pa_cons pe_str pa_nil)))))))) pa_nil))))
      (pss_cons (ps_set (i := 9) nd rfl (Or.inl rfl) (pe_makeS J.mkr GPI (hr.mono (by decide)) (by rfl) J.g bPI (fun σ => passE σ) (pa_cons (pe_call GPt (hr.mono (by decide)) (by rfl) gPt FPt.kp bPt .nil pass0 (pa_cons (pe_op op_cat (pv 2) (pe_lst (pa_cons (pe_call GLs (hr.mono (by decide)) (by rfl) gLs FLs.kp bLs .nil pass0 (pa_cons (pv 1) (pa_cons (pe_lst (pa_cons pe_str (pa_cons pe_str (pa_cons pe_str (pa_cons pe_str pa_nil))))) pa_nil))) pa_nil))) pa_nil)) pa_nil)))
      (pss_cons (ps_if (pt_cmpR (op_neD hr.units) (pe_call GTo (hr.mono (by decide)) (by rfl) gTo FTo.kp bTo .nil pass0 (pa_cons (pv 3) (pa_cons (pv 8) pa_nil))) (pe_tup (pa_cons pe_str (pa_cons (pv 8) pa_nil))) (nomark _))
        (pss_one (ps_ret pe_bl)) pss_nil)
      (pss_one (ps_ret (pe_cmpR (op_eqD hr.units) (pe_call GTo (hr.mono (by decide)) (by rfl) gTo FTo.kp bTo .nil pass0 (pa_cons (pv 9) (pa_cons (pe_call GPk (hr.mono (by decide)) (by rfl) gPk FPk.kp bPk .nil pass0 (pa_cons (pv 1) (pa_cons (pe_lst (pa_cons (pv 8) (pa_cons pe_int pa_nil))) pa_nil))) pa_nil))) (pe_tup (pa_cons pe_str (pa_cons (pe_callB call_len_seq (by rfl) gLen PySem.boot_len (pa_cons (pv 2) pa_nil)) pa_nil))) (nomark _))))))))))), ?_⟩
    -- BODY
    refine ⟨_, rfl, a0, ns, rfl, ha, hn, fun p c H1 s01 hp0 hc0 p1 => ?_⟩
    refine ⟨_, rfl, _, rfl, p, c, 5, 0, rfl, p1, by omega, by decide, by decide, fun d H2 d0 d1 b2 p2 => ?_⟩
    obtain ⟨m, rfl⟩ : ∃ m : Nat, d = (m : Int) := ⟨d.toNat, by omega⟩
    refine ⟨rfl, fun kl hkl => ?_⟩
    have s3 := same_upd (o := .lst (moversL.map V.str)) hkl
    refine ⟨p, c, kl, m, 1, moversL, rfl, p2.same s3, by omega, by omega, upd_same, movers_in, by decide, fun ls us ps H4 b4 hls0 hls dus hk hmk lps hbo p4 => ?_⟩
    have hm : ∀ q ∈ ps, isMF q = true := fun q hq => by
      obtain ⟨kd, h1, h2⟩ := hmk q hq
      unfold isMF
      rw [h2]
      rcases movers_bk kd h1 with e | e
      · rw [decide_eq_true e]; rfl
      · rw [decide_eq_true e, Bool.or_true]
    refine ⟨_, rfl, ls, us, ps, rfl, hls, dus, hk, by omega, fun H5 s5 => ?_⟩
    refine make_prog hk (by omega) (fun m' hm => by rw [hbo] at hm; cases hm) fun _ a H6 s6 pa => ?_
    have p6 : Pen H6 p c 40 := ((p4.same s5).same s6).mono (by omega)
    have k6 : Kit4 K C CS H6 ls a us ps := ⟨s6 _ _ (s5 _ _ hls), (dus.keep (TK.same s5)).keep (TK.same s6), pa⟩
    refine ⟨2, rfl, by decide, by decide, ?_⟩
    refine for_range (n := (2 : Int).toNat) (fun q σ H => ∃ (v4 v5 v6 v7 : Option V), σ = [some (.ref a0), some (.ref p), some (.ref ls), some (.ref a), v4, v5, v6, v7, none, none] ∧ Kit4 K C CS H ls a us ps ∧ Pen H p c (40 + 30 * q)) ⟨none, none, none, none, rfl, k6, p6⟩ ?_ ?_
    · rintro q σ H7 hq ⟨v4, v5, v6, v7, rfl, k7, p7⟩
      have hq2 : q < 2 := hq
      refine ⟨_, rfl, _, rfl, _, rfl, a, ls, p, c, _, us, ps, rfl, k7.pa, hbo, k7.hls, k7.dus, hk, hm, p7, by omega, fun H8 b8 p8 => ⟨_, rfl, ?_⟩⟩
      refine iteF ?_
      refine nxt ?_
      dsimp only
      have k8 := k7.pen b8 p7
      refine ⟨_, rfl, p, c, 100, _, rfl, p8, by omega, by decide, by decide, fun d H9 d0 d1 b9 p9 => ⟨1, d, rfl, rfl, ?_⟩⟩
      have k9 := k8.pen b9 p8
      obtain ⟨k, hkd⟩ : ∃ k : Int, 1 + d = k := ⟨_, rfl⟩
      have k1 : 1 ≤ k := by omega
      have k2 : k ≤ 100 := by omega
      dsimp only
      rw [hkd]
      refine ⟨_, rfl, _, rfl, p, c, k, _, rfl, p9, by omega, k1, k2, fun t qs d2 H10 b10 p10 et kh lq => ⟨t, _, rfl, SqT.of et, rfl, _, _, rfl, _, _, rfl, rfl, ?_⟩⟩
      have k10 := k9.pen b10 p9
      refine ⟨_, rfl, make_prog kh.kn (by omega) (fun m' hm => by rw [kh.bd] at hm; cases hm) fun _ b H11 s11 pb => ?_⟩
      have hno := firstNo_none.mpr kh.mf
      refine ⟨_, rfl, b, .int k, _, qs, rfl, pb, kh.bd, .int _, (fun i hi => by rw [hno] at hi; cases hi), (fun _ z => by rw [numB_ok k1 k2] at z; cases z), fun _ k' hk' _ _ t2 ht2 H12 s12 => ?_⟩
      obtain rfl := V.int.inj hk'
      obtain rfl := ht2.uniq kh.hm
      refine ⟨_, rfl, rfl, _, rfl, ?_⟩
      rw [decide_eq_true rfl]
      refine iteF ?_
      have s1012 := s11.trans s12
      exact ⟨_, _, _, _, rfl, k10.same s1012, (p10.same s1012).mono (by omega)⟩
    rintro σ H7 ⟨v4, v5, v6, v7, rfl, k7, p7⟩
    have p7 : Pen H7 p c 100 := p7.mono (by show 40 + 30 * 2 ≤ 100; decide)
    dsimp only
    refine ⟨_, rfl, 1, rfl, 10, 30, rfl, rfl, ⟨by decide, by decide, by decide⟩, by show 7 ≤ sizeLine; decide, fun lq hlq => ?_⟩
    have sq := same_upd (o := .lst [.int 0, .int (-1), .int 101, .int ((10 : Int) ^ (30 : Int).toNat), .non, .bl true, .str "3"]) hlq
    refine ⟨p, c, lq, [.int 0, .int (-1), .int 101, .int ((10 : Int) ^ (30 : Int).toNat), .non, .bl true, .str "3"], _, rfl, p7.same sq, by omega, SqL.of upd_same, by show 0 < 7; decide, by show 7 ≤ 1000000; decide, fun iq vq H8 hq b8 p8 => ?_⟩
    obtain ⟨dq, od⟩ : ∃ dq, OddAt K vq dq := by
      have hm := List.mem_of_getElem? hq
      simp only [List.mem_cons, List.not_mem_nil, or_false] at hm
      rcases hm with rfl | rfl | rfl | rfl | rfl | rfl | rfl
      · exact ⟨.int 0, fun _ => .int _, fun _ => .int _, by decide +kernel, sh_two (by decide +kernel) rfl (by simp [PyData.depth])⟩
      · exact ⟨.int (-1), fun _ => .int _, fun _ => .int _, by decide +kernel, sh_two (by decide +kernel) rfl (by simp [PyData.depth])⟩
      · exact ⟨.int 101, fun _ => .int _, fun _ => .int _, by decide +kernel, sh_two (by decide +kernel) rfl (by simp [PyData.depth])⟩
      · exact ⟨.int ((10 : Int) ^ (30 : Int).toNat), fun _ => .int _, fun _ => .int _, by decide +kernel, sh_two (by decide +kernel) rfl (by simp [PyData.depth])⟩
      · exact ⟨.none, fun _ => .non, fun _ => .non, rfl, sh_two (by decide +kernel) rfl (by simp [PyData.depth])⟩
      · exact ⟨.bool true, fun _ => .bl _, fun _ => .bl _, rfl, sh_two (by decide +kernel) rfl (by simp [PyData.depth])⟩
      · exact ⟨.str "3", fun _ => .str _, fun _ => .str _ (by decide +kernel), rfl, sh_two (by decide +kernel) (by decide +kernel) (by simp [PyData.depth])⟩
    have k8 := (k7.same sq).pen b8 (p7.same sq)
    refine ⟨_, rfl, _, rfl, by show 4 ≤ sizeLine; decide, fun lk hlk => ?_⟩
    have sk := same_upd (o := .lst (lastK.map V.str)) hlk
    refine ⟨p, c, lk, _, lastK, rfl, p8.same sk, by omega, upd_same, by decide, by decide, fun kd h => odd_in kd (last_odd kd h), fun u r H9 hr hkd dr b9 p9 => ?_⟩
    have k9 := (k8.same sk).pen b9 (p8.same sk)
    have hkn : (textOf r, r) ∈ known := of_decide_eq_true hr
    obtain ⟨kd, hkd1, hkd2⟩ := hkd
    obtain ⟨o1, o2, o3⟩ := odd_mf kd (last_odd kd hkd1)
    have hqm : isMF (textOf r, r) = false := by
      unfold isMF
      rw [decide_eq_false (by rw [hkd2]; exact o1), decide_eq_false (by rw [hkd2]; exact o2)]
      rfl
    have hqd : isDeal (textOf r, r) = false := decide_eq_false (by rw [hkd2]; exact o3)
    have eT : ps.take ps.length ++ [(textOf r, r)] ++ ps.drop ps.length = ps ++ [(textOf r, r)] := by rw [List.take_length, List.drop_length, List.append_nil]
    have fN : firstNo (ps ++ [(textOf r, r)]) = some ps.length := by
      have := mixed_no (i := ps.length) hm (Nat.le_refl _) hqm
      rwa [eT] at this
    have d2 : (ps.filter isDeal).length ≤ 2 := by
      have := deals_take hbo ps.length
      rwa [List.take_length] at this
    have bN : boundsE (ps ++ [(textOf r, r)]) = none := by
      have := mixed_bounds (i := ps.length) (ps := ps) (q := (textOf r, r)) (by omega) d2 hqd
      rwa [eT] at this
    have kN : ∀ q ∈ ps ++ [(textOf r, r)], q ∈ known := fun q hq => by
      rcases List.mem_append.mp hq with e | e
      · exact hk q e
      · rw [List.mem_singleton.mp e]; exact hkn
    have lu : us.length = ps.length := k9.dus.length.trans (List.length_map ..)
    refine ⟨by show 1 ≤ sizeLine; decide, fun L0 hL0 => ?_⟩
    have sL0 := same_upd (o := .lst [u]) hL0
    have k10 := k9.same sL0
    refine ⟨ls, L0, us, [u], rfl, rfl, k10.hls, upd_same, small200 (by show us.length + 1 ≤ 1000; omega), fun L1 hL1 => ?_⟩
    have sL1 := same_upd (o := .lst (us ++ [u])) hL1
    have k11 := k10.same sL1
    refine ⟨L1, us ++ [u], ps ++ [(textOf r, r)], rfl, upd_same, ?_, kN, by rw [List.length_append]; show ps.length + 1 ≤ 30; omega, fun H12 s12 => ?_⟩
    · unfold rowsK
      rw [List.map_append]
      exact k11.dus.append (.cons (dr.keep (TK.same (sL0.trans sL1))) .nil)
    refine make_prog kN (by rw [List.length_append]; show ps.length + 1 ≤ 30; omega) (fun m' hm => by rw [bN] at hm; cases hm) fun _ ot H13 s13 po => ?_
    have s913 := ((sL0.trans sL1).trans s12).trans s13
    have k13 := k9.same s913
    have p13 := p9.same s913
    have hno := firstNo_none.mpr hm
    refine ⟨_, rfl, _, rfl, a, vq, _, ps, rfl, k13.pa, hbo, od.ok _, (fun i hi => by rw [hno] at hi; cases hi), fun _ _ t H14 s14 et => ?_, fun _ k hk k1 k2 => by have := od.no; rw [hk, numB_ok k1 k2] at this; cases this⟩
    refine ⟨_, rfl, by show 2 ≤ sizeLine; decide, fun t2 ht2 => ?_⟩
    have st2 := same_upd (o := .tup [.str "BadSize", vq]) ht2
    refine ⟨.tuple [.str "BadSize", dq], .tuple [.str "BadSize", dq], .tup (SqT.of (st2 _ _ et)) (.cons (.str _) (.cons (od.dp _) .nil)), .tup (SqT.of upd_same) (.cons (.str _) (.cons (od.dp _) .nil)), od.sh, od.sh, _, rfl, ?_⟩
    rw [eqv_self od.sh]
    refine iteF ?_
    refine nxt ?_
    dsimp only
    have s1315 := s14.trans st2
    have k15 := k13.same s1315
    have p15 := p13.same s1315
    refine ⟨_, rfl, _, rfl, _, rfl, by show 2 ≤ sizeLine; decide, fun lr hlr => ?_⟩
    have slr := same_upd (o := .lst [vq, .int 3]) hlr
    refine ⟨p, c, lr, [vq, .int 3], _, rfl, p15.same slr, by omega, SqL.of upd_same, by show 0 < 2; decide, by show 2 ≤ 1000000; decide, fun iq2 v2 H16 hq2 b16 p16 => ?_⟩
    have k16 := (k15.same slr).pen b16 (p15.same slr)
    have po16 := ((po.same s1315).same slr).penB b16 (p15.same slr)
    have ok2 : VOk H16 v2 := by
      have hm2 := List.mem_of_getElem? hq2
      rcases List.mem_cons.mp hm2 with rfl | hm2
      · exact od.ok _
      · rw [List.mem_singleton.mp hm2]; exact .int _
    refine ⟨ot, v2, _, ps ++ [(textOf r, r)], rfl, po16, bN, ok2, fun i hi t3 H17 s17 et3 => ?_, (fun z => by rw [fN] at z; cases z), (fun z => by rw [fN] at z; cases z)⟩
    rw [fN] at hi
    obtain rfl := Option.some.inj hi
    refine ⟨_, rfl, ls, _, rfl, .inl (SqL.of (s17 _ _ k16.hls)), by show 2 ≤ sizeLine; decide, fun t4 ht4 => ?_⟩
    have st4 := same_upd (o := .tup [.str "NotMoves", .int (us.length : Nat)]) ht4
    have sh4 : SeqAt.shaped (.tuple [.str "NotMoves", .int (ps.length : Nat)]) = true := sh_two (by decide +kernel) rfl (by simp [PyData.depth])
    refine ⟨.tuple [.str "NotMoves", .int (ps.length : Nat)], .tuple [.str "NotMoves", .int (ps.length : Nat)], .tup (SqT.of (st4 _ _ et3)) (.cons (.str _) (.cons (.int _) .nil)), .tup (SqT.of upd_same) (.cons (.str _) (.cons ?_ .nil)), sh4, sh4, ?_⟩
    · rw [lu]
      exact .int _
    rw [eqv_self sh4]
    exact hQ _
end
end Aw

namespace Aw
open PySem PySem.Spec PyProof.Rows L2 NdefX He5
open He (eqO eqO_ok ga ma Fa cls_ok noat_ok meth_ok mkr_ok exm_ok int_ok tupB tupB_ok valsB valsB_ok Dv relAll relAll_ok)
-- LATE
theorem facts {w : World} {K : PySem.W.Frag} {h : Heap} {mg : Str → Option Value} {f : Addr} (X : K.In h) (G : h.Ns mainGlobals mg) (hfa : mg ("law" : Str) = some (.ref f)) (c : SaysZ fns sus tabs exB w K) :
    ∃ fd : FuncData, (∀ (s : Shared) (v : Value), BindsTo s fd ⟨[v], []⟩ [("_law_script", v)]) ∧ ∀ base : Heap, K.In base → base.Ns mainGlobals mg → FnOk (PySem.Challenge.rw_allwordlengths_k11_whole_times_until_all).prog w K mg base CX0 13 f fd ["_law_script"] (spLaw K) := by
  obtain ⟨c1, m⟩ := bo c.more
  obtain ⟨c2, m⟩ := bo m
  obtain ⟨c3, m⟩ := bo m
  obtain ⟨c4, c5⟩ := bo m
  have gl : ∀ x ∈ globs, mg x = some (.ref (ga K x)) := fun x hx => glo_of X G (List.all_eq_true.mp c1 x hx)
  have fr : ∀ x ∈ frees, mg x = none := fun x hx => fre_of X G (List.all_eq_true.mp c2 x hx)
  have so : ∀ d ∈ sus, d.ok PySem.Challenge.pw_allwordlengths_k11_whole_times_until_all.main.file K = true := fun d hd => List.all_eq_true.mp c3 d hd
  have fa : ∀ x ∈ fas, x.ok K = true := fun x hx => List.all_eq_true.mp c4 x hx
  have exk : ∀ f ∈ exs, f K = true := fun f hf => List.all_eq_true.mp c5 f hf
  have htop : ((PySem.Challenge.rw_allwordlengths_k11_whole_times_until_all).prog.main.scope.names.lookup ("super" : Str)).isSome = false := by decide +kernel
  have E0 : Err (PySem.Challenge.rw_allwordlengths_k11_whole_times_until_all).prog K mg "BadText" "text" "text" (ga K "BadText") := sup_err X G ss0 htop (c.sup 0) (so su0 (by simp [sus]))
  have E1 : Err (PySem.Challenge.rw_allwordlengths_k11_whole_times_until_all).prog K mg "BadStep" "index" "index" (ga K "BadStep") := sup_err X G ss1 htop (c.sup 1) (so su1 (by simp [sus]))
  have E2 : Err (PySem.Challenge.rw_allwordlengths_k11_whole_times_until_all).prog K mg "BadSize" "size" "size" (ga K "BadSize") := sup_err X G ss2 htop (c.sup 2) (so su2 (by simp [sus]))
  have E3 : Err (PySem.Challenge.rw_allwordlengths_k11_whole_times_until_all).prog K mg "TooMany" "most" "most" (ga K "TooMany") := sup_err X G ss3 htop (c.sup 3) (so su3 (by simp [sus]))
  have E4 : Err (PySem.Challenge.rw_allwordlengths_k11_whole_times_until_all).prog K mg "NotMoves" "index" "index" (ga K "NotMoves") := sup_err X G ss4 htop (c.sup 4) (so su4 (by simp [sus]))
  have E5 : Err (PySem.Challenge.rw_allwordlengths_k11_whole_times_until_all).prog K mg "BadBits" "index" "index" (ga K "BadBits") := sup_err X G ss5 htop (c.sup 5) (so su5 (by simp [sus]))
  have T : TxtP mg (ga K "_law_draw") := ⟨fr _ (by simp [frees]), fr _ (by simp [frees]), fr _ (by simp [frees]), gl _ (by simp [globs])⟩
  obtain ⟨eN, nn, kN⟩ := c.tab 0 (t := (fun K => ga K "NUMBERS", numL.map (·.1))) rfl
  obtain ⟨eR, nr, kR⟩ := c.tab 1 (t := (fun K => ga K "RESTS", restL.map (·.1))) rfl
  have xT : xTup K = true := exk _ (by simp [exs])
  have xN : xNum K = true := exk _ (by simp [exs])
  have xNK : xNumK K = true := exk _ (by simp [exs])
  have xR : xRest K = true := exk _ (by simp [exs])
  have xRK : xRestK K = true := exk _ (by simp [exs])
  have TS : TxtS K w mg (ga K "NUMBERS") (ga K "RESTS") (ga K "BARE_KINDS") eN eR nn nr :=
    { isi := fr _ (by simp [frees]), str := fr _ (by simp [frees]), gB := gl _ (by simp [globs]), bare := fun H => tupB_ok xT H,
      num := { g := gl _ (by simp [globs]), D := kN, no := fun z hz => keysB_ok xNK (lookup_none1 hz), yes := fun z i hz => valsB_ok (q := (z, .int i)) xN (List.mem_map.mpr ⟨_, lookup_mem1 hz, rfl⟩) },
      rest := { g := gl _ (by simp [globs]), D := kR, no := fun z hz => keysB_ok xRK (lookup_none1 hz), yes := fun z p hz => restB_ok xR (lookup_mem1 hz) } }
  have h_xMov : xMov K = true := exk _ (by simp [exs])
  have h_xFli : xFli K = true := exk _ (by simp [exs])
  have h_xIS : xIS K = true := exk _ (by simp [exs])
  have h_xIP : xIP K = true := exk _ (by simp [exs])
  have h_xOth : xOth K = true := exk _ (by simp [exs])
  have h_xOthK : xOthK K = true := exk _ (by simp [exs])
  have h_xMM : xMM K = true := exk _ (by simp [exs])
  have h_xZM : xZM K = true := exk _ (by simp [exs])
  have h_xZZ : xZZ K = true := exk _ (by simp [exs])
  have h_xLcm : xLcm K = true := exk _ (by simp [exs])
  obtain ⟨dPen, DPen⟩ := c.def_ 0 (d := defG "_law_pen" sPen) rfl
  have FPen : Fun K "_law_pen" "_law_pen" sPen (ga K "_law_pen") dPen := fun_of (kws := []) DPen
  have bPen := FPen.binds (ps := ["_law_script"]) fun _ _ _ _ _ _ us hl => match us, hl with | [_], _ => rfl
  obtain ⟨dDraw, DDraw⟩ := c.def_ 1 (d := defG "_law_draw" sDraw) rfl
  have FDraw : Fun K "_law_draw" "_law_draw" sDraw (ga K "_law_draw") dDraw := fun_of (kws := []) DDraw
  have bDraw := FDraw.binds (ps := ["_law_pen_here", "_law_many"]) fun _ _ _ _ _ _ us hl => match us, hl with | [_, _], _ => rfl
  obtain ⟨dPick, DPick⟩ := c.def_ 2 (d := defG "_law_pick" sPick) rfl
  have FPick : Fun K "_law_pick" "_law_pick" sPick (ga K "_law_pick") dPick := fun_of (kws := []) DPick
  have bPick := FPick.binds (ps := ["_law_pen_here", "_law_some"]) fun _ _ _ _ _ _ us hl => match us, hl with | [_, _], _ => rfl
  obtain ⟨dBig, DBig⟩ := c.def_ 3 (d := defG "_law_big" sLBig) rfl
  have FBig : Fun K "_law_big" "_law_big" sLBig (ga K "_law_big") dBig := fun_of (kws := []) DBig
  have bBig := FBig.binds (ps := ["_law_pen_here", "_law_many"]) fun _ _ _ _ _ _ us hl => match us, hl with | [_, _], _ => rfl
  obtain ⟨dBits, DBits⟩ := c.def_ 4 (d := defG "_law_bits" sLBits) rfl
  have FBits : Fun K "_law_bits" "_law_bits" sLBits (ga K "_law_bits") dBits := fun_of (kws := []) DBits
  have bBits := FBits.binds (ps := ["_law_pen_here", "_law_many"]) fun _ _ _ _ _ _ us hl => match us, hl with | [_, _], _ => rfl
  obtain ⟨dMov, DMov⟩ := c.def_ 5 (d := defG "_law_movers" sMov) rfl
  have FMov : Fun K "_law_movers" "_law_movers" sMov (ga K "_law_movers") dMov := fun_of (kws := []) DMov
  have bMov := FMov.binds (ps := []) fun _ _ _ _ _ _ us hl => match us, hl with | [], _ => rfl
  obtain ⟨dLStep, DLStep⟩ := c.def_ 6 (d := defG "_law_step" sLStep) rfl
  have FLStep : Fun K "_law_step" "_law_step" sLStep (ga K "_law_step") dLStep := fun_of (kws := []) DLStep
  have bLStep := FLStep.binds (ps := ["_law_pen_here", "_law_kinds"]) fun _ _ _ _ _ _ us hl => match us, hl with | [_, _], _ => rfl
  obtain ⟨dLSteps, DLSteps⟩ := c.def_ 7 (d := defG "_law_steps" sLSteps) rfl
  have FLSteps : Fun K "_law_steps" "_law_steps" sLSteps (ga K "_law_steps") dLSteps := fun_of (kws := []) DLSteps
  have bLSteps := FLSteps.binds (ps := ["_law_pen_here", "_law_many", "_law_kinds"]) fun _ _ _ _ _ _ us hl => match us, hl with | [_, _, _], _ => rfl
  obtain ⟨dText, DText⟩ := c.def_ 8 (d := defG "_law_text" sText) rfl
  have FText : Fun K "_law_text" "_law_text" sText (ga K "_law_text") dText := fun_of (kws := []) DText
  have bText := FText.binds (ps := ["_law_step_here"]) fun _ _ _ _ _ _ us hl => match us, hl with | [_], _ => rfl
  obtain ⟨dPt, DPt⟩ := c.def_ 9 (d := defG "_law_program_text" sLPt) rfl
  have FPt : Fun K "_law_program_text" "_law_program_text" sLPt (ga K "_law_program_text") dPt := fun_of (kws := []) DPt
  have bPt := FPt.binds (ps := ["_law_steps_here"]) fun _ _ _ _ _ _ us hl => match us, hl with | [_], _ => rfl
  obtain ⟨dLIv, DLIv⟩ := c.def_ 10 (d := defG "_law_inverse" sLIv) rfl
  have FLIv : Fun K "_law_inverse" "_law_inverse" sLIv (ga K "_law_inverse") dLIv := fun_of (kws := []) DLIv
  have bLIv := FLIv.binds (ps := ["_law_step_here"]) fun _ _ _ _ _ _ us hl => match us, hl with | [_], _ => rfl
  obtain ⟨dLBefore, DLBefore⟩ := c.def_ 11 (d := defG "_law_before" sLBefore) rfl
  have FLBefore : Fun K "_law_before" "_law_before" sLBefore (ga K "_law_before") dLBefore := fun_of (kws := []) DLBefore
  have bLBefore := FLBefore.binds (ps := ["_law_step_here", "_law_k", "_law_i"]) fun _ _ _ _ _ _ us hl => match us, hl with | [_, _, _], _ => rfl
  obtain ⟨dLFlip, DLFlip⟩ := c.def_ 12 (d := defG "_law_flipped" sLFlip) rfl
  have FLFlip : Fun K "_law_flipped" "_law_flipped" sLFlip (ga K "_law_flipped") dLFlip := fun_of (kws := []) DLFlip
  have bLFlip := FLFlip.binds (ps := ["_law_step_here", "_law_k", "_law_i"]) fun _ _ _ _ _ _ us hl => match us, hl with | [_, _, _], _ => rfl
  obtain ⟨dLTold, DLTold⟩ := c.def_ 13 (d := defG "_law_told" sLTold) rfl
  have FLTold : Fun K "_law_told" "_law_told" sLTold (ga K "_law_told") dLTold := fun_of (kws := []) DLTold
  have bLTold := FLTold.binds (ps := ["_law_program", "_law_k"]) fun _ _ _ _ _ _ us hl => match us, hl with | [_, _], _ => rfl
  obtain ⟨dLDiv, DLDiv⟩ := c.def_ 14 (d := defG "_law_divisor" sLDiv) rfl
  have FLDiv : Fun K "_law_divisor" "_law_divisor" sLDiv (ga K "_law_divisor") dLDiv := fun_of (kws := []) DLDiv
  have bLDiv := FLDiv.binds (ps := ["_law_one", "_law_other"]) fun _ _ _ _ _ _ us hl => match us, hl with | [_, _], _ => rfl
  obtain ⟨dLDue, DLDue⟩ := c.def_ 15 (d := defG "_law_due" sLDue) rfl
  have FLDue : Fun K "_law_due" "_law_due" sLDue (ga K "_law_due") dLDue := fun_of (kws := []) DLDue
  have bLDue := FLDue.binds (ps := ["_law_steps_here", "_law_k"]) fun _ _ _ _ _ _ us hl => match us, hl with | [_, _], _ => rfl
  obtain ⟨dLOrd, DLOrd⟩ := c.def_ 16 (d := defG "_law_order" sLOrd) rfl
  have FLOrd : Fun K "_law_order" "_law_order" sLOrd (ga K "_law_order") dLOrd := fun_of (kws := []) DLOrd
  have bLOrd := FLOrd.binds (ps := ["_law_by", "_law_mod"]) fun _ _ _ _ _ _ us hl => match us, hl with | [_, _], _ => rfl
  obtain ⟨dLKn, DLKn⟩ := c.def_ 17 (d := defG "_law_known" sLKn) rfl
  have FLKn : Fun K "_law_known" "_law_known" sLKn (ga K "_law_known") dLKn := fun_of (kws := []) DLKn
  have bLKn := FLKn.binds (ps := ["_law_pen_here", "_law_k"]) fun _ _ _ _ _ _ us hl => match us, hl with | [_, _], _ => rfl
  obtain ⟨dLHr, DLHr⟩ := c.def_ 18 (d := defG "_law_home_right" sLHr) rfl
  have FLHr : Fun K "_law_home_right" "_law_home_right" sLHr (ga K "_law_home_right") dLHr := fun_of (kws := []) DLHr
  have bLHr := FLHr.binds (ps := ["_law_program", "_law_steps_here", "_law_pen_here"]) fun _ _ _ _ _ _ us hl => match us, hl with | [_, _, _], _ => rfl
  obtain ⟨dLaw, DLaw⟩ := c.def_ 19 (d := defG "law" sLaw) rfl
  have FLaw : Fun K "law" "law" sLaw (ga K "law") dLaw := fun_of (kws := []) DLaw
  have bLaw := FLaw.binds (ps := ["_law_script"]) fun _ _ _ _ _ _ us hl => match us, hl with | [_], _ => rfl
  obtain ⟨dParts, DParts⟩ := c.def_ 20 (d := defG "step_parts" sParts) rfl
  have FParts : Fun K "step_parts" "step_parts" sParts (ga K "step_parts") dParts := fun_of (kws := []) DParts
  have bParts := FParts.binds (ps := ["text"]) fun _ _ _ _ _ _ us hl => match us, hl with | [_], _ => rfl
  obtain ⟨dNum, DNum⟩ := c.def_ 21 (d := defG "is_number" sNum) rfl
  have FNum : Fun K "is_number" "is_number" sNum (ga K "is_number") dNum := fun_of (kws := []) DNum
  have bNum := FNum.binds (ps := ["value", "low", "high"]) fun _ _ _ _ _ _ us hl => match us, hl with | [_, _, _], _ => rfl
  obtain ⟨dPlace, DPlace⟩ := c.def_ 22 (d := defG "place_from" sPlace) rfl
  have FPlace : Fun K "place_from" "place_from" sPlace (ga K "place_from") dPlace := fun_of (kws := []) DPlace
  have bPlace := FPlace.binds (ps := ["kind", "by", "size", "place"]) fun _ _ _ _ _ _ us hl => match us, hl with | [_, _, _, _], _ => rfl
  obtain ⟨dFlipd, DFlipd⟩ := c.def_ 23 (d := defG "is_flipped" sFlipd) rfl
  have FFlipd : Fun K "is_flipped" "is_flipped" sFlipd (ga K "is_flipped") dFlipd := fun_of (kws := []) DFlipd
  have bFlipd := FFlipd.binds (ps := ["kind", "rest", "size", "place"]) fun _ _ _ _ _ _ us hl => match us, hl with | [_, _, _, _], _ => rfl
  obtain ⟨dChosen, DChosen⟩ := c.def_ 24 (d := defG "is_chosen" sChosen) rfl
  have FChosen : Fun K "is_chosen" "is_chosen" sChosen (ga K "is_chosen") dChosen := fun_of (kws := []) DChosen
  have bChosen := FChosen.binds (ps := ["rest", "place"]) fun _ _ _ _ _ _ us hl => match us, hl with | [_, _], _ => rfl
  obtain ⟨dMoved, DMoved⟩ := c.def_ 25 (d := defG "moved" sMoved) rfl
  have FMoved : Fun K "moved" "moved" sMoved (ga K "moved") dMoved := fun_of (kws := []) DMoved
  have bMoved := FMoved.binds (ps := ["kind", "by", "word"]) fun _ _ _ _ _ _ us hl => match us, hl with | [_, _, _], _ => rfl
  obtain ⟨dFlippedB, DFlippedB⟩ := c.def_ 26 (d := defG "flipped" sFlipdB) rfl
  have FFlippedB : Fun K "flipped" "flipped" sFlipdB (ga K "flipped") dFlippedB := fun_of (kws := []) DFlippedB
  have bFlippedB := FFlippedB.binds (ps := ["kind", "rest", "word"]) fun _ _ _ _ _ _ us hl => match us, hl with | [_, _, _], _ => rfl
  obtain ⟨dMixed, DMixed⟩ := c.def_ 27 (d := defG "mixed_bits" sMixed) rfl
  have FMixed : Fun K "mixed_bits" "mixed_bits" sMixed (ga K "mixed_bits") dMixed := fun_of (kws := []) DMixed
  have bMixed := FMixed.binds (ps := ["kind", "by", "word"]) fun _ _ _ _ _ _ us hl => match us, hl with | [_, _, _], _ => rfl
  obtain ⟨dNear, DNear⟩ := c.def_ 28 (d := defG "near_bits" sNear) rfl
  have FNear : Fun K "near_bits" "near_bits" sNear (ga K "near_bits") dNear := fun_of (kws := []) DNear
  have bNear := FNear.binds (ps := ["word", "by"]) fun _ _ _ _ _ _ us hl => match us, hl with | [_, _], _ => rfl
  obtain ⟨dSumB, DSumB⟩ := c.def_ 29 (d := defG "sum_bits" sSumB) rfl
  have FSumB : Fun K "sum_bits" "sum_bits" sSumB (ga K "sum_bits") dSumB := fun_of (kws := []) DSumB
  have bSumB := FSumB.binds (ps := ["word", "by"]) fun _ _ _ _ _ _ us hl => match us, hl with | [_, _], _ => rfl
  obtain ⟨dBounds, DBounds⟩ := c.def_ 30 (d := defG "check_bounds" sBounds) rfl
  have FBounds : Fun K "check_bounds" "check_bounds" sBounds (ga K "check_bounds") dBounds := fun_of (kws := []) DBounds
  have bBounds := FBounds.binds (ps := ["steps"]) fun _ _ _ _ _ _ us hl => match us, hl with | [_], _ => rfl
  obtain ⟨dSText, DSText⟩ := c.def_ 31 (d := defG "step_text" sSText) rfl
  have FSText : Fun K "step_text" "step_text" sSText (ga K "step_text") dSText := fun_of (kws := []) DSText
  have bSText := FSText.binds (ps := ["kind", "by", "rest"]) fun _ _ _ _ _ _ us hl => match us, hl with | [_, _, _], _ => rfl
  obtain ⟨dOwnI, DOwnI⟩ := c.def_ 32 (d := defG "is_own_inverse" sOwnI) rfl
  have FOwnI : Fun K "is_own_inverse" "is_own_inverse" sOwnI (ga K "is_own_inverse") dOwnI := fun_of (kws := []) DOwnI
  have bOwnI := FOwnI.binds (ps := ["by", "rest"]) fun _ _ _ _ _ _ us hl => match us, hl with | [_, _], _ => rfl
  obtain ⟨dJoined, DJoined⟩ := c.def_ 33 (d := defG "joined" sJoined) rfl
  have FJoined : Fun K "joined" "joined" sJoined (ga K "joined") dJoined := fun_of (kws := []) DJoined
  have bJoined := FJoined.binds (ps := ["steps"]) fun _ _ _ _ _ _ us hl => match us, hl with | [_], _ => rfl
  obtain ⟨dChkM, DChkM⟩ := c.def_ 34 (d := defG "check_moves" sChkM) rfl
  have FChkM : Fun K "check_moves" "check_moves" sChkM (ga K "check_moves") dChkM := fun_of (kws := []) DChkM
  have bChkM := FChkM.binds (ps := ["program"]) fun _ _ _ _ _ _ us hl => match us, hl with | [_], _ => rfl
  obtain ⟨dFol, DFol⟩ := c.def_ 35 (d := defG "followed_back" sFol) rfl
  have FFol : Fun K "followed_back" "followed_back" sFol (ga K "followed_back") dFol := fun_of (kws := []) DFol
  have bFol := FFol.binds (ps := ["program", "k", "i"]) fun _ _ _ _ _ _ us hl => match us, hl with | [_, _, _], _ => rfl
  obtain ⟨dTrip, DTrip⟩ := c.def_ 36 (d := defG "trip_of" sTrip) rfl
  have FTrip : Fun K "trip_of" "trip_of" sTrip (ga K "trip_of") dTrip := fun_of (kws := []) DTrip
  have bTrip := FTrip.binds (ps := ["program", "k", "j", "most"]) fun _ _ _ _ _ _ us hl => match us, hl with | [_, _, _, _], _ => rfl
  obtain ⟨dHome, DHome⟩ := c.def_ 37 (d := defG "times_home" sHome) rfl
  have FHome : Fun K "times_home" "times_home" sHome (ga K "times_home") dHome := fun_of (kws := []) DHome
  have bHome := FHome.binds (ps := ["program", "k"]) fun _ _ _ _ _ _ us hl => match us, hl with | [_, _], _ => rfl
  obtain ⟨dSInit, DSInit⟩ := c.def_ 38 (d := defM "Step" "__init__" "Step.__init__" sInit) rfl
  have FSInit : Fun K "__init__" "Step.__init__" sInit (ma K (ga K "Step") "__init__") dSInit := fun_of (kws := []) DSInit
  have bSInit := FSInit.binds (ps := ["self", "text"]) fun _ _ _ _ _ _ us hl => match us, hl with | [_, _], _ => rfl
  obtain ⟨dDone, DDone⟩ := c.def_ 39 (d := defM "Step" "done" "Step.done" sDone) rfl
  have FDone : Fun K "done" "Step.done" sDone (ma K (ga K "Step") "done") dDone := fun_of (kws := []) DDone
  have bDone := FDone.binds (ps := ["self", "bits"]) fun _ _ _ _ _ _ us hl => match us, hl with | [_, _], _ => rfl
  obtain ⟨dPInit, DPInit⟩ := c.def_ 40 (d := defM "Program" "__init__" "Program.__init__" sPInit) rfl
  have FPInit : Fun K "__init__" "Program.__init__" sPInit (ma K (ga K "Program") "__init__") dPInit := fun_of (kws := []) DPInit
  have bPInit := FPInit.binds (ps := ["self", "text"]) fun _ _ _ _ _ _ us hl => match us, hl with | [_, _], _ => rfl
  obtain ⟨dPDone, DPDone⟩ := c.def_ 41 (d := defM "Program" "done" "Program.done" sPDone) rfl
  have FPDone : Fun K "done" "Program.done" sPDone (ma K (ga K "Program") "done") dPDone := fun_of (kws := []) DPDone
  have bPDone := FPDone.binds (ps := ["self", "bits"]) fun _ _ _ _ _ _ us hl => match us, hl with | [_, _], _ => rfl
  obtain ⟨dSInv, DSInv⟩ := c.def_ 42 (d := defM "Step" "__invert__" "Step.__invert__" sSInv) rfl
  have FSInv : Fun K "__invert__" "Step.__invert__" sSInv (ma K (ga K "Step") "__invert__") dSInv := fun_of (kws := []) DSInv
  have bSInv := FSInv.binds (ps := ["self"]) fun _ _ _ _ _ _ us hl => match us, hl with | [_], _ => rfl
  obtain ⟨dPInv, DPInv⟩ := c.def_ 43 (d := defM "Program" "__invert__" "Program.__invert__" sPInv) rfl
  have FPInv : Fun K "__invert__" "Program.__invert__" sPInv (ma K (ga K "Program") "__invert__") dPInv := fun_of (kws := []) DPInv
  have bPInv := FPInv.binds (ps := ["self"]) fun _ _ _ _ _ _ us hl => match us, hl with | [_], _ => rfl
  obtain ⟨dWob, DWob0⟩ := c.def_ 44 (d := ddWob) rfl
  have FWob : L2.FunD K "word_of_bits" "word_of_bits" (defArgs sWob) (defBody sWob) (defScope sWob) [V.int 1000] [] (ga K "word_of_bits") dWob := DWob0
  have e := hfa.symm.trans (gl "law" (by simp [globs]))
  cases e
  refine ⟨dLaw, fun s v => by
      have hb := FunD.bindsA (ps := ["_law_script"]) DLaw fun _ _ _ _ _ _ us hl => match us, hl with | [_], _ => rfl
      exact hb s [v] rfl, fun base _ _ => ?_⟩
  have clS : Cls K (ga K "Step") := cls_ok (fa (.cls "Step") (by simp [fas]))
  have clP : Cls K (ga K "Program") := cls_ok (fa (.cls "Program") (by simp [fas]))
  have pT : NoAttr K (ga K "Program") "text" := noat_ok (fa (.noat "Program" "text") (by simp [fas]))
  have pS : NoAttr K (ga K "Program") "steps" := noat_ok (fa (.noat "Program" "steps") (by simp [fas]))
  have sT : NoAttr K (ga K "Step") "text" := noat_ok (fa (.noat "Step" "text") (by simp [fas]))
  have sK : NoAttr K (ga K "Step") "kind" := noat_ok (fa (.noat "Step" "kind") (by simp [fas]))
  have sB : NoAttr K (ga K "Step") "by" := noat_ok (fa (.noat "Step" "by") (by simp [fas]))
  have sR : NoAttr K (ga K "Step") "rest" := noat_ok (fa (.noat "Step" "rest") (by simp [fas]))
  have mD : Meth K (ga K "Step") "done" (ma K (ga K "Step") "done") := meth_ok (fa (.meth "Step" "done") (by simp [fas]))
  have mPD : Meth K (ga K "Program") "done" (ma K (ga K "Program") "done") := meth_ok (fa (.meth "Program" "done") (by simp [fas]))
  obtain ⟨t5, g5⟩ := int_ok X G (fa (.int "MOST_STEPS" 5) (by simp [fas]))
  obtain ⟨t2, g2⟩ := int_ok X G (fa (.int "MOST_DEALS" 2) (by simp [fas]))
  obtain ⟨tH, gH⟩ := int_ok X G (fa (.int "MOST_SIZE_HOME" 100) (by simp [fas]))
  have qM : ∀ H, SqT K H (ga K "MOVES") (movesL.map V.str) := fun H => tupB_ok h_xMov H
  have qF : ∀ H, SqT K H (ga K "FLIPS") (flipsL.map V.str) := fun H => tupB_ok h_xFli H
  have O : TxtO (PySem.Challenge.rw_allwordlengths_k11_whole_times_until_all).prog K mg (ga K "Step") (ga K "BadText") (ga K "step_parts") (ma K (ga K "Step") "__init__") :=
    { parts := (gl _ (by simp [globs])), bt := E0, cl := clS, nT := sT, nK := sK, nB := sB, nR := sR, g := (gl _ (by simp [globs])), mkr := mkr_ok (fa (.mkr "Step") (by simp [fas])) }
  have R : TxtR (PySem.Challenge.rw_allwordlengths_k11_whole_times_until_all).prog K mg (ga K "Program") (ga K "BadStep") (ga K "check_bounds") :=
    { isi := (fr _ (by simp [frees])), str := (fr _ (by simp [frees])), tup := (fr _ (by simp [frees])), enum := (fr _ (by simp [frees])), gB := (gl _ (by simp [globs])), bi := E1, cl := clP, nT := pT, nS := pS }
  have BB : TxtB (PySem.Challenge.rw_allwordlengths_k11_whole_times_until_all).prog K mg (ga K "Step") (ga K "TooMany") t5 t2 := { len := (fr _ (by simp [frees])), g5 := g5, g2 := g2, tm := E3, cl := clS, nK := sK }
  have J : TxtJ K mg (ga K "Program") (ga K "Step") (ma K (ga K "Program") "__init__") := { g := (gl _ (by simp [globs])), mkr := mkr_ok (fa (.mkr "Program") (by simp [fas])), cs := clS, nT := sT }
  have B : TxtL mg := { str := (fr _ (by simp [frees])), len := (fr _ (by simp [frees])), int := (fr _ (by simp [frees])), range := (fr _ (by simp [frees])) }
  have PL : TxtPl (PySem.Challenge.rw_allwordlengths_k11_whole_times_until_all).prog K mg (ga K "Program") (ga K "Step") (ga K "NotMoves") (ga K "MOVES") (ga K "FLIPS") := { enum := (fr _ (by simp [frees])), cl := clP, nS := pS, clS := clS, nK := sK, nB := sB, nR := sR, em := E4, gM := (gl _ (by simp [globs])), qM := qM, gF := (gl _ (by simp [globs])), qF := qF }
  have W : TxtW (PySem.Challenge.rw_allwordlengths_k11_whole_times_until_all).prog K mg (ga K "BadSize") (ga K "BadBits") (ga K "is_number") := { isi := (fr _ (by simp [frees])), int := (fr _ (by simp [frees])), bool := (fr _ (by simp [frees])), len := (fr _ (by simp [frees])), tup := (fr _ (by simp [frees])), list := (fr _ (by simp [frees])), enum := (fr _ (by simp [frees])), num := (gl _ (by simp [globs])), bz := E2, bb := E5 }
  have M : TxtM mg (ga K "place_from") (ga K "is_flipped") (ga K "is_chosen") := { len := (fr _ (by simp [frees])), tup := (fr _ (by simp [frees])), list := (fr _ (by simp [frees])), range := (fr _ (by simp [frees])), enum := (fr _ (by simp [frees])), sumb := (fr _ (by simp [frees])), min := (fr _ (by simp [frees])), place := (gl _ (by simp [globs])), flipd := (gl _ (by simp [globs])), chosen := (gl _ (by simp [globs])) }
  obtain ⟨dsW, dW, bW⟩ := FunD.binds1 (ps := ["bits", "most"]) FWob 1 0 (fun z => by cases z) rfl (fun T kV doc pm an cdv ct us its hu hi => match us, hu, its, hi with | [_], _, [_], _ => ⟨_, rfl, rfl⟩)
  have GW := ok_wob (w := w) (base := base) FWob W FNum bNum
  have GMo := ok_moved (P := (PySem.Challenge.rw_allwordlengths_k11_whole_times_until_all).prog) (w := w) (base := base) FMoved M FPlace bPlace
  have GFd := ok_flippedB (P := (PySem.Challenge.rw_allwordlengths_k11_whole_times_until_all).prog) (w := w) (base := base) FFlippedB M FFlipd bFlipd FChosen bChosen
  have GMi := ok_mixed (P := (PySem.Challenge.rw_allwordlengths_k11_whole_times_until_all).prog) (w := w) (base := base) FMixed M FNear bNear FSumB bSumB (gl _ (by simp [globs])) (gl _ (by simp [globs]))
  have GDo := ok_done (w := w) (base := base) FDone O M GW (gl _ (by simp [globs])) FWob.kp bW dW GMo FMoved bMoved (gl _ (by simp [globs])) GFd FFlippedB bFlippedB (gl _ (by simp [globs])) GMi FMixed bMixed (gl _ (by simp [globs])) FChosen bChosen (gl _ (by simp [globs])) qM (gl _ (by simp [globs])) qF
  have GSI := ok_init (w := w) (base := base) FSInit O TS FParts bParts
  have GPI := ok_pinit (w := w) (base := base) (C := ga K "Program") FPInit O R TS FParts bParts FSInit bSInit BB FBounds bBounds
  have GD := ok_draw (P := (PySem.Challenge.rw_allwordlengths_k11_whole_times_until_all).prog) (w := w) (base := base) FDraw T
  have GPk := ok_pick (P := (PySem.Challenge.rw_allwordlengths_k11_whole_times_until_all).prog) (w := w) (base := base) FPick T FDraw bDraw
  have GPen := ok_pen (P := (PySem.Challenge.rw_allwordlengths_k11_whole_times_until_all).prog) (w := w) (base := base) FPen T
  have GPD := ok_pdone (w := w) (base := base) (C := ga K "Program") FPDone clP pS clS mD GW (gl _ (by simp [globs])) FWob.kp bW dW GDo bDone
  have GBi := ok_lbits (P := (PySem.Challenge.rw_allwordlengths_k11_whole_times_until_all).prog) (w := w) (base := base) FBits B GD (gl _ (by simp [globs])) FDraw bDraw FBig bBig (gl _ (by simp [globs]))
  have GMv := ok_mov (P := (PySem.Challenge.rw_allwordlengths_k11_whole_times_until_all).prog) (w := w) (base := base) (mg := mg) FMov
  have GTx := ok_text (P := (PySem.Challenge.rw_allwordlengths_k11_whole_times_until_all).prog) (w := w) (base := base) FText (fr _ (by simp [frees]))
  have GLS := ok_lstep (P := (PySem.Challenge.rw_allwordlengths_k11_whole_times_until_all).prog) (w := w) (base := base) FLStep T (fr _ (by simp [frees])) FDraw bDraw FPick bPick (gl _ (by simp [globs]))
  have GSt := ok_lsteps (P := (PySem.Challenge.rw_allwordlengths_k11_whole_times_until_all).prog) (w := w) (base := base) FLSteps (fr _ (by simp [frees])) (fr _ (by simp [frees])) GLS FLStep bLStep (gl _ (by simp [globs]))
  have GPt := ok_lpt (P := (PySem.Challenge.rw_allwordlengths_k11_whole_times_until_all).prog) (w := w) (base := base) FPt GTx FText bText (gl _ (by simp [globs]))
  obtain ⟨iS, fiS, _⟩ := spmB_ok h_xIS
  obtain ⟨iP, fiP, _⟩ := spmB_ok h_xIP
  obtain ⟨eO, nO, kOt⟩ := c.tab 2 (t := (fun K => ga K "OTHER_KINDS", otherL.map (·.1))) rfl
  have kO : OthK K w mg (ga K "OTHER_KINDS") eO nO := { g := (gl _ (by simp [globs])), D := kOt, no := fun z hz => keysB_ok h_xOthK (lookup_none1 hz), yes := fun z y hz => valsB_ok (q := (z, .str y)) h_xOth (List.mem_map.mpr ⟨_, lookup_mem1 hz, rfl⟩) }
  have GST := ok_stext (P := (PySem.Challenge.rw_allwordlengths_k11_whole_times_until_all).prog) (w := w) (base := base) (mg := mg) FSText
  have GOw := ok_owni (P := (PySem.Challenge.rw_allwordlengths_k11_whole_times_until_all).prog) (w := w) (base := base) (mg := mg) FOwnI
  have GJ := ok_joined (P := (PySem.Challenge.rw_allwordlengths_k11_whole_times_until_all).prog) (w := w) (base := base) FJoined J GPI bPInit
  have GSV := ok_sinv (w := w) (base := base) FSInv O kO (fr _ (by simp [frees])) GSI bSInit GST FSText bSText (gl _ (by simp [globs])) GOw FOwnI bOwnI (gl _ (by simp [globs]))
  have GPV := ok_pinv (w := w) (base := base) (C := ga K "Program") FPInv clP pS iS fiS GSV bSInv GJ FJoined bJoined (gl _ (by simp [globs]))
  have GIv := ok_liv (P := (PySem.Challenge.rw_allwordlengths_k11_whole_times_until_all).prog) (w := w) (base := base) FLIv (fr _ (by simp [frees]))
  have GNum := ok_num (P := (PySem.Challenge.rw_allwordlengths_k11_whole_times_until_all).prog) (w := w) (base := base) FNum (fr _ (by simp [frees])) (fr _ (by simp [frees])) (fr _ (by simp [frees]))
  have GCM := ok_chkM (w := w) (base := base) FChkM PL
  have GPlB := ok_placeB (P := (PySem.Challenge.rw_allwordlengths_k11_whole_times_until_all).prog) (w := w) (base := base) FPlace (fr _ (by simp [frees]))
  have GFip := ok_flipd (P := (PySem.Challenge.rw_allwordlengths_k11_whole_times_until_all).prog) (w := w) (base := base) FFlipd FChosen bChosen (gl _ (by simp [globs]))
  have GFo := ok_fol (w := w) (base := base) FFol PL GPlB FPlace bPlace (gl _ (by simp [globs])) GFip FFlipd bFlipd (gl _ (by simp [globs]))
  have TTr : TxtTr (PySem.Challenge.rw_allwordlengths_k11_whole_times_until_all).prog w K mg base (ga K "Program") (ga K "Step") (ga K "TooMany") (ga K "followed_back") (ma K (ga K "Program") "__invert__") dFol dPInv :=
    { GFo := GFo, FFo := FFol, bFo := bFol, gFo := (gl _ (by simp [globs])), iP := iP, fiP := fiP, GPV := GPV, bPV := bPInv, gL := (fr _ (by simp [frees])), et := E3 }
  have GTr := ok_trip FTrip TTr
  have gLcm : mg "lcm" = some (.builtin "math.lcm") := PySem.W.mg_of X G (eqO_ok h_xLcm)
  have GHo := ok_home (w := w) (base := base) FHome (fr _ (by simp [frees])) (fr _ (by simp [frees])) (fr _ (by simp [frees])) gLcm gH E2 GCM FChkM bChkM (gl _ (by simp [globs])) GNum FNum bNum (gl _ (by simp [globs])) GTr FTrip bTrip (gl _ (by simp [globs]))
  have GTo := ok_ltold (CW := ga K "WordsError") FLTold (gl _ (by simp [globs])) (fr _ (by simp [frees])) E4 E2 GHo FHome bHome (gl _ (by simp [globs])) (exm_ok (fa (.exm "NotMoves" "WordsError" true) (by simp [fas]))) (exm_ok (fa (.exm "BadSize" "WordsError" true) (by simp [fas]))) (of_decide_eq_true h_xMM) (of_decide_eq_true h_xZM) (of_decide_eq_true h_xZZ)
  have GBe := ok_lbefore (P := (PySem.Challenge.rw_allwordlengths_k11_whole_times_until_all).prog) (w := w) (base := base) FLBefore B (fr _ (by simp [frees]))
  have GFl := ok_lflip (P := (PySem.Challenge.rw_allwordlengths_k11_whole_times_until_all).prog) (w := w) (base := base) FLFlip B
  have GDi := ok_ldiv (P := (PySem.Challenge.rw_allwordlengths_k11_whole_times_until_all).prog) (w := w) (base := base) (K := K) (mg := mg) FLDiv (fr _ (by simp [frees])) (fr _ (by simp [frees]))
  have GOr := ok_lord (P := (PySem.Challenge.rw_allwordlengths_k11_whole_times_until_all).prog) (w := w) (base := base) (K := K) (mg := mg) FLOrd (fr _ (by simp [frees])) (fr _ (by simp [frees]))
  have GDu := ok_ldue (P := (PySem.Challenge.rw_allwordlengths_k11_whole_times_until_all).prog) (w := w) (base := base) FLDue (fr _ (by simp [frees])) (fr _ (by simp [frees])) GIv FLIv bLIv (gl _ (by simp [globs])) GBe FLBefore bLBefore (gl _ (by simp [globs])) GFl FLFlip bLFlip (gl _ (by simp [globs])) GDi FLDiv bLDiv (gl _ (by simp [globs]))
  have GKn := ok_lkn (P := (PySem.Challenge.rw_allwordlengths_k11_whole_times_until_all).prog) (w := w) (base := base) FLKn (fr _ (by simp [frees])) (fr _ (by simp [frees])) (fr _ (by simp [frees])) GD FDraw bDraw (gl _ (by simp [globs])) GPk FPick bPick (gl _ (by simp [globs])) GDi FLDiv bLDiv (gl _ (by simp [globs])) GOr FLOrd bLOrd (gl _ (by simp [globs]))
  have GHr := ok_lhr FLHr (fr _ (by simp [frees])) (fr _ (by simp [frees])) (fr _ (by simp [frees])) (fr _ (by simp [frees])) clP GD FDraw bDraw (gl _ (by simp [globs])) GPk FPick bPick (gl _ (by simp [globs])) GDu FLDue bLDue (gl _ (by simp [globs])) GTo FLTold bLTold (gl _ (by simp [globs])) GBi FBits bBits (gl _ (by simp [globs])) mPD GPD bPDone
  exact ok_law FLaw J (fr _ (by simp [frees])) (fr _ (by simp [frees])) GPI bPInit GPen FPen bPen (gl _ (by simp [globs])) GPk FPick bPick (gl _ (by simp [globs])) GD FDraw bDraw (gl _ (by simp [globs])) GMv FMov bMov (gl _ (by simp [globs])) GSt FLSteps bLSteps (gl _ (by simp [globs])) GLS FLStep bLStep (gl _ (by simp [globs])) GPt FPt bPt (gl _ (by simp [globs])) GHr FLHr bLHr (gl _ (by simp [globs])) GKn FLKn bLKn (gl _ (by simp [globs])) GTo FLTold bLTold (gl _ (by simp [globs]))
end Aw

open PySem PySem.W PySem.Calls PyProof.Rows
set_option maxRecDepth 100000 in
set_option maxHeartbeats 0 in
theorem PySem.Challenge.cw_allwordlengths_k11_whole_times_until_all_holds : PySem.Challenge.rw_allwordlengths_k11_whole_times_until_all.Holds := by
  w_on; o_law
  refine HandSHeadRun.head_imp (r := OpenLaw.row PySem.Challenge.rw_allwordlengths_k11_whole_times_until_all) (q := view (OpenLaw.row PySem.Challenge.rw_allwordlengths_k11_whole_times_until_all).prog [0, 67]) (H := Aw.hk) (ob := Aw.ob) (M := 12000) (loose := Aw.loose) (d := HandSHeadRun.topDef (OpenLaw.row PySem.Challenge.rw_allwordlengths_k11_whole_times_until_all).prog 67) (kwd := []) Aw.ob_eq
    Aw.run (by kernel_rfl) (by kernel_rfl) (by kernel_rfl) (by rfl) (by first | assumption | decide +kernel) (by decide +kernel) ⟨rfl, rfl, rfl, rfl, rfl, by decide +kernel⟩ ?hw ?hc
  case hw => w_witness2
  case hc =>
    refine L2.walk_ofE (l := PySem.Challenge.rw_allwordlengths_k11_whole_times_until_all) (n := 63) (k := 13) (x := "_law_script") (CX := L2.CX0) rfl (by decide) (by kernel_rfl) ⟨rfl, by decide, by decide⟩ ?F (fun _ _ _ _ z => z)
    intro w mg fa h Y G hmg0
    obtain ⟨K, KX, c⟩ := Y
    have hmg : mg ("law" : PySem.Str) = some (.ref fa) := by
      have e : (HandSHeadRun.topDef (OpenLaw.row PySem.Challenge.rw_allwordlengths_k11_whole_times_until_all).prog 67).name = ("law" : PySem.Str) := by kernel_rfl
      rw [← e]
      exact hmg0
    obtain ⟨fd, hb, hF⟩ := Aw.facts (w := w) KX G hmg c
    exact ⟨K, fd, Aw.spLaw K, KX, hb, fun H a ns hl _ hS => ⟨a, ns, rfl, hS, hl, fun _ => rfl⟩, hF⟩
#print axioms PySem.Challenge.cw_allwordlengths_k11_whole_times_until_all_holds

