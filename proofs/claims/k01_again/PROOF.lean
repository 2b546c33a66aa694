import PyProof.Rows.All
import Wide.All
import OpenK.AllK
import Wide.FinOn
import KE.KExcLine
import KE.KIsAll
import HandS.ForExc
import HandS.ForMost
import HandS.ExcInit
import HandS.IsInst
import KE.KExcIs
import HandS.Evl
import HandS.WordsExc
import HandS.WideBits
import HandS.Wide
import HandS.Ends
import PySem.Challenge.RW_shovefloors_k01_limits_and_errors
import KE.KExcInit
import KE.KExcSuper
import HandS.ForSpec
set_option Elab.async false
set_option linter.all false
set_option maxRecDepth 100000
set_option maxHeartbeats 0
namespace ErrX
open PySem PySem.W PySem.Calls PyProof.Rows PySem.Spec

/-- __init__ of an own class D that names super(): where it stands -/
structure SupFn (prog : Program) (K : Frag) (f D : Addr) (qual : Str) (params : Arguments) (body : List Stmt) (scope : Scope) : Prop where
  ex : ∃ oc od osl kV doc pm an ct cda cc ccl cdd vs ccs file tf cl cld csl cdD,
    K.lookup f = some ⟨oc, od, .func (ksFn "__init__" qual params body scope .none kV doc pm an (.ref cda) ct cc), osl⟩ ∧ codeIn K (.ref cda) qual = true ∧
    K.lookup cda = some ⟨ccl, cdd, .fields vs, ccs⟩ ∧ vs[2]? = some (.str file tf) ∧ ((prog.main.file : Str) == file) = true ∧
    K.lookup cc = some ⟨cl, cld, .cell (some (.ref D)), csl⟩ ∧ clsIn K D = some cdD
  top : (prog.main.scope.names.lookup ("super" : Str)).isSome = false

theorem mod_keeps {K : Frag} {mg : Str → Option Value} {h h' : Heap} (M : L2.Mod K mg h) (k : ∀ b o, h.get? b = some o → h'.get? b = some o) : L2.Mod K mg h' :=
  ⟨M.kin.keeps k, M.glob.keeps k, let ⟨mb, h1, h2⟩ := M.blt; ⟨mb, h1.keeps k, h2⟩, M.nolimit.keeps k⟩

section
variable {prog : Program} {w : World} {A : Around} {E : Value → Shared → Prop} {R : Result → Shared → Prop} {s : Shared} {K : Frag} {mg : Str → Option Value} {C D x f cc cda L : Addr}

/-- super() at the beginning of a method's first statement -/
theorem sup_base {body : List Stmt} {q : Str} {scope : Scope} {p0 p1 : Pos} {attr : Str} {whole : Sem Value} {fd : FuncData} {ar : Arg} {vs : Array Value} {file : Str} {tf : Tok} {oc ccl cl : Value} {od cdd cld : Option Addr} {osl ccs csl : Array (Option Value)} {cdD : ClassData} {ox : Obj} {m : Str → Option Value} {Q : Value → Shared → Prop}
    (M : L2.Mod K mg s.heap) (hs : mg "super" = none) (hn : s.heap.Ns L m)
    (hf : K.lookup f = some ⟨oc, od, .func fd, osl⟩) (hp : (fd.params.posonlyargs ++ fd.params.args).head? = some ar) (hv : m ar.arg = some (.ref x))
    (hx : s.heap.get? x = some ox) (hxc : ox.cls = .ref C) (hnc : ∀ c, ox.data ≠ .cls c)
    (hcode : K.lookup cda = some ⟨ccl, cdd, .fields vs, ccs⟩) (hvs : vs[2]? = some (.str file tf)) (hfile : ((prog.main.file : Str) == file) = true)
    (hcell : K.lookup cc = some ⟨cl, cld, .cell (some (.ref D)), csl⟩) (hD : clsIn K D = some cdD) (hsub : mroIn K C (.ref D) = some true)
    (hat : (attr == ("__class__" : Str)) = false) (hks : scope.names.lookup ("super" : Str) = some .globalImplicit) (hkc : scope.names.lookup ("__class__" : Str) = some .free) (hka : scope.names.lookup ar.arg = some .local) (hk : scope.kind = .function)
    (htop : (prog.main.scope.names.lookup ("super" : Str)).isSome = false)
    (h : ∀ h', h'.get? s.heap.objs.size = some (ks_superObj D x C) → (∀ b o, s.heap.get? b = some o → h'.get? b = some o) → Q (.ref s.heap.objs.size) { s with heap := h' }) :
    _root_.PySem.wpAt (model prog w) A (.func body (ksEnv q scope L f (.ref cda) cc)) (attributeBase (.Call (.Name "super" p0) [] [] p1) attr (ksEnv q scope L f (.ref cda) cc) whole) Q E s := by
  have X : K.In s.heap := M.kin
  obtain ⟨mb, hb1, hb2⟩ := M.blt
  obtain ⟨hh, g, d, t, os⟩ := s
  obtain ⟨oD, hD1, hD2⟩ : ∃ oD, hh.get? D = some oD ∧ oD.data = .cls cdD := by
    unfold clsIn at hD
    split at hD
    · rename_i c d cd' sl ho
      cases hD
      exact ⟨_, X _ _ ho, rfl⟩
    · cases hD
  refine ks_wpAt_super_base (env := ksEnv q scope L f (.ref cda) cc) hks hkc hat rfl (X _ _ hf) rfl hp rfl (X _ _ hcode) rfl hvs hfile htop ?_
  refine ks_loadName_global hk hks (loadGlobal_builtin (env := ksEnv q scope L f (.ref cda) cc) M.glob hs hb1 ((hb2 _ (by decide +kernel)).trans PyProof.Rows.Boot.«super») ⟨rfl, ?_⟩)
  refine wpAny_loadName_free hk hkc rfl ⟨_, X _ _ hcell, rfl⟩ ?_
  refine wpAny_loadName_local hk hka hn hv ?_
  refine ks_wpAny_isType_cls hD1 hD2 ⟨rfl, ?_⟩
  refine ks_wpAny_call_super hD1 hD2 hx hxc hnc (looks_mroIn X hsub) (fun h' e k => ?_)
  exact h _ e k

/-- super().__init__: the built-in one, bound -/
theorem sup_builtin {B initId : String} (KF : KxsFacts B initId) {so : Addr} {ox : Obj} {cdC : ClassData} {pl : Sem Bool} {Q : Value × List Value → Shared → Prop}
    (X : K.In s.heap) (hso : s.heap.get? so = some (ks_superObj D x C)) (hx : s.heap.get? x = some ox) (hxc : ox.cls = .ref C) (hnc : ∀ c, ox.data ≠ .cls c) (hC : clsIn K C = some cdC) (ho : nsIn K cStatics "thirdparty.any" = some none)
    (hm : ks_superIn K C D "__init__" = some (some (.builtin initId))) (hB : subIn K (.ref C) (.type B) = some true)
    (h : ∀ h', h'.get? s.heap.objs.size = some (kxs_mw initId x) → (∀ b o, s.heap.get? b = some o → h'.get? b = some o) → h'.objs.size = s.heap.objs.size + 1 → Q (.ref s.heap.objs.size, []) { s with heap := h', toks := s.toks + 1 }) :
    wpAny (model prog w) A (getMethod (.ref so) "__init__" pl) Q E s := by
  obtain ⟨hh, g, d, t, os⟩ := s
  have hty : Looks (model prog w) hh (typeOf (.ref x)) (.ref C) := hxc ▸ (Looks.ld hx).andThen .now
  have hI : Looks (model prog w) hh (isInstance (.ref x) (.type B)) true := hty.andThen (looks_subIn X hB)
  unfold ks_superIn at hm
  rw [hC] at hm
  have hne : x ≠ C := by
    rintro rfl
    unfold clsIn at hC
    split at hC
    · rename_i c d cd' sl ho'
      have e := X _ _ ho'
      rw [hx] at e
      cases e
      exact hnc _ rfl
    · cases hC
  refine kxs_getMethod KF hso (looks_opaque X ho) (l₀ := cdC.mro) ?_ rfl X hm hI hne (by decide) ?_
  · exact fun A Q E s k q => wpAny_bind ((looks_clsIn X hC) A _ E s k (wpAny_pure q))
  · exact h _ (Heap.get?_push_at rfl rfl) (fun b o e => Heap.get?_push_of_some _ e) (Heap.size_push _ _)

theorem ne_cls {ox : Obj} {cdC : ClassData} {h : Heap} (X : K.In h) (hx : h.get? x = some ox) (hnc : ∀ c, ox.data ≠ .cls c) (hC : clsIn K C = some cdC) : x ≠ C := by
  rintro rfl
  unfold clsIn at hC
  split at hC
  · rename_i c d cd' sl ho'
    have e := X _ _ ho'
    rw [hx] at e
    cases e
    exact hnc _ rfl
  · cases hC
/-- super().__init__: a base's def, bound -/
theorem sup_def {so g : Addr} {ox : Obj} {cdC : ClassData} {pl : Sem Bool} {Q : Value × List Value → Shared → Prop}
    (X : K.In s.heap) (hso : s.heap.get? so = some (ks_superObj D x C)) (hx : s.heap.get? x = some ox) (hxc : ox.cls = .ref C) (hnc : ∀ c, ox.data ≠ .cls c) (hC : clsIn K C = some cdC) (ho : nsIn K cStatics "thirdparty.any" = some none)
    (hm : ks_superIn K C D "__init__" = some (some (.ref g))) (ht : typeIn K (.ref g) = some (.type "function"))
    (h : ∀ h', h'.get? s.heap.objs.size = some (methodObj (.ref g) (.ref x)) → (∀ b o, s.heap.get? b = some o → h'.get? b = some o) → Q (.ref s.heap.objs.size, []) { s with heap := h', toks := s.toks + 1 }) :
    wpAny (model prog w) A (getMethod (.ref so) "__init__" pl) Q E s := by
  obtain ⟨hh, gg, d, t, os⟩ := s
  have hne := ne_cls X hx hnc hC
  unfold ks_superIn at hm
  rw [hC] at hm
  obtain ⟨of, hof, hofc⟩ : ∃ of, hh.get? g = some of ∧ of.cls = .type "function" := by
    have ht' : (K.lookup g).map (·.cls) = some (.type "function") := ht
    cases z : K.lookup g with
    | none => rw [z] at ht'; cases ht'
    | some of => rw [z] at ht'; exact ⟨of, X _ _ z, Option.some.inj ht'⟩
  refine ks_wpAny_getMethod_super hso (looks_opaque X ho) (l₀ := cdC.mro) ?_ rfl X hm hof hofc hne (by decide) ?_
  · exact fun A Q E s k q => wpAny_bind ((looks_clsIn X hC) A _ E s k (wpAny_pure q))
  · exact h _ (Heap.get?_push_at rfl rfl) (fun b o e => Heap.get?_push_of_some _ e)

/-- the bound built-in __init__ called -/
theorem call_mw {B newId initId : String} {bmB : List Value} {u t0 : Addr} {rest : List Value} {Q : Value → Shared → Prop} (FB : ExcBaseFacts B newId initId bmB) (X : K.In s.heap) (q : excInitIn K C bmB newId = true)
    (hu : s.heap.get? u = some (kxs_mw initId x)) (hx : s.heap.get? x = some (excObj C t0 none .none)) (hz : rest.length ≤ sizeLine)
    (h : ∀ t' h', (∀ b o, b ≠ x → s.heap.get? b = some o → h'.get? b = some o) → h'.get? x = some (excObj C t' none .none) → Q .none { s with heap := h' }) :
    wpAny (model prog w) A (call (.ref u) rest) Q E s := by
  obtain ⟨nm, N', qn, bs, bm, hdct, sn, sub, ab, col, dd, k0, k1, k2, k3, k5, hC, hT⟩ := excInit_of X q
  obtain ⟨hh, g, d, tk, os⟩ := s
  refine wpAny_call (codeAny_of_tree ?_)
  show wpAny _ A.in1 (callAny (.ref u) ⟨rest, []⟩) _ _ _
  simp only [callAny]
  refine wpAny_bind (wpAny_load hu ?_)
  simp only [kxs_mw, show (Value.type "method-wrapper" == Value.type "method" || Value.type "method-wrapper" == Value.type "builtin_function_or_method" || Value.type "method-wrapper" == Value.type "method-wrapper") = true by decide, if_true]
  refine KFB.if_so (by decide) ?_
  refine wpAny_bind (check_bound_init FB.toExcCallFacts hC hx rfl ?_)
  refine wpAny_bind (wpAny_pure (wpAny_pure ?_))
  refine ⟨plainId_quiet FB.init.plain _, codeAny_builtin FB.initEntry ?_⟩
  exact exc_init_tree (cls := .ref C) (t0 := t0) (dv := none) (c2 := .none) (c3 := .none) (b4 := .bool false) hx hz fun h' k e t' => h _ h' k e
end

/-! ### the two __init__s -/
def aSelf (q1 : Pos) : Arguments := { posonlyargs := [], args := [{ arg := "self", annotation := none, pos := q1 }], vararg := none, kwonlyargs := [], kw_defaults := [], kwarg := none, defaults := [] }
def aField (q1 q2 : Pos) (fld : Str) : Arguments := { posonlyargs := [], args := [{ arg := "self", annotation := none, pos := q1 }, { arg := fld, annotation := none, pos := q2 }], vararg := none, kwonlyargs := [], kw_defaults := [], kwarg := none, defaults := [] }
def sSelf : Scope := { kind := .function, names := [(PySem.Str.ofString "self", .local), (PySem.Str.ofString "__class__", .free), (PySem.Str.ofString "super", .globalImplicit)], isGenerator := false, isCoroutine := false, more := [] }
def sField (fld : Str) : Scope := { kind := .function, names := [(PySem.Str.ofString "self", .local), (fld, .local), (PySem.Str.ofString "__class__", .free), (PySem.Str.ofString "super", .globalImplicit)], isGenerator := false, isCoroutine := false, more := [] }
/-- super().__init__(..) -/
def stSup (es : List Expr) (p0 p1 p2 p3 p4 : Pos) : Stmt := .Expr (.Call (.Attribute (.Call (.Name "super" p0) [] [] p1) "__init__" p2) es [] p3) p4
/-- how such a call is evaluated (by rfl where the places are written) -/
def SupCall (es : List Expr) (p0 p1 p2 p3 : Pos) : Prop := ∀ env : Env, ∃ pl : Sem Bool, eval (.Call (.Attribute (.Call (.Name "super" p0) [] [] p1) "__init__" p2) es [] p3) env = (do
      let ov ← attributeBase (.Call (.Name "super" p0) [] [] p1) "__init__" env (eval (.Call (.Name "super" p0) [] [] p1) env)
      standAt p2.atName
      let (f, first) ← holding [ov] (getMethod ov "__init__" pl)
      callWith p3 f first (backTo p3 (starEach es env)) [])
/-- what the written part says of an own error class C over the own base D over the built-in B -/
structure ErrC (K : Frag) (C : Addr) (B newId initId : String) (bmB : List Value) : Prop where
  fb : ExcBaseFacts B newId initId bmB
  kf : KxsFacts B initId
  q : excInitIn K C bmB newId = true
  cls : ∃ cd, clsIn K C = some cd
  hB : subIn K (.ref C) (.type B) = some true
  op : nsIn K cStatics "thirdparty.any" = some none
  sf : StoreFacts B bmB "object.__setattr__" "object"
  sa : findIn K (.ref C) "__setattr__" = some (some (.builtin "object.__setattr__"))
  over : excOver K C bmB = true
  hd : hasDictIn K C = true
section
variable {prog : Program} {w : World} {A : Around} {E : Value → Shared → Prop} {R : Result → Shared → Prop} {s : Shared} {K : Frag} {mg : Str → Option Value} {C D x f : Addr} {B newId initId : String} {bmB : List Value}
/-- a def that names super() is entered -/
theorem call_ks {name qual : Str} {params : Arguments} {body : List Stmt} {scope : Scope} {kV doc pm ct oc : Value} {an od : Option Addr} {osl : Array (Option Value)} {cda cc : Addr} {args : Args} {binds : List (Str × Value)} {R : Result → Shared → Prop}
    (X : K.In s.heap) (lim : s.heap.NoLimit) (hf : K.lookup f = some ⟨oc, od, .func (ksFn name qual params body scope .none kV doc pm an (.ref cda) ct cc), osl⟩) (hcd : codeIn K (.ref cda) qual = true) (hroom : A.depth < recursionLimit)
    (hbind : BindsTo s (ksFn name qual params body scope .none kV doc pm an (.ref cda) ct cc) args binds) (hcell : ∀ x ∈ scope.names, x.2 ≠ .cell) (hloc : ∀ y ∈ binds, scope.names.lookup y.1 = some .local)
    (h : ∀ h₁, h₁.Ns s.heap.objs.size (fun y => binds.reverse.lookup y) → (∀ b o, s.heap.get? b = some o → h₁.get? b = some o) →
      _root_.PySem.wpAt (model prog w) (A.deeper (ksEnv qual scope s.heap.objs.size f (.ref cda) cc)) (.func body (ksEnv qual scope s.heap.objs.size f (.ref cda) cc)) (execs body (ksEnv qual scope s.heap.objs.size f (.ref cda) cc))
        (fun fl s' => R (.ok (.ret (match fl with | .ret v => v | _ => .none))) s')
        (fun e s' => wpAny (model prog w) (A.deeper (ksEnv qual scope s.heap.objs.size f (.ref cda) cc)) (leaving (ksEnv qual scope s.heap.objs.size f (.ref cda) cc) e) (fun _ s'' => R (.error e) s'') (fun e' s'' => R (.error e') s'') s')
        { s with heap := h₁, toks := s.toks + binds.length })
    (hco : scope.isCoroutine = false := by rfl) (hgen : scope.isGenerator = false := by rfl) (hk : scope.kind = .function := by rfl) : codeAny (model prog w) A (.call (.ref f) args) R s := by
  refine ks_codeAny_call_defAt (fd := ksFn name qual params body scope .none kV doc pm an (.ref cda) ct cc) (body := body) (binds := binds) hroom (X _ _ hf) rfl lim (codeRec_of X hcd) rfl hbind hcell hloc (fun h₁ hns hk₁ => ?_) hco hgen hk
  exact h h₁ hns hk₁
/-- __init__ of the base D, for an object of the class C -/
theorem base_init {q1 p0 p1 p2 p3 p4 p5 : Pos} {txt qual : Str} {j : Nat} {t0 : Addr} (hsc : SupCall [.Constant (.str txt) j p5] p0 p1 p2 p3) (S : SupFn prog K f D qual (aSelf q1) [stSup [.Constant (.str txt) j p5] p0 p1 p2 p3 p4] sSelf) (Y : ErrC K C B newId initId bmB)
    (M : L2.Mod K mg s.heap) (hs : mg "super" = none) (hx : s.heap.get? x = some (excObj C t0 none .none)) (hsub : mroIn K C (.ref D) = some true) (hm : ks_superIn K C D "__init__" = some (some (.builtin initId))) (hroom : A.depth < recursionLimit)
    (hq : ∀ h' tk t1, (∀ b o, b ≠ x → s.heap.get? b = some o → h'.get? b = some o) → h'.get? x = some (excObj C t1 none .none) → R (.ok (.ret .none)) { s with heap := h', toks := tk }) :
    codeAny (model prog w) A (.call (.ref f) ⟨[.ref x], []⟩) R s := by
  obtain ⟨⟨oc, od, osl, kV, doc, pm, an, ct, cda, cc, ccl, cdd, vs, ccs, file, tf, cl, cld, csl, cdD, hf, hcd, hcode, hvs, hfile, hcell, hD⟩, htop⟩ := S
  obtain ⟨cdC, hC⟩ := Y.cls
  have X := M.kin
  refine call_ks (binds := [("self", .ref x)]) X M.nolimit hf hcd hroom (BindsTo.of_eq (by first | rfl | with_unfolding_all rfl)) (by decide) (locs rfl) (fun h₁ hns k₁ => ?_)
  have M₁ := mod_keeps M k₁
  have hx₁ := k₁ _ _ hx
  have nx : ∀ c, (excObj C t0 none .none).data ≠ .cls c := fun c z => by cases z
  unfold stSup
  obtain ⟨pl, hsc⟩ := hsc (ksEnv qual sSelf s.heap.objs.size f (.ref cda) cc)
  refine ks_wpAt_execs_cons (ks_wpAt_Expr_any (ks_wpAt_MethodCall ?_ hsc))
  refine sup_base (s := ⟨h₁, s.gens, s.drawn, _, s.os⟩) M₁ hs hns hf rfl (by first | rfl | with_unfolding_all rfl) hx₁ rfl nx hcode hvs hfile hcell hD hsub (by decide) (by decide) (by decide) (show sSelf.names.lookup ("self" : Str) = some .local by decide) rfl htop fun h₂ e₂ k₂ => ?_
  refine sup_builtin (s := ⟨h₂, s.gens, s.drawn, _, s.os⟩) Y.kf (M₁.kin.keeps k₂) e₂ (k₂ _ _ hx₁) rfl nx hC Y.op hm Y.hB fun h₃ e₃ k₃ z₃ => ?_
  have k₀₃ : ∀ b o, s.heap.get? b = some o → h₃.get? b = some o := fun b o e => k₃ _ _ (k₂ _ _ (k₁ _ _ e))
  show wpAny _ _ (callWith p3 (.ref h₂.objs.size) [] (backTo p3 (starEach [Expr.Constant (.str txt) j p5] (ksEnv qual sSelf s.heap.objs.size f (.ref cda) cc))) []) _ _ _
  refine kxs_callWith (i := initId) (x := x) rfl (evalArgs_plain (spliced_cons ?_))
  show wpAny _ _ (eval (.Constant (.str txt) j p5) _) _ _ _
  refine Calls.Constant_str (spliced_nil ⟨e₃, ?_⟩)
  refine call_mw (s := ⟨h₃, s.gens, s.drawn, _, s.os⟩) Y.fb (M.kin.keeps k₀₃) Y.q e₃ (k₀₃ _ _ hx) ?_ fun t' h₄ k₄ e₄ => ?_
  · rw [sizeLine_eq]
    exact (by decide : 1 ≤ 16777216)
  exact wpAt_of_wpAny (wpAny_execs_nil (hq h₄ _ t' (fun b o hb e => k₄ _ _ hb (k₀₃ _ _ e)) e₄))

/-- self.fld = v, the first store -/
theorem err_store {t : Addr} {fld : Str} {v : Value} {Q : Unit → Shared → Prop} (Y : ErrC K C B newId initId bmB) (X : K.In s.heap) (hx : s.heap.get? x = some (excObj C t none .none)) (ht : takerIn K C fld = some none)
    (hq : ∀ h' tk dx, (∀ b o, b ≠ x → s.heap.get? b = some o → h'.get? b = some o) → s.heap.objs.size ≤ dx → dx ≠ x → h'.get? x = some (excObj C t (some dx) .none) → h'.Ns1 dx (fun y => if y = fld then some v else none) → Q () { s with heap := h', toks := tk }) :
    wpAny (model prog w) A (setAttr (.ref x) fld v) Q E s := by
  obtain ⟨hp, g, d, tk, os⟩ := s
  have I : InstAt hp x (excObj C t none .none) C none := ⟨hx, rfl, rfl, trivial⟩
  have hxs : x ≠ hp.objs.size := Nat.ne_of_lt (Heap.lt_size hx)
  obtain ⟨cd, hc, hd'⟩ := any_some Y.hd
  refine set_plain X I Y.sa ?_
  refine osa_openX (od := none) Y.sf X I Y.over ht fun b => ?_
  refine wpAny_bind (wpAny_pure (wpAny_bind (instanceDict_exc hx (looks_clsIn X hc) hd' ?_)))
  show wpAny _ _ (Builtin.ObjectAttr.storeInDict hp.objs.size (.str fld tk) fld v) _ _ _
  refine HandSPX.store_in_new (hp := (hp.push (dictOf [] 0)).update x fun o => { o with dict := some hp.objs.size }) ?_ fun h' tk' hn' hs => ?_
  · exact ⟨_, #[], _, (Heap.get?_update_ne _ _ _ _ hxs.symm).trans (Heap.get?_push_at rfl rfl), rfl, fun e he => absurd he (by simp), fun _ => rfl⟩
  · have hx₁ : (hp.push (dictOf [] 0)).get? x = some (excObj C t none .none) := Heap.get?_push_of_some _ hx
    refine hq h' _ hp.objs.size (fun b o hb ho => ?_) (Nat.le_refl _) hxs.symm ?_ hn'
    · exact (hs.2 b (Nat.ne_of_lt (Heap.lt_size ho))).trans ((Heap.get?_update_ne _ _ _ _ hb).trans (Heap.get?_push_of_some _ ho))
    · exact (hs.2 x hxs).trans (Heap.get?_update_self _ hx₁ rfl)

/-- a class over the own base D: its own __init__ at f with the field fld -/
structure LeafC (prog : Program) (K : Frag) (C D f g : Addr) (fld : Str) : Prop where
  ht : takerIn K C fld = some none
  hsC : mroIn K C (.ref C) = some true
  hsD : mroIn K C (.ref D) = some true
  hmC : ks_superIn K C C "__init__" = some (some (.ref g))
  tg : typeIn K (.ref g) = some (.type "function")
  fg : fnIn K g = true
theorem leaf_init {q1 q2 p0 p1 p2 p3 p4 a0 a1 a2 a3 b1 c0 c1 c2 c3 c4 c5 : Pos} {txt qual qualD fld : Str} {j : Nat} {t0 g : Addr} {v : Value} (hfld : fld ≠ "self" ∧ fld ≠ "__class__" ∧ fld ≠ "super" ∧ (fld == ("__debug__" : Str)) = false)
    (hsc : SupCall [] p0 p1 p2 p3) (hscD : SupCall [.Constant (.str txt) j c5] c0 c1 c2 c3)
    {args : Args} (hbind : ∀ (kV doc pm ct : Value) (an : Option Addr) (cda cc : Addr) (s : Shared), BindsTo s (ksFn "__init__" qual (aField q1 q2 fld) [stSup [] p0 p1 p2 p3 p4, .Assign [.Attribute (.Name "self" a0) fld a1] (.Name fld a2) a3] (sField fld) .none kV doc pm an (.ref cda) ct cc) args [("self", .ref x), (fld, v)])
    (hsw : ∀ env : Env, swapsWith (.Name fld a2) (some (.Attribute (.Name "self" a0) fld a1)) a3.line env = pure false)
    (S : SupFn prog K f C qual (aField q1 q2 fld) [stSup [] p0 p1 p2 p3 p4, .Assign [.Attribute (.Name "self" a0) fld a1] (.Name fld a2) a3] (sField fld))
    (SD : SupFn prog K g D qualD (aSelf b1) [stSup [.Constant (.str txt) j c5] c0 c1 c2 c3 c4] sSelf) (hmD : ks_superIn K C D "__init__" = some (some (.builtin initId))) (Z : LeafC prog K C D f g fld)
    (Y : ErrC K C B newId initId bmB)
    (M : L2.Mod K mg s.heap) (hs : mg "super" = none) (hx : s.heap.get? x = some (excObj C t0 none .none)) (hnx : K.lookup x = none) (hroom : A.depth + 2 < recursionLimit)
    (hq : ∀ h' tk t1 dx, (∀ b o, b ≠ x → s.heap.get? b = some o → h'.get? b = some o) → s.heap.objs.size ≤ dx → dx ≠ x → h'.get? x = some (excObj C t1 (some dx) .none) → h'.Ns1 dx (fun y => if y = fld then some v else none) →
      R (.ok (.ret .none)) { s with heap := h', toks := tk }) :
    codeAny (model prog w) A (.call (.ref f) args) R s := by
  obtain ⟨⟨oc, od, osl, kV, doc, pm, an, ct, cda, cc, ccl, cdd, vs, ccs, file, tf, cl, cld, csl, cdD, hf, hcd, hcode, hvs, hfile, hcell, hD⟩, htop⟩ := S
  obtain ⟨cdC, hC⟩ := Y.cls
  obtain ⟨n1, n2, n3, n4⟩ := hfld
  have X := M.kin
  have b1 : ((fld == ("self" : Str))) = false := beq_eq_false_iff_ne.mpr n1
  have b2 : ((("self" : Str) == fld)) = false := beq_eq_false_iff_ne.mpr (Ne.symm n1)
  have b3 : ((("__class__" : Str) == fld)) = false := beq_eq_false_iff_ne.mpr (Ne.symm n2)
  have b4 : ((("super" : Str) == fld)) = false := beq_eq_false_iff_ne.mpr (Ne.symm n3)
  have lself : (sField fld).names.lookup ("self" : Str) = some .local := by
    show List.lookup ("self" : Str) ((("self" : Str), NameKind.local) :: _) = _
    rw [List.lookup_cons, beq_self_eq_true]
  have lfld : (sField fld).names.lookup fld = some .local := by
    show List.lookup fld ((("self" : Str), NameKind.local) :: (fld, NameKind.local) :: _) = _
    rw [List.lookup_cons, b1, List.lookup_cons, beq_self_eq_true]
  have lcls : (sField fld).names.lookup ("__class__" : Str) = some .free := by
    show List.lookup ("__class__" : Str) ((("self" : Str), NameKind.local) :: (fld, NameKind.local) :: (("__class__" : Str), NameKind.free) :: _) = _
    rw [List.lookup_cons, show (("__class__" : Str) == ("self" : Str)) = false by decide, List.lookup_cons, b3, List.lookup_cons, beq_self_eq_true]
  have lsup : (sField fld).names.lookup ("super" : Str) = some .globalImplicit := by
    show List.lookup ("super" : Str) ((("self" : Str), NameKind.local) :: (fld, NameKind.local) :: (("__class__" : Str), NameKind.free) :: (("super" : Str), NameKind.globalImplicit) :: _) = _
    rw [List.lookup_cons, show (("super" : Str) == ("self" : Str)) = false by decide, List.lookup_cons, b4, List.lookup_cons, show (("super" : Str) == ("__class__" : Str)) = false by decide, List.lookup_cons, beq_self_eq_true]
  refine call_ks (binds := [("self", .ref x), (fld, v)]) X M.nolimit hf hcd (by omega) (hbind _ _ _ _ _ _ _ _) (by
    intro y hy
    show y.2 ≠ _
    have hy' : y ∈ ([(("self" : Str), NameKind.local), (fld, .local), (("__class__" : Str), .free), (("super" : Str), .globalImplicit)] : List (Str × NameKind)) := hy
    simp only [List.mem_cons, List.mem_nil_iff, or_false] at hy'
    rcases hy' with rfl | rfl | rfl | rfl <;> (intro z; cases z)) (by
    intro y hy
    simp only [List.mem_cons, List.mem_nil_iff, or_false] at hy
    rcases hy with rfl | rfl
    · exact lself
    · exact lfld) (fun h₁ hns k₁ => ?_)
  have M₁ := mod_keeps M k₁
  have hx₁ := k₁ _ _ hx
  have nx : ∀ c, (excObj C t0 none .none).data ≠ .cls c := fun c z => by cases z
  have mself : (fun y => ([(("self" : Str), Value.ref x), (fld, v)] : List (Str × Value)).reverse.lookup y) "self" = some (.ref x) := by
    show List.lookup ("self" : Str) [(fld, v), (("self" : Str), Value.ref x)] = _
    rw [List.lookup_cons, b2, List.lookup_cons, beq_self_eq_true]
  have mfld : (fun y => ([(("self" : Str), Value.ref x), (fld, v)] : List (Str × Value)).reverse.lookup y) fld = some v := by
    show List.lookup fld [(fld, v), (("self" : Str), Value.ref x)] = _
    rw [List.lookup_cons, beq_self_eq_true]
  unfold stSup
  obtain ⟨pl, hsc⟩ := hsc (ksEnv qual (sField fld) s.heap.objs.size f (.ref cda) cc)
  refine ks_wpAt_execs_cons (ks_wpAt_Expr_any (ks_wpAt_MethodCall ?_ hsc))
  refine sup_base (s := ⟨h₁, s.gens, s.drawn, _, s.os⟩) M₁ hs hns hf rfl mself hx₁ rfl nx hcode hvs hfile hcell hD Z.hsC (by decide) lsup lcls lself rfl htop fun h₂ e₂ k₂ => ?_
  refine sup_def (s := ⟨h₂, s.gens, s.drawn, _, s.os⟩) (M₁.kin.keeps k₂) e₂ (k₂ _ _ hx₁) rfl nx hC Y.op Z.hmC Z.tg fun h₃ e₃ k₃ => ?_
  have k₀₃ : ∀ b o, s.heap.get? b = some o → h₃.get? b = some o := fun b o e => k₃ _ _ (k₂ _ _ (k₁ _ _ e))
  have M₃ : L2.Mod K mg h₃ := mod_keeps M k₀₃
  have sz₃ : s.heap.objs.size < h₃.objs.size := Heap.lt_size (k₃ _ _ (k₂ _ _ (hns.choose_spec.choose_spec.choose_spec.1)))
  show wpAny _ _ (callWith p3 (.ref h₂.objs.size) [] (backTo p3 (starEach [] (ksEnv qual (sField fld) s.heap.objs.size f (.ref cda) cc))) []) _ _ _
  refine callWith_M0 (K := K) (g := g) (self := .ref x) ⟨e₃, M₃.kin⟩ Z.fg ?_
  refine wpAny_call (method_call (s := ⟨h₃, s.gens, s.drawn, _, s.os⟩) e₃ ?_)
  refine base_init (s := ⟨h₃, s.gens, s.drawn, _, s.os⟩) hscD SD Y M₃ hs (k₀₃ _ _ hx) Z.hsD hmD (by show A.depth + 1 < _; omega) fun h₄ tk₄ t₄ k₄ e₄ => ?_
  refine wpAt_of_wpAny ?_
  have hL₄ : h₄.Ns s.heap.objs.size (fun y => ([(("self" : Str), Value.ref x), (fld, v)] : List (Str × Value)).reverse.lookup y) := by
    obtain ⟨o, es, ep, ho, hr⟩ := hns
    have ne : s.heap.objs.size ≠ x := Nat.ne_of_gt (Heap.lt_size hx)
    exact ⟨o, es, ep, k₄ _ _ ne (k₃ _ _ (k₂ _ _ ho)), hr⟩
  have kx : ∀ b o, b ≠ x → s.heap.get? b = some o → h₄.get? b = some o := fun b o hb e => k₄ _ _ hb (k₀₃ _ _ e)
  have K₄ : K.In h₄ := fun a o e => kx a o (fun z => by rw [z, hnx] at e; cases e) (X a o e)
  refine wpAny_execs_cons (plainObj_wpAny_Assign_Attribute ?_ (hsw _))
  refine wpAny_Name (wpAny_loadName_local rfl lfld hL₄ mfld ?_) n4
  refine wpAny_Name (wpAny_loadName_local rfl lself hL₄ mself ?_) (by decide)
  refine err_store (s := ⟨h₄, s.gens, s.drawn, _, s.os⟩) Y K₄ e₄ Z.ht fun h₅ tk₅ dx k₅ d₅ n₅ x₅ ns₅ => ?_
  have zz : s.heap.objs.size ≤ h₄.objs.size := by
    obtain ⟨o, es, ep, ho, hr⟩ := hL₄
    exact Nat.le_of_lt (Heap.lt_size ho)
  show wpAny _ _ (execs _ _) _ _ _
  exact wpAny_execs_nil (hq h₅ tk₅ t₄ dx (fun b o hb e => k₅ _ _ hb (kx _ _ hb e)) (Nat.le_trans zz d₅) n₅ x₅ ns₅)
end
end ErrX

namespace ErrX
open PySem PySem.W PySem.Calls PyProof.Rows PySem.Spec PySem.HandSPX
section
variable {M : Model} {prog : Program} {w : World} {A : Around} {E : Value → Shared → Prop} {R : Result → Shared → Prop} {h : Heap} {g : Array GenState} {d : Drawn} {t : Nat} {os : OsState}
variable {nm q : Str} {C N : Addr} {bs bm bmB : List Value} {hdct : Bool} {sn : List Str} {sub : List Value} {ab : Bool} {col : Option Bool} {dd : Option Addr} {k0 k1 k2 k3 k5 : Option Value} {B newId initId : String} {kw : List (Str × Value)}
theorem kw_check (F : ExcBaseFacts B newId initId bmB) (tl : ∀ X : String, bm.contains (.type X) = bmB.contains (.type X)) {Q : Unit → Shared → Prop}
    (hC : h.get? C = some (excClassObj nm q C N bs bm hdct sn sub ab col dd k0 k1 k2 k3 k5 newId)) (done : Q () ⟨h, g, d, t, os⟩) : wpAny M A (checkBuiltinCall newId ⟨[.ref C], kw⟩) Q E ⟨h, g, d, t, os⟩ := by
  have inB : (Value.ref C :: bm).contains (.type B) = true := by
    rw [List.contains_cons, tl, F.hasB]
    exact Bool.or_true _
  have star := F.noStar
  simp only [checkBuiltinCall, F.newKind, F.newSplit, F.newRow]
  repeat (first
    | refine wpAny_loadPart_at hC ?_
    | (refine wpAny_isSubtype_exc hC ?_
       rw [inB])
    | refine wpAny_staticBase_exc hC ?_
    | refine wpAny_madeBy_exc hC ?_
    | simp only [bne_self_eq_false, Bool.false_eq_true, if_false]
    | wp_step)
  exact done
theorem kw_new (F : ExcBaseFacts B newId initId bmB) (tl : ∀ X : String, bm.contains (.type X) = bmB.contains (.type X))
    (hC : h.get? C = some (excClassObj nm q C N bs bm hdct sn sub ab col dd k0 k1 k2 k3 k5 newId))
    (done : R (.ok (.ret (.ref (h.objs.size + 1)))) ⟨(h.push (kdv_tup [])).push (excO C h.objs.size), g, d, t, os⟩) :
    codeAny (model prog w) A (.builtin newId ⟨[.ref C], kw⟩) R ⟨h, g, d, t, os⟩ := by
  have ends := F.ends
  have inB : (Value.ref C :: bm).contains (.type B) = true := by
    rw [List.contains_cons, tl, F.hasB]
    exact Bool.or_true _
  have inA : (Value.ref C :: bm).contains (.type "AttributeError") = false := by
    rw [List.contains_cons, tl, F.noAttr]
    rfl
  have inN : (Value.ref C :: bm).contains (.type "NameError") = false := by
    rw [List.contains_cons, tl, F.noName]
    rfl
  refine codeAny_builtinAt F.entry ?_
  unfold Builtin.«BaseException.__new__»
  refine _root_.PySem.wpAt_bind ?_
  show _root_.PySem.wpAt _ _ _ (stack >>= _) _ _ _
  refine _root_.PySem.wpAt_bind (_root_.PySem.wpAt_stack fun p below => _root_.PySem.wpAt_of_wpAny ?_)
  wp_walk
  refine _root_.PySem.wpAt_of_wpAny ?_
  rw [F.owner]
  repeat (first
    | with_reducible refine wpAny_madeHere_exc F.canon hC ?_
    | with_reducible refine wpAny_loadPart_at hC ?_
    | (with_reducible refine wpAny_isSubtype_exc hC ?_
       first
         | rw [inB]
         | rw [inA]
         | rw [inN])
    | wp_step)
  show R _ _
  rw [Heap.size_push]
  exact done
/-- C(k = v, ..): the object, then the own __init__ -/
theorem kw_call (F : ExcBaseFacts B newId initId bmB) (tl : ∀ X : String, bm.contains (.type X) = bmB.contains (.type X)) {fI : Addr}
    (hC : h.get? C = some (excClassObj nm q C N bs bm hdct sn sub ab col dd k0 k1 k2 k3 k5 newId))
    (hi : Looks (model prog w) h (typeLookup (.ref C) "__init__") (some (.ref fI))) (hb : ∀ self, Looks (model prog w) h (bindSpecial (.ref fI) self) (.ref fI, [self]))
    (done : codeAny (model prog w) (A.under (.builtin "type.__call__" ⟨[.ref C], kw⟩)) (.call (.ref fI) ⟨[.ref (h.objs.size + 1)], kw⟩) (InitBack (h.objs.size + 1) R)
      ⟨(h.push (kdv_tup [])).push (excO C h.objs.size), g, d, t, os⟩) :
    codeAny (model prog w) A (.call (.ref C) ⟨[], kw⟩) R ⟨h, g, d, t, os⟩ := by
  have f1 := tc_lookup
  have f2 := tc_bind (.ref C)
  have ty : (⟨h, g, d, t, os⟩ : Shared).TypeIs (.ref C) "type" := ⟨_, hC, rfl⟩
  refine codeAny_of_tree ?_
  show wpAny _ _ (callAny (.ref C) _) _ _ _
  repeat (any_goals (first
    | assumption
    | with_reducible refine wpAny_loadPart_at hC ?_
    | wp_step))
  refine ⟨rfl, ?_⟩
  refine codeAny_call_builtin_at (Code.quiet_builtin _ (by decide +kernel)) entry_typeCall ?_
  have f3 := tc_sub
  show wpAny _ _ (checkBuiltinCall "type.__call__" ⟨[.ref C], kw⟩) _ _ _
  simp only [checkBuiltinCall, tc_kind, tc_split]
  repeat (any_goals (first
    | assumption
    | with_reducible refine wpAny_loadPart_at hC ?_
    | with_reducible refine wpAny_onRaise ?_
    | with_reducible refine wpAny_map ?_
    | wp_step))
  refine codeAny_call_builtin_code (Code.quiet_builtin _ F.quiet) (kw_check F tl hC ?_)
  refine kw_new F tl hC ?_
  have up : ∀ b o, h.get? b = some o → ((h.push (kdv_tup [])).push (excO C h.objs.size)).get? b = some o := fun b o e => Heap.get?_push_of_some _ (Heap.get?_push_of_some _ e)
  have cls1 := up _ _ hC
  have at1 : ((h.push (kdv_tup [])).push (excO C h.objs.size)).get? (h.objs.size + 1) = some (excO C h.objs.size) := by heap_get
  have inC : (Value.ref C :: bm).contains (.ref C) = true := by simp
  have look1 := hi.keeps up
  have bind1 := (hb (.ref (h.objs.size + 1))).keeps up
  show wpAny _ _ _ _ _ _
  unfold isInstance
  repeat (first
    | with_reducible refine wpAny_loadPart_at at1 ?_
    | (with_reducible refine wpAny_isSubtype_exc cls1 ?_
       rw [inC])
    | wp_step)
  show wpAny _ _ (typeLookup (.ref C) _) _ _ _
  refine look1.at ?_
  refine wpAny_holding (wpAny_bind (bind1.at ?_))
  refine wpAny_bind (wpAny_call (codeAny_mono done fun r s' z => ?_))
  rcases r with e | fl
  · exact z
  cases fl with
  | ret v =>
    obtain ⟨rfl, z⟩ := z
    first
      | exact wpAny_pure (wpAny_pure z)
      | (wp_walk
         exact z)
  | next => exact False.elim z
  | brk => exact False.elim z
  | cont => exact False.elim z
end
end ErrX

/-! own error classes over own bases over built-in ones: made, asked, read, over the layer -/
namespace ErrX
open PySem PySem.Spec PyProof.Rows L2
open PySem.W (Frag)

/-- how the __init__ at f of the class C leaves an object: one field fld -/
def InitOk (prog : Program) (K : Frag) (mg : Str → Option Value) (C f : Addr) (fld : Str) : Prop :=
  ∀ {w : World} {A : Around} {R : Result → Shared → Prop} {s : Shared} {x t0 : Addr} {v : Value} {args : Args}, (args = ⟨[.ref x, v], []⟩ ∨ args = ⟨[.ref x], [(fld, v)]⟩) → L2.Mod K mg s.heap →
    s.heap.get? x = some (PySem.W.excObj C t0 none .none) → K.lookup x = none → A.depth + 2 < recursionLimit →
    (∀ h' tk t1 dx, (∀ b o, b ≠ x → s.heap.get? b = some o → h'.get? b = some o) → s.heap.objs.size ≤ dx → dx ≠ x → h'.get? x = some (PySem.W.excObj C t1 (some dx) .none) → h'.Ns1 dx (fun y => if y = fld then some v else none) →
      R (.ok (.ret .none)) { s with heap := h', toks := tk }) → codeAny (model prog w) A (.call (.ref f) args) R s
/-- .. without a field -/
def InitOk0 (prog : Program) (K : Frag) (mg : Str → Option Value) (C f : Addr) : Prop :=
  ∀ {w : World} {A : Around} {R : Result → Shared → Prop} {s : Shared} {x t0 : Addr}, L2.Mod K mg s.heap →
    s.heap.get? x = some (PySem.W.excObj C t0 none .none) → K.lookup x = none → A.depth + 2 < recursionLimit →
    (∀ h' tk t1, (∀ b o, b ≠ x → s.heap.get? b = some o → h'.get? b = some o) → h'.get? x = some (PySem.W.excObj C t1 none .none) →
      R (.ok (.ret .none)) { s with heap := h', toks := tk }) → codeAny (model prog w) A (.call (.ref f) ⟨[.ref x], []⟩) R s
/-- what is told of an own error class -/
structure ErrT (K : Frag) (mg : Str → Option Value) (cn : Str) (C f : Addr) : Prop where
  glob : mg cn = some (.ref C)
  kp : PySem.W.keepIn K (.ref C) = true
  cls : ∃ B newId initId bmB, ErrC K C B newId initId bmB
  init : PySem.W.findIn K (.ref C) "__init__" = some (some (.ref f))
  isf : PySem.W.isFn K (.ref f) = true
/-- what isinstance and attributes ask of it -/
structure ErrA (K : Frag) (C : Addr) : Prop where
  hcl : (PySem.W.clsIn K C).isSome = true
  hga : PySem.W.findIn K (.ref C) "__getattribute__" = some (some (.builtin "BaseException.__getattribute__"))
  hgt : PySem.W.findIn K (.ref C) "__getattr__" = some none
  hsub : PySem.W.subIn K (.ref C) (.type "BaseException") = some true
  ha : PySem.W.findIn K (.ref C) "__class__" = some (some (.builtin "object.__class__"))
  hn : PySem.W.specialIn K (.builtin "object.__class__") "__get__" = some (some (.builtin "getset_descriptor.__get__"))
  htk : PySem.W.takesIn K (.builtin "object.__class__") = some true
  hm : PySem.W.mroIn K C (.type "object") = some true

section
variable {X : Cx} {pins : List (Addr × Obj)} {σ : L2.St} {H : Hp} {s : Shared} {C f : Addr} {cn fld : Str}

theorem isfn_type {K : Frag} {h : Heap} (KX : K.In h) (i : PySem.W.isFn K (.ref f) = true) : ∃ o, h.get? f = some o ∧ o.cls = .type "function" := by
  obtain ⟨o, ho, hc⟩ := Option.map_eq_some_iff.mp (show (K.lookup f).map (·.cls) = some (.type "function") from beq_iff_eq.mp i)
  exact ⟨o, KX _ _ ho, hc⟩

/-- new objects e and d tracked behind a call that kept all -/
theorem inv_two {h' : Heap} {t' : Nat} {e d : Addr} {oe od : HO} (I : Inv X pins σ H s) (k : ∀ b o, s.heap.get? b = some o → h'.get? b = some o) (he : s.heap.objs.size ≤ e) (hd : s.heap.objs.size ≤ d) (ne : d ≠ e)
    (oke : ObjOk X.prog X.w (upd (upd H d od) e oe) h' e oe) (okd : ObjOk X.prog X.w (upd (upd H d od) e oe) h' d od) : Inv X pins σ (upd (upd H d od) e oe) { s with heap := h', toks := t' } := by
  have fe : H e = none := I.hok.fresh he
  have fd : H d = none := I.hok.fresh hd
  have ole : ∀ {b o}, s.heap.get? b = some o → b ≠ e := fun q => Nat.ne_of_lt (Nat.lt_of_lt_of_le (Heap.lt_size q) he)
  have old : ∀ {b o}, s.heap.get? b = some o → b ≠ d := fun q => Nat.ne_of_lt (Nat.lt_of_lt_of_le (Heap.lt_size q) hd)
  have kn : ∀ {b u}, H b = some u → upd (upd H d od) e oe b = some u := fun {b u} q => by
    rw [upd_ne (ne_of_none q fe), upd_ne (ne_of_none q fd)]
    exact q
  have U : Un X.fs [] H (upd (upd H d od) e oe) s.heap h' := {
    keep := fun b o q _ _ _ => k b o q
    slot := fun b o q _ _ _ => ⟨o.slots, k b o q⟩
    free := fun b o q n _ => by
      rw [upd_ne (ole q), upd_ne (old q)]
      exact n
    there := fun b o q _ => ⟨o, k b o q⟩
    tups := fun b xs q => kn q
    frzs := fun b o u q => kn q
    tbls := fun b ps q => ⟨#[], by rw [kn q]; simp⟩ }
  refine I.un U fun b u q => ?_
  by_cases be : b = e
  · subst be
    rw [upd_same] at q
    cases q
    exact oke
  · rw [upd_ne be] at q
    by_cases bd : b = d
    · subst bd
      rw [upd_same] at q
      cases q
      exact okd
    · rw [upd_ne bd] at q
      exact (I.hok b u q).stay (fun c v _ z => k c v z) (fun c z => kn z) (fun c xs z => kn z)

/-- C(v), C(fld = v) -/
theorem run_err {Q : VK} {v : V} {u : Value} (T : ErrT X.K X.mg cn C f) (G : InitOk X.prog X.K X.mg C f fld) (hr : Room 2 X.A) (I : Inv X pins σ H s) (rv : RelV v u) (kw : Bool)
    (h : ∀ e d, H e = none → H d = none → d ≠ e → Q (.ref e) (upd (upd H d (exd d [(fld, v)])) e (exo e C (some d)))) :
    wpAny (model X.prog X.w) X.A (call (.ref C) (if kw = true then [] else [u]) (if kw = true then [(fld, u)] else [])) (EP X pins σ Q) X.xe s := by
  obtain ⟨B, newId, initId, bmB, Y⟩ := T.cls
  have KX := I.kIn
  obtain ⟨nm, N', qn, bs, bm, hdct, sn, sub, ab, col, dd, k0, k1, k2, k3, k5, hC, hT⟩ := PySem.W.excInit_of KX Y.q
  obtain ⟨oI, hoI, hcI⟩ := isfn_type KX T.isf
  have hi : PySem.W.Looks (model X.prog X.w) s.heap (typeLookup (.ref C) "__init__") (some (.ref f)) := PySem.W.looks_findIn KX T.init
  have mod : L2.Mod X.K X.mg s.heap := mod_keeps I.ok.mod I.bk
  have hdp := hr.dp
  -- the object, its args; then __init__
  have fin : ∀ (rest : List Value) (args : Args) (At : Around), (args = ⟨[.ref (s.heap.objs.size + 1), u], []⟩ ∨ args = ⟨[.ref (s.heap.objs.size + 1)], [(fld, u)]⟩) → At.depth + 2 < recursionLimit →
      codeAny (model X.prog X.w) At (.call (.ref f) args) (PySem.W.InitBack (s.heap.objs.size + 1) fun r s' => match r with | .ok (.ret v) => EP X pins σ Q v s' | .ok _ => False | .error x => X.xe x s')
        { s with heap := (s.heap.push (PySem.W.kdv_tup rest)).push (HandSPX.excO C s.heap.objs.size) } := fun rest args At ha hroom => by
    have k : ∀ b o, s.heap.get? b = some o → ((s.heap.push (PySem.W.kdv_tup rest)).push (HandSPX.excO C s.heap.objs.size)).get? b = some o := fun b o e => Heap.get?_push_of_some _ (Heap.get?_push_of_some _ e)
    have hget : ((s.heap.push (PySem.W.kdv_tup rest)).push (HandSPX.excO C s.heap.objs.size)).get? (s.heap.objs.size + 1) = some (PySem.W.excObj C s.heap.objs.size none .none) := by heap_get
    have fresh : ∀ {b : Addr}, s.heap.objs.size ≤ b → X.K.lookup b = none := fun {b} hb => by
      cases q : X.K.lookup b with
      | none => rfl
      | some o => exact absurd (Nat.lt_of_lt_of_le (Heap.lt_size (KX _ _ q)) hb) (Nat.lt_irrefl _)
    refine G ha (mod_keeps mod k) hget (fresh (Nat.le_succ _)) hroom fun h' tk t1 dx k' d1 d2 hx hns => ?_
    have z : s.heap.objs.size + 2 ≤ dx := by
      have q : ((s.heap.push (PySem.W.kdv_tup rest)).push (HandSPX.excO C s.heap.objs.size)).objs.size ≤ dx := d1
      rw [Heap.size_push, Heap.size_push] at q
      exact q
    have kk : ∀ b o, s.heap.get? b = some o → h'.get? b = some o := fun b o e => k' b o (Nat.ne_of_lt (Nat.lt_succ_of_lt (Heap.lt_size e))) (k b o e)
    have e1 : s.heap.objs.size ≤ s.heap.objs.size + 1 := Nat.le_succ _
    have e2 : s.heap.objs.size ≤ dx := by omega
    refine ⟨rfl, .ref (s.heap.objs.size + 1), _, inv_two (s := s) (t' := tk) (oe := exo (s.heap.objs.size + 1) C (some dx)) (od := exd dx [(fld, v)]) I kk e1 e2 d2 (exo_ok hx) (exd_ok hns (relO_put (fs := []) rv fun g => True.intro)), rfl, h _ _ (I.hok.fresh e1) (I.hok.fresh e2) d2⟩
  have dep : ∀ us kws, (X.A.under (.builtin "type.__call__" ⟨.ref C :: us, kws⟩)).depth + 2 < recursionLimit := fun us kws => by
    rw [make_depth]
    omega
  obtain ⟨hp, g, d, tk, os⟩ := s
  cases kw with
  | false =>
    refine wpAny_call ?_
    show codeAny _ _ (.call (.ref C) ⟨[u], []⟩) _ _
    refine codeAny_mono (PX.call_own Y.fb hT hC hi (fun self => PySem.W.exc_bind hoI hcI self) ?_ (fin [u] ⟨[.ref (hp.objs.size + 1), u], []⟩ _ (.inl rfl) (dep _ _))) fun r s' z => ?_
    · rw [sizeLine_eq]
      exact (by decide : 1 ≤ 16777216)
    · exact z
  | true =>
    refine wpAny_call ?_
    show codeAny _ _ (.call (.ref C) ⟨[], [(fld, u)]⟩) _ _
    exact codeAny_mono (kw_call Y.fb hT hC hi (fun self => PySem.W.exc_bind hoI hcI self) (fin [] ⟨[.ref (hp.objs.size + 1)], [(fld, u)]⟩ _ (.inr rfl) (dep _ _))) fun r s' z => z

/-- C(e) | C(fld = e): a new error and its dict -/
def tErr (C : Addr) (fld : Str) (ta : TA) : TE := fun σ H Q => ta σ H fun vs H1 => ∃ v, vs = [v] ∧ ∀ e d, H1 e = none → H1 d = none → d ≠ e → Q (.ref e) (upd (upd H1 d (exd d [(fld, v)])) e (exo e C (some d)))
/-- C() -/
def tErr0 (C : Addr) : TE := fun σ H Q => ∀ e, H e = none → Q (.ref e) (upd H e (exo e C none))
theorem pe_err {p pos : Pos} {a : Expr} {ta : TA} (T : ErrT X.K X.mg cn C f) (G : InitOk X.prog X.K X.mg C f fld) (hr : Room 2 X.A) (ha : PA X [a] ta) (hg : Gl X cn := by rfl) (hdb : (cn == ("__debug__" : Str)) = false := by decide)
    (he : starEach (a :: []) X.env = (false, eval a X.env) :: starEach [] X.env := by rfl) (hpl : (backTo pos (starEach [] X.env)).any (·.1) = false := by rfl) : PE X (.Call (.Name cn p) [a] [] pos) (tErr C fld ta) := by
  refine ⟨fun pins s σ H Q I h => ?_⟩
  refine wpAny_Call_Name_kw (ld_glob I hg T.glob ?_ hdb)
  refine PySem.W.callWith_K (h₀ := X.base) I.ok.mod.kin T.kp (thn (ha.run pos pins s σ H _ I h) fun us s1 ⟨vs, H1, I1, r, v, ev, q⟩ => ⟨I1.kIn, ?_⟩) he hpl
  subst ev
  cases r with
  | cons rv rn =>
    cases rn
    exact run_err T G hr I1 rv false q
theorem pe_errK {p pos : Pos} {kws : List Keyword} {tk : TA} (T : ErrT X.K X.mg cn C f) (G : InitOk X.prog X.K X.mg C f fld) (hr : Room 2 X.A) (hkw : PK X kws tk) (hg : Gl X cn := by rfl) (hdb : (cn == ("__debug__" : Str)) = false := by decide)
    (hall : (backToKw pos (keywordEach kws X.env)).all (·.1.isSome) = true := by rfl) (hks : (backToKw pos (keywordEach kws X.env)).filterMap (·.1) = [fld] := by rfl)
    (hpl : ((backTo pos (starEach [] X.env)).any (·.1) || (backToKw pos (keywordEach kws X.env)).any (·.1.isNone)) = false := by rfl) : PE X (.Call (.Name cn p) [] kws pos) (tErr C fld tk) := by
  refine ⟨fun pins s σ H Q I h => ?_⟩
  refine wpAny_Call_Name_kw (ld_glob I hg T.glob ?_ hdb)
  refine PySem.W.callWith_KW0 (h₀ := X.base) I.ok.mod.kin T.kp hall (thn (hkw.run pos pins s σ H _ I h) fun ws s1 ⟨zs, H1, I1, r, v, ev, q⟩ => ⟨I1.kIn, ?_⟩) hpl
  rw [hks]
  subst ev
  cases r with
  | cons rv rn =>
    cases rn
    exact run_err T G hr I1 rv true q
theorem run_err0 {Q : VK} (T : ErrT X.K X.mg cn C f) (G : InitOk0 X.prog X.K X.mg C f) (hr : Room 2 X.A) (I : Inv X pins σ H s) (h : ∀ e, H e = none → Q (.ref e) (upd H e (exo e C none))) :
    wpAny (model X.prog X.w) X.A (call (.ref C) []) (EP X pins σ Q) X.xe s := by
  obtain ⟨B, newId, initId, bmB, Y⟩ := T.cls
  have KX := I.kIn
  obtain ⟨nm, N', qn, bs, bm, hdct, sn, sub, ab, col, dd, k0, k1, k2, k3, k5, hC, hT⟩ := PySem.W.excInit_of KX Y.q
  obtain ⟨oI, hoI, hcI⟩ := isfn_type KX T.isf
  have hi : PySem.W.Looks (model X.prog X.w) s.heap (typeLookup (.ref C) "__init__") (some (.ref f)) := PySem.W.looks_findIn KX T.init
  have mod : L2.Mod X.K X.mg s.heap := mod_keeps I.ok.mod I.bk
  have hdp := hr.dp
  have fin : ∀ (At : Around), At.depth + 2 < recursionLimit →
      codeAny (model X.prog X.w) At (.call (.ref f) ⟨[.ref (s.heap.objs.size + 1)], []⟩) (PySem.W.InitBack (s.heap.objs.size + 1) fun r s' => match r with | .ok (.ret v) => EP X pins σ Q v s' | .ok _ => False | .error x => X.xe x s')
        { s with heap := (s.heap.push (PySem.W.kdv_tup [])).push (HandSPX.excO C s.heap.objs.size) } := fun At hroom => by
    have k : ∀ b o, s.heap.get? b = some o → ((s.heap.push (PySem.W.kdv_tup [])).push (HandSPX.excO C s.heap.objs.size)).get? b = some o := fun b o e => Heap.get?_push_of_some _ (Heap.get?_push_of_some _ e)
    have hget : ((s.heap.push (PySem.W.kdv_tup [])).push (HandSPX.excO C s.heap.objs.size)).get? (s.heap.objs.size + 1) = some (PySem.W.excObj C s.heap.objs.size none .none) := by heap_get
    have fresh : ∀ {b : Addr}, s.heap.objs.size ≤ b → X.K.lookup b = none := fun {b} hb => by
      cases q : X.K.lookup b with
      | none => rfl
      | some o => exact absurd (Nat.lt_of_lt_of_le (Heap.lt_size (KX _ _ q)) hb) (Nat.lt_irrefl _)
    refine G (mod_keeps mod k) hget (fresh (Nat.le_succ _)) hroom fun h' tk t1 k' hx => ?_
    have kk : ∀ b o, s.heap.get? b = some o → h'.get? b = some o := fun b o e => k' b o (Nat.ne_of_lt (Nat.lt_succ_of_lt (Heap.lt_size e))) (k b o e)
    have e1 : s.heap.objs.size ≤ s.heap.objs.size + 1 := Nat.le_succ _
    exact ⟨rfl, .ref (s.heap.objs.size + 1), _, I.laid (t' := tk) (o := exo (s.heap.objs.size + 1) C none) kk e1 (exo_ok hx), rfl, h _ (I.hok.fresh e1)⟩
  obtain ⟨hp, g, d, tk, os⟩ := s
  refine wpAny_call (codeAny_mono (PX.call_own (rest := []) Y.fb hT hC hi (fun self => PySem.W.exc_bind hoI hcI self) (Nat.zero_le _) (fin _ ?_)) fun r s' z => ?_)
  · rw [make_depth]
    omega
  · exact z
theorem pe_err0 {p pos : Pos} (T : ErrT X.K X.mg cn C f) (G : InitOk0 X.prog X.K X.mg C f) (hr : Room 2 X.A) (hg : Gl X cn := by rfl) (hdb : (cn == ("__debug__" : Str)) = false := by decide) : PE X (.Call (.Name cn p) [] [] pos) (tErr0 C) := by
  refine ⟨fun pins s σ H Q I h => ?_⟩
  refine wpAny_Call_Name_kw (ld_glob I hg T.glob ?_ hdb)
  exact PySem.W.callWith_K0 I.kIn T.kp (run_err0 T G hr I h)

/-- an error stands at e, of the class C -/
def ErrAt (H : Hp) (e C : Addr) : Prop := ∃ d, H e = some (exo e C d) ∧ ∀ dx, d = some dx → ∃ fs, H dx = some (exd dx fs)
theorem err_inst {P : Program} {w : World} {h : Heap} {e : Addr} (hok : HOk P w H h) (T : ErrAt H e C) : ∃ ox od, PySem.W.InstAt h e ox C od := by
  obtain ⟨d, he, hd⟩ := T
  obtain ⟨t1, ho⟩ := exo_at hok he
  cases d with
  | none => exact ⟨_, none, ho, rfl, rfl, True.intro⟩
  | some dx =>
    obtain ⟨fs, hx⟩ := hd dx rfl
    obtain ⟨mA, hns, _⟩ := exd_at hok hx
    obtain ⟨oD, _, _, hoD, _⟩ := hns
    exact ⟨_, some oD, ho, rfl, rfl, hoD⟩
/-- isinstance(e, c), e an own error -/
def rIsErr (K : Frag) : List V → Hp → VK → Prop := fun xs H Q => ∃ (e C : Addr) (c : V) (cv : Value) (b : Bool), xs = [.ref e, c] ∧ ErrAt H e C ∧ ErrA K C ∧ ClsV c cv ∧ PySem.W.kitOne K (.ref C) cv = some b ∧ Q (.bl b) H
theorem call_isErr : CallR X (.builtin "isinstance") (rIsErr X.K) := by
  intro pins s σ H xs us Q I r h
  obtain ⟨e, C, c, cv, b, rfl, T, A, hc, k, q⟩ := h
  obtain ⟨u1, u2, rfl, r1, r2⟩ := vals2 r
  cases (show u1 = Value.ref e from r1)
  have e2 := hc.eq r2
  subst e2
  obtain ⟨ox, od, J⟩ := err_inst I.hok T
  exact PySem.W.kia_one (PySem.W.kitx_exc A.hcl A.hga A.hgt A.hsub A.ha A.hn A.htk A.hm) I.kIn J k (fun z => nomatch z) fun tk => ⟨.bl b, H, I.tok tk, rfl, q⟩
/-- e.fld -/
def tErrFld (K : Frag) (ta : TE) (fld : Str) : TE := fun σ H Q => ta σ H fun x H1 => ∃ (e d C : Addr) (fs : List (Str × V)) (v : V), x = .ref e ∧ H1 e = some (exo e C (some d)) ∧ H1 d = some (exd d fs) ∧ ErrA K C ∧ PySem.W.hasDictIn K C = true ∧ PySem.W.findIn K (.ref C) fld = some none ∧ fs.lookup fld = some v ∧ (∀ u, RelV v u → PySem.W.handedIn u = true) ∧ Q v H1
theorem errfld_ok {b : Bool} {e d : Addr} {fs : List (Str × V)} {v : V} {Q : Value → Shared → Prop} (I : Inv X pins σ H s) (he : H e = some (exo e C (some d))) (hd : H d = some (exd d fs)) (A : ErrA X.K C) (hdi : PySem.W.hasDictIn X.K C = true)
    (hno : PySem.W.findIn X.K (.ref C) fld = some none) (hl : fs.lookup fld = some v) (hh : ∀ u, RelV v u → PySem.W.handedIn u = true) (h : ∀ u, RelV v u → ∀ t, Q u { s with toks := t }) : wpAny (model X.prog X.w) X.A (getAttr (.ref e) fld b) Q X.xe s := by
  obtain ⟨t1, ho⟩ := exo_at I.hok he
  obtain ⟨mA, hns, rel⟩ := exd_at I.hok hd
  obtain ⟨oD, hoD, hlk⟩ := lookIn_ns hns
  have q := rel fld
  rw [hl] at q
  cases hm : mA fld with
  | none =>
    rw [hm] at q
    exact q.elim
  | some u =>
    rw [hm] at q
    have J : PySem.W.InstAt s.heap e _ C (some oD) := ⟨ho, rfl, rfl, hoD⟩
    refine PX.exc_get I.kIn J A.hga A.hgt A.hsub (PySem.W.findObj_own hdi hno rfl (by rw [hlk, hm])) (hh u q) (h u q _)
theorem pe_errfld {o : Expr} {to : TE} {p pos : Pos} (ho : PE X o to) (hb : attributeBase o fld X.env (eval o X.env) = eval o X.env := by rfl) : PE X (.Attribute o fld pos) (tErrFld X.K to fld) := by
  refine ⟨fun pins s σ H Q I h => ?_⟩
  refine attr_of hb (thn (ho.run pins s σ H _ I h) fun u s1 ⟨x, H1, I1, r1, e, d, C, fs, v, ex, he, hd, A, hdi, hno, hl, hh, q⟩ => ?_)
  subst ex
  cases (show u = Value.ref e from r1)
  exact errfld_ok I1 he hd A hdi hno hl hh fun u ru t => ⟨v, H1, I1.tok t, ru, q⟩
end
end ErrX

/-! __init__ of an own error class that adds nothing; InitOk from what the written part says -/
namespace ErrX
open PySem PySem.W PySem.Calls PyProof.Rows
section
variable {prog : Program} {w : World} {A : Around} {R : Result → Shared → Prop} {s : Shared} {K : Frag} {mg : Str → Option Value} {C D x f g : Addr} {B newId initId : String} {bmB : List Value}
theorem leaf_init0 {q1 p0 p1 p2 p3 p4 b1 c0 c1 c2 c3 c4 c5 : Pos} {txt qual qualD : Str} {j : Nat} {t0 : Addr}
    (hsc : SupCall [] p0 p1 p2 p3) (hscD : SupCall [.Constant (.str txt) j c5] c0 c1 c2 c3)
    (S : SupFn prog K f C qual (aSelf q1) [stSup [] p0 p1 p2 p3 p4] sSelf)
    (SD : SupFn prog K g D qualD (aSelf b1) [stSup [.Constant (.str txt) j c5] c0 c1 c2 c3 c4] sSelf) (hmD : ks_superIn K C D "__init__" = some (some (.builtin initId)))
    (hsC : mroIn K C (.ref C) = some true) (hsD : mroIn K C (.ref D) = some true) (hmC : ks_superIn K C C "__init__" = some (some (.ref g))) (tg : typeIn K (.ref g) = some (.type "function")) (fg : fnIn K g = true)
    (Y : ErrC K C B newId initId bmB)
    (M : L2.Mod K mg s.heap) (hs : mg "super" = none) (hx : s.heap.get? x = some (excObj C t0 none .none)) (hnx : K.lookup x = none) (hroom : A.depth + 2 < recursionLimit)
    (hq : ∀ h' tk t1, (∀ b o, b ≠ x → s.heap.get? b = some o → h'.get? b = some o) → h'.get? x = some (excObj C t1 none .none) → R (.ok (.ret .none)) { s with heap := h', toks := tk }) :
    codeAny (model prog w) A (.call (.ref f) ⟨[.ref x], []⟩) R s := by
  obtain ⟨⟨oc, od, osl, kV, doc, pm, an, ct, cda, cc, ccl, cdd, vs, ccs, file, tf, cl, cld, csl, cdD, hf, hcd, hcode, hvs, hfile, hcell, hD⟩, htop⟩ := S
  obtain ⟨cdC, hC⟩ := Y.cls
  have X := M.kin
  refine call_ks (binds := [("self", .ref x)]) X M.nolimit hf hcd (by omega) (BindsTo.of_eq (by first | rfl | with_unfolding_all rfl)) (by decide) (locs rfl) (fun h₁ hns k₁ => ?_)
  have M₁ := mod_keeps M k₁
  have hx₁ := k₁ _ _ hx
  have nx : ∀ c, (excObj C t0 none .none).data ≠ .cls c := fun c z => by cases z
  unfold stSup
  obtain ⟨pl, hsc⟩ := hsc (ksEnv qual sSelf s.heap.objs.size f (.ref cda) cc)
  refine ks_wpAt_execs_cons (ks_wpAt_Expr_any (ks_wpAt_MethodCall ?_ hsc))
  refine sup_base (s := ⟨h₁, s.gens, s.drawn, _, s.os⟩) M₁ hs hns hf rfl rfl hx₁ rfl nx hcode hvs hfile hcell hD hsC (by decide) (by decide) (by decide) rfl rfl htop fun h₂ e₂ k₂ => ?_
  refine sup_def (s := ⟨h₂, s.gens, s.drawn, _, s.os⟩) (M₁.kin.keeps k₂) e₂ (k₂ _ _ hx₁) rfl nx hC Y.op hmC tg fun h₃ e₃ k₃ => ?_
  have k₀₃ : ∀ b o, s.heap.get? b = some o → h₃.get? b = some o := fun b o e => k₃ _ _ (k₂ _ _ (k₁ _ _ e))
  have M₃ : L2.Mod K mg h₃ := mod_keeps M k₀₃
  show wpAny _ _ (callWith p3 (.ref h₂.objs.size) [] (backTo p3 (starEach [] (ksEnv qual sSelf s.heap.objs.size f (.ref cda) cc))) []) _ _ _
  refine callWith_M0 (K := K) (g := g) (self := .ref x) ⟨e₃, M₃.kin⟩ fg ?_
  refine wpAny_call (method_call (s := ⟨h₃, s.gens, s.drawn, _, s.os⟩) e₃ ?_)
  refine base_init (s := ⟨h₃, s.gens, s.drawn, _, s.os⟩) hscD SD Y M₃ hs (k₀₃ _ _ hx) hsD hmD (by show A.depth + 1 < _; omega) fun h₄ tk₄ t₄ k₄ e₄ => ?_
  refine wpAt_of_wpAny ?_
  show wpAny _ _ (execs _ _) _ _ _
  exact wpAny_execs_nil (hq h₄ tk₄ t₄ (fun b o hb e => k₄ _ _ hb (k₀₃ _ _ e)) e₄)
/-- where an __init__ that names super() stands -/
theorem sup_mk {qual : Str} {params : Arguments} {body : List Stmt} {scope : Scope} {oc kV doc pm ct ccl cl : Value} {od an cdd cld : Option Addr} {osl ccs csl : Array (Option Value)} {cda cc : Addr} {vs : Array Value} {file : Str} {tf : Tok}
    (hf : K.lookup f = some ⟨oc, od, .func (ksFn "__init__" qual params body scope .none kV doc pm an (.ref cda) ct cc), osl⟩) (hcd : codeIn K (.ref cda) qual = true) (hcode : K.lookup cda = some ⟨ccl, cdd, .fields vs, ccs⟩) (hvs : vs[2]? = some (.str file tf)) (hfile : ((prog.main.file : Str) == file) = true)
    (hcell : K.lookup cc = some ⟨cl, cld, .cell (some (.ref D)), csl⟩) (hD : (clsIn K D).isSome = true) (htop : (prog.main.scope.names.lookup ("super" : Str)).isSome = false) : SupFn prog K f D qual params body scope := by
  obtain ⟨cdD, hD⟩ := Option.isSome_iff_exists.mp hD
  exact ⟨⟨oc, od, osl, kV, doc, pm, an, ct, cda, cc, ccl, cdd, vs, ccs, file, tf, cl, cld, csl, cdD, hf, hcd, hcode, hvs, hfile, hcell, hD⟩, htop⟩
/-- an own base, itself -/
theorem init_base {q1 p0 p1 p2 p3 p4 p5 : Pos} {txt qual : Str} {j : Nat} (hsc : SupCall [.Constant (.str txt) j p5] p0 p1 p2 p3) (S : SupFn prog K f D qual (aSelf q1) [stSup [.Constant (.str txt) j p5] p0 p1 p2 p3 p4] sSelf) (Y : ErrC K D B newId initId bmB)
    (hs : mg "super" = none) (hsub : mroIn K D (.ref D) = some true) (hm : ks_superIn K D D "__init__" = some (some (.builtin initId))) : InitOk0 prog K mg D f := fun M hx hnx hroom hq => base_init hsc S Y M hs hx hsub hm (by omega) hq
theorem init_leaf0 {q1 p0 p1 p2 p3 p4 b1 c0 c1 c2 c3 c4 c5 : Pos} {txt qual qualD : Str} {j : Nat}
    (hsc : SupCall [] p0 p1 p2 p3) (hscD : SupCall [.Constant (.str txt) j c5] c0 c1 c2 c3)
    (S : SupFn prog K f C qual (aSelf q1) [stSup [] p0 p1 p2 p3 p4] sSelf)
    (SD : SupFn prog K g D qualD (aSelf b1) [stSup [.Constant (.str txt) j c5] c0 c1 c2 c3 c4] sSelf) (hmD : ks_superIn K C D "__init__" = some (some (.builtin initId)))
    (hsC : mroIn K C (.ref C) = some true) (hsD : mroIn K C (.ref D) = some true) (hmC : ks_superIn K C C "__init__" = some (some (.ref g))) (tg : typeIn K (.ref g) = some (.type "function")) (fg : fnIn K g = true)
    (Y : ErrC K C B newId initId bmB) (hs : mg "super" = none) : InitOk0 prog K mg C f := fun M hx hnx hroom hq => leaf_init0 hsc hscD S SD hmD hsC hsD hmC tg fg Y M hs hx hnx hroom hq
/-- a def of self and one more, bound by place or by name -/
theorem bind_field {q1 q2 : Pos} {fld qual : Str} {body : List Stmt} {kV doc pm ct v : Value} {an : Option Addr} {cda cc : Addr} {args : Args} {s : Shared} (h1 : fld = "given" ∨ fld = "index") (h : args = ⟨[.ref x, v], []⟩ ∨ args = ⟨[.ref x], [(fld, v)]⟩) :
    BindsTo s (ksFn "__init__" qual (aField q1 q2 fld) body (sField fld) .none kV doc pm an (.ref cda) ct cc) args [("self", .ref x), (fld, v)] := by
  rcases h1 with rfl | rfl <;> rcases h with rfl | rfl <;> exact BindsTo.of_eq (by first | rfl | with_unfolding_all rfl)
theorem init_leaf {q1 q2 p0 p1 p2 p3 p4 a0 a1 a2 a3 b1 c0 c1 c2 c3 c4 c5 : Pos} {txt qual qualD fld : Str} {j : Nat} (hfld : fld = "given" ∨ fld = "index")
    (hsc : SupCall [] p0 p1 p2 p3) (hscD : SupCall [.Constant (.str txt) j c5] c0 c1 c2 c3)
    (hsw : ∀ env : Env, swapsWith (.Name fld a2) (some (.Attribute (.Name "self" a0) fld a1)) a3.line env = pure false)
    (S : SupFn prog K f C qual (aField q1 q2 fld) [stSup [] p0 p1 p2 p3 p4, .Assign [.Attribute (.Name "self" a0) fld a1] (.Name fld a2) a3] (sField fld))
    (SD : SupFn prog K g D qualD (aSelf b1) [stSup [.Constant (.str txt) j c5] c0 c1 c2 c3 c4] sSelf) (hmD : ks_superIn K C D "__init__" = some (some (.builtin initId)))
    (hsC : mroIn K C (.ref C) = some true) (hsD : mroIn K C (.ref D) = some true) (hmC : ks_superIn K C C "__init__" = some (some (.ref g))) (tg : typeIn K (.ref g) = some (.type "function")) (fg : fnIn K g = true) (ht : takerIn K C fld = some none)
    (Y : ErrC K C B newId initId bmB) (hs : mg "super" = none) : InitOk prog K mg C f fld := fun ha M hx hnx hroom hq =>
  leaf_init (D := D) (g := g) (by rcases hfld with rfl | rfl <;> decide) hsc hscD (fun kV doc pm ct an cda cc s => bind_field hfld ha) hsw S SD hmD ⟨ht, hsC, hsD, hmC, tg, fg⟩ Y M hs hx hnx hroom hq
end
end ErrX

/-! defs that know that no repr is under way around them; calls of such; repr of data -/
namespace Lay
open PySem PySem.Spec PyProof.Rows L2 Evl

/-- as FnOk, for a call around which no container is being written out -/
structure FnG (P : Program) (w : World) (K : PySem.W.Frag) (mg : Str → Option Value) (base : Heap) (CX : CXT) (k : Nat) (f : Addr) (fd : FuncData) (ps : List Str) (sp : Sp) : Prop where
  len : ∀ vs H Q E, sp vs H Q E → vs.length = ps.length
  run : ∀ (A : Around) (outer : List Env) (s : Shared) (H : Hp) (args : Args) (us : List Value) (vs : List V) (Q : VK) (E : XK), Room k A → A.guards = some [] → Env0 P w K mg base A outer s H → BindsTo s fd args (ps.zip us) → Vals vs us → sp vs H Q E →
    codeAny (model P w) A (.call (.ref f) args) (CR CX outer P w H s Q E) s

section
variable {P : Program} {w : World} {K : PySem.W.Frag} {mg : Str → Option Value} {base : Heap} {CX : CXT}
theorem FnG.mono {j k : Nat} {f : Addr} {fd : FuncData} {ps : List Str} {sp : Sp} (F : FnG P w K mg base CX j f fd ps sp) (h : j ≤ k) : FnG P w K mg base CX k f fd ps sp :=
  ⟨F.len, fun A outer s H args us vs Q E hr => F.run A outer s H args us vs Q E (hr.mono h)⟩
theorem FnG.imp {k : Nat} {f : Addr} {fd : FuncData} {ps : List Str} {sp sp' : Sp} (F : FnG P w K mg base CX k f fd ps sp) (h : ∀ vs H Q E, sp' vs H Q E → sp vs H Q E) : FnG P w K mg base CX k f fd ps sp' :=
  ⟨fun vs H Q E q => F.len vs H Q E (h _ _ _ _ q), fun A outer s H args us vs Q E hr hg he hb hv hs => F.run A outer s H args us vs Q E hr hg he hb hv (h _ _ _ _ hs)⟩

/-- a def by its body -/
theorem fng {x qual : Str} {st : Stmt} {f : Addr} {fd : FuncData} {N ps : List Str} {k : Nat} {sp : Sp} (F : Fun K x qual st f fd) (S : FnScope N ps (defScope st)) (len : ∀ vs H Q E, sp vs H Q E → vs.length = ps.length)
    (body : ∀ (cdv : Value) (A : Around) (outer : List Env) (s : Shared) (H : Hp) (vs : List V) (Q : VK) (E : XK), Room k (A.deeper (envOfC qual (defScope st) s.heap.objs.size f cdv)) → (cxOf CX P w K mg base N qual (defScope st) f cdv A outer s H E).A.guards = some [] → sp vs H Q E →
      ∃ t, PSs (cxOf CX P w K mg base N qual (defScope st) f cdv A outer s H E) (defBody st) t ∧ t { nx := fun _ H' => Q .non H', rt := Q } (start N vs) H) : FnG P w K mg base CX (k + 1) f fd ps sp := by
  obtain ⟨oc, od, kV, doc, pm, an, cdv, ct, osl, rfl, lk, code⟩ := F.ex
  refine ⟨len, fun A outer s H args us vs Q E hr hg e0 hb r hsp => ?_⟩
  have many := len _ _ _ _ hsp
  have up : ∀ b o, base.get? b = some o → s.heap.get? b = some o := fun b o e => (e0.bs b o e).1
  have KX : K.In s.heap := e0.mod.kin.keeps up
  refine codeAny_call_function hr.depth (KX _ _ lk) rfl S.co S.gen rfl (PySem.W.codeRec_of KX code) (hb _ _ _ _ ?_)
  refine wpAny_newFunctionEnv_cells S.kind (fun y hy => ?_) fun env he s1 x => ?_
  · obtain ⟨n, v⟩ := y
    rcases S.par n (List.of_mem_zip hy).1 with q | q
    · exact .inl q
    · exact .inr ⟨q, PySem.W.cellsFrom_some _ _ _ (.inl q)⟩
  · subst he
    refine ⟨(e0.mod.nolimit.keeps up).keeps x.toInCall.keep, codeAny_func ?_⟩
    obtain ⟨t, ht, hq⟩ := body cdv A outer s H vs Q E (hr.deeper _) (by show A.guards = _; exact hg) hsp
    have I := inv_start (CX := CX) (E := E) S hr.hd e0 many r x
    refine wpAny_mono (ht.run [] s1 (start N vs) H _ I hq) (fun fl s' hs => ?_) fun e s' z => z
    cases fl with
    | ret u =>
      obtain ⟨v, σ', H', J, rv, q⟩ := hs
      exact ⟨v, H', J.os, J.bare, J.base, J.hok, rv, q⟩
    | next =>
      obtain ⟨σ', H', J, q⟩ := hs
      exact ⟨V.non, H', J.os, J.bare, J.base, J.hok, rfl, q⟩
    | brk =>
      obtain ⟨_, _, _, q⟩ := hs
      exact q.elim
    | cont =>
      obtain ⟨_, _, _, q⟩ := hs
      exact q.elim

/-- where a def of the module stands -/
structure DefIn (K : PySem.W.Frag) (mg : Str → Option Value) (x : Str) (st : Stmt) (ps : List Str) : Prop where
  ex : ∃ f fd, Fun K x x st f fd ∧ mg x = some (.ref f) ∧ Binds K fd ps []
/-- a def and its promise (nothing is raised) -/
structure DefOk (P : Program) (w : World) (K : PySem.W.Frag) (mg : Str → Option Value) (base : Heap) (x : Str) (k : Nat) (ps : List Str) (sp : Sp) : Prop where
  ex : ∃ f fd, FnG P w K mg base CX0 k f fd ps sp ∧ mg x = some (.ref f) ∧ PySem.W.keepIn K (.ref f) = true ∧ Binds K fd ps []
theorem DefOk.mono {x : Str} {j k : Nat} {ps : List Str} {sp : Sp} (D : DefOk P w K mg base x j ps sp) (h : j ≤ k) : DefOk P w K mg base x k ps sp :=
  let ⟨f, fd, F, r⟩ := D.ex
  ⟨f, fd, F.mono h, r⟩
theorem DefOk.imp {x : Str} {k : Nat} {ps : List Str} {sp sp' : Sp} (D : DefOk P w K mg base x k ps sp) (h : ∀ vs H Q E, sp' vs H Q E → sp vs H Q E) : DefOk P w K mg base x k ps sp' :=
  let ⟨f, fd, F, r⟩ := D.ex
  ⟨f, fd, F.imp h, r⟩
/-- THE RULE: a def's body as a term of rules, and what it reads -/
theorem defok {x : Str} {st : Stmt} {N ps : List Str} {k : Nat} {sp : Sp} (D : DefIn K mg x st ps) (S : FnScope N ps (defScope st)) (len : ∀ vs H Q E, sp vs H Q E → vs.length = ps.length)
    (body : ∀ (f : Addr) (cdv : Value) (A : Around) (outer : List Env) (s : Shared) (H : Hp) (vs : List V) (Q : VK) (E : XK), Room k (cxOf CX0 P w K mg base N x (defScope st) f cdv A outer s H E).A → (cxOf CX0 P w K mg base N x (defScope st) f cdv A outer s H E).A.guards = some [] → sp vs H Q E →
      ∃ t, PSs (cxOf CX0 P w K mg base N x (defScope st) f cdv A outer s H E).nox (defBody st) t ∧ t { nx := fun _ H' => Q .non H', rt := Q } (start N vs) H) : DefOk P w K mg base x (k + 1) ps sp := by
  obtain ⟨f, fd, F, hm, hb⟩ := D.ex
  refine ⟨f, fd, fng F S len fun cdv A outer s H vs Q E hr hg h => ?_, hm, F.kp, hb⟩
  obtain ⟨t, ht, q⟩ := body f cdv A outer s H vs Q E hr hg h
  exact ⟨t, ht.nox, q⟩
end

section
variable {X : Cx} {x : Str} {p pos : Pos} {e : Expr} {es : List Expr} {t : TA} {k : Nat} {ps : List Str} {sp : Sp}
theorem run_g {f : Addr} {fd : FuncData} {pins : List (Addr × Obj)} {σ : L2.St} {H : Hp} {s : Shared} {Q : VK} {us : List Value} {vs : List V} (F : FnG X.prog X.w X.K X.mg X.base CX0 k f fd ps sp) (hr : Room k X.A) (hg : X.A.guards = some []) (hb : Binds X.K fd ps [])
    (I : Inv X pins σ H s) (r : Vals vs us) (h : sp vs H Q E0) : wpAny (model X.prog X.w) X.A (call (.ref f) us) (EP X pins σ Q) X.xe s := by
  have many : (us ++ []).length = ps.length := by
    rw [List.append_nil, ← r.length]
    exact F.len _ _ _ _ h
  have b := hb s us I.kIn many
  rw [List.append_nil] at b
  refine wpAny_call (codeAny_mono (F.run X.A X.stack s H ⟨us, []⟩ us vs Q E0 hr hg I.env0 b r h) fun res s' z => ?_)
  cases res with
  | error err => exact False.elim z
  | ok fl =>
    cases fl with
    | ret u => exact I.after z
    | next => exact False.elim z
    | brk => exact False.elim z
    | cont => exact False.elim z
/-- f(e, ..) -/
def tCallD (sp : Sp) (t : TA) : TE := fun σ H Q => t σ H fun vs H1 => sp vs H1 Q E0
theorem pe_callD (D : DefOk X.prog X.w X.K X.mg X.base x k ps sp) (hr : Room k X.A) (hg : X.A.guards = some []) (ha : PA X (e :: es) t) (gl : Gl X x := by rfl) (hdb : (x == ("__debug__" : Str)) = false := by decide)
    (he : starEach (e :: es) X.env = (false, eval e X.env) :: starEach es X.env := by rfl) (hpl : (backTo pos (starEach es X.env)).any (·.1) = false := by rfl) : PE X (.Call (.Name x p) (e :: es) [] pos) (tCallD sp t) := by
  obtain ⟨f, fd, F, hm, hk, hb⟩ := D.ex
  refine ⟨fun pins s σ H Q I h => ?_⟩
  refine wpAny_Call_Name_kw (ld_glob I gl hm ?_ hdb)
  refine PySem.W.callWith_K (h₀ := X.base) I.ok.mod.kin hk (thn (ha.run pos pins s σ H _ I h) fun us s1 ⟨vs, H1, I1, r, q⟩ => ⟨I1.kIn, ?_⟩) he hpl
  exact run_g F hr hg hb I1 r q
theorem pe_callD0 (D : DefOk X.prog X.w X.K X.mg X.base x k ps sp) (hr : Room k X.A) (hg : X.A.guards = some []) (gl : Gl X x := by rfl) (hdb : (x == ("__debug__" : Str)) = false := by decide) : PE X (.Call (.Name x p) [] [] pos) (tCallD sp tNil) := by
  obtain ⟨f, fd, F, hm, hk, hb⟩ := D.ex
  refine ⟨fun pins s σ H Q I h => ?_⟩
  refine wpAny_Call_Name_kw (ld_glob I gl hm ?_ hdb)
  exact PySem.W.callWith_K0 I.kIn hk (run_g (us := []) (vs := []) F hr hg hb I .nil h)
theorem ev_callD {σ : L2.St} {H : Hp} {z : V} {vs : List V} {ta : TA} (h : EvA ta σ H vs) (hs : SpV sp vs H z) : Ev (tCallD sp ta) σ H z := fun H1 e Q q =>
  h H1 e _ fun H2 e2 => hs H2 (e.trans e2) Q (fun H3 e3 => q H3 (e2.trans e3)) E0
theorem el_callD {σ : L2.St} {H : Hp} {vs xs : List V} {ta : TA} (h : EvA ta σ H vs) (hs : SpL sp vs H xs) : EvL (tCallD sp ta) σ H xs := fun H1 e Q q =>
  h H1 e _ fun H2 e2 => hs H2 (e.trans e2) Q (fun p H3 hp e3 h3 => q p H3 (fresh_back e2 hp) (e2.trans e3) h3) E0
end

/-! ### repr of data -/
def scalV : V → Bool
  | .non => true
  | .bl _ => true
  | .int _ => true
  | .str _ => true
  | _ => false
/-- scalars, lists and tuples of data; a dict of written keys with scalars -/
def Dr (K : PySem.W.Frag) (H : Hp) (v : V) (d : PyData) : Prop := Dp K H v d ∨ ∃ (a : Addr) (kvs : List (Key × V)) (ds : List (PyData × PyData)), v = .ref a ∧ H a = some (.dK kvs) ∧ d = .dict ds ∧ (∀ p ∈ kvs, scalV p.2 = true) ∧ Paired (fun (p : Key × V) (q : PyData × PyData) => Dp K H (kV p.1) q.1 ∧ Dp K H p.2 q.2) kvs ds
def rRepr (K : PySem.W.Frag) : List V → Hp → VK → Prop := fun xs H Q => ∃ x d, xs = [x] ∧ Dr K H x d ∧ d.showable = true ∧ d.depth ≤ 32 ∧ d.shown.length ≤ sizeLine ∧ Q (.str d.shown) H
mutual
theorem dp_nodict {K : PySem.W.Frag} {H : Hp} : ∀ {d : PyData} {v : V}, Dp K H v d → d.hasDict = false
  | .none, _, _ => by simp only [PyData.hasDict]
  | .bool _, _, _ => by simp only [PyData.hasDict]
  | .int _, _, _ => by simp only [PyData.hasDict]
  | .str _, _, _ => by simp only [PyData.hasDict]
  | .list xs, _, h => by
    simp only [PyData.hasDict]
    cases h with
    | lst h1 h2 => exact dp_nodictA h2
  | .tuple xs, _, h => by
    simp only [PyData.hasDict]
    cases h with
    | tup h1 h2 => exact dp_nodictA h2
  | .dict _, _, h => by cases h
theorem dp_nodictA {K : PySem.W.Frag} {H : Hp} : ∀ {ds : List PyData} {vs : List V}, DpAll K H vs ds → PyData.hasDictAll ds = false
  | [], _, _ => by simp only [PyData.hasDictAll]
  | d :: ds, _, h => by
    cases h with
    | cons h1 h2 =>
      simp only [PyData.hasDictAll, Bool.or_eq_false_iff]
      exact ⟨dp_nodict h1, dp_nodictA h2⟩
end
section
variable {X : Cx}
theorem rel_ref {a : Addr} {u : Value} (r : L2.RelV (.ref a) u) : u = .ref a := r
theorem sc_reads {K : PySem.W.Frag} {H : Hp} {h : Heap} {v : V} {d : PyData} {u : Value} (hs : scalV v = true) (hd : Dp K H v d) (r : L2.RelV v u) : Reads h u d [] := by
  cases hd with
  | non =>
    cases (show u = Value.none from r)
    exact .none
  | bl b =>
    cases (show u = Value.bool b from r)
    exact .bool b
  | int i =>
    obtain ⟨t, rfl⟩ := (show ∃ t, u = Value.int i t from r)
    exact .int i t
  | str y =>
    obtain ⟨t, rfl⟩ := (show ∃ t, u = Value.str y t from r)
    exact .str y t
  | lst h1 h2 => cases hs
  | tup h1 h2 => cases hs
theorem key_rel {k : Key} {u : Value} (h : keyIs k u = true) : L2.RelV (kV k) u ∧ scalV (kV k) = true := by
  rcases keyIs_shape h with ⟨i, t, rfl, rfl⟩ | ⟨x, t, rfl, rfl⟩
  · exact ⟨⟨t, rfl⟩, rfl⟩
  · exact ⟨⟨t, rfl⟩, rfl⟩
/-- a dict of scalars reads as one -/
theorem dr_dict {pins : List (Addr × Obj)} {σ : L2.St} {H : Hp} {s : Shared} {a : Addr} {kvs : List (Key × V)} {ds : List (PyData × PyData)} (I : L2.Inv X pins σ H s) (ha : H a = some (.dK kvs))
    (hp : Paired (fun (p : Key × V) (q : PyData × PyData) => Dp X.K H (kV p.1) q.1 ∧ Dp X.K H p.2 q.2) kvs ds) (hsc : ∀ p ∈ kvs, scalV p.2 = true) : Reads s.heap (.ref a) (.dict ds) [a] ∧ (a == sysModules) = false := by
  obtain ⟨_, hsys, vs, hkv, o, es, ep, ho, hex, hd, _, prs, _⟩ := (show ObjOk X.prog X.w H s.heap a (.dK kvs) from I.hok a _ ha)
  have key : ∀ (l : List DictEntry) (vs : List (Key × Value)) (kvs : List (Key × V)) (ds : List (PyData × PyData)), Pairs (mixKind X.prog X.w) l vs → KV kvs vs → (∀ p ∈ kvs, scalV p.2 = true) →
      Paired (fun (p : Key × V) (q : PyData × PyData) => Dp X.K H (kV p.1) q.1 ∧ Dp X.K H p.2 q.2) kvs ds → ReadsAll s.heap (l.map (·.key)) (ds.map (·.1)) [] ∧ ReadsAll s.heap (l.map (·.val)) (ds.map (·.2)) [] := by
    intro l
    induction l with
    | nil =>
      intro vs kvs ds h1 h2 h3 h4
      cases h1
      cases h2
      cases h4
      exact ⟨.nil, .nil⟩
    | cons e l ih =>
      intro vs kvs ds h1 h2 h3 h4
      cases h1 with
      | cons p1 pv p2 =>
        cases h2 with
        | cons q1 q2 =>
          cases h4 with
          | cons r1 r2 =>
            obtain ⟨i1, i2⟩ := ih _ _ _ p2 q2 (fun p hp => h3 p (List.mem_cons_of_mem _ hp)) r2
            have ek := q1.1
            have kr := key_rel (show keyIs _ e.key = true from p1)
            have vr := q1.2
            rw [← pv] at vr
            rw [← ek] at kr
            exact ⟨.cons (sc_reads kr.2 r1.1 kr.1) i1, .cons (sc_reads (h3 _ (List.mem_cons_self ..)) r1.2 vr) i2⟩
  obtain ⟨r1, r2⟩ := key _ _ _ _ prs hkv hsc hp
  exact ⟨Reads.dict ho hex.1 hd r1 r2, hsys⟩
theorem call_repr (hg : X.A.guards = some []) (hu : X.A.units + 64 < cLine) : CallR X (.builtin "repr") (rRepr X.K) := by
  intro pins s σ H xs us Q I r h
  obtain ⟨x, d, rfl, hd, hs, hdep, hl, q⟩ := h
  cases r with
  | cons rx rr =>
    cases rr
    have fin : ∀ h' (u : Tok) tk, (∀ b o, s.heap.get? b = some o → h'.get? b = some o) → EP X pins σ Q (.str d.shown u) { s with heap := h', toks := tk } := fun h' u tk k => ⟨.str d.shown, H, I.kept k, ⟨u, rfl⟩, q⟩
    rcases hd with hd | ⟨a, kvs, ds, rfl, ha, rfl, hsc, hp⟩
    · cases hd with
      | non =>
        cases (show _ = Value.none from rx)
        exact P.repr_of_none (fin s.heap _ _ fun _ _ e => e)
      | bl b =>
        cases (show _ = Value.bool b from rx)
        exact P.repr_of_bool (fin s.heap _ _ fun _ _ e => e)
      | int i =>
        obtain ⟨t, rfl⟩ := (show ∃ t, _ = Value.int i t from rx)
        exact P.repr_of_int (by simpa [PyData.showable] using hs) (fin s.heap _ _ fun _ _ e => e)
      | str y =>
        obtain ⟨t, rfl⟩ := (show ∃ t, _ = Value.str y t from rx)
        exact P.repr_of_str (fin s.heap _ _ fun _ _ e => e) hl
      | @lst a ys ds h1 h2 =>
        cases rel_ref rx
        obtain ⟨as, rd⟩ := Dp.reads I _ _ _ (Dp.lst h1 h2) rx
        exact repr_of_reads' rd hs (PyData.noDict_hsm (dp_nodict (Dp.lst h1 h2))) hg (by omega) (fun _ _ e => e) fin hl
      | @tup a ys ds h1 h2 =>
        cases rel_ref rx
        obtain ⟨as, rd⟩ := Dp.reads I _ _ _ (Dp.tup h1 h2) rx
        exact repr_of_reads' rd hs (PyData.noDict_hsm (dp_nodict (Dp.tup h1 h2))) hg (by omega) (fun _ _ e => e) fin hl
    · cases rel_ref rx
      obtain ⟨rd, hsys⟩ := dr_dict I ha hp hsc
      refine repr_of_reads' rd hs (fun _ hm => ?_) hg (by omega) (fun _ _ e => e) fin hl
      have e : sysModules = a := by simpa using hm
      subst e
      simp at hsys
end
end Lay

/-! a list that is known only by what holds of it: a jar of three ints. The abstract heap says it anew: ghost steps -/
namespace Lay
open PySem PySem.Spec PyProof.Rows L2 Evl

/-- the abstract heap H may be told as H' over the heap hp -/
structure Gst (P : Program) (w : World) (hp : Heap) (H H' : Hp) : Prop where
  ok : HOk P w H hp → HOk P w H' hp
  none : ∀ b, H b = none ↔ H' b = none
  tups : ∀ b xs, H b = some (.tup xs) → H' b = some (.tup xs)
  frzs : ∀ b o u, H b = some (.frz o u) → H' b = some (.frz o u)
  tbls : ∀ b ps, H b = some (.tbl ps) → H' b = some (.tbl ps)
theorem Gst.refl {P : Program} {w : World} {hp : Heap} (H : Hp) : Gst P w hp H H := ⟨fun h => h, fun _ => Iff.rfl, fun _ _ h => h, fun _ _ _ h => h, fun _ _ h => h⟩
section
variable {P : Program} {w : World} {K : PySem.W.Frag} {mg : Str → Option Value} {base : Heap}
/-- one object told anew -/
theorem Gst.at {h : Heap} {H : Hp} {a : Addr} {o o' : HO} (ha : H a = some o) (h1 : ∀ x, o ≠ .own x) (h2 : ∀ xs, o ≠ .tup xs) (h3 : ∀ ob u, o ≠ .frz ob u) (h4 : ∀ ps, o ≠ .tbl ps) (ok : HOk P w H h → ObjOk P w (upd H a o') h a o') : Gst P w h H (upd H a o') where
  ok := fun hk b u q => by
    by_cases hb : b = a
    · subst hb
      rw [upd_same] at q
      cases q
      exact ok hk
    · rw [upd_ne hb] at q
      refine (hk b u q).stay (fun c v _ z => z) (fun c z => ?_) fun c xs z => ?_
      · rw [upd_ne fun e => ?_]
        · exact z
        · rw [e, ha] at z
          exact h1 b (Option.some.inj z)
      · rw [upd_ne fun e => ?_]
        · exact z
        · rw [e, ha] at z
          exact h2 xs (Option.some.inj z)
  none := fun b => by
    by_cases hb : b = a
    · subst hb
      rw [upd_same, ha]
      exact ⟨fun z => (by cases z), fun z => (by cases z)⟩
    · rw [upd_ne hb]
  tups := fun b xs q => by
    rw [upd_ne fun e => ?_]
    · exact q
    · rw [e, ha] at q
      exact h2 xs (Option.some.inj q)
  frzs := fun b ob u q => by
    rw [upd_ne fun e => ?_]
    · exact q
    · rw [e, ha] at q
      exact h3 ob u (Option.some.inj q)
  tbls := fun b ps q => by
    rw [upd_ne fun e => ?_]
    · exact q
    · rw [e, ha] at q
      exact h4 ps (Option.some.inj q)
theorem un_gst {fs : List Addr} {H H1 H2 H3 : Hp} {h h' : Heap} (g : Gst P w h H H1) (u : Un fs [] H1 H2 h h') (g' : Gst P w h' H2 H3) : Un fs [] H H3 h h' where
  keep := fun b o q n => u.keep b o q ((g.none b).mp n)
  slot := fun b o q n => u.slot b o q ((g.none b).mp n)
  free := fun b o q n x => (g'.none b).mp (u.free b o q ((g.none b).mp n) x)
  there := u.there
  tups := fun b xs q => g'.tups b xs (u.tups b xs (g.tups b xs q))
  frzs := fun b o x q => g'.frzs b o x (u.frzs b o x (g.frzs b o x q))
  tbls := fun b ps q => by
    obtain ⟨more, z⟩ := u.tbls b ps (g.tbls b ps q)
    exact ⟨more, g'.tbls b _ z⟩
/-- a promise told over other abstract heaps -/
theorem FnG.gst {k : Nat} {f : Addr} {fd : FuncData} {ps : List Str} {sp sp' : Sp} (F : FnG P w K mg base CX0 k f fd ps sp) (len : ∀ vs H Q E, sp' vs H Q E → vs.length = ps.length)
    (h : ∀ vs H Q E hp, sp' vs H Q E → HOk P w H hp → ∃ H1, Gst P w hp H H1 ∧ sp vs H1 (fun v H2 => ∃ H3, (∀ hp', Gst P w hp' H2 H3) ∧ Q v H3) E0) : FnG P w K mg base CX0 k f fd ps sp' := by
  refine ⟨len, fun A outer s H args us vs Q E hr hg e0 hb r q => ?_⟩
  obtain ⟨H1, g, q1⟩ := h vs H Q E s.heap q e0.hok
  have e1 : Env0 P w K mg base A outer s H1 := ⟨e0.frames, e0.mod, fun b o e => ⟨(e0.bs b o e).1, (g.none b).mp (e0.bs b o e).2⟩, e0.bsz, e0.funs, fun b hb => (g.none b).mp (e0.frf b hb), g.ok e0.hok, e0.bare⟩
  refine codeAny_mono (F.run A outer s H1 args us vs _ E0 hr hg e1 hb r q1) fun res s' z => ?_
  cases res with
  | error err => exact z
  | ok fl =>
    cases fl with
    | ret u =>
      obtain ⟨v, H2, hos, bare, un, hok, rv, H3, g3, q3⟩ := z
      exact ⟨v, H3, hos, bare, un_gst g un (g3 _), (g3 _).ok hok, rv, q3⟩
    | next => exact z
    | brk => exact z
    | cont => exact z
theorem DefOk.gst {x : Str} {k : Nat} {ps : List Str} {sp sp' : Sp} (D : DefOk P w K mg base x k ps sp) (len : ∀ vs H Q E, sp' vs H Q E → vs.length = ps.length)
    (h : ∀ vs H Q E hp, sp' vs H Q E → HOk P w H hp → ∃ H1, Gst P w hp H H1 ∧ sp vs H1 (fun v H2 => ∃ H3, (∀ hp', Gst P w hp' H2 H3) ∧ Q v H3) E0) : DefOk P w K mg base x k ps sp' :=
  let ⟨f, fd, F, r⟩ := D.ex
  ⟨f, fd, F.gst len h, r⟩

/-! ### a jar -/
/-- at j: a list of three ints, the first one not below 0 -/
def jarO (j : Addr) : HO := .ext fun h => ∃ (a b c : Int) (its : List Value) (n : Nat), 0 ≤ a ∧ Vals [V.int a, V.int b, V.int c] its ∧ h.get? j = some { cls := .type "list", data := .seq its.toArray n }
theorem jar_ne {j : Addr} : (∀ x, jarO j ≠ .own x) ∧ (∀ xs, jarO j ≠ .tup xs) ∧ (∀ ob u, jarO j ≠ .frz ob u) ∧ (∀ ps, jarO j ≠ .tbl ps) := by
  unfold jarO
  exact ⟨fun _ z => (by cases z), fun _ z => (by cases z), fun _ _ z => (by cases z), fun _ z => (by cases z)⟩
theorem lst_ne {xs : List V} : (∀ x, HO.lst xs ≠ .own x) ∧ (∀ ys, HO.lst xs ≠ .tup ys) ∧ (∀ ob u, HO.lst xs ≠ .frz ob u) ∧ (∀ ps, HO.lst xs ≠ .tbl ps) :=
  ⟨fun _ z => (by cases z), fun _ z => (by cases z), fun _ _ z => (by cases z), fun _ z => (by cases z)⟩
/-- a list of three ints closed into a jar -/
theorem jar_close {H : Hp} {j : Addr} {a b c : Int} (hj : H j = some (.lst [.int a, .int b, .int c])) (ha : 0 ≤ a) {h : Heap} : Gst P w h H (upd H j (jarO j)) := by
  obtain ⟨n1, n2, n3, n4⟩ := lst_ne (xs := [V.int a, V.int b, V.int c])
  refine Gst.at hj n1 n2 n3 n4 fun hk => ?_
  obtain ⟨_, its, n, rv, e⟩ := (show ObjOk P w H h j (.lst [.int a, .int b, .int c]) from hk j _ hj)
  exact ⟨⟨a, b, c, its, n, ha, rv, e⟩, ⟨_, e⟩, fun h1 h2 ⟨a, b, c, its, n, z1, z2, z3⟩ k => ⟨a, b, c, its, n, z1, z2, k _ z3⟩⟩
/-- a jar opened: three ints -/
theorem jar_open {H : Hp} {j : Addr} {h : Heap} (hj : H j = some (jarO j)) (hk : HOk P w H h) : ∃ a b c : Int, 0 ≤ a ∧ Gst P w h H (upd H j (.lst [.int a, .int b, .int c])) := by
  obtain ⟨n1, n2, n3, n4⟩ := jar_ne (j := j)
  have q := hk j _ hj
  unfold jarO at q
  obtain ⟨⟨a, b, c, its, n, ha, rv, e⟩, _, _⟩ := q
  exact ⟨a, b, c, ha, Gst.at hj n1 n2 n3 n4 fun _ => ⟨by rw [sizeLine_eq]; exact (by decide : 3 ≤ 16777216), its, n, rv, e⟩⟩
theorem ex_close {H H' : Hp} {j : Addr} {xs : List V} (hj : H j = some (jarO j)) (e : Ex (upd H j (.lst xs)) H') : Ex H (upd H' j (jarO j)) := fun a o q => by
  by_cases ha : a = j
  · subst ha
    rw [upd_same, ← hj]
    exact q
  · rw [upd_ne ha]
    refine e a o ?_
    rw [upd_ne ha]
    exact q
end

/-! ### targets, further evaluations -/
section
variable {K : PySem.W.Frag} {σ : L2.St} {H H' : Hp} {ta tb te tx : TE} {t u : TT} {x y z v : V} {Q : L2.St → Hp → Prop}
theorem g_tup {n : Nat} {g : TGs} {p : Addr} {xs : List V} (h : SqT K H p xs) (hl : xs.length = n) (k : g xs σ H Q) : gTup K n g (.ref p) σ H Q := ⟨p, xs, rfl, h, hl, k⟩
theorem g_cons {g : TG} {gs : TGs} {r : List V} (k : g v σ H fun σ' H' => gs r σ' H' Q) : gCons g gs (v :: r) σ H Q := ⟨v, r, rfl, k⟩
theorem g_nil (k : Q σ H) : gNil [] σ H Q := ⟨rfl, k⟩
theorem g_name {i : Nat} (k : Q (σ.set i (some v)) H) : gName i v σ H Q := k
theorem g_setL {l : Addr} {xs : List V} {j : Nat} (hl : H l = some (.lst xs)) (ho : Ev ta σ H (.ref l)) (hi : Ev tb σ H (.int (j : Int))) (hj : j < xs.length) (k : ∀ H1, Ex H H1 → Q σ (upd H1 l (.lst (xs.set j v)))) : gSub ta tb rSetL v σ H Q :=
  ho H (Ex.refl H) _ fun H1 e1 => hi H1 e1 _ fun H2 e2 => ⟨l, xs, (j : Int), j, rfl, rfl, (e1.trans e2) l _ hl, ixN_nat hj, k H2 (e1.trans e2)⟩
theorem s_asgG {g : TG} {D : Ends} (h : Ev te σ H v) (k : ∀ H1, Ex H H1 → g v σ H1 D.nx) : tAsg te g D σ H := h H (Ex.refl H) _ fun H1 e => k H1 e
theorem s_asgGU {g : TG} {D : Ends} {xs : List V} (h : EvU te σ H xs) (k : ∀ p H1, H p = none → Ex H H1 → H1 p = some (.tup xs) → g (.ref p) σ H1 D.nx) : tAsg te g D σ H := h H (Ex.refl H) _ fun p H1 hp e h1 => k p H1 hp e h1
theorem q_asgG {g : TG} {D : Ends} {tz : TS} (h : Ev te σ H v) (k : ∀ H1, Ex H H1 → g v σ H1 (tz D)) : tSeq (tAsg te g) tz D σ H := s_asgG (D := { D with nx := tz D }) h k
theorem q_asgGU {g : TG} {D : Ends} {tz : TS} {xs : List V} (h : EvU te σ H xs) (k : ∀ p H1, H p = none → Ex H H1 → H1 p = some (.tup xs) → g (.ref p) σ H1 (tz D)) : tSeq (tAsg te g) tz D σ H := s_asgGU (D := { D with nx := tz D }) h k
/-- divmod: a new tuple -/
theorem eu_divmod {i j : Int} (h : EvA (tCons ta (tCons tb tNil)) σ H [.int i, .int j]) (hc : CDiv i j) :
    EvU (tCB (fun xs H Q => ∃ i j, xs = [V.int i, V.int j] ∧ CDiv i j ∧ ∀ p, H p = none → Q (V.ref p) (upd H p (HO.tup [V.int (i / j), V.int (i % j)]))) (tCons ta (tCons tb tNil))) σ H [.int (i / j), .int (i % j)] := fun H1 e Q q =>
  h H1 e _ fun H2 e2 => ⟨i, j, rfl, hc, fun p hp => q p _ (fresh_back e2 hp) (e2.trans (Ex.new hp)) upd_same⟩
theorem ev_int1 {i : Int} (h : Ev ta σ H (.int i)) : Ev (tCB (fun xs H Q => (∃ i, xs = [V.int i] ∧ Q (V.int i) H) ∨ ∃ k, xs = [V.bl k] ∧ Q (V.int (if k = true then 1 else 0)) H) (tCons ta tNil)) σ H (.int i) :=
  ev_cb (ea_cons h ea_nil) fun H1 _ Q q => .inl ⟨i, rfl, q H1 (Ex.refl H1)⟩
theorem rc_abs {i : Int} : RC (fun xs H Q => ∃ i, xs = [V.int i] ∧ Q (V.int (if i < 0 then -i else i)) H) [.int i] H (.int (if i < 0 then -i else i)) := fun H1 _ Q q => ⟨i, rfl, q H1 (Ex.refl H1)⟩
/-- len of a list or tuple -/
theorem rc_lenL {a : Addr} {xs : List V} (h : SqL K H a xs) : RC (fun ys H Q => ∃ x n, ys = [x] ∧ LenV K x H n ∧ Q (.int n) H) [.ref a] H (.int (xs.length : Nat)) := fun H1 e Q q => ⟨.ref a, xs.length, rfl, .inl ⟨xs, ex_l e h, rfl⟩, q H1 (Ex.refl H1)⟩
theorem rc_lenT {a : Addr} {xs : List V} (h : SqT K H a xs) : RC (fun ys H Q => ∃ x n, ys = [x] ∧ LenV K x H n ∧ Q (.int n) H) [.ref a] H (.int (xs.length : Nat)) := fun H1 e Q q => ⟨.ref a, xs.length, rfl, .inr ⟨xs, ex_t e h, rfl⟩, q H1 (Ex.refl H1)⟩
end

/-- all but what stands at j is as it was -/
def ExM (j : Addr) (H H' : Hp) : Prop := ∀ a o, a ≠ j → H a = some o → H' a = some o
theorem ExM.refl (j : Addr) (H : Hp) : ExM j H H := fun _ _ _ h => h
theorem ExM.trans {j : Addr} {H H1 H2 : Hp} (a : ExM j H H1) (b : ExM j H1 H2) : ExM j H H2 := fun x o n h => b x o n (a x o n h)
theorem Ex.m {j : Addr} {H H' : Hp} (e : Ex H H') : ExM j H H' := fun a o _ h => e a o h
theorem ExM.upd {j : Addr} {H H' : Hp} {o : HO} (e : ExM j H H') : ExM j H (upd H' j o) := fun a u n h => by
  rw [upd_ne n]
  exact e a u n h
theorem ExM.fin {j : Addr} {H H' : Hp} {o : HO} (e : ExM j H H') (hj : H' j = some o) : Ex (L2.upd H j o) H' := fun a u h => by
  by_cases n : a = j
  · subst n
    rw [upd_same] at h
    rw [hj, h]
  · rw [upd_ne n] at h
    exact e a u n h
/-! ### evaluations that may end with one of several values -/
abbrev VP := V → Hp → Prop
def Stb (P : VP) : Prop := ∀ v H H', Ex H H' → P v H → P v H'
def EvP (te : TE) (σ : L2.St) (H : Hp) (P : VP) : Prop := ∀ H1, Ex H H1 → ∀ Q : VK, (∀ v H2, Ex H1 H2 → P v H2 → Q v H2) → te σ H1 Q
def EvAP (ta : TA) (σ : L2.St) (H : Hp) (P : List V → Hp → Prop) : Prop := ∀ H1, Ex H H1 → ∀ Q : List V → Hp → Prop, (∀ vs H2, Ex H1 H2 → P vs H2 → Q vs H2) → ta σ H1 Q
section
variable {K : PySem.W.Frag} {σ : L2.St} {H H' : Hp} {ta tb te tx : TE} {t u : TT} {x y z v : V} {P R : VP} {D : Ends} {tz : TS}
theorem EvP.mono (e : Ex H H') (h : EvP te σ H P) : EvP te σ H' P := fun H1 a Q q => h H1 (e.trans a) Q q
theorem EvP.imp (h : EvP te σ H P) (i : ∀ v H1, Ex H H1 → P v H1 → R v H1) : EvP te σ H R := fun H1 e Q q => h H1 e Q fun v H2 e2 p => q v H2 e2 (i v H2 (e.trans e2) p)
theorem Ev.p (h : Ev te σ H v) : EvP te σ H (fun u _ => u = v) := fun H1 e Q q => h H1 e Q fun H2 e2 => q v H2 e2 rfl
theorem Ev.pp (h : Ev te σ H v) (hp : ∀ H1, Ex H H1 → P v H1) : EvP te σ H P := fun H1 e Q q => h H1 e Q fun H2 e2 => q v H2 e2 (hp H2 (e.trans e2))
theorem EvL.p {xs : List V} (h : EvL te σ H xs) : EvP te σ H (fun u H => ∃ p, u = .ref p ∧ H p = some (.lst xs)) := fun H1 e Q q => h H1 e Q fun p H2 _ e2 h2 => q _ H2 e2 ⟨p, rfl, h2⟩
theorem EvU.p {xs : List V} (h : EvU te σ H xs) : EvP te σ H (fun u H => ∃ p, u = .ref p ∧ H p = some (.tup xs)) := fun H1 e Q q => h H1 e Q fun p H2 _ e2 h2 => q _ H2 e2 ⟨p, rfl, h2⟩
theorem evp_ev (h : EvP te σ H P) (hp : ∀ u H1, Ex H H1 → P u H1 → u = v) : Ev te σ H v := fun H1 e Q q => h H1 e Q fun u H2 e2 p => by
  have := hp u H2 (e.trans e2) p
  subst this
  exact q H2 e2
theorem evp_op {r : R2} {S : VP} (ha : EvP ta σ H P) (hP : Stb P) (hb : EvP tb σ H R) (hr : ∀ x y H1, Ex H H1 → P x H1 → R y H1 → ∀ Q : VK, (∀ z H2, Ex H1 H2 → S z H2 → Q z H2) → r x y H1 Q) : EvP (tOp r ta tb) σ H S := fun H1 e Q q =>
  ha H1 e _ fun x H2 e2 p => hb H2 (e.trans e2) _ fun y H3 e3 p3 => hr x y H3 ((e.trans e2).trans e3) (hP _ _ _ e3 p) p3 Q fun z H4 e4 s => q z H4 ((e2.trans e3).trans e4) s
theorem eap_nil : EvAP tNil σ H (fun vs _ => vs = []) := fun H1 _ _ q => q [] H1 (Ex.refl H1) rfl
theorem eap_cons {ts : TA} {S : List V → Hp → Prop} (ha : EvP ta σ H P) (hP : Stb P) (hs : EvAP ts σ H S) : EvAP (tCons ta ts) σ H (fun vs H => ∃ v r, vs = v :: r ∧ P v H ∧ S r H) := fun H1 e Q q =>
  ha H1 e _ fun x H2 e2 p => hs H2 (e.trans e2) _ fun r H3 e3 s => q _ H3 (e2.trans e3) ⟨x, r, rfl, hP _ _ _ e3 p, s⟩
theorem EvA.p {ts : TA} {vs : List V} (h : EvA ts σ H vs) : EvAP ts σ H (fun us _ => us = vs) := fun H1 e Q q => h H1 e Q fun H2 e2 => q vs H2 e2 rfl
/-- a call of a def by its promise -/
theorem evp_callD {sp : Sp} {ts : TA} {S : List V → Hp → Prop} (h : EvAP ts σ H S) (hs : ∀ vs H1, Ex H H1 → S vs H1 → ∀ Q : VK, (∀ v H2, Ex H1 H2 → P v H2 → Q v H2) → sp vs H1 Q E0) : EvP (tCallD sp ts) σ H P := fun H1 e Q q =>
  h H1 e _ fun vs H2 e2 s => hs vs H2 (e.trans e2) s Q fun v H3 e3 p => q v H3 (e2.trans e3) p
theorem s_retP (h : EvP te σ H P) (k : ∀ v H1, Ex H H1 → P v H1 → D.rt v H1) : tRet te D σ H := h H (Ex.refl H) _ k
theorem s_asgP {i : Nat} (h : EvP te σ H P) (k : ∀ v H1, Ex H H1 → P v H1 → D.nx (σ.set i (some v)) H1) : tAsg te (gName i) D σ H := h H (Ex.refl H) _ fun v H1 e p => k v H1 e p
theorem q_asgP {i : Nat} (h : EvP te σ H P) (k : ∀ v H1, Ex H H1 → P v H1 → tz D (σ.set i (some v)) H1) : tSeq (tAsg te (gName i)) tz D σ H := s_asgP (D := { D with nx := tz D }) h k
theorem s_asgGP {g : TG} (h : EvP te σ H P) (k : ∀ v H1, Ex H H1 → P v H1 → g v σ H1 D.nx) : tAsg te g D σ H := h H (Ex.refl H) _ fun v H1 e p => k v H1 e p
theorem q_asgGP {g : TG} (h : EvP te σ H P) (k : ∀ v H1, Ex H H1 → P v H1 → g v σ H1 (tz D)) : tSeq (tAsg te g) tz D σ H := s_asgGP (D := { D with nx := tz D }) h k
theorem stb_eq : Stb (fun u _ => u = v) := fun _ _ _ _ h => h
theorem stb_const {p : V → Prop} : Stb (fun u _ => p u) := fun _ _ _ _ h => h
theorem stb_lst {xs : List V} : Stb (fun u H => ∃ p, u = .ref p ∧ H p = some (.lst xs)) := fun _ _ _ e ⟨p, h1, h2⟩ => ⟨p, h1, e _ _ h2⟩
theorem stb_tup {xs : List V} : Stb (fun u H => ∃ p, u = .ref p ∧ H p = some (.tup xs)) := fun _ _ _ e ⟨p, h1, h2⟩ => ⟨p, h1, e _ _ h2⟩
theorem int_pair {ts : TA} {a b : V} (h : EvA ts σ H [a, b]) : EvAP ts σ H (fun us _ => us = [a, b]) := EvA.p h
end
section
variable {K : PySem.W.Frag} {σ : L2.St} {H H' : Hp} {ta tb te tx : TE} {t u : TT} {x y z v : V} {P R : VP} {D : Ends} {tz : TS}
/-- xs + ys -/
theorem el_cat {xs ys : List V} (ha : EvL ta σ H xs) (hb : EvL tb σ H ys) (hz : xs.length + ys.length ≤ 100000) : EvL (tOp rCat ta tb) σ H (xs ++ ys) := fun H1 e Q q =>
  ha H1 e _ fun p H2 hp e2 h2 => hb H2 (e.trans e2) _ fun p' H3 hp' e3 h3 => ⟨p, p', xs, ys, rfl, rfl, e3 _ _ h2, h3, sz_of hz, fun l hl => q l _ (fresh_back e2 (fresh_back e3 hl)) ((e2.trans e3).trans (Ex.new hl)) upd_same⟩
/-- a + ys, a held by a name -/
theorem el_catV {a : Addr} {xs ys : List V} (h0 : H a = some (.lst xs)) (ha : Ev ta σ H (.ref a)) (hb : EvL tb σ H ys) (hz : xs.length + ys.length ≤ 100000) : EvL (tOp rCat ta tb) σ H (xs ++ ys) := fun H1 e Q q =>
  ha H1 e _ fun H2 e2 => hb H2 (e.trans e2) _ fun p' H3 hp' e3 h3 => ⟨a, p', xs, ys, rfl, rfl, e3 _ _ (e2 _ _ (e _ _ h0)), h3, sz_of hz, fun l hl => q l _ (fresh_back e2 (fresh_back e3 hl)) ((e2.trans e3).trans (Ex.new hl)) upd_same⟩
/-- a if t else b -/
theorem evp_if {b : Bool} (h : EvT t σ H b) (h1 : b = true → EvP ta σ H P) (h2 : b = false → EvP tb σ H P) : EvP (tIf t ta tb) σ H P := fun H1 e Q q => h H1 e _ fun H2 e2 => by
  cases b with
  | true =>
    show ta σ H2 Q
    exact h1 rfl H2 (e.trans e2) Q fun v H3 e3 p => q v H3 (e2.trans e3) p
  | false =>
    show tb σ H2 Q
    exact h2 rfl H2 (e.trans e2) Q fun v H3 e3 p => q v H3 (e2.trans e3) p
theorem cutV_mem {xs : List V} {lo hi : Option Int} (h : v ∈ cutV xs lo hi) : v ∈ xs := by
  unfold cutV at h
  exact List.mem_of_mem_drop (List.mem_of_mem_take h)
end
/-- a class of the module, a built-in class, as a value -/
theorem pe_gref {X : Cx} {x : Str} {a : Addr} {pos : Pos} (hm : X.mg x = some (.ref a)) (hg : Gl X x := by rfl) (hd : (x == ("__debug__" : Str)) = false := by decide) : PE X (.Name x pos) (tC (.ref a)) := pe_glob hg hm rfl hd
theorem pe_gty {X : Cx} {x : Str} {n : String} {pos : Pos} (hm : X.mg x = none) (hv : bootBuiltins x = some (.type n)) (hg : Gl X x := by rfl) (hn : x ≠ "__name__" := by decide) (hd : (x == ("__debug__" : Str)) = false := by decide) : PE X (.Name x pos) (tC (.ty n)) := pe_bltn hg hm hv rfl hn hd
end Lay

/-! rules whose reading names K, with K given: for the blocks of comprehensions -/
namespace Lay
open PySem PySem.Spec PyProof.Rows L2 Evl
section
variable (K : PySem.W.Frag) {X : Cx} {pos p cpos apos : Pos} {l o e : Expr} {tl to : TE} {t : TA} {tg : Expr}
theorem kx_ixL (h : X.K = K := by rfl) : IxR X (rIxL K) := h ▸ ix_list
theorem kx_ixT (h : X.K = K := by rfl) : IxR X (rIxT K) := h ▸ ix_tup
theorem kx_len (h : X.K = K := by rfl) : CallR X (.builtin "len") (fun xs H Q => ∃ x n, xs = [x] ∧ LenV K x H n ∧ Q (.int n) H) := h ▸ call_len
theorem kx_slL (h : X.K = K := by rfl) : SlR X (rSlL K) := h ▸ sl_list
theorem kx_in (h : X.K = K := by rfl) : OpR X (compareOp .In) (rIn K false) := h ▸ op_in_seq
theorem kx_notIn (h : X.K = K := by rfl) : OpR X (compareOp .NotIn) (rIn K true) := h ▸ op_notIn_seq
theorem kx_eqD (hu : X.A.units + 64 < cLine) (h : X.K = K := by rfl) : OpR X (compareOp .Eq) (rEqD K) := h ▸ op_eqD hu
theorem kx_neD (hu : X.A.units + 64 < cLine) (h : X.K = K := by rfl) : OpR X (compareOp .NotEq) (rNeD K) := h ▸ op_neD hu
theorem kx_catT (h : X.K = K := by rfl) : OpR X (binaryOp .Add) (rCatT K) := h ▸ op_catT
theorem kx_isErr (h : X.K = K := by rfl) : CallR X (.builtin "isinstance") (ErrX.rIsErr K) := h ▸ ErrX.call_isErr
theorem kx_repr (hg : X.A.guards = some []) (hu : X.A.units + 64 < cLine) (h : X.K = K := by rfl) : CallR X (.builtin "repr") (rRepr K) := h ▸ call_repr hg hu
theorem kx_all (hc : X.calm = true) (h : X.K = K := by rfl) : CallR X (.builtin "all") (rAll K) := h ▸ cr_all hc
theorem kx_piList (hl : PE X l tl) (h : X.K = K := by rfl) : PI X tg l (iList K tl) := h ▸ pi_list hl
theorem kx_pgTup {es : List Expr} {k : Nat} {t : TGs} {n : Nat} (hc : X.calm = true) (h1 : PGs X es t) (hn : (assignEach es X.env).length = n := by rfl) (hst : (assignEach es X.env).findIdx? (·.1) = none := by rfl) (h : X.K = K := by rfl) : PG X (.Tuple es k pos) (gTup K n t) := h ▸ pg_tup hc h1 hn hst
theorem kx_errfld {fld : Str} (ho : PE X o to) (hb : attributeBase o fld X.env (eval o X.env) = eval o X.env := by rfl) (h : X.K = K := by rfl) : PE X (.Attribute o fld pos) (ErrX.tErrFld K to fld) := h ▸ ErrX.pe_errfld (p := pos) ho hb
end
end Lay

/-! new lists of new things; loops over enumerate; deep comparison -/
namespace Lay
open PySem PySem.Spec PyProof.Rows L2 Evl ErrX

theorem exM_fresh {j : Addr} {H H' : Hp} (e : ExM j H H') (h : H j = none) : Ex H H' := fun a o q => e a o (fun z => by rw [z, h] at q; cases q) q
theorem Ex.pm {j : Addr} {H H1 H' : Hp} (e : Ex H H1) (m : ExM j H1 H') : ExM j H H' := (Ex.m e).trans m

/-! ### data in a grown heap -/
mutual
theorem dp_ex {K : PySem.W.Frag} {H H' : Hp} (e : Ex H H') : ∀ {d : PyData} {v : V}, Dp K H v d → Dp K H' v d
  | .none, _, h => by
    cases h
    exact .non
  | .bool _, _, h => by
    cases h
    exact .bl _
  | .int _, _, h => by
    cases h
    exact .int _
  | .str _, _, h => by
    cases h
    exact .str _
  | .list _, _, h => by
    cases h with
    | lst h1 h2 => exact .lst (ex_l e h1) (dpA_ex e h2)
  | .tuple _, _, h => by
    cases h with
    | tup h1 h2 => exact .tup (ex_t e h1) (dpA_ex e h2)
  | .dict _, _, h => by cases h
theorem dpA_ex {K : PySem.W.Frag} {H H' : Hp} (e : Ex H H') : ∀ {ds : List PyData} {vs : List V}, DpAll K H vs ds → DpAll K H' vs ds
  | [], _, h => by
    cases h
    exact .nil
  | _ :: _, _, h => by
    cases h with
    | cons h1 h2 => exact .cons (dp_ex e h1) (dpA_ex e h2)
end
theorem pd_imp {α β : Type} {R S : α → β → Prop} (h : ∀ x y, R x y → S x y) : ∀ {xs : List α} {ys : List β}, Paired R xs ys → Paired S xs ys
  | _, _, .nil => .nil
  | _, _, .cons a b => .cons (h _ _ a) (pd_imp h b)
theorem dr_ex {K : PySem.W.Frag} {H H' : Hp} (e : Ex H H') {d : PyData} {v : V} (h : Dr K H v d) : Dr K H' v d := by
  rcases h with h | ⟨a, kvs, ds, h1, h2, h3, h4, h5⟩
  · exact .inl (dp_ex e h)
  · exact .inr ⟨a, kvs, ds, h1, e _ _ h2, h3, h4, pd_imp (fun x y z => ⟨dp_ex e z.1, dp_ex e z.2⟩) h5⟩
theorem rv_eqD {K : PySem.W.Frag} {H : Hp} {x y : V} {d e : PyData} (hx : Dp K H x d) (hy : Dp K H y e) (sd : SeqAt.shaped d = true) (se : SeqAt.shaped e = true) : RV (rEqD K) x y H (.bl (PyData.eqv d e)) := fun H1 z Q q => ⟨d, e, dp_ex z hx, dp_ex z hy, sd, se, q H1 (Ex.refl H1)⟩
theorem rv_neD {K : PySem.W.Frag} {H : Hp} {x y : V} {d e : PyData} (hx : Dp K H x d) (hy : Dp K H y e) (sd : SeqAt.shaped d = true) (se : SeqAt.shaped e = true) : RV (rNeD K) x y H (.bl (!PyData.eqv d e)) := fun H1 z Q q => ⟨d, e, dp_ex z hx, dp_ex z hy, sd, se, q H1 (Ex.refl H1)⟩
theorem rc_repr {K : PySem.W.Frag} {H : Hp} {x : V} {d : PyData} (h : Dr K H x d) (hs : d.showable = true) (hd : d.depth ≤ 32) (hl : d.shown.length ≤ sizeLine) : RC (rRepr K) [x] H (.str d.shown) := fun H1 e Q q => ⟨x, d, rfl, dr_ex e h, hs, hd, hl, q H1 (Ex.refl H1)⟩

/-! ### own errors, new ones -/
def ErrF (N : Addr → Prop) (H : Hp) (C : Addr) (fld : Str) (x : V) (e : Addr) : Prop := ∃ d, H e = some (exo e C (some d)) ∧ H d = some (exd d [(fld, x)]) ∧ N e ∧ N d
theorem ErrF.keep {N : Addr → Prop} {H H' : Hp} {C : Addr} {fld : Str} {x : V} {e : Addr} (k : ∀ b o, N b → H b = some o → H' b = some o) (h : ErrF N H C fld x e) : ErrF N H' C fld x e :=
  let ⟨d, h1, h2, n1, n2⟩ := h
  ⟨d, k _ _ n1 h1, k _ _ n2 h2, n1, n2⟩
theorem ErrF.imp {N M : Addr → Prop} {H : Hp} {C : Addr} {fld : Str} {x : V} {e : Addr} (k : ∀ b o, H b = some o → N b → M b) (h : ErrF N H C fld x e) : ErrF M H C fld x e :=
  let ⟨d, h1, h2, n1, n2⟩ := h
  ⟨d, h1, h2, k _ _ h1 n1, k _ _ h2 n2⟩
theorem ErrF.at {N : Addr → Prop} {H : Hp} {C : Addr} {fld : Str} {x : V} {e : Addr} (h : ErrF N H C fld x e) : ErrAt H e C :=
  let ⟨d, h1, h2, _⟩ := h
  ⟨some d, h1, fun dx q => by
    cases q
    exact ⟨_, h2⟩⟩
/-- what was not there -/
def New (H : Hp) : Addr → Prop := fun b => H b = none
theorem evp_err {σ : L2.St} {H : Hp} {C : Addr} {fld : Str} {ta : TA} {x : V} (h : EvA ta σ H [x]) : EvP (tErr C fld ta) σ H (fun u H' => ∃ e, u = .ref e ∧ ErrF (New H) H' C fld x e) := fun H1 e1 Q q =>
  h H1 e1 _ fun H2 e2 => ⟨x, rfl, fun e d he hd hne => q (.ref e) _ ((e2.trans (Ex.new hd)).trans (Ex.new (by rw [upd_ne hne.symm]; exact he))) ⟨e, rfl, d, upd_same, by rw [upd_ne hne]; exact upd_same, fresh_back (e1.trans e2) he, fresh_back (e1.trans e2) hd⟩⟩
theorem stb_errF {N : Addr → Prop} {C : Addr} {fld : Str} {x : V} : Stb (fun u H' => ∃ e, u = .ref e ∧ ErrF N H' C fld x e) := fun _ _ _ e ⟨a, h1, h2⟩ => ⟨a, h1, h2.keep fun b o _ z => e b o z⟩
/-- a list of two new errors -/
def RowF (N : Addr → Prop) (H : Hp) (C : Addr) (fld : Str) (x : V) (u : V) : Prop := ∃ a e1 e2, u = .ref a ∧ H a = some (.lst [.ref e1, .ref e2]) ∧ N a ∧ ErrF N H C fld x e1 ∧ ErrF N H C fld x e2
theorem RowF.keep {N : Addr → Prop} {H H' : Hp} {C : Addr} {fld : Str} {x u : V} (k : ∀ b o, N b → H b = some o → H' b = some o) (h : RowF N H C fld x u) : RowF N H' C fld x u :=
  let ⟨a, e1, e2, h1, h2, n, h3, h4⟩ := h
  ⟨a, e1, e2, h1, k _ _ n h2, n, h3.keep k, h4.keep k⟩
theorem RowF.imp {N M : Addr → Prop} {H : Hp} {C : Addr} {fld : Str} {x u : V} (k : ∀ b o, H b = some o → N b → M b) (h : RowF N H C fld x u) : RowF M H C fld x u :=
  let ⟨a, e1, e2, h1, h2, n, h3, h4⟩ := h
  ⟨a, e1, e2, h1, h2, k _ _ h2 n, h3.imp k, h4.imp k⟩
theorem stb_row {N : Addr → Prop} {C : Addr} {fld : Str} {x : V} : Stb (fun u H' => RowF N H' C fld x u) := fun _ _ _ e h => h.keep fun b o _ z => e b o z
/-- [e, ..]: a new list -/
theorem evp_lst {σ : L2.St} {H : Hp} {ta : TA} {S : List V → Hp → Prop} (h : EvAP ta σ H S) (hl : ∀ vs H, S vs H → vs.length ≤ 100000) : EvP (tLst ta) σ H (fun u H' => ∃ p vs H0, u = .ref p ∧ Ex H H0 ∧ H0 p = none ∧ S vs H0 ∧ H' p = some (.lst vs) ∧ Ex H0 H') := fun H1 e Q q =>
  h H1 e _ fun vs H2 e2 s => ⟨sz_of (hl _ _ s), fun p hp => q _ _ (e2.trans (Ex.new hp)) ⟨p, vs, H2, rfl, e.trans e2, hp, s, upd_same, Ex.new hp⟩⟩
theorem evp_row {σ : L2.St} {H : Hp} {C : Addr} {fld : Str} {ta tb : TA} {x : V} (ha : EvA ta σ H [x]) (hb : EvA tb σ H [x]) : EvP (tLst (tCons (tErr C fld ta) (tCons (tErr C fld tb) tNil))) σ H (fun u H' => RowF (New H) H' C fld x u) :=
  (evp_lst (eap_cons (evp_err ha) stb_errF (eap_cons (evp_err hb) stb_errF eap_nil)) fun vs H s => by
    obtain ⟨v, r, rfl, _, v2, r2, rfl, _, rfl⟩ := s
    exact (by decide : 2 ≤ 100000)).imp fun u H1 _ ⟨p, vs, H0, h1, e, hp, s, h2, e2⟩ => by
    obtain ⟨v, r, rfl, ⟨a1, rfl, p1⟩, v2, r2, rfl, ⟨a2, rfl, p2⟩, rfl⟩ := s
    exact ⟨p, a1, a2, h1, h2, fresh_back e hp, p1.keep fun b o _ z => e2 b o z, p2.keep fun b o _ z => e2 b o z⟩

/-! ### a list grown by rows -/
def Rows (C : Nat → Addr) (fld : Str) (x : V) (N : Addr → Prop) (H : Hp) (rows : List V) (c : Nat) : Prop := ∀ i r, rows[i]? = some r → RowF N H (C (c + i)) fld x r
theorem Rows.nil {C : Nat → Addr} {fld : Str} {x : V} {N : Addr → Prop} {H : Hp} {c : Nat} : Rows C fld x N H [] c := fun i r h => by
  rw [List.getElem?_nil] at h
  cases h
theorem Rows.snoc {C : Nat → Addr} {fld : Str} {x : V} {N : Addr → Prop} {H : Hp} {rows : List V} {c n : Nat} {r : V} (h : Rows C fld x N H rows c) (hl : rows.length = n) (hr : RowF N H (C (c + n)) fld x r) : Rows C fld x N H (rows ++ [r]) c := fun i u q => by
  by_cases hi : i < rows.length
  · rw [List.getElem?_append_left hi] at q
    exact h i u q
  · rw [List.getElem?_append_right (by omega)] at q
    have e : i - rows.length = 0 := by
      by_cases z : i - rows.length = 0
      · exact z
      · rw [List.getElem?_eq_none (by show 1 ≤ _; omega)] at q
        cases q
    rw [e] at q
    cases q
    have e2 : i = n := by omega
    rw [e2]
    exact hr
theorem Rows.keep {C : Nat → Addr} {fld : Str} {x : V} {N : Addr → Prop} {H H' : Hp} {rows : List V} {c : Nat} (k : ∀ b o, N b → H b = some o → H' b = some o) (h : Rows C fld x N H rows c) : Rows C fld x N H' rows c := fun i r q => (h i r q).keep k
theorem Rows.imp {C : Nat → Addr} {fld : Str} {x : V} {N M : Addr → Prop} {H : Hp} {rows : List V} {c : Nat} (k : ∀ b o, H b = some o → N b → M b) (h : Rows C fld x N H rows c) : Rows C fld x M H rows c := fun i r q => (h i r q).imp k
/-- at p stands a list of n rows, p being none of theirs -/
def Grown (C : Nat → Addr) (fld : Str) (x : V) (c : Nat) (p : Addr) (H : Hp) (n : Nat) : Prop := ∃ rows, H p = some (.lst rows) ∧ rows.length = n ∧ Rows C fld x (· ≠ p) H rows c
theorem Grown.mono {C : Nat → Addr} {fld : Str} {x : V} {c : Nat} {p : Addr} {H H' : Hp} {n : Nat} (e : Ex H H') (h : Grown C fld x c p H n) : Grown C fld x c p H' n :=
  let ⟨rows, h1, h2, h3⟩ := h
  ⟨rows, e _ _ h1, h2, h3.keep fun b o _ z => e b o z⟩
section
variable {K : PySem.W.Frag} {C : Nat → Addr} {fld : Str} {x : V} {c n : Nat} {p : Addr} {σ : L2.St} {H : Hp} {ta te : TE} {D : Ends} {tz : TS}
theorem q_grow (h : Grown C fld x c p H n) (hn : n < 100000) (ha : Ev ta σ H (.ref p)) (he : EvP te σ H (fun u H' => RowF (New H) H' (C (c + n)) fld x u)) (k : ∀ H1, ExM p H H1 → Grown C fld x c p H1 (n + 1) → tz D σ H1) :
    tSeq (tDrop (tBM K "list" rAppend ta (tCons te tNil))) tz D σ H := ha H (Ex.refl H) _ fun H1 e1 => by
  obtain ⟨rows, hp, hl, hr⟩ := h
  refine ⟨Or.inl ⟨rfl, rows, sq_of (e1 p _ hp)⟩, he H1 e1 _ fun u H2 e2 hu => ⟨p, rows, u, rfl, rfl, e2 p _ (e1 p _ hp), sz_lt (by omega), k _ (ExM.upd (Ex.m (e1.trans e2))) ⟨_, upd_same, ?_, ?_⟩⟩⟩
  · rw [List.length_append, hl]
    rfl
  · refine Rows.snoc (n := n) (hr.keep fun b o nb z => ?_) hl ((hu.imp (M := (· ≠ p)) fun b o _ z e => ?_).keep fun b o nb z => ?_)
    · rw [upd_ne nb]
      exact e2 _ _ (e1 _ _ z)
    · have z2 : H b = none := z
      rw [e, hp] at z2
      cases z2
    · rw [upd_ne nb]
      exact z
/-- [row, row] -/
theorem evp_two {ta tb : TE} (ha : EvP ta σ H (fun u H' => RowF (New H) H' (C c) fld x u)) (hb : EvP tb σ H (fun u H' => RowF (New H) H' (C (c + 1)) fld x u)) : EvP (tLst (tCons ta (tCons tb tNil))) σ H (fun u H' => ∃ p, u = .ref p ∧ H p = none ∧ Grown C fld x c p H' 2) := fun H1 e Q q =>
  ha H1 e _ fun u1 H2 e2 p1 => hb H2 (e.trans e2) _ fun u2 H3 e3 p2 => ⟨sz_of (show 2 ≤ 100000 by decide), fun p hp => q _ _ ((e2.trans e3).trans (Ex.new hp)) ⟨p, rfl, fresh_back ((e.trans e2).trans e3) hp, [u1, u2], upd_same, rfl, by
    have ne : ∀ b o, H3 b = some o → b ≠ p := fun b o z y => by
      rw [y, hp] at z
      cases z
    refine Rows.keep (H := H3) (fun b o _ z => Ex.new hp b o z) (Rows.snoc (rows := [u1]) (n := 1) (Rows.snoc (rows := []) (n := 0) Rows.nil rfl ?_) rfl ?_)
    · exact (stb_row _ _ _ e3 p1).imp fun b o z _ => ne b o z
    · exact p2.imp fun b o z _ => ne b o z⟩⟩
/-- xs + [row] -/
theorem evp_more {tb : TE} (h : Grown C fld x c p H n) (hn : n < 10000) (ha : Ev ta σ H (.ref p)) (hb : EvP tb σ H (fun u H' => RowF (New H) H' (C (c + n)) fld x u)) : EvP (tOp rCat ta (tLst (tCons tb tNil))) σ H (fun u H' => ∃ q, u = .ref q ∧ H q = none ∧ Grown C fld x c q H' (n + 1)) := fun H1 e Q q =>
  ha H1 e _ fun H2 e2 => hb H2 (e.trans e2) _ fun u H3 e3 hu => ⟨sz_of (show 1 ≤ 100000 by decide), fun l hl => by
    obtain ⟨rows, hp, hlen, hr⟩ := h
    have x3 : Ex H H3 := (e.trans e2).trans e3
    refine ⟨p, l, rows, [u], rfl, rfl, Ex.new hl _ _ (x3 _ _ hp), upd_same, sz_of (by rw [hlen]; show n + 1 ≤ 100000; omega), fun m hm => q _ _ (((e2.trans e3).trans (Ex.new hl)).trans (Ex.new hm)) ⟨m, rfl, fresh_back (x3.trans (Ex.new hl)) hm, rows ++ [u], upd_same, ?_, ?_⟩⟩
    · rw [List.length_append, hlen]
      rfl
    · have ne : ∀ b o, H3 b = some o → b ≠ m := fun b o z y => by
        have := Ex.new (o := .lst [u]) hl b o z
        rw [y, hm] at this
        cases this
      refine Rows.keep (H := H3) (fun b o _ z => Ex.new hm b o (Ex.new hl b o z)) (Rows.snoc (n := n) ?_ hlen ?_)
      · exact (hr.keep (H' := H3) fun b o _ z => x3 b o z).imp fun b o z _ => ne b o z
      · exact hu.imp fun b o z _ => ne b o z⟩
end

/-! ### enumerate -/
theorem for_enum {K : PySem.W.Frag} {a : Addr} {xs : List V} {g : TG} {tb : TS} {D : Ends} {σ : L2.St} {H : Hp} (Pv : Nat → L2.St → Hp → Prop) (h0 : Pv 0 σ H) (hl : ∀ i σ H, i ≤ xs.length → Pv i σ H → SqL K H a xs)
    (hs : ∀ i x T σ H, xs[i]? = some x → Pv i σ H → H T = none → g (.ref T) σ (upd H T (.tup [.int (i : Nat), x])) fun σ2 H2 => tb { D with nx := Pv (i + 1), ct := Pv (i + 1), bk := D.nx } σ2 H2) (hd : ∀ σ H, Pv xs.length σ H → D.nx σ H) :
    ∃ W : Nat → Nat → L2.St → Hp → Prop, (∃ m, W 0 m σ H) ∧ ∀ i m σ H, W i m σ H →
      ((Ite K a).stop i H ∧ D.nx σ H) ∨ ((Ite K a).go i H ∧ ∃ N : L2.St → Hp → Prop, (∀ σ' H', N σ' H' → ∃ m', m' < m ∧ W (i + 1) m' σ' H') ∧ ∀ x H', (Ite K a).yld i H x H' → g x σ H' fun σ2 H2 => tb { D with nx := N, ct := N, bk := D.nx } σ2 H2) := by
  refine ⟨fun i m σ H => m = xs.length - i ∧ i ≤ xs.length ∧ Pv i σ H, ⟨xs.length, by simp, Nat.zero_le _, h0⟩, ?_⟩
  rintro i m σ H ⟨rfl, hi, p⟩
  have q := hl i σ H hi p
  by_cases hlt : i < xs.length
  · refine .inr ⟨⟨xs, xs[i], q, by simp [hlt]⟩, Pv (i + 1), fun σ' H' p' => ⟨xs.length - (i + 1), by omega, rfl, hlt, p'⟩, fun v H' y => ?_⟩
    obtain ⟨T, x, rfl, hT, rfl, y⟩ := y
    exact hs i x T σ H (y xs q) p hT
  · have e : i = xs.length := by omega
    subst e
    exact .inl ⟨⟨xs, q, Nat.le_refl _⟩, hd σ H p⟩
section
variable {K : PySem.W.Frag} {σ : L2.St} {H : Hp} {ta te : TE} {D : Ends} {tz : TS} {tu : TS} {g : TG} {P : VP}
/-- for i, x in enumerate(e), e a new list at p -/
theorem q_forE {Pv : Addr → List V → Nat → L2.St → Hp → Prop} (h : EvP te σ H P) (hP : ∀ v H1, Ex H H1 → P v H1 → ∃ p xs, v = .ref p ∧ SqL K H1 p xs ∧ Pv p xs 0 σ H1 ∧ (∀ i σ' H', i ≤ xs.length → Pv p xs i σ' H' → SqL K H' p xs) ∧
      (∀ i x T σ' H', xs[i]? = some x → Pv p xs i σ' H' → H' T = none → g (.ref T) σ' (upd H' T (.tup [.int (i : Nat), x])) fun σ2 H2 => tu { D with nx := Pv p xs (i + 1), ct := Pv p xs (i + 1), bk := tz D } σ2 H2) ∧ (∀ σ' H', Pv p xs xs.length σ' H' → tz D σ' H')) :
    tSeq (tFor (iEnum K (tCons te tNil)) g tu) tz D σ H := h H (Ex.refl H) _ fun v H1 e p => by
  obtain ⟨a, xs, rfl, h1, h0, hl, hs, hd⟩ := hP v H1 e p
  exact ⟨a, xs, rfl, h1, for_enum (D := { D with nx := tz D }) (Pv a xs) h0 hl hs hd⟩
end
/-- [e for x in xs], each a new list of its own -/
def LL (v : Nat → List V) (n : Nat) (u : V) (H : Hp) : Prop := ∃ D rs, u = .ref D ∧ H D = some (.lst rs) ∧ rs.length = n ∧ ∀ i r, rs[i]? = some r → ∃ q, r = .ref q ∧ q ≠ D ∧ H q = some (.lst (v i))
theorem stb_LL {v : Nat → List V} {n : Nat} : Stb (LL v n) := fun _ _ _ e ⟨D, rs, h1, h2, h3, h4⟩ => ⟨D, rs, h1, e _ _ h2, h3, fun i r q => let ⟨b, z1, z2, z3⟩ := h4 i r q; ⟨b, z1, z2, e _ _ z3⟩⟩
theorem evp_lcLL {K : PySem.W.Frag} {σ : L2.St} {H : Hp} {tl te : TE} {a : Addr} {xs : List V} {j : Nat} {vs : List Nat} (v : Nat → List V) (h : Ev tl σ H (.ref a)) (hx : SqL K H a xs) (hz : xs.length ≤ 40000) (hw : ∀ x, wipe ((wipe σ vs).set j (some x)) vs = wipe σ vs)
    (he : ∀ (i : Nat) (x : V) H1, Ex H H1 → xs[i]? = some x → EvL te ((wipe σ vs).set j (some x)) H1 (v i)) : EvP (tLc (iList K tl) (gName j) tYes te vs) σ H (LL v xs.length) := fun H0 e Q q => h H0 e _ fun H1 e1 => ⟨a, rfl, ⟨xs, ex_l (e.trans e1) hx⟩, fun Dl hD => by
  refine lc_list (xs := xs) (fun i H' => Ex H1 H' ∧ ∃ rs, H' Dl = some (.lst rs) ∧ rs.length = i ∧ ∀ m r, rs[m]? = some r → ∃ b, r = .ref b ∧ b ≠ Dl ∧ H' b = some (.lst (v m))) ⟨Ex.new hD, [], upd_same, rfl, fun m r z => by rw [List.getElem?_nil] at z; cases z⟩ (fun i H' _ p => ex_l ((e.trans e1).trans p.1) hx) (fun i x H' hi p => ⟨hw x, ?_⟩) fun H' p => ?_
  · obtain ⟨p1, rs, p2, p3, p4⟩ := p
    show te _ H' _
    have hil : i < xs.length := (List.getElem?_eq_some_iff.mp hi).1
    refine he i x H' ((e.trans e1).trans p1) hi H' (Ex.refl H') _ fun b H2 hb e2 h2 => ⟨rs, e2 _ _ p2, sz_lt (by omega), Ex.mut (p1.trans e2) hD, rs ++ [.ref b], upd_same, ?_, fun m r z => ?_⟩
    · rw [List.length_append, p3]
      rfl
    · have nb : b ≠ Dl := fun y => by
        rw [y, p2] at hb
        cases hb
      by_cases hm : m < rs.length
      · rw [List.getElem?_append_left hm] at z
        obtain ⟨b', z1, z2, z3⟩ := p4 m r z
        exact ⟨b', z1, z2, by rw [upd_ne z2]; exact e2 _ _ z3⟩
      · rw [List.getElem?_append_right (by omega)] at z
        have e0 : m - rs.length = 0 := by
          by_cases y : m - rs.length = 0
          · exact y
          · rw [List.getElem?_eq_none (by show 1 ≤ _; omega)] at z
            cases z
        rw [e0] at z
        cases z
        have em : m = i := by omega
        subst em
        exact ⟨b, rfl, nb, by rw [upd_ne nb]; exact h2⟩
  · obtain ⟨p1, rs, p2, p3, p4⟩ := p
    exact q _ _ (e1.trans p1) ⟨Dl, rs, rfl, p2, p3, p4⟩⟩
end Lay

/-! the end of a law whose defs know that no repr is under way -/
namespace Lay
open PySem PySem.Spec PyProof.Rows L2 Evl

/-- the abstract heap in which the script alone is told, as an object that stays -/
def tell (a : Addr) (o : Obj) (xs : List V) (on : Bool) : Hp := fun b => if on = true ∧ b = a then some (.frz o (.lst xs)) else none
theorem tell_none {a b : Addr} {o : Obj} {xs : List V} {on : Bool} (h : b ≠ a) : tell a o xs on b = none := if_neg fun z => h z.2
theorem tell_off {a b : Addr} {o : Obj} {xs : List V} : tell a o xs false b = none := if_neg fun z => by cases z.1
theorem tell_on {a : Addr} {o : Obj} {xs : List V} : tell a o xs true a = some (.frz o (.lst xs)) := if_pos ⟨rfl, rfl⟩
theorem tell_some {a b : Addr} {o : Obj} {xs : List V} {on : Bool} {u : HO} (h : tell a o xs on b = some u) : on = true ∧ b = a ∧ u = .frz o (.lst xs) := by
  unfold tell at h
  split at h
  · rename_i z
    cases h
    exact ⟨z.1, z.2, rfl⟩
  · cases h
theorem law_callG {P : Program} {w : World} {K : PySem.W.Frag} {mg mb : Str → Option Value} {k : Nat} {fa a : Addr} {ps : List Str} {sp : Sp} {s : Shared} {vs : List Value} {ns : List Int}
    (KX : K.In s.heap) (hg : s.heap.Ns mainGlobals mg) (hb : s.heap.Ns builtinsNs mb) (hbb : ∀ x : Str, x ≠ "__name__" → mb x = bootBuiltins x) (hlim : s.heap.NoLimit) (hgens : s.gens = #[])
    (ha : s.heap.get? a = some { cls := .type "list", data := .seq vs.toArray }) (hi : IntsAre vs ns) (hl : ns.length ≤ sizeLine) (hr : Room k callerA)
    (F : ∀ base : Heap, K.In base → base.Ns mainGlobals mg → ∃ fd, FnG P w K mg base CX0 k fa fd ps sp ∧ BindsTo s fd ⟨[.ref a], []⟩ (ps.zip [.ref a]))
    (hsp : ∀ H : Hp, SqL K H a (ns.map V.int) → sp [.ref a] H (fun v _ => v = .bl true) E0) :
    codeAny (model P w) callerA (.call (.ref fa) ⟨[.ref a], []⟩) (fun r s' => r = .ok (.ret (.bool true)) ∧ OldK s.heap s'.heap ∧ s'.os = s.os ∧ AllBare s'.gens) s := by
  have rv := vals_ints hi
  have lenV := hi.length
  let on := (K.lookup a).isNone
  let oa : Obj := { cls := .type "list", data := .seq vs.toArray }
  let H : Hp := tell a oa (ns.map V.int) on
  -- what is not told stands in the base
  have old : ∀ {b o}, s.heap.get? b = some o → H b = none → (hidT s.heap H).get? b = some o := fun e n => hidT_get e n
  have offK : ∀ {b o}, K.lookup b = some o → H b = none := fun {b o} e => by
    cases q : H b with
    | none => rfl
    | some u =>
      obtain ⟨q1, rfl, _⟩ := tell_some q
      have q2 : (K.lookup b).isNone = true := q1
      rw [e] at q2
      cases q2
  have offD : ∀ {b o es ep}, s.heap.get? b = some o → o.data = .dict es ep → H b = none := fun {b o es ep} e d => by
    cases q : H b with
    | none => rfl
    | some u =>
      obtain ⟨_, rfl, _⟩ := tell_some q
      rw [ha] at e
      cases e
      cases (show Data.seq vs.toArray _ = Data.dict es ep from d)
  have ns_base : ∀ {b : Addr} {m : Str → Option Value}, s.heap.Ns b m → (hidT s.heap H).Ns b m := fun {b m} ⟨o, es, ep, e, d, r⟩ => ⟨o, es, ep, old e (offD e d), d, r⟩
  have kb : K.In (hidT s.heap H) := fun b o e => old (KX b o e) (offK e)
  have hM : Mod K mg (hidT s.heap H) := ⟨kb, ns_base hg, ⟨mb, ns_base hb, hbb⟩, let ⟨mc, h1, h2⟩ := hlim; ⟨mc, ns_base h1, h2⟩⟩
  have hok : HOk P w H s.heap := fun b u q => by
    obtain ⟨_, rfl, rfl⟩ := tell_some q
    exact ⟨ha, by rw [List.length_map]; exact hl, vs, _, rv, ha⟩
  have e0 : Env0 P w K mg (hidT s.heap H) callerA [] s H := ⟨rfl, hM, fun b o e => of_hidT e, Nat.le_of_eq (hidT_size _ _), trivial, fun b hb => absurd (show b ∈ ([] : List Addr) from hb) (by simp), hok, .of_eq hgens⟩
  have hS : SqL K H a (ns.map V.int) := by
    cases q : K.lookup a with
    | none =>
      have z : H a = some (.frz oa (.lst (ns.map V.int))) := by
        show tell a oa (ns.map V.int) (K.lookup a).isNone a = _
        rw [q]
        exact tell_on
      exact .inl (.inr ⟨oa, z⟩)
    | some o =>
      have e := KX a o q
      rw [ha] at e
      cases e
      exact .inr ⟨_, vs.toArray, _, q, rfl, rfl, rfl, by rw [List.size_toArray, lenV]; exact hl, by simpa using rv⟩
  obtain ⟨fd, F0, hbind⟩ := F _ kb (ns_base hg)
  refine codeAny_mono (F0.run callerA [] s H ⟨[.ref a], []⟩ [.ref a] [.ref a] _ _ hr rfl e0 hbind (.cons rfl .nil) (hsp H hS)) fun r s' h => ?_
  cases r with
  | error e => exact False.elim h
  | ok fl =>
    cases fl with
    | next => exact False.elim h
    | brk => exact False.elim h
    | cont => exact False.elim h
    | ret u =>
      obtain ⟨v, H', os, bare, un, hok', r', q⟩ := h
      obtain rfl : v = .bl true := q
      obtain rfl : u = Value.bool true := r'
      refine ⟨rfl, OldK.of_keep fun b o e => ?_, os, bare⟩
      cases q : H b with
      | none => exact un.keep b o e q (by intro z; exact absurd (show b ∈ ([] : List Addr) from z) (by simp)) (by simp)
      | some u =>
        obtain ⟨_, rfl, rfl⟩ := tell_some q
        have e1 := (hok b _ q).1
        have e2 := (hok' b _ (un.frzs b oa _ q)).1
        rw [e] at e1
        cases e1
        exact e2
/-- the goal that k_head leaves -/
theorem walk_ofG {l : PySem.W.OpenLaw} {n k : Nat} {q : Program} {loose : List Str} {XP : (Str → Option Value) → Heap → Prop} {YP : World → Heap → Prop} {d : DefRec} {K : Params → PySem.W.Frag} {ps : List Str} {sp : PySem.W.Frag → Sp}
    (hn : l.most = some n) (hn2 : n ≤ sizeLine) (hdf : d.params.defaults = []) (hr : Room k callerA) (hY : ∀ (w : World) (h : Heap), YP w h → (K w.params).In h) (h1 : ps.length = 1)
    (F : ∀ (w : World) (mg : Str → Option Value) (h : Heap), (K w.params).In h → h.Ns mainGlobals mg → ∀ base : Heap, DefOk l.prog w (K w.params) mg base d.name k ps (sp (K w.params)))
    (hsp : ∀ (K : PySem.W.Frag) (H : Hp) (a : Addr) (ns : List Int), ns.length ≤ n → SqL K H a (ns.map V.int) → sp K [.ref a] H (fun v _ => v = .bl true) E0) :
    PySem.W.WalkO q loose XP YP l.row.toRowW d [] (fun f vs => PySem.call f vs) := by
  refine Att.attach_call hn hdf fun w s₀ s₁ mg mb fa o pm cd doc a vs ns G Y ho hd hcd hmg hobj hints hlen hg => ?_
  have KX := hY w _ Y
  refine law_callG (K := K w.params) (ps := ps) (sp := sp (K w.params)) (k := k) KX G.T.g G.T.b G.T.builtins G.T.nolimit hg hobj hints (Nat.le_trans hlen hn2) hr (fun base kb gb => ?_) fun H hS => hsp _ H a ns hlen hS
  obtain ⟨f0, fd0, F0, m0, kp0, b0⟩ := (F w mg _ KX G.T.g base).ex
  have e0 : f0 = fa := by
    rw [hmg] at m0
    cases m0
    rfl
  subst e0
  have bz := b0 s₁ [.ref a] KX (by rw [h1]; rfl)
  rw [List.append_nil] at bz
  exact ⟨fd0, F0, bz⟩
end Lay

namespace K01
open PySem PySem.Spec PyProof.Rows L2 Evl Lay
def top (i : Nat) : Stmt := PySem.Challenge.pw_shovefloors_k01_limits_and_errors.main.body.getD i (.Pass ⟨0, 0, 0, 0⟩)
abbrev s_dip : Stmt := top 32
abbrev N_dip : List Str := ["_law_jar_here", "_law_top", "_law_digit"]
abbrev P_dip : List Str := ["_law_jar_here", "_law_top"]
theorem sc_dip : FnScope N_dip P_dip (defScope s_dip) := ⟨rfl, rfl, rfl, by decide +kernel, rfl, by decide +kernel, by decide +kernel⟩
structure Txt (mg : Str → Option Value) : Prop where
  z_divmod : mg "divmod" = none
  z_int : mg "int" = none
  z_len : mg "len" = none
  z_abs : mg "abs" = none
def spDipL : Sp := fun vs H Q _ => ∃ (j : Addr) (a b c top : Int), vs = [.ref j, .int top] ∧ H j = some (.lst [.int a, .int b, .int c]) ∧ 0 ≤ a ∧ 0 < top ∧ top < 1073741824 ∧
  ∀ (r a' b' c' : Int) H', 0 ≤ r → r < top → 0 ≤ a' → Ex (upd H j (.lst [.int a', .int b', .int c'])) H' → Q (.int r) H'
section
variable {P : Program} {w : World} {K : PySem.W.Frag} {mg : Str → Option Value} {base : Heap}
theorem d_dip0 (D : DefIn K mg "_law_dip" s_dip P_dip) (T : Txt mg) : DefOk P w K mg base "_law_dip" 1 P_dip spDipL := by
  refine defok D sc_dip (fun vs H Q E h => ?_) (fun f cdv A outer s H vs Q E hr hg h => ?_)
  · obtain ⟨j, a, b, c, top, rfl, _⟩ := h
    rfl
  obtain ⟨j, a, b, c, top, rfl, hj, ha, ht, ht2, k⟩ := h
  have SC := sc_dip
  refine ⟨_, (pss_cons (ps_asg (pe_op op_add (pe_ix ix_list (pv 0) pe_int (fun _ _ => rfl)) pe_int) (pg_sub (pv 0) pe_int set_list)) (pss_cons (ps_if (pt_cmpR op_gt (pe_ix ix_list (pv 0) pe_int (fun _ _ => rfl)) pe_int (nomark _)) (pss_cons (ps_asg (pe_callB call_divmod (by rfl) T.z_divmod (by decide +kernel) (pa_cons (pe_ix ix_list (pv 0) pe_int (fun _ _ => rfl)) (pa_cons (pv 1) pa_nil))) (pg_tup (by rfl) (pgs_cons (pg_sub (pv 0) pe_int set_list) (pgs_cons (pg_name (i := 2) SC.nd rfl (Or.inl rfl)) pgs_nil)))) (pss_one (ps_ret (pv 2)))) pss_nil) (pss_cons (ps_asg (pe_op op_modN (pe_callTy call_int1 (by rfl) T.z_int (by decide +kernel) (pa_cons (pe_op op_add (pe_op op_mul (pe_ix ix_list (pv 0) pe_int (fun _ _ => rfl)) pe_int) (pe_op op_mul pe_int (pe_ix ix_list (pv 0) pe_int (fun _ _ => rfl)))) pa_nil)) pe_int) (pg_sub (pv 0) pe_int set_list)) (pss_one (ps_ret (pe_op op_modN (pe_callTy call_int1 (by rfl) T.z_int (by decide +kernel) (pa_cons (pe_op op_fdivN (pe_ix ix_list (pv 0) pe_int (fun _ _ => rfl)) pe_int) pa_nil)) (pv 1))))))), ?_⟩
  refine q_setL hj (ev_op (ev_op (ev_var rfl) ev_c (rv_ixL (K := K) (sq_of hj) rfl)) ev_c rv_I0) (ev_var rfl) ev_c (j := 2) (by show 2 < 3; decide) fun H1 e1 => ?_
  have j1 : (upd H1 j (.lst ([V.int a, V.int b, V.int c].set 2 (V.int (c + 1))))) j = some (.lst [V.int a, V.int b, V.int (c + 1)]) := upd_same
  refine q_when (et_test (ev_op (ev_op (ev_var rfl) ev_c (rv_ixL (K := K) (sq_of j1) rfl)) ev_c rv_I0)) (fun hb H2 e2 => ?_) (fun hb H2 e2 => ?_)
  · have hpos : 0 < a := of_decide_eq_true hb
    have j2 := e2 j _ j1
    refine q_asgGU (eu_divmod (i := a) (j := top) (ea_cons (ev_op (ev_var rfl) ev_c (rv_ixL (K := K) (sq_of j2) rfl)) (ea_cons (ev_var rfl) ea_nil)) ⟨ht, ht2⟩) fun p H3 hp e3 h3 => ?_
    have j3 := e3 j _ j2
    refine g_tup (st_of h3) rfl (g_cons (g_setL j3 (ev_var rfl) ev_c (j := 0) (by show 0 < 3; decide) fun H4 e4 => g_cons (g_name (g_nil ?_))))
    refine s_ret (ev_var rfl) fun H5 e5 => ?_
    refine k (a % top) (a / top) b (c + 1) H5 (Int.emod_nonneg _ (by omega)) (Int.emod_lt_of_pos _ ht) (Int.ediv_nonneg ha (by omega)) ?_
    exact ExM.fin (j := j) ((((((Ex.m e1).upd.trans (Ex.m e2)).trans (Ex.m e3)).trans (Ex.m e4)).upd).trans (Ex.m e5)) (e5 _ _ upd_same)
  · have j2 := e2 j _ j1
    refine q_setL (v := .int ((b * 48271 + 70039 * (c + 1)).fmod 2147483399)) (j := 1) j2 (ev_op (ev_int1 (ev_op (ev_op (ev_op (ev_var rfl) ev_c (rv_ixL (K := K) (sq_of j2) rfl)) ev_c (rv_I (.inr (by omega)))) (ev_op ev_c (ev_op (ev_var rfl) ev_c (rv_ixL (K := K) (sq_of j2) rfl)) (rv_I (.inl (by omega)))) rv_I0)) ev_c (rv_I (by decide))) (ev_var rfl) ev_c (by show 1 < 3; decide) fun H3 e3 => ?_
    have j3 : (upd H3 j (.lst ([V.int a, V.int b, V.int (c + 1)].set 1 (V.int ((b * 48271 + 70039 * (c + 1)).fmod 2147483399))))) j = some (.lst [V.int a, V.int ((b * 48271 + 70039 * (c + 1)).fmod 2147483399), V.int (c + 1)]) := upd_same
    refine s_ret (ev_op (ev_int1 (ev_op (ev_op (ev_var rfl) ev_c (rv_ixL (K := K) (sq_of j3) rfl)) ev_c (rv_I ⟨by decide, by decide⟩))) (ev_var rfl) (rv_I (by omega))) fun H4 e4 => ?_
    refine k _ a ((b * 48271 + 70039 * (c + 1)).fmod 2147483399) (c + 1) H4 (Int.fmod_nonneg_of_pos _ ht) (Int.fmod_lt_of_pos _ ht) ha ?_
    exact ExM.fin (j := j) ((((Ex.m e1).upd.trans (Ex.m e2)).trans (Ex.m e3)).upd.trans (Ex.m e4)) (e4 _ _ upd_same)
def spDip : Sp := fun vs H Q _ => ∃ (j : Addr) (top : Int), vs = [.ref j, .int top] ∧ H j = some (jarO j) ∧ 0 < top ∧ top < 1073741824 ∧ ∀ (r : Int) H', 0 ≤ r → r < top → Ex H H' → Q (.int r) H'
theorem d_dip (D : DefIn K mg "_law_dip" s_dip P_dip) (T : Txt mg) : DefOk P w K mg base "_law_dip" 1 P_dip spDip := by
  refine (d_dip0 D T).gst (fun vs H Q E h => ?_) (fun vs H Q E hp h hok => ?_)
  · obtain ⟨j, top, rfl, _⟩ := h
    rfl
  · obtain ⟨j, top, rfl, hj, h1, h2, k⟩ := h
    obtain ⟨a, b, c, ha, g⟩ := jar_open hj hok
    refine ⟨_, g, j, a, b, c, top, rfl, upd_same, ha, h1, h2, fun r a' b' c' H' r1 r2 ha' e => ?_⟩
    rw [upd_upd] at e
    have hj' := e j _ upd_same
    exact ⟨_, fun hp' => jar_close hj' ha', k r _ r1 r2 (ex_close hj e)⟩
theorem evp_dip {j : Addr} {top : Int} {σ : L2.St} {H : Hp} {ts : TA} (hj : H j = some (jarO j)) (h : EvA ts σ H [.ref j, .int top]) (h1 : 0 < top) (h2 : top < 1073741824) : EvP (tCallD spDip ts) σ H (fun v _ => ∃ r : Int, 0 ≤ r ∧ r < top ∧ v = .int r) :=
  evp_callD (EvA.p h) fun vs H1 e s Q q => by
    subst s
    exact ⟨j, top, rfl, e _ _ hj, h1, h2, fun r H' r1 r2 e' => q _ H' e' ⟨r, r1, r2, rfl⟩⟩
/-! one of some things -/
abbrev s_one_of : Stmt := top 33
abbrev N_one_of : List Str := ["_law_jar_here", "_law_some"]
abbrev P_one_of : List Str := ["_law_jar_here", "_law_some"]
theorem sc_one_of : FnScope N_one_of P_one_of (defScope s_one_of) := ⟨rfl, rfl, rfl, by decide +kernel, rfl, by decide +kernel, by decide +kernel⟩
def spOne (K : PySem.W.Frag) : Sp := fun vs H Q _ => ∃ (j a : Addr) (xs : List V), vs = [.ref j, .ref a] ∧ H j = some (jarO j) ∧ SqL K H a xs ∧ 0 < xs.length ∧ xs.length < 1000000 ∧ ∀ (r : Nat) v H', xs[r]? = some v → Ex H H' → Q v H'
theorem d_one_of (D : DefIn K mg "_law_one_of" s_one_of P_one_of) (T : Txt mg) (D_dip : DefOk P w K mg base "_law_dip" 1 P_dip spDip) : DefOk P w K mg base "_law_one_of" 2 P_one_of (spOne K) := by
  refine defok D sc_one_of (fun vs H Q E h => ?_) (fun f cdv A outer s H vs Q E hr hg h => ?_)
  · obtain ⟨j, a, xs, rfl, _⟩ := h
    rfl
  obtain ⟨j, a, xs, rfl, hj, hs, l1, l2, k⟩ := h
  have SC := sc_one_of
  refine ⟨_, (pss_one (ps_ret (pe_ix ix_list (pv 1) (pe_callD D_dip (hr.mono (by decide)) hg (pa_cons (pv 0) (pa_cons (pe_callB call_len (by rfl) T.z_len (by decide +kernel) (pa_cons (pv 1) pa_nil)) pa_nil))) (fun _ _ => rfl)))), ?_⟩
  refine s_retP (P := fun v _ => ∃ r : Nat, xs[r]? = some v) (evp_op (Ev.p (ev_var rfl)) stb_eq (evp_dip (top := (xs.length : Nat)) hj (ea_cons (ev_var rfl) (ea_cons (ev_cb (ea_cons (ev_var rfl) ea_nil) (rc_lenL hs)) ea_nil)) (by omega) (by omega)) fun x y H1 e p q Q q' => ?_) fun v H1 e p => ?_
  · obtain ⟨r, r1, r2, rfl⟩ := q
    subst p
    obtain ⟨n, rfl⟩ := Int.eq_ofNat_of_zero_le r1
    have hn : n < xs.length := by omega
    obtain ⟨v, hv⟩ : ∃ v, xs[n]? = some v := ⟨xs[n], List.getElem?_eq_getElem hn⟩
    exact ⟨a, xs, _, v, rfl, rfl, ex_l e hs, atI_nat hv, q' v H1 (Ex.refl _) ⟨n, hv⟩⟩
  · obtain ⟨r, hr⟩ := p
    exact k r v H1 hr e
/-! a jar -/
abbrev s_jar : Stmt := top 34
abbrev N_jar : List Str := ["_law_cells", "_law_turn", "_law_cell", "_law_mixed", "_law_each"]
abbrev P_jar : List Str := ["_law_cells", "_law_turn"]
theorem sc_jar : FnScope N_jar P_jar (defScope s_jar) := ⟨rfl, rfl, rfl, by decide +kernel, rfl, by decide +kernel, by decide +kernel⟩
def spJarL (K : PySem.W.Frag) : Sp := fun vs H Q _ => ∃ (a : Addr) (ns : List Int) (n : Nat), vs = [.ref a, .int (n : Int)] ∧ SqL K H a (ns.map V.int) ∧ ns.length ≤ 63 ∧ n ≤ 100 ∧
  ∀ (p : Addr) (x y : Int) H', H p = none → 0 ≤ x → Ex H H' → H' p = some (.lst [.int x, .int y, .int 0]) → Q (.ref p) H'
theorem d_jar0 (D : DefIn K mg "_law_jar" s_jar P_jar) (T : Txt mg) : DefOk P w K mg base "_law_jar" 1 P_jar (spJarL K) := by
  refine defok D sc_jar (fun vs H Q E h => ?_) (fun f cdv A outer s H vs Q E hr hg h => ?_)
  · obtain ⟨a, ns, n, rfl, _⟩ := h
    rfl
  obtain ⟨a, ns, n, rfl, hs, l1, l2, k⟩ := h
  have SC := sc_jar
  refine ⟨_, (pss_cons (ps_set (i := 2) SC.nd rfl (Or.inl rfl) (pe_ifExp (pt_cmpR op_lt (pv 1) (pe_callB call_len (by rfl) T.z_len (by decide +kernel) (pa_cons (pv 0) pa_nil)) (nomark _)) (pe_ix ix_list (pv 0) (pv 1) (fun _ _ => rfl)) (pe_op op_add (pe_op op_mul pe_int (pv 1)) pe_int))) (pss_cons (ps_set (i := 3) SC.nd rfl (Or.inl rfl) (pe_op op_add pe_int (pe_op op_mul pe_int (pv 1)))) (pss_cons (ps_for PassesOwn.never rfl (pi_list (pe_op op_cat (pe_slice sl_list (pv 0) po_none (po_some pe_int)) (pe_lst (pa_cons (pv 2) pa_nil)))) (pg_name (i := 4) SC.nd rfl (Or.inl rfl)) (pss_one (ps_set (i := 3) SC.nd rfl (Or.inl rfl) (pe_op op_modN (pe_callTy call_int1 (by rfl) T.z_int (by decide +kernel) (pa_cons (pe_op op_add (pe_op op_mul (pv 3) pe_int) (pv 4)) pa_nil)) pe_int)))) (pss_one (ps_ret (pe_lst (pa_cons (pe_ifExp (PW.pt (pw_or (pt_cmpR op_lt (pv 2) pe_int (nomark _)) (pw_or1 (pt_cmpR op_ge (pv 2) (pe_op op_pow pe_int pe_int) (nomark _))))) (pe_callB call_abs (by rfl) T.z_abs (by decide +kernel) (pa_cons (pv 2) pa_nil)) pe_int) (pa_cons (pv 3) (pa_cons pe_int pa_nil))))))))), ?_⟩
  refine q_asgP (P := fun v _ => ∃ c : Int, v = .int c) (evp_if (et_test (ev_op (ev_var rfl) (ev_cb (ea_cons (ev_var rfl) ea_nil) (rc_lenL hs)) rv_I0)) (fun hb => ?_) fun hb => ?_) fun v H1 e1 p => ?_
  · have hn : n < (ns.map V.int).length := by
      have := of_decide_eq_true hb
      omega
    have hv : (ns.map V.int)[n]? = some (.int (ns[n]'(by simpa using hn))) := by
      rw [List.getElem?_map, List.getElem?_eq_getElem (by simpa using hn)]
      rfl
    exact Ev.pp (ev_op (ev_var rfl) (ev_var rfl) (rv_ixL hs (atI_nat hv))) fun _ _ => ⟨_, rfl⟩
  · exact Ev.pp (ev_op (ev_op ev_c (ev_var rfl) (rv_I (.inl (by omega)))) ev_c rv_I0) fun _ _ => ⟨_, rfl⟩
  obtain ⟨c, rfl⟩ := p
  refine q_asg (ev_op ev_c (ev_op ev_c (ev_var rfl) (rv_I (.inl (by omega)))) rv_I0) fun H2 e2 => ?_
  have hs2 := ex_l (e1.trans e2) hs
  have all : ∀ v ∈ cutV (ns.map V.int) none (some 5) ++ [V.int c], ∃ i : Int, v = .int i := fun v hv => by
    rcases List.mem_append.mp hv with q | q
    · obtain ⟨i, _, rfl⟩ := List.mem_map.mp (cutV_mem q)
      exact ⟨i, rfl⟩
    · exact ⟨c, by simpa using q⟩
  have len : (cutV (ns.map V.int) none (some 5) ++ [V.int c]).length ≤ 64 := by
    have := cutV_length (ns.map V.int) none (some 5)
    rw [List.length_append, List.length_singleton]
    rw [List.length_map] at this
    omega
  refine q_forNLn (xs := cutV (ns.map V.int) none (some 5) ++ [V.int c]) (el_cat (el_sl (ev_var rfl) eo_none (eo_some ev_c) hs2) (el_lst (ea_cons (ev_var rfl) ea_nil) (by show 1 ≤ 100000; decide)) ?_)
    (fun p i σ' H' => Ex H H' ∧ H p = none ∧ H' p = some (.lst (cutV (ns.map V.int) none (some 5) ++ [V.int c])) ∧ ∃ (m : Int) (z : Option V), σ' = [some (.ref a), some (.int (n : Int)), some (.int c), some (.int m), z]) (fun p H3 hp e3 h3 => ?_) (fun p i σ' H' _ q => sq_of q.2.2.1) (fun p i x σ' H' hx q => ?_) fun p σ' H' q => ?_
  · have := cutV_length (ns.map V.int) none (some 5)
    rw [List.length_map] at this
    show (cutV (ns.map V.int) none (some 5)).length + 1 ≤ 100000
    omega
  · exact ⟨(e1.trans e2).trans e3, fresh_back (e1.trans e2) hp, h3, _, none, rfl⟩
  · obtain ⟨e3, hp, h3, m, z, rfl⟩ := q
    obtain ⟨y, rfl⟩ := all x (List.mem_of_getElem? hx)
    refine s_asg (ev_op (ev_int1 (ev_op (ev_op (ev_var rfl) ev_c (rv_I (.inr (by omega)))) (ev_var rfl) rv_I0)) ev_c (rv_I (by decide))) fun H4 e4 => ?_
    exact ⟨e3.trans e4, hp, e4 _ _ h3, _, _, rfl⟩
  · obtain ⟨e3, hp, h3, m, z, rfl⟩ := q
    have cond : EvT (tOr (tTest (tOp (rI0 fun i j => V.bl (decide (i < j))) (tVar 2) (tC (V.int 0)))) (tTest (tOp (rI0 fun i j => V.bl (decide (j ≤ i))) (tVar 2) (tOp (rI CPow fun i j => V.int (i ^ j.toNat)) (tC (V.int 10)) (tC (V.int 18))))))
        [some (.ref a), some (.int (n : Int)), some (.int c), some (.int m), z] H' (decide (c < 0) || decide ((10 : Int) ^ (18 : Int).toNat ≤ c)) :=
      et_or (et_test (ev_op (ev_var rfl) ev_c rv_I0)) fun _ => et_test (ev_op (ev_var rfl) (ev_op ev_c ev_c (rv_I ⟨by decide, by decide, by decide⟩)) rv_I0)
    refine s_retL (xs := [.int (if (decide (c < 0) || decide ((10 : Int) ^ (18 : Int).toNat ≤ c)) = true then (if c < 0 then -c else c) else 0), .int m, .int 0]) (el_lst (ea_cons (ev_if cond (fun hb => ?_) fun hb => ?_) (ea_cons (ev_var rfl) (ea_cons ev_c ea_nil))) (by show 3 ≤ 100000; decide)) fun p' H4 hp' e4 h4 => ?_
    · rw [if_pos hb]
      exact ev_cb (ea_cons (ev_var rfl) ea_nil) rc_abs
    · rw [if_neg (by rw [hb]; decide)]
      exact ev_c
    · refine k p' _ m H4 (fresh_back e3 hp') ?_ (e3.trans e4) h4
      split
      · split <;> omega
      · exact Int.le_refl _
def spJar (K : PySem.W.Frag) : Sp := fun vs H Q _ => ∃ (a : Addr) (ns : List Int) (n : Nat), vs = [.ref a, .int (n : Int)] ∧ SqL K H a (ns.map V.int) ∧ ns.length ≤ 63 ∧ n ≤ 100 ∧
  ∀ (p : Addr) H', H p = none → Ex H H' → H' p = some (jarO p) → Q (.ref p) H'
theorem d_jar (D : DefIn K mg "_law_jar" s_jar P_jar) (T : Txt mg) : DefOk P w K mg base "_law_jar" 1 P_jar (spJar K) := by
  refine (d_jar0 D T).gst (fun vs H Q E h => ?_) (fun vs H Q E hp h hok => ?_)
  · obtain ⟨a, ns, n, rfl, _⟩ := h
    rfl
  · obtain ⟨a, ns, n, rfl, hs, l1, l2, k⟩ := h
    refine ⟨H, Gst.refl H, a, ns, n, rfl, hs, l1, l2, fun p x y H' hp hx e h => ?_⟩
    refine ⟨_, fun hp' => jar_close h hx, k p _ hp (fun b o q => ?_) upd_same⟩
    rw [upd_ne (ne_of_none q hp)]
    exact e b o q
end
end K01

namespace K01
open PySem PySem.Spec PyProof.Rows L2 Evl Lay ErrX
def errN : Nat → Str
  | 0 => "InvalidText" | 1 => "InvalidName" | 2 => "InvalidNumber" | 3 => "InvalidWish" | 4 => "InvalidIndex" | 5 => "InvalidLine" | 6 => "InvalidCell" | 7 => "InvalidLattice" | 8 => "InvalidCut" | 9 => "NotAShape"
  | 10 => "InvalidCells" | 11 => "InvalidShoves" | 12 => "InvalidShapes" | 13 => "InvalidDeeds" | 14 => "UnknownName" | 15 => "TooGreat" | 16 => "Broken" | 17 => "InUse" | 18 => "NotWhole" | 19 => "NotFilled" | 20 => "NothingToUndo"
  | 21 => "WrongValue" | 22 => "WrongName" | _ => "NoAnswer"
def fldN (i : Nat) : Str := if (10 ≤ i ∧ i ≤ 13) ∨ i = 16 ∨ i = 17 then "index" else "given"
/-- its base: 0, 1, 2 -/
def baseN (i : Nat) : Nat := if i ≤ 13 then 0 else if i = 14 then 1 else if i ≤ 20 then 2 else i - 21
/-- whether an error of the class i is of the class j (24 and more: the built-in ones) -/
def tab (i j : Nat) : Bool := if j < 21 then i == j else if j < 24 then baseN i == j - 21 else baseN i == j - 24
def cv (C : Nat → Addr) (j : Nat) : Value := if j < 24 then .ref (C j) else if j = 24 then .type "ValueError" else if j = 25 then .type "LookupError" else .type "ArithmeticError"
structure Errs (prog : Program) (K : PySem.W.Frag) (mg : Str → Option Value) (C f : Nat → Addr) : Prop where
  t : ∀ i, i < 24 → ErrT K mg (errN i) (C i) (f i)
  a : ∀ i, i < 24 → ErrA K (C i)
  kit : ∀ i j, i < 24 → j < 27 → PySem.W.kitOne K (.ref (C i)) (cv C j) = some (tab i j)
  ok : ∀ i, i < 18 → InitOk prog K mg (C i) (f i) (fldN i)
  ok0 : ∀ i, 18 ≤ i → i < 24 → InitOk0 prog K mg (C i) (f i)
  hd : ∀ i, i < 24 → PySem.W.hasDictIn K (C i) = true
  noF : ∀ i, i < 18 → PySem.W.findIn K (.ref (C i)) (fldN i) = some none
structure Txt2 (mg : Str → Option Value) : Prop extends Txt mg where
  z_isinstance : mg "isinstance" = none
  z_range : mg "range" = none
  z_ValueError : mg "ValueError" = none
  z_LookupError : mg "LookupError" = none
  z_ArithmeticError : mg "ArithmeticError" = none
def sortsL (i : Nat) : List V := given 21 (fun k => tab i k) (fun k => .int (k : Int)) ++ given 6 (fun k => tab i (21 + k)) (fun k => .int (50 + (k : Int)))
/-- the answers for the classes a to a + n -/
def tl (i a n : Nat) : List V := (List.range n).map fun j => .bl (tab i (a + j))
theorem tl_len {i a n : Nat} : (tl i a n).length = n := by
  unfold tl
  rw [List.length_map, List.length_range]
theorem tl_three {i a n : Nat} : tl i a n ++ [.bl (tab i (a + n)), .bl (tab i (a + (n + 1))), .bl (tab i (a + (n + 2)))] = tl i a (n + 3) := by
  unfold tl
  rw [List.range_succ, List.range_succ, List.range_succ]
  simp only [List.map_append, List.map_cons, List.map_nil, List.append_assoc, List.cons_append, List.nil_append]
theorem tl_three0 {i n : Nat} : tl i 0 n ++ [.bl (tab i n), .bl (tab i (n + 1)), .bl (tab i (n + 2))] = tl i 0 (n + 3) := by
  have h := tl_three (i := i) (a := 0) (n := n)
  rw [Nat.zero_add, Nat.zero_add, Nat.zero_add] at h
  exact h
theorem tl_get {i a n z : Nat} (h : z < n) : (tl i a n)[z]? = some (.bl (tab i (a + z))) := by
  unfold tl
  rw [List.getElem?_map, List.getElem?_range h]
  rfl
section
variable {P : Program} {w : World} {K : PySem.W.Frag} {mg : Str → Option Value} {base : Heap} {C fI : Nat → Addr}
theorem errat_ex {H H' : Hp} {e c : Addr} (x : Ex H H') (h : ErrAt H e c) : ErrAt H' e c :=
  let ⟨d, h1, h2⟩ := h
  ⟨d, x _ _ h1, fun dx q => let ⟨fs, z⟩ := h2 dx q; ⟨fs, x _ _ z⟩⟩
theorem rc_is {prog : Program} (U : Errs prog K mg C fI) {H : Hp} {e : Addr} {i j : Nat} {c : V} (hi : i < 24) (hj : j < 27) (h : ErrAt H e (C i)) (hc : ClsV c (cv C j)) : RC (rIsErr K) [.ref e, c] H (.bl (tab i j)) := fun H1 x Q q =>
  ⟨e, C i, c, cv C j, tab i j, rfl, errat_ex x h, U.a i hi, hc, U.kit i j hi hj, q H1 (Ex.refl H1)⟩
abbrev s_sorts : Stmt := top 35
abbrev N_sorts : List Str := ["_law_e", "_law_found", "_law_above", "_law_k"]
abbrev P_sorts : List Str := ["_law_e"]
theorem sc_sorts : FnScope N_sorts P_sorts (defScope s_sorts) := ⟨rfl, rfl, rfl, by decide +kernel, rfl, by decide +kernel, by decide +kernel⟩
def spSorts (C : Nat → Addr) : Sp := fun vs H Q _ => ∃ (e : Addr) (i : Nat), vs = [.ref e] ∧ i < 24 ∧ ErrAt H e (C i) ∧ ∀ p H', H p = none → Ex H H' → H' p = some (.lst (sortsL i)) → Q (.ref p) H'
theorem d_sorts (D : DefIn K mg "_law_sorts" s_sorts P_sorts) (T : Txt2 mg) (U : Errs P K mg C fI) : DefOk P w K mg base "_law_sorts" 1 P_sorts (spSorts C) := by
  refine defok D sc_sorts (fun vs H Q E h => ?_) (fun f cdv A outer s H vs Q E hr hg h => ?_)
  · obtain ⟨e, i, rfl, _⟩ := h
    rfl
  obtain ⟨e, i, rfl, hi, he, k⟩ := h
  have SC := sc_sorts
  refine ⟨_, (pss_cons (ps_set (i := 1) SC.nd rfl (Or.inr rfl) (pe_lst (pa_cons (pe_callB call_isErr (by rfl) T.z_isinstance (by decide +kernel) (pa_cons (pv 0) (pa_cons (pe_gref (U.t 0 (by decide)).glob) pa_nil))) (pa_cons (pe_callB call_isErr (by rfl) T.z_isinstance (by decide +kernel) (pa_cons (pv 0) (pa_cons (pe_gref (U.t 1 (by decide)).glob) pa_nil))) (pa_cons (pe_callB call_isErr (by rfl) T.z_isinstance (by decide +kernel) (pa_cons (pv 0) (pa_cons (pe_gref (U.t 2 (by decide)).glob) pa_nil))) pa_nil))))) (pss_cons (ps_set (i := 1) SC.nd rfl (Or.inr rfl) (pe_op op_cat (pv 1) (pe_lst (pa_cons (pe_callB call_isErr (by rfl) T.z_isinstance (by decide +kernel) (pa_cons (pv 0) (pa_cons (pe_gref (U.t 3 (by decide)).glob) pa_nil))) (pa_cons (pe_callB call_isErr (by rfl) T.z_isinstance (by decide +kernel) (pa_cons (pv 0) (pa_cons (pe_gref (U.t 4 (by decide)).glob) pa_nil))) (pa_cons (pe_callB call_isErr (by rfl) T.z_isinstance (by decide +kernel) (pa_cons (pv 0) (pa_cons (pe_gref (U.t 5 (by decide)).glob) pa_nil))) pa_nil)))))) (pss_cons (ps_set (i := 1) SC.nd rfl (Or.inr rfl) (pe_op op_cat (pv 1) (pe_lst (pa_cons (pe_callB call_isErr (by rfl) T.z_isinstance (by decide +kernel) (pa_cons (pv 0) (pa_cons (pe_gref (U.t 6 (by decide)).glob) pa_nil))) (pa_cons (pe_callB call_isErr (by rfl) T.z_isinstance (by decide +kernel) (pa_cons (pv 0) (pa_cons (pe_gref (U.t 7 (by decide)).glob) pa_nil))) (pa_cons (pe_callB call_isErr (by rfl) T.z_isinstance (by decide +kernel) (pa_cons (pv 0) (pa_cons (pe_gref (U.t 8 (by decide)).glob) pa_nil))) pa_nil)))))) (pss_cons (ps_set (i := 1) SC.nd rfl (Or.inr rfl) (pe_op op_cat (pv 1) (pe_lst (pa_cons (pe_callB call_isErr (by rfl) T.z_isinstance (by decide +kernel) (pa_cons (pv 0) (pa_cons (pe_gref (U.t 9 (by decide)).glob) pa_nil))) (pa_cons (pe_callB call_isErr (by rfl) T.z_isinstance (by decide +kernel) (pa_cons (pv 0) (pa_cons (pe_gref (U.t 10 (by decide)).glob) pa_nil))) (pa_cons (pe_callB call_isErr (by rfl) T.z_isinstance (by decide +kernel) (pa_cons (pv 0) (pa_cons (pe_gref (U.t 11 (by decide)).glob) pa_nil))) pa_nil)))))) (pss_cons (ps_set (i := 1) SC.nd rfl (Or.inr rfl) (pe_op op_cat (pv 1) (pe_lst (pa_cons (pe_callB call_isErr (by rfl) T.z_isinstance (by decide +kernel) (pa_cons (pv 0) (pa_cons (pe_gref (U.t 12 (by decide)).glob) pa_nil))) (pa_cons (pe_callB call_isErr (by rfl) T.z_isinstance (by decide +kernel) (pa_cons (pv 0) (pa_cons (pe_gref (U.t 13 (by decide)).glob) pa_nil))) (pa_cons (pe_callB call_isErr (by rfl) T.z_isinstance (by decide +kernel) (pa_cons (pv 0) (pa_cons (pe_gref (U.t 14 (by decide)).glob) pa_nil))) pa_nil)))))) (pss_cons (ps_set (i := 1) SC.nd rfl (Or.inr rfl) (pe_op op_cat (pv 1) (pe_lst (pa_cons (pe_callB call_isErr (by rfl) T.z_isinstance (by decide +kernel) (pa_cons (pv 0) (pa_cons (pe_gref (U.t 15 (by decide)).glob) pa_nil))) (pa_cons (pe_callB call_isErr (by rfl) T.z_isinstance (by decide +kernel) (pa_cons (pv 0) (pa_cons (pe_gref (U.t 16 (by decide)).glob) pa_nil))) (pa_cons (pe_callB call_isErr (by rfl) T.z_isinstance (by decide +kernel) (pa_cons (pv 0) (pa_cons (pe_gref (U.t 17 (by decide)).glob) pa_nil))) pa_nil)))))) (pss_cons (ps_set (i := 1) SC.nd rfl (Or.inr rfl) (pe_op op_cat (pv 1) (pe_lst (pa_cons (pe_callB call_isErr (by rfl) T.z_isinstance (by decide +kernel) (pa_cons (pv 0) (pa_cons (pe_gref (U.t 18 (by decide)).glob) pa_nil))) (pa_cons (pe_callB call_isErr (by rfl) T.z_isinstance (by decide +kernel) (pa_cons (pv 0) (pa_cons (pe_gref (U.t 19 (by decide)).glob) pa_nil))) (pa_cons (pe_callB call_isErr (by rfl) T.z_isinstance (by decide +kernel) (pa_cons (pv 0) (pa_cons (pe_gref (U.t 20 (by decide)).glob) pa_nil))) pa_nil)))))) (pss_cons (ps_set (i := 2) SC.nd rfl (Or.inr rfl) (pe_lst (pa_cons (pe_callB call_isErr (by rfl) T.z_isinstance (by decide +kernel) (pa_cons (pv 0) (pa_cons (pe_gref (U.t 21 (by decide)).glob) pa_nil))) (pa_cons (pe_callB call_isErr (by rfl) T.z_isinstance (by decide +kernel) (pa_cons (pv 0) (pa_cons (pe_gref (U.t 22 (by decide)).glob) pa_nil))) (pa_cons (pe_callB call_isErr (by rfl) T.z_isinstance (by decide +kernel) (pa_cons (pv 0) (pa_cons (pe_gref (U.t 23 (by decide)).glob) pa_nil))) pa_nil))))) (pss_cons (ps_set (i := 2) SC.nd rfl (Or.inr rfl) (pe_op op_cat (pv 2) (pe_lst (pa_cons (pe_callB call_isErr (by rfl) T.z_isinstance (by decide +kernel) (pa_cons (pv 0) (pa_cons (pe_gty T.z_ValueError PyProof.Rows.Boot.«ValueError») pa_nil))) (pa_cons (pe_callB call_isErr (by rfl) T.z_isinstance (by decide +kernel) (pa_cons (pv 0) (pa_cons (pe_gty T.z_LookupError PyProof.Rows.Boot.«LookupError») pa_nil))) (pa_cons (pe_callB call_isErr (by rfl) T.z_isinstance (by decide +kernel) (pa_cons (pv 0) (pa_cons (pe_gty T.z_ArithmeticError PyProof.Rows.Boot.«ArithmeticError») pa_nil))) pa_nil)))))) (pss_one (ps_ret (pe_op op_cat (pe_lc (own := [("_law_k", 3)]) (g := gName 3) (by rfl) SC.nd (pi_range1 (by rfl) T.z_range (pa_cons pe_int pa_nil)) (blkOk_by (own := [("_law_k", 3)]) (N := N_sorts) (sc := defScope s_sorts) (by decide +kernel)) (fun _ _ _ _ _ => (pg_name (i := 3) SC.nd rfl (Or.inl rfl))) (fun _ _ _ _ _ => (pts_one (pt_val (pe_ix (kx_ixL K) (pv 1) (pv 3) (fun _ _ => rfl))))) (fun _ _ _ _ _ => (pv 3))) (pe_lc (own := [("_law_k", 3)]) (g := gName 3) (by rfl) SC.nd (pi_range1 (by rfl) T.z_range (pa_cons pe_int pa_nil)) (blkOk_by (own := [("_law_k", 3)]) (N := N_sorts) (sc := defScope s_sorts) (by decide +kernel)) (fun _ _ _ _ _ => (pg_name (i := 3) SC.nd rfl (Or.inl rfl))) (fun _ _ _ _ _ => (pts_one (pt_val (pe_ix (kx_ixL K) (pv 2) (pv 3) (fun _ _ => rfl))))) (fun _ _ _ _ _ => (pe_op op_add pe_int (pv 3)))))))))))))))), ?_⟩
  have is : ∀ {j : Nat} {σ : L2.St} {H1 : Hp} {c : V}, Ex H H1 → σ[0]? = some (some (.ref e)) → j < 27 → ClsV c (cv C j) → Ev (tCB (rIsErr K) (tCons (tVar 0) (tCons (tC c) tNil))) σ H1 (.bl (tab i j)) := fun x hσ hj hc =>
    ev_cb (ea_cons (ev_var hσ) (ea_cons ev_c ea_nil)) (rc_is U hi hj (errat_ex x he) hc)
  have own : ∀ (j : Nat), j < 24 → ClsV (.ref (C j)) (cv C j) := fun j hj => by
    unfold cv
    rw [if_pos hj]
    exact .own _
  have three : ∀ {σ : L2.St} {H1 : Hp} (j : Nat), Ex H H1 → σ[0]? = some (some (.ref e)) → j + 2 < 24 → EvL (tLst (tCons (tCB (rIsErr K) (tCons (tVar 0) (tCons (tC (.ref (C j))) tNil))) (tCons (tCB (rIsErr K) (tCons (tVar 0) (tCons (tC (.ref (C (j + 1)))) tNil))) (tCons (tCB (rIsErr K) (tCons (tVar 0) (tCons (tC (.ref (C (j + 2)))) tNil))) tNil)))) σ H1 [.bl (tab i j), .bl (tab i (j + 1)), .bl (tab i (j + 2))] := fun j x hσ hj =>
    el_lst (ea_cons (is x hσ (by omega) (own j (by omega))) (ea_cons (is x hσ (by omega) (own (j + 1) (by omega))) (ea_cons (is x hσ (by omega) (own (j + 2) hj)) ea_nil))) (by show 3 ≤ 100000; decide)
  have T3 : ∀ (n : Nat) (σ : L2.St) (H1 : Hp) (p : Addr) (j : Nat), Ex H H1 → σ[0]? = some (some (.ref e)) → σ[j]? = some (some (.ref p)) → H1 p = some (.lst (tl i 0 n)) → n + 2 < 24 →
      EvL (tOp rCat (tVar j) (tLst (tCons (tCB (rIsErr K) (tCons (tVar 0) (tCons (tC (.ref (C n))) tNil))) (tCons (tCB (rIsErr K) (tCons (tVar 0) (tCons (tC (.ref (C (n + 1)))) tNil))) (tCons (tCB (rIsErr K) (tCons (tVar 0) (tCons (tC (.ref (C (n + 2)))) tNil))) tNil))))) σ H1 (tl i 0 (n + 3)) := fun n σ H1 p j x h0 hj hp hn => by
    have := el_catV hp (ev_var hj) (three n x h0 hn) (by rw [tl_len]; show n + 3 ≤ 100000; omega)
    rw [tl_three0] at this
    exact this
  refine q_asgL (three 0 (Ex.refl H) rfl (by decide)) fun p1 H1 n1 x1 h1 => ?_
  refine q_asgL (T3 3 _ _ p1 1 x1 rfl rfl h1 (by decide)) fun p2 H2 n2 e2 h2 => ?_
  have x2 := x1.trans e2
  refine q_asgL (T3 6 _ _ p2 1 x2 rfl rfl h2 (by decide)) fun p3 H3 n3 e3 h3 => ?_
  have x3 := x2.trans e3
  refine q_asgL (T3 9 _ _ p3 1 x3 rfl rfl h3 (by decide)) fun p4 H4 n4 e4 h4 => ?_
  have x4 := x3.trans e4
  refine q_asgL (T3 12 _ _ p4 1 x4 rfl rfl h4 (by decide)) fun p5 H5 n5 e5 h5 => ?_
  have x5 := x4.trans e5
  refine q_asgL (T3 15 _ _ p5 1 x5 rfl rfl h5 (by decide)) fun p6 H6 n6 e6 h6 => ?_
  have x6 := x5.trans e6
  refine q_asgL (T3 18 _ _ p6 1 x6 rfl rfl h6 (by decide)) fun p7 H7 n7 e7 h7 => ?_
  have x7 := x6.trans e7
  refine q_asgL (three 21 x7 rfl (by decide)) fun p8 H8 n8 e8 h8 => ?_
  have x8 := x7.trans e8
  refine q_asgL (xs := tl i 21 6) ?_ fun p9 H9 n9 e9 h9 => ?_
  · rw [show tl i 21 6 = [.bl (tab i 21), .bl (tab i 22), .bl (tab i 23)] ++ [.bl (tab i 24), .bl (tab i 25), .bl (tab i 26)] from rfl]
    exact el_catV h8 (ev_var rfl) (el_lst (ea_cons (is x8 rfl (by decide : 24 < 27) (.ty _)) (ea_cons (is x8 rfl (by decide : 25 < 27) (.ty _)) (ea_cons (is x8 rfl (by decide : 26 < 27) (.ty _)) ea_nil))) (by show 3 ≤ 100000; decide)) (by show 6 ≤ 100000; decide)
  have x9 := x8.trans e9
  have hlist : ∀ {σ : L2.St} {H1 : Hp} {p : Addr} {j a n : Nat} {z : Nat}, σ[j]? = some (some (.ref p)) → σ[3]? = some (some (.int (z : Int))) → H1 p = some (.lst (tl i a n)) → z < n → EvT (tTest (tOp (rIxL K) (tVar j) (tVar 3))) σ H1 (tab i (a + z)) := fun hp hz h1 hn =>
    et_test (ev_op (ev_var hp) (ev_var hz) (rv_ixL (sq_of h1) (atI_nat (tl_get hn))))
  refine s_retL (xs := sortsL i) (el_cat (el_lcR1 (fun k => tab i k) (fun k => .int (k : Int)) (ea_cons ev_c ea_nil) (by decide) (fun x => rfl) (fun z H1 y hz => ?_) (fun z H1 y _ _ => ev_var rfl)) (el_lcR1 (fun k => tab i (21 + k)) (fun k => .int (50 + (k : Int))) (ea_cons ev_c ea_nil) (by decide) (fun x => rfl) (fun z H1 y hz => ?_) (fun z H1 y _ _ => ev_op ev_c (ev_var rfl) rv_I0)) ?_) fun p H10 n10 e10 h10 => ?_
  · rw [show tab i z = tab i (0 + z) from by rw [Nat.zero_add]]
    exact hlist (j := 1) (p := p7) (n := 21) rfl rfl (y _ _ (e9 _ _ (e8 _ _ h7))) (by omega)
  · exact hlist (j := 2) (p := p9) (n := 6) rfl rfl (y _ _ h9) (by omega)
  · have q1 := given_len 21 (fun k => tab i k) (fun k => .int (k : Int))
    have q2 := given_len 6 (fun k => tab i (21 + k)) (fun k => .int (50 + (k : Int)))
    exact Nat.le_trans (Nat.add_le_add q1 q2) (by decide)
  · exact k p H10 (fresh_back x9 n10) (x9.trans e10) h10
end
end K01

namespace K01
open PySem PySem.Spec PyProof.Rows L2 Evl Lay ErrX
section
variable {P : Program} {w : World} {K : PySem.W.Frag} {mg : Str → Option Value} {base : Heap} {C fI : Nat → Addr}
abbrev s_given_errors : Stmt := top 36
abbrev N_given_errors : List Str := ["_law_thing", "_law_found"]
abbrev P_given_errors : List Str := ["_law_thing"]
theorem sc_given_errors : FnScope N_given_errors P_given_errors (defScope s_given_errors) := ⟨rfl, rfl, rfl, by decide +kernel, rfl, by decide +kernel, by decide +kernel⟩
def sp_given_errors (C : Nat → Addr) : Sp := fun vs H Q _ => ∃ x, vs = [x] ∧ ∀ p H', Ex H H' → Grown C "given" x 0 p H' 10 → Q (.ref p) H'
theorem d_given_errors (D : DefIn K mg "_law_given_errors" s_given_errors P_given_errors) (U : Errs P K mg C fI) : DefOk P w K mg base "_law_given_errors" 3 P_given_errors (sp_given_errors C) := by
  refine defok D sc_given_errors (fun vs H Q E h => ?_) (fun f cdv A outer s H vs Q E hr hg h => ?_)
  · obtain ⟨x, rfl, _⟩ := h
    rfl
  obtain ⟨x, rfl, k⟩ := h
  have SC := sc_given_errors
  refine ⟨_, (pss_cons (ps_set (i := 1) SC.nd rfl (Or.inl rfl) (pe_lst (pa_cons (pe_lst (pa_cons (pe_err (U.t 0 (by decide)) (U.ok 0 (by decide)) (hr.mono (by decide)) (pa_cons (pv 0) pa_nil)) (pa_cons (pe_errK (U.t 0 (by decide)) (U.ok 0 (by decide)) (hr.mono (by decide)) (pk_cons (pv 0) pk_nil)) pa_nil))) (pa_cons (pe_lst (pa_cons (pe_err (U.t 1 (by decide)) (U.ok 1 (by decide)) (hr.mono (by decide)) (pa_cons (pv 0) pa_nil)) (pa_cons (pe_errK (U.t 1 (by decide)) (U.ok 1 (by decide)) (hr.mono (by decide)) (pk_cons (pv 0) pk_nil)) pa_nil))) pa_nil)))) (pss_cons (ps_expr (pe_bm PySem.F.plainAttrs_list PySem.F.slot_list_append PySem.F.type_list_append mt_append (pv 1) (pa_cons (pe_lst (pa_cons (pe_err (U.t 2 (by decide)) (U.ok 2 (by decide)) (hr.mono (by decide)) (pa_cons (pv 0) pa_nil)) (pa_cons (pe_errK (U.t 2 (by decide)) (U.ok 2 (by decide)) (hr.mono (by decide)) (pk_cons (pv 0) pk_nil)) pa_nil))) pa_nil))) (pss_cons (ps_expr (pe_bm PySem.F.plainAttrs_list PySem.F.slot_list_append PySem.F.type_list_append mt_append (pv 1) (pa_cons (pe_lst (pa_cons (pe_err (U.t 3 (by decide)) (U.ok 3 (by decide)) (hr.mono (by decide)) (pa_cons (pv 0) pa_nil)) (pa_cons (pe_errK (U.t 3 (by decide)) (U.ok 3 (by decide)) (hr.mono (by decide)) (pk_cons (pv 0) pk_nil)) pa_nil))) pa_nil))) (pss_cons (ps_expr (pe_bm PySem.F.plainAttrs_list PySem.F.slot_list_append PySem.F.type_list_append mt_append (pv 1) (pa_cons (pe_lst (pa_cons (pe_err (U.t 4 (by decide)) (U.ok 4 (by decide)) (hr.mono (by decide)) (pa_cons (pv 0) pa_nil)) (pa_cons (pe_errK (U.t 4 (by decide)) (U.ok 4 (by decide)) (hr.mono (by decide)) (pk_cons (pv 0) pk_nil)) pa_nil))) pa_nil))) (pss_cons (ps_expr (pe_bm PySem.F.plainAttrs_list PySem.F.slot_list_append PySem.F.type_list_append mt_append (pv 1) (pa_cons (pe_lst (pa_cons (pe_err (U.t 5 (by decide)) (U.ok 5 (by decide)) (hr.mono (by decide)) (pa_cons (pv 0) pa_nil)) (pa_cons (pe_errK (U.t 5 (by decide)) (U.ok 5 (by decide)) (hr.mono (by decide)) (pk_cons (pv 0) pk_nil)) pa_nil))) pa_nil))) (pss_cons (ps_expr (pe_bm PySem.F.plainAttrs_list PySem.F.slot_list_append PySem.F.type_list_append mt_append (pv 1) (pa_cons (pe_lst (pa_cons (pe_err (U.t 6 (by decide)) (U.ok 6 (by decide)) (hr.mono (by decide)) (pa_cons (pv 0) pa_nil)) (pa_cons (pe_errK (U.t 6 (by decide)) (U.ok 6 (by decide)) (hr.mono (by decide)) (pk_cons (pv 0) pk_nil)) pa_nil))) pa_nil))) (pss_cons (ps_expr (pe_bm PySem.F.plainAttrs_list PySem.F.slot_list_append PySem.F.type_list_append mt_append (pv 1) (pa_cons (pe_lst (pa_cons (pe_err (U.t 7 (by decide)) (U.ok 7 (by decide)) (hr.mono (by decide)) (pa_cons (pv 0) pa_nil)) (pa_cons (pe_errK (U.t 7 (by decide)) (U.ok 7 (by decide)) (hr.mono (by decide)) (pk_cons (pv 0) pk_nil)) pa_nil))) pa_nil))) (pss_cons (ps_expr (pe_bm PySem.F.plainAttrs_list PySem.F.slot_list_append PySem.F.type_list_append mt_append (pv 1) (pa_cons (pe_lst (pa_cons (pe_err (U.t 8 (by decide)) (U.ok 8 (by decide)) (hr.mono (by decide)) (pa_cons (pv 0) pa_nil)) (pa_cons (pe_errK (U.t 8 (by decide)) (U.ok 8 (by decide)) (hr.mono (by decide)) (pk_cons (pv 0) pk_nil)) pa_nil))) pa_nil))) (pss_one (ps_ret (pe_op op_cat (pv 1) (pe_lst (pa_cons (pe_lst (pa_cons (pe_err (U.t 9 (by decide)) (U.ok 9 (by decide)) (hr.mono (by decide)) (pa_cons (pv 0) pa_nil)) (pa_cons (pe_errK (U.t 9 (by decide)) (U.ok 9 (by decide)) (hr.mono (by decide)) (pk_cons (pv 0) pk_nil)) pa_nil))) pa_nil))))))))))))), ?_⟩
  have va : ∀ {σ : L2.St} {H1 : Hp}, σ[0]? = some (some x) → EvA (tCons (tVar 0) tNil) σ H1 [x] := fun h => ea_cons (ev_var h) ea_nil
  refine q_asgP (evp_two (c := 0) (evp_row (va rfl) (va rfl)) (evp_row (va rfl) (va rfl))) fun v H1 x1 ⟨p, hv, hp, g1⟩ => ?_
  subst hv
  have m1 : ExM p H H1 := Ex.m x1
  refine q_grow (n := 2) g1 (by decide) (ev_var rfl) (evp_row (va rfl) (va rfl)) fun H2 y2 g2 => ?_
  have m2 := m1.trans y2
  refine q_grow (n := 3) g2 (by decide) (ev_var rfl) (evp_row (va rfl) (va rfl)) fun H3 y3 g3 => ?_
  have m3 := m2.trans y3
  refine q_grow (n := 4) g3 (by decide) (ev_var rfl) (evp_row (va rfl) (va rfl)) fun H4 y4 g4 => ?_
  have m4 := m3.trans y4
  refine q_grow (n := 5) g4 (by decide) (ev_var rfl) (evp_row (va rfl) (va rfl)) fun H5 y5 g5 => ?_
  have m5 := m4.trans y5
  refine q_grow (n := 6) g5 (by decide) (ev_var rfl) (evp_row (va rfl) (va rfl)) fun H6 y6 g6 => ?_
  have m6 := m5.trans y6
  refine q_grow (n := 7) g6 (by decide) (ev_var rfl) (evp_row (va rfl) (va rfl)) fun H7 y7 g7 => ?_
  have m7 := m6.trans y7
  refine q_grow (n := 8) g7 (by decide) (ev_var rfl) (evp_row (va rfl) (va rfl)) fun H8 y8 g8 => ?_
  have m8 := m7.trans y8
  exact s_retP (evp_more (n := 9) g8 (by decide) (ev_var rfl) (evp_row (va rfl) (va rfl))) fun v H9 x9 ⟨q, hv, hq, g⟩ => by
    subst hv
    exact k q H9 ((exM_fresh m8 hp).trans x9) g
abbrev s_index_errors : Stmt := top 37
abbrev N_index_errors : List Str := ["_law_thing", "_law_found"]
abbrev P_index_errors : List Str := ["_law_thing"]
theorem sc_index_errors : FnScope N_index_errors P_index_errors (defScope s_index_errors) := ⟨rfl, rfl, rfl, by decide +kernel, rfl, by decide +kernel, by decide +kernel⟩
def sp_index_errors (C : Nat → Addr) : Sp := fun vs H Q _ => ∃ x, vs = [x] ∧ ∀ p H', Ex H H' → Grown C "index" x 10 p H' 4 → Q (.ref p) H'
theorem d_index_errors (D : DefIn K mg "_law_index_errors" s_index_errors P_index_errors) (U : Errs P K mg C fI) : DefOk P w K mg base "_law_index_errors" 3 P_index_errors (sp_index_errors C) := by
  refine defok D sc_index_errors (fun vs H Q E h => ?_) (fun f cdv A outer s H vs Q E hr hg h => ?_)
  · obtain ⟨x, rfl, _⟩ := h
    rfl
  obtain ⟨x, rfl, k⟩ := h
  have SC := sc_index_errors
  refine ⟨_, (pss_cons (ps_set (i := 1) SC.nd rfl (Or.inl rfl) (pe_lst (pa_cons (pe_lst (pa_cons (pe_err (U.t 10 (by decide)) (U.ok 10 (by decide)) (hr.mono (by decide)) (pa_cons (pv 0) pa_nil)) (pa_cons (pe_errK (U.t 10 (by decide)) (U.ok 10 (by decide)) (hr.mono (by decide)) (pk_cons (pv 0) pk_nil)) pa_nil))) (pa_cons (pe_lst (pa_cons (pe_err (U.t 11 (by decide)) (U.ok 11 (by decide)) (hr.mono (by decide)) (pa_cons (pv 0) pa_nil)) (pa_cons (pe_errK (U.t 11 (by decide)) (U.ok 11 (by decide)) (hr.mono (by decide)) (pk_cons (pv 0) pk_nil)) pa_nil))) pa_nil)))) (pss_cons (ps_expr (pe_bm PySem.F.plainAttrs_list PySem.F.slot_list_append PySem.F.type_list_append mt_append (pv 1) (pa_cons (pe_lst (pa_cons (pe_err (U.t 12 (by decide)) (U.ok 12 (by decide)) (hr.mono (by decide)) (pa_cons (pv 0) pa_nil)) (pa_cons (pe_errK (U.t 12 (by decide)) (U.ok 12 (by decide)) (hr.mono (by decide)) (pk_cons (pv 0) pk_nil)) pa_nil))) pa_nil))) (pss_one (ps_ret (pe_op op_cat (pv 1) (pe_lst (pa_cons (pe_lst (pa_cons (pe_err (U.t 13 (by decide)) (U.ok 13 (by decide)) (hr.mono (by decide)) (pa_cons (pv 0) pa_nil)) (pa_cons (pe_errK (U.t 13 (by decide)) (U.ok 13 (by decide)) (hr.mono (by decide)) (pk_cons (pv 0) pk_nil)) pa_nil))) pa_nil))))))), ?_⟩
  have va : ∀ {σ : L2.St} {H1 : Hp}, σ[0]? = some (some x) → EvA (tCons (tVar 0) tNil) σ H1 [x] := fun h => ea_cons (ev_var h) ea_nil
  refine q_asgP (evp_two (c := 10) (evp_row (va rfl) (va rfl)) (evp_row (va rfl) (va rfl))) fun v H1 x1 ⟨p, hv, hp, g1⟩ => ?_
  subst hv
  have m1 : ExM p H H1 := Ex.m x1
  refine q_grow (n := 2) g1 (by decide) (ev_var rfl) (evp_row (va rfl) (va rfl)) fun H2 y2 g2 => ?_
  have m2 := m1.trans y2
  exact s_retP (evp_more (n := 3) g2 (by decide) (ev_var rfl) (evp_row (va rfl) (va rfl))) fun v H9 x9 ⟨q, hv, hq, g⟩ => by
    subst hv
    exact k q H9 ((exM_fresh m2 hp).trans x9) g
end
end K01

namespace K01
open PySem PySem.Spec PyProof.Rows L2 Evl Lay ErrX
def sortsN (i : Nat) : List Int := (((List.range 21).filter fun (k : Nat) => tab i k).map fun (k : Nat) => (k : Int)) ++ (((List.range 6).filter fun (k : Nat) => tab i (21 + k)).map fun (k : Nat) => (50 + (k : Int)))
theorem sorts_n (i : Nat) : sortsL i = (sortsN i).map V.int := by
  unfold sortsL sortsN given
  rw [List.map_append, List.map_map, List.map_map]
  rfl
theorem dpA_ints {K : PySem.W.Frag} {H : Hp} : ∀ ns : List Int, DpAll K H (ns.map V.int) (ns.map PyData.int)
  | [] => .nil
  | n :: ns => .cons (.int n) (dpA_ints ns)
theorem dpA_app {K : PySem.W.Frag} {H : Hp} : ∀ {xs ys : List V} {ds es : List PyData}, DpAll K H xs ds → DpAll K H ys es → DpAll K H (xs ++ ys) (ds ++ es)
  | _, _, _, _, .nil, b => b
  | _, _, _, _, .cons h t, b => .cons h (dpA_app t b)
/-- a row of ints and a text -/
def rowD (ns : List Int) (y : Str) : PyData := .list (ns.map PyData.int ++ [.str y])
theorem lay_ints {y : Str} (hy : PyData.strOk y = true) : ∀ ns : List Int, PyData.canLayAll0 (ns.map PyData.int ++ [.str y]) = true
  | [] => by simp [PyData.canLayAll0, PyData.canLay0, hy]
  | n :: ns => by
    show PyData.canLayAll0 (.int n :: (ns.map PyData.int ++ [.str y])) = true
    simp only [PyData.canLayAll0, PyData.canLay0, Bool.true_and]
    exact lay_ints hy ns
theorem depth_ints (y : Str) : ∀ ns : List Int, PyData.depthAll (ns.map PyData.int ++ [.str y]) ≤ 1
  | [] => by simp [PyData.depthAll, PyData.depth]
  | n :: ns => by
    show PyData.depthAll (.int n :: (ns.map PyData.int ++ [.str y])) ≤ 1
    have := depth_ints y ns
    simp only [PyData.depthAll, PyData.depth]
    omega
theorem two_shaped (ns : List Int) {y : Str} (hy : PyData.strOk y = true) : SeqAt.shaped (.list [rowD ns y, rowD ns y]) = true := by
  have h1 := lay_ints hy ns
  have h2 := depth_ints y ns
  unfold SeqAt.shaped rowD
  rw [Bool.and_eq_true_iff, decide_eq_true_iff]
  refine ⟨?_, ?_⟩
  · simp only [PyData.canLay0, PyData.canLayAll0, h1, Bool.and_true]
  · simp only [PyData.depth, PyData.depthAll]
    omega
section
variable {P : Program} {w : World} {K : PySem.W.Frag} {mg : Str → Option Value} {base : Heap} {C fI : Nat → Addr}
/-- what is told of one thing -/
structure Thing (K : PySem.W.Frag) (H : Hp) (x : V) (y : Str) : Prop where
  ex : ∃ d, Dr K H x d ∧ d.showable = true ∧ d.depth ≤ 32 ∧ d.shown.length ≤ sizeLine ∧ d.shown = y
  str : PyData.strOk y = true
theorem Thing.mono {H H' : Hp} {x : V} {y : Str} (e : Ex H H') (t : Thing K H x y) : Thing K H' x y :=
  let ⟨d, h1, r⟩ := t.ex
  ⟨⟨d, dr_ex e h1, r⟩, t.str⟩
theorem Thing.rc {H : Hp} {x : V} {y : Str} (t : Thing K H x y) : RC (rRepr K) [x] H (.str y) := by
  obtain ⟨d, h1, h2, h3, h4, rfl⟩ := t.ex
  exact rc_repr h1 h2 h3 h4
theorem handed_dr {H : Hp} {x : V} {y : Str} (t : Thing K H x y) : ∀ u, RelV x u → PySem.W.handedIn u = true := by
  obtain ⟨d, h1, _⟩ := t.ex
  intro u r
  rcases h1 with h | ⟨a, kvs, ds, rfl, _⟩
  · cases h with
    | non =>
      cases (show u = Value.none from r)
      rfl
    | bl b =>
      cases (show u = Value.bool b from r)
      rfl
    | int i =>
      obtain ⟨t, rfl⟩ := (show ∃ t, u = Value.int i t from r)
      rfl
    | str z =>
      obtain ⟨t, rfl⟩ := (show ∃ t, u = Value.str z t from r)
      rfl
    | lst h1 h2 =>
      cases (show u = Value.ref _ from r)
      rfl
    | tup h1 h2 =>
      cases (show u = Value.ref _ from r)
      rfl
  · cases (show u = Value.ref _ from r)
    rfl
theorem ev_fld {H : Hp} {N : Addr → Prop} {prog : Program} (U : Errs prog K mg C fI) {i : Nat} {fld : Str} {x : V} {y : Str} {e : Addr} {te : TE} {σ : L2.St} (hi : i < 18) (hf : fldN i = fld) (t : Thing K H x y) (he : ErrF N H (C i) fld x e) (h : Ev te σ H (.ref e)) : Ev (tErrFld K te fld) σ H x := fun H1 e1 Q q =>
  h H1 e1 _ fun H2 e2 => by
    obtain ⟨d, h1, h2, _⟩ := he.keep (H' := H2) fun b o _ z => (e1.trans e2) b o z
    subst hf
    exact ⟨e, d, C i, _, x, rfl, h1, h2, U.a i (by omega), U.hd i (by omega), U.noF i hi, by
      show List.lookup (fldN i) [(fldN i, x)] = some x
      simp [List.lookup], handed_dr t, q H2 e2⟩

/-- the two rows are the same -/
theorem et_rows {prog : Program} (U : Errs prog K mg C fI) {H : Hp} {N : Addr → Prop} {i : Nat} {fld : Str} {x : V} {y : Str} {e1 e2 b : Addr} {σ : L2.St} {ta : TA} (hi : i < 18) (hf : fldN i = fld) (t : Thing K H x y) (h1 : ErrF N H (C i) fld x e1) (h2 : ErrF N H (C i) fld x e2)
    (hb : H b = some (.lst [.ref e1, .ref e2])) (s3 : σ[3]? = some (some (.ref b))) (hw : ∀ z, wipe ((wipe σ [4]).set 4 (some z)) [4] = wipe σ [4]) (h4 : ∀ z, ((wipe σ [4]).set 4 (some z))[4]? = some (some z)) (ha : ∀ H1, Ex H H1 → EvA ta σ H1 ((sortsN i).map V.int ++ [.str y])) (hs : (sortsN i).length ≤ 100) :
    EvT (tTest (tOp (rNeD K) (tLc (iList K (tVar 3)) (gName 4) tYes (tOp rCat (tCallD (spSorts C) (tCons (tVar 4) tNil)) (tLst (tCons (tCB (rRepr K) (tCons (tErrFld K (tVar 4) fld) tNil)) tNil))) [4]) (tOp rRep (tLst (tCons (tLst ta) tNil)) (tC (.int 2))))) σ H false := by
  have hrow : ∀ (H1 : Hp) (u : V), Ex H H1 → LL (fun _ => (sortsN i).map V.int ++ [.str y]) 2 u H1 → Dp K H1 u (.list [rowD (sortsN i) y, rowD (sortsN i) y]) := fun H1 u x1 ⟨D, rs, hu, hD, hl, hr⟩ => by
    subst hu
    match rs, hl with
    | [r1, r2], _ =>
      obtain ⟨q1, rfl, _, k1⟩ := hr 0 r1 rfl
      obtain ⟨q2, rfl, _, k2⟩ := hr 1 r2 rfl
      exact .lst (sq_of hD) (.cons (.lst (sq_of k1) (dpA_app (dpA_ints _) (.cons (.str y) .nil))) (.cons (.lst (sq_of k2) (dpA_app (dpA_ints _) (.cons (.str y) .nil))) .nil))
  refine et_test (evp_ev (evp_op (S := fun u _ => u = .bl false) (evp_lcLL (fun _ => (sortsN i).map V.int ++ [.str y]) (ev_var s3) (sq_of hb) (show 2 ≤ 40000 by decide) hw fun m z H1 x1 hz => ?_) stb_LL (R := LL (fun _ => (sortsN i).map V.int ++ [.str y]) 2) ?_ fun u v H1 x1 pu pv Q q => ?_) fun u H1 _ h => h)
  · have hz2 : ∃ e, z = .ref e ∧ ErrF N H1 (C i) fld x e := by
      match m, hz with
      | 0, hz =>
        cases hz
        exact ⟨e1, rfl, h1.keep fun b o _ z => x1 b o z⟩
      | 1, hz =>
        cases hz
        exact ⟨e2, rfl, h2.keep fun b o _ z => x1 b o z⟩
    obtain ⟨e, rfl, he⟩ := hz2
    have hc : EvL (tCallD (spSorts C) (tCons (tVar 4) tNil)) ((wipe σ [4]).set 4 (some (.ref e))) H1 (sortsL i) := el_callD (ea_cons (ev_var (h4 _)) ea_nil) fun H2 x2 Q q E => ⟨e, i, rfl, by omega, errat_ex x2 he.at, fun p H' hp e' h' => q p H' hp e' h'⟩
    have hr : EvL (tLst (tCons (tCB (rRepr K) (tCons (tErrFld K (tVar 4) fld) tNil)) tNil)) ((wipe σ [4]).set 4 (some (.ref e))) H1 [.str y] := el_lst (ea_cons (ev_cb (ea_cons (ev_fld U hi hf (t.mono x1) he (ev_var (h4 _))) ea_nil) (t.mono x1).rc) ea_nil) (by show 1 ≤ 100000; decide)
    have := el_cat hc hr (by rw [sorts_n, List.length_map]; show _ + 1 ≤ 100000; omega)
    rw [sorts_n] at this
    exact this
  · intro H1 x1 Q q
    refine ha H (Ex.refl H) H1 x1 _ fun H2 x2 => ⟨sz_of (by rw [List.length_append, List.length_map]; show _ + 1 ≤ 100000; omega), fun r hr => ?_⟩
    refine ⟨sz_of (show 1 ≤ 100000 by decide), fun l hl => ⟨l, 2, [.ref r], rfl, rfl, upd_same, by decide, by decide, sz_of (show 2 ≤ 100000 by decide), fun D hD => ?_⟩⟩
    have nl : r ≠ l := fun z => by
      rw [← z, upd_same] at hl
      cases hl
    have nD : r ≠ D := fun z => by
      rw [← z, upd_ne nl, upd_same] at hD
      cases hD
    refine q _ _ (((x2.trans (Ex.new hr)).trans (Ex.new hl)).trans (Ex.new hD)) ⟨D, [.ref r, .ref r], rfl, upd_same, rfl, fun m z hz => ⟨r, ?_, nD, ?_⟩⟩
    · match m, hz with
      | 0, hz =>
        cases hz
        rfl
      | 1, hz =>
        cases hz
        rfl
    · rw [upd_ne nD, upd_ne nl]
      exact upd_same
  · have k := rv_neD (hrow H1 u x1 pu) (hrow H1 v x1 pv) (two_shaped _ t.str) (two_shaped _ t.str) H1 (Ex.refl H1) Q fun H2 x2 => q _ H2 x2 (by
      rw [SeqAt.eqv_refl _ (SeqAt.canLay_of_shaped (two_shaped _ t.str))]
      rfl)
    exact k
end
end K01

namespace K01
open PySem PySem.Spec PyProof.Rows L2 Evl Lay ErrX
theorem fld_given {i : Nat} (h : i < 10) : fldN i = "given" := (by decide : ∀ i, i < 10 → fldN i = "given") i h
theorem fld_index {i : Nat} (h : i < 4) : fldN (10 + i) = "index" := (by decide : ∀ i, i < 4 → fldN (10 + i) = "index") i h
theorem n_given {i : Nat} (h : i < 10) : sortsN i = [(i : Int), 50, 53] := (by decide : ∀ i, i < 10 → sortsN i = [((i : Nat) : Int), 50, 53]) i h
theorem n_index {i : Nat} (h : i < 4) : sortsN (10 + i) = [((10 + i : Nat) : Int), 50, 53] := (by decide : ∀ i, i < 4 → sortsN (10 + i) = [((10 + i : Nat) : Int), 50, 53]) i h
theorem n_14 : sortsN 14 = [((14 : Nat) : Int), 51, 54] := by decide
theorem n_15 : sortsN 15 = [((15 : Nat) : Int), 52, 55] := by decide
theorem n_16 : sortsN 16 = [((16 : Nat) : Int), 52, 55] := by decide
theorem n_17 : sortsN 17 = [((17 : Nat) : Int), 52, 55] := by decide
structure Txt3 (mg : Str → Option Value) : Prop extends Txt2 mg where
  z_enumerate : mg "enumerate" = none
  z_repr : mg "repr" = none
def AllP (P : VP) (n : Nat) (vs : List V) (H : Hp) : Prop := vs.length = n ∧ ∀ v ∈ vs, P v H
section
variable {σ : L2.St} {H : Hp} {te : TE} {ts : TA} {P : VP} {n : Nat}
theorem eap_nilA : EvAP tNil σ H (AllP P 0) := fun H1 _ Q q => q [] H1 (Ex.refl H1) ⟨rfl, fun v h => by cases h⟩
theorem eap_consA (ha : EvP te σ H P) (hP : Stb P) (hs : EvAP ts σ H (AllP P n)) : EvAP (tCons te ts) σ H (AllP P (n + 1)) := fun H1 e Q q =>
  ha H1 e _ fun x H2 e2 p => hs H2 (e.trans e2) _ fun r H3 e3 s => q _ H3 (e2.trans e3) ⟨by rw [List.length_cons, s.1], fun v hv => by
    rcases List.mem_cons.mp hv with rfl | hv
    · exact hP _ _ _ e3 p
    · exact s.2 v hv⟩
/-- (e,), e a new tuple -/
theorem evp_tup1 {xs : List V} (h : EvU te σ H xs) : EvP (tTup (tCons te tNil)) σ H (fun u H' => ∃ p q, u = .ref p ∧ H' p = some (.tup [.ref q]) ∧ H' q = some (.tup xs)) := fun H1 e Q q =>
  h H1 e _ fun r H2 _ e2 h2 => ⟨sz_of (show 1 ≤ 100000 by decide), fun p hp => q _ _ (e2.trans (Ex.new hp)) ⟨p, r, rfl, upd_same, Ex.new hp _ _ h2⟩⟩
/-- (c, e), e a new thing -/
theorem evp_tup2 {c : V} {P : VP} (h : EvP te σ H P) (hP : Stb P) : EvP (tTup (tCons (tC c) (tCons te tNil))) σ H (fun u H' => ∃ p r, u = .ref p ∧ H' p = some (.tup [c, r]) ∧ P r H') := fun H1 e Q q =>
  h H1 e _ fun r H2 e2 h2 => ⟨sz_of (show 2 ≤ 100000 by decide), fun p hp => q _ _ (e2.trans (Ex.new hp)) ⟨p, r, rfl, upd_same, hP _ _ _ (Ex.new hp) h2⟩⟩
theorem stb_tup2 {c : V} {P : VP} (hP : Stb P) : Stb (fun u H' => ∃ p r, u = .ref p ∧ H' p = some (.tup [c, r]) ∧ P r H') := fun _ _ _ e ⟨p, r, h1, h2, h3⟩ => ⟨p, r, h1, e _ _ h2, hP _ _ _ e h3⟩
/-- for x in e, e a new list at p -/
theorem q_forLP {K : PySem.W.Frag} {g : TG} {tu tz : TS} {D : Ends} {Pv : Addr → List V → Nat → L2.St → Hp → Prop} (h : EvP te σ H P) (hP : ∀ v H1, Ex H H1 → P v H1 → ∃ p xs, v = .ref p ∧ SqL K H1 p xs ∧ Pv p xs 0 σ H1 ∧ (∀ i σ' H', i ≤ xs.length → Pv p xs i σ' H' → SqL K H' p xs) ∧
      (∀ i x σ' H', xs[i]? = some x → Pv p xs i σ' H' → g x σ' H' fun σ2 H2 => tu { D with nx := Pv p xs (i + 1), ct := Pv p xs (i + 1), bk := tz D } σ2 H2) ∧ (∀ σ' H', Pv p xs xs.length σ' H' → tz D σ' H')) :
    tSeq (tFor (iList K te) g tu) tz D σ H := h H (Ex.refl H) _ fun v H1 e p => by
  obtain ⟨a, xs, rfl, h1, h0, hl, hs, hd⟩ := hP v H1 e p
  exact ⟨a, rfl, ⟨xs, h1⟩, for_list (D := { D with nx := tz D }) (Pv a xs) h0 hl hs hd⟩
theorem stb_lstAP {S : List V → Hp → Prop} : Stb (fun u H' => ∃ p vs H0, u = .ref p ∧ Ex H H0 ∧ H0 p = none ∧ S vs H0 ∧ H' p = some (.lst vs) ∧ Ex H0 H') := fun _ _ _ e ⟨p, vs, H0, h1, h2, h3, h4, h5, h6⟩ => ⟨p, vs, H0, h1, h2, h3, h4, e _ _ h5, h6.trans e⟩
end
section
variable {P : Program} {w : World} {K : PySem.W.Frag} {mg : Str → Option Value} {base : Heap} {C fI : Nat → Addr}
def Some (K : PySem.W.Frag) : VP := fun v H => ∃ y, Thing K H v y
theorem stb_some : Stb (Some K) := fun _ _ _ e ⟨y, t⟩ => ⟨y, t.mono e⟩
theorem thing_dp {H : Hp} {v : V} {d : PyData} (h : Dp K H v d) (h1 : d.showable = true) (h2 : d.depth ≤ 32) (h3 : d.shown.length ≤ 1000) (h4 : PyData.strOk d.shown = true) : Some K v H := ⟨d.shown, ⟨d, .inl h, h1, h2, sz_of (by omega), rfl⟩, h4⟩
abbrev s_right : Stmt := top 38
abbrev N_right : List Str := ["_law_jar_here", "_law_thing", "_law_at", "_law_both", "_law_e"]
abbrev P_right : List Str := ["_law_jar_here"]
theorem sc_right : FnScope N_right P_right (defScope s_right) := ⟨rfl, rfl, rfl, by decide +kernel, rfl, by decide +kernel, by decide +kernel⟩

def spRight : Sp := fun vs H Q _ => ∃ j, vs = [.ref j] ∧ H j = some (jarO j) ∧ ∀ H', Ex H H' → Q (.bl true) H'
theorem d_right (D : DefIn K mg "_law_right" s_right P_right) (T : Txt3 mg) (U : Errs P K mg C fI) (D_one_of : DefOk P w K mg base "_law_one_of" 2 P_one_of (spOne K)) (D_sorts : DefOk P w K mg base "_law_sorts" 1 P_sorts (spSorts C))
    (D_given_errors : DefOk P w K mg base "_law_given_errors" 3 P_given_errors (sp_given_errors C)) (D_index_errors : DefOk P w K mg base "_law_index_errors" 3 P_index_errors (sp_index_errors C)) : DefOk P w K mg base "_law_right" 4 P_right spRight := by
  refine defok D sc_right (fun vs H Q E h => ?_) (fun f cdv A outer s H vs Q E hr hg h => ?_)
  · obtain ⟨j, rfl, _⟩ := h
    rfl
  obtain ⟨j, rfl, hj, k⟩ := h
  have SC := sc_right
  refine ⟨_, (pss_cons (ps_set (i := 1) SC.nd rfl (Or.inl rfl) (pe_callD D_one_of (hr.mono (by decide)) hg (pa_cons (pv 0) (pa_cons (pe_lst (pa_cons pe_non (pa_cons pe_int (pa_cons (pe_un un_neg pe_int) (pa_cons pe_bl (pa_cons pe_str (pa_cons pe_str (pa_cons (pe_tup pa_nil) (pa_cons (pe_tup (pa_cons pe_int (pa_cons pe_int pa_nil))) (pa_cons (pe_lst pa_nil) (pa_cons (pe_lst (pa_cons pe_int pa_nil)) (pa_cons pe_dnewK (pa_cons (pe_disp (pps_cons pe_str pe_int pps_nil) (by rfl) (by rfl) (fun z => by cases z) (by decide)) (pa_cons (pe_op op_pow pe_int pe_int) (pa_cons (pe_tup (pa_cons (pe_tup (pa_cons pe_int (pa_cons pe_int pa_nil))) pa_nil)) pa_nil))))))))))))))) pa_nil)))) (pss_cons (ps_for PassesOwn.never rfl (pi_enum (by rfl) T.z_enumerate (pa_cons (pe_callD D_given_errors (hr.mono (by decide)) hg (pa_cons (pv 1) pa_nil)) pa_nil)) (pg_tup (by rfl) (pgs_cons (pg_name (i := 2) SC.nd rfl (Or.inl rfl)) (pgs_cons (pg_name (i := 3) SC.nd rfl (Or.inl rfl)) pgs_nil))) (pss_one (ps_if (pt_cmpR (kx_neD K hr.units) (pe_lc (own := [("_law_e", 4)]) (g := gName 4) (tt := tYes) (by rfl) SC.nd (kx_piList K (pv 3)) (blkOk_by (own := [("_law_e", 4)]) (N := N_right) (sc := defScope s_right) (by decide +kernel)) (fun _ _ _ _ _ => (pg_name (i := 4) SC.nd rfl (Or.inl rfl))) (fun _ _ _ _ _ => pts_nil) (fun _ _ _ _ _ => (pe_op op_cat (pe_callD D_sorts (hr.mono (by decide)) hg (pa_cons (pv 4) pa_nil)) (pe_lst (pa_cons (pe_callB (kx_repr K hg hr.units) (by rfl) T.z_repr (by decide +kernel) (pa_cons (kx_errfld K (pv 4)) pa_nil)) pa_nil))))) (pe_op op_rep (pe_lst (pa_cons (pe_lst (pa_cons (pv 2) (pa_cons pe_int (pa_cons pe_int (pa_cons (pe_callB (kx_repr K hg hr.units) (by rfl) T.z_repr (by decide +kernel) (pa_cons (pv 1) pa_nil)) pa_nil))))) pa_nil)) pe_int) (nomark _)) (pss_one (ps_ret pe_bl)) pss_nil))) (pss_cons (ps_for PassesOwn.never rfl (pi_enum (by rfl) T.z_enumerate (pa_cons (pe_callD D_index_errors (hr.mono (by decide)) hg (pa_cons (pv 1) pa_nil)) pa_nil)) (pg_tup (by rfl) (pgs_cons (pg_name (i := 2) SC.nd rfl (Or.inl rfl)) (pgs_cons (pg_name (i := 3) SC.nd rfl (Or.inl rfl)) pgs_nil))) (pss_one (ps_if (pt_cmpR (kx_neD K hr.units) (pe_lc (own := [("_law_e", 4)]) (g := gName 4) (tt := tYes) (by rfl) SC.nd (kx_piList K (pv 3)) (blkOk_by (own := [("_law_e", 4)]) (N := N_right) (sc := defScope s_right) (by decide +kernel)) (fun _ _ _ _ _ => (pg_name (i := 4) SC.nd rfl (Or.inl rfl))) (fun _ _ _ _ _ => pts_nil) (fun _ _ _ _ _ => (pe_op op_cat (pe_callD D_sorts (hr.mono (by decide)) hg (pa_cons (pv 4) pa_nil)) (pe_lst (pa_cons (pe_callB (kx_repr K hg hr.units) (by rfl) T.z_repr (by decide +kernel) (pa_cons (kx_errfld K (pv 4)) pa_nil)) pa_nil))))) (pe_op op_rep (pe_lst (pa_cons (pe_lst (pa_cons (pe_op op_add pe_int (pv 2)) (pa_cons pe_int (pa_cons pe_int (pa_cons (pe_callB (kx_repr K hg hr.units) (by rfl) T.z_repr (by decide +kernel) (pa_cons (pv 1) pa_nil)) pa_nil))))) pa_nil)) pe_int) (nomark _)) (pss_one (ps_ret pe_bl)) pss_nil))) (pss_cons (ps_set (i := 3) SC.nd rfl (Or.inl rfl) (pe_lst (pa_cons (pe_err (U.t 14 (by decide)) (U.ok 14 (by decide)) (hr.mono (by decide)) (pa_cons (pv 1) pa_nil)) (pa_cons (pe_errK (U.t 14 (by decide)) (U.ok 14 (by decide)) (hr.mono (by decide)) (pk_cons (pv 1) pk_nil)) pa_nil)))) (pss_cons (ps_if (pt_cmpR (kx_neD K hr.units) (pe_lc (own := [("_law_e", 4)]) (g := gName 4) (tt := tYes) (by rfl) SC.nd (kx_piList K (pv 3)) (blkOk_by (own := [("_law_e", 4)]) (N := N_right) (sc := defScope s_right) (by decide +kernel)) (fun _ _ _ _ _ => (pg_name (i := 4) SC.nd rfl (Or.inl rfl))) (fun _ _ _ _ _ => pts_nil) (fun _ _ _ _ _ => (pe_op op_cat (pe_callD D_sorts (hr.mono (by decide)) hg (pa_cons (pv 4) pa_nil)) (pe_lst (pa_cons (pe_callB (kx_repr K hg hr.units) (by rfl) T.z_repr (by decide +kernel) (pa_cons (kx_errfld K (pv 4)) pa_nil)) pa_nil))))) (pe_op op_rep (pe_lst (pa_cons (pe_lst (pa_cons pe_int (pa_cons pe_int (pa_cons pe_int (pa_cons (pe_callB (kx_repr K hg hr.units) (by rfl) T.z_repr (by decide +kernel) (pa_cons (pv 1) pa_nil)) pa_nil))))) pa_nil)) pe_int) (nomark _)) (pss_one (ps_ret pe_bl)) pss_nil) (pss_cons (ps_set (i := 3) SC.nd rfl (Or.inl rfl) (pe_lst (pa_cons (pe_err (U.t 15 (by decide)) (U.ok 15 (by decide)) (hr.mono (by decide)) (pa_cons (pv 1) pa_nil)) (pa_cons (pe_errK (U.t 15 (by decide)) (U.ok 15 (by decide)) (hr.mono (by decide)) (pk_cons (pv 1) pk_nil)) pa_nil)))) (pss_cons (ps_if (pt_cmpR (kx_neD K hr.units) (pe_lc (own := [("_law_e", 4)]) (g := gName 4) (tt := tYes) (by rfl) SC.nd (kx_piList K (pv 3)) (blkOk_by (own := [("_law_e", 4)]) (N := N_right) (sc := defScope s_right) (by decide +kernel)) (fun _ _ _ _ _ => (pg_name (i := 4) SC.nd rfl (Or.inl rfl))) (fun _ _ _ _ _ => pts_nil) (fun _ _ _ _ _ => (pe_op op_cat (pe_callD D_sorts (hr.mono (by decide)) hg (pa_cons (pv 4) pa_nil)) (pe_lst (pa_cons (pe_callB (kx_repr K hg hr.units) (by rfl) T.z_repr (by decide +kernel) (pa_cons (kx_errfld K (pv 4)) pa_nil)) pa_nil))))) (pe_op op_rep (pe_lst (pa_cons (pe_lst (pa_cons pe_int (pa_cons pe_int (pa_cons pe_int (pa_cons (pe_callB (kx_repr K hg hr.units) (by rfl) T.z_repr (by decide +kernel) (pa_cons (pv 1) pa_nil)) pa_nil))))) pa_nil)) pe_int) (nomark _)) (pss_one (ps_ret pe_bl)) pss_nil) (pss_cons (ps_for PassesOwn.never rfl (pi_list (pe_lst (pa_cons (pe_tup (pa_cons pe_int (pa_cons (pe_lst (pa_cons (pe_err (U.t 16 (by decide)) (U.ok 16 (by decide)) (hr.mono (by decide)) (pa_cons (pv 1) pa_nil)) (pa_cons (pe_errK (U.t 16 (by decide)) (U.ok 16 (by decide)) (hr.mono (by decide)) (pk_cons (pv 1) pk_nil)) pa_nil))) pa_nil))) (pa_cons (pe_tup (pa_cons pe_int (pa_cons (pe_lst (pa_cons (pe_err (U.t 17 (by decide)) (U.ok 17 (by decide)) (hr.mono (by decide)) (pa_cons (pv 1) pa_nil)) (pa_cons (pe_errK (U.t 17 (by decide)) (U.ok 17 (by decide)) (hr.mono (by decide)) (pk_cons (pv 1) pk_nil)) pa_nil))) pa_nil))) pa_nil)))) (pg_tup (by rfl) (pgs_cons (pg_name (i := 2) SC.nd rfl (Or.inl rfl)) (pgs_cons (pg_name (i := 3) SC.nd rfl (Or.inl rfl)) pgs_nil))) (pss_one (ps_if (pt_cmpR (kx_neD K hr.units) (pe_lc (own := [("_law_e", 4)]) (g := gName 4) (tt := tYes) (by rfl) SC.nd (kx_piList K (pv 3)) (blkOk_by (own := [("_law_e", 4)]) (N := N_right) (sc := defScope s_right) (by decide +kernel)) (fun _ _ _ _ _ => (pg_name (i := 4) SC.nd rfl (Or.inl rfl))) (fun _ _ _ _ _ => pts_nil) (fun _ _ _ _ _ => (pe_op op_cat (pe_callD D_sorts (hr.mono (by decide)) hg (pa_cons (pv 4) pa_nil)) (pe_lst (pa_cons (pe_callB (kx_repr K hg hr.units) (by rfl) T.z_repr (by decide +kernel) (pa_cons (kx_errfld K (pv 4)) pa_nil)) pa_nil))))) (pe_op op_rep (pe_lst (pa_cons (pe_lst (pa_cons (pv 2) (pa_cons pe_int (pa_cons pe_int (pa_cons (pe_callB (kx_repr K hg hr.units) (by rfl) T.z_repr (by decide +kernel) (pa_cons (pv 1) pa_nil)) pa_nil))))) pa_nil)) pe_int) (nomark _)) (pss_one (ps_ret pe_bl)) pss_nil))) (pss_one (ps_ret pe_bl)))))))))), ?_⟩
  have sc : ∀ {te : TE} {σ : L2.St} {H1 : Hp} {v : V} (d : PyData), Ev te σ H1 v → (∀ H2, Dp K H2 v d) → d.showable = true → d.depth ≤ 32 → d.shown.length ≤ 1000 → PyData.strOk d.shown = true → EvP te σ H1 (Some K) := fun d h hd h1 h2 h3 h4 => Ev.pp h fun H2 _ => thing_dp (hd H2) h1 h2 h3 h4
  have things : EvAP _ (start N_right [.ref j]) H (AllP (Some K) 14) :=
    eap_consA (sc .none ev_c (fun _ => .non) (by decide +kernel) (by decide +kernel) (by decide +kernel) (by decide +kernel)) stb_some <|
    eap_consA (sc (.int 0) ev_c (fun _ => .int 0) (by decide +kernel) (by decide +kernel) (by decide +kernel) (by decide +kernel)) stb_some <|
    eap_consA (sc (.int (-3)) (ev_un ev_c ru_neg) (fun _ => .int _) (by decide +kernel) (by decide +kernel) (by decide +kernel) (by decide +kernel)) stb_some <|
    eap_consA (sc (.bool true) ev_c (fun _ => .bl true) (by decide +kernel) (by decide +kernel) (by decide +kernel) (by decide +kernel)) stb_some <|
    eap_consA (sc (.str "a") ev_c (fun _ => .str _) (by decide +kernel) (by decide +kernel) (by decide +kernel) (by decide +kernel)) stb_some <|
    eap_consA (sc (.str "") ev_c (fun _ => .str _) (by decide +kernel) (by decide +kernel) (by decide +kernel) (by decide +kernel)) stb_some <|
    eap_consA (EvP.imp (EvU.p (eu_tup ea_nil (by decide))) fun v H1 _ ⟨p, hv, hp⟩ => by
      subst hv
      exact thing_dp (d := .tuple []) (.tup (st_of hp) .nil) (by decide +kernel) (by decide +kernel) (by decide +kernel) (by decide +kernel)) stb_some <|
    eap_consA (EvP.imp (EvU.p (xs := [.int 1, .int 2]) (eu_tup (ea_cons ev_c (ea_cons ev_c ea_nil)) (by show 2 ≤ 100000; decide))) fun v H1 _ ⟨p, hv, hp⟩ => by
      subst hv
      exact thing_dp (d := .tuple [.int 1, .int 2]) (.tup (st_of hp) (.cons (.int 1) (.cons (.int 2) .nil))) (by decide +kernel) (by decide +kernel) (by decide +kernel) (by decide +kernel)) stb_some <|
    eap_consA (EvP.imp (EvL.p (el_lst ea_nil (by decide))) fun v H1 _ ⟨p, hv, hp⟩ => by
      subst hv
      exact thing_dp (d := .list []) (.lst (sq_of hp) .nil) (by decide +kernel) (by decide +kernel) (by decide +kernel) (by decide +kernel)) stb_some <|
    eap_consA (EvP.imp (EvL.p (xs := [.int 7]) (el_lst (ea_cons ev_c ea_nil) (by show 1 ≤ 100000; decide))) fun v H1 _ ⟨p, hv, hp⟩ => by
      subst hv
      exact thing_dp (d := .list [.int 7]) (.lst (sq_of hp) (.cons (.int 7) .nil)) (by decide +kernel) (by decide +kernel) (by decide +kernel) (by decide +kernel)) stb_some <|
    eap_consA (te := tDNewK) (fun H1 e Q q p hp => q _ _ (Ex.new hp) ⟨_, ⟨.dict [], .inr ⟨p, [], [], rfl, upd_same, rfl, (fun _ z => by cases z), .nil⟩, by decide +kernel, by decide +kernel, by decide +kernel, rfl⟩, by decide +kernel⟩) stb_some <|
    eap_consA (te := tDisp [(tC (.str "a"), tC (.int 1))]) (fun H1 e Q q p hp => ⟨upd_same, [(.inr "a", .int 1)], rfl, by decide, q _ _ (Ex.mut (Ex.new hp) hp) ⟨_, ⟨.dict [(.str "a", .int 1)], .inr ⟨p, _, _, rfl, upd_same, rfl, (fun z hz => by
      rcases List.mem_singleton.mp hz with rfl
      rfl), .cons ⟨.str _, .int 1⟩ .nil⟩, by decide +kernel, by decide +kernel, by decide +kernel, rfl⟩, by decide +kernel⟩⟩) stb_some <|
    eap_consA (sc (.int (10 ^ 30)) (ev_op (x := .int 10) (y := .int 30) (z := .int (10 ^ 30)) ev_c ev_c (rv_I (C := CPow) (g := fun i j => .int (i ^ j.toNat)) (by unfold CPow; decide))) (fun _ => .int _) (by decide +kernel) (by decide +kernel) (by decide +kernel) (by decide +kernel)) stb_some <|
    eap_consA (EvP.imp (evp_tup1 (xs := [.int 0, .int 0]) (eu_tup (ea_cons ev_c (ea_cons ev_c ea_nil)) (by show 2 ≤ 100000; decide))) fun v H1 _ ⟨p, q, hv, hp, hq⟩ => by
      subst hv
      exact thing_dp (d := .tuple [.tuple [.int 0, .int 0]]) (.tup (st_of hp) (.cons (.tup (st_of hq) (.cons (.int 0) (.cons (.int 0) .nil))) .nil)) (by decide +kernel) (by decide +kernel) (by decide +kernel) (by decide +kernel)) stb_some eap_nilA
  have vx : ∀ {σ : L2.St} {H1 : Hp} {x : V}, σ[1]? = some (some x) → EvA (tCons (tVar 1) tNil) σ H1 [x] := fun h => ea_cons (ev_var h) ea_nil
  refine q_asgP (P := Some K) (evp_callD (eap_cons (Ev.p (ev_var rfl)) stb_eq (eap_cons (evp_lst things fun vs _ s => by rw [s.1]; decide) stb_lstAP eap_nil)) fun us H1 x1 hs Q q => ?_) fun x H1 x1 hx => ?_
  · obtain ⟨v, r, rfl, rfl, v2, r2, rfl, ⟨p, vs, H0, rfl, _, _, s, hp, e0⟩, rfl⟩ := hs
    refine ⟨j, p, vs, rfl, x1 _ _ hj, sq_of hp, by rw [s.1]; decide, by rw [s.1]; decide, fun r v H' hv e' => q v H' e' (stb_some _ _ _ (e0.trans e') (s.2 v (List.mem_of_getElem? hv)))⟩
  obtain ⟨y, ty⟩ := hx
  have row : ∀ {i : Nat} {fld : Str} {N : Addr → Prop} {e1 e2 b : Addr} {ta : TE} {z1 z2 : Int} {H2 : Hp} {c1 c2 c4 : Option V}, i < 18 → fldN i = fld → Ex H1 H2 → ErrF N H2 (C i) fld x e1 → ErrF N H2 (C i) fld x e2 → H2 b = some (.lst [.ref e1, .ref e2]) → sortsN i = [(i : Int), z1, z2] →
      (∀ H3, Ev ta [c1, some x, c2, some (.ref b), c4] H3 (.int (i : Int))) →
      EvT (tTest (tOp (rNeD K) (tLc (iList K (tVar 3)) (gName 4) tYes (tOp rCat (tCallD (spSorts C) (tCons (tVar 4) tNil)) (tLst (tCons (tCB (rRepr K) (tCons (tErrFld K (tVar 4) fld) tNil)) tNil))) [4]) (tOp rRep (tLst (tCons (tLst (tCons ta (tCons (tC (.int z1)) (tCons (tC (.int z2)) (tCons (tCB (rRepr K) (tCons (tVar 1) tNil)) tNil))))) tNil)) (tC (.int 2))))) [c1, some x, c2, some (.ref b), c4] H2 false :=
    fun {i fld N e1 e2 b ta z1 z2 H2 c1 c2 c4} hi hf x2 g1 g2 hb hs hta =>
    et_rows U hi hf (ty.mono x2) g1 g2 hb rfl (fun z => rfl) (fun z => rfl) (fun H3 x3 => by
      rw [hs]
      exact ea_cons (hta H3) (ea_cons ev_c (ea_cons ev_c (ea_cons (ev_cb (vx rfl) ((ty.mono x2).mono x3).rc) ea_nil)))) (by rw [hs]; exact (by decide : 3 ≤ 100))
  have pull : ∀ {c n fld p H2 rows} {i : Nat} {r : V}, Rows C fld x (· ≠ p) H2 rows c → rows.length = n → rows[i]? = some r → i < n ∧ ∃ b e1 e2, r = .ref b ∧ H2 b = some (.lst [.ref e1, .ref e2]) ∧ ErrF (· ≠ p) H2 (C (c + i)) fld x e1 ∧ ErrF (· ≠ p) H2 (C (c + i)) fld x e2 := fun hr hl hi => by
    obtain ⟨b, e1, e2, h1, h2, _, h3, h4⟩ := hr _ _ hi
    have := (List.getElem?_eq_some_iff.mp hi).1
    exact ⟨by omega, b, e1, e2, h1, h2, h3, h4⟩
  -- the errors with a value
  refine q_forE (P := fun u H' => ∃ p, u = .ref p ∧ Grown C "given" x 0 p H' 10) (Pv := fun p rows i σ' H' => Ex H1 H' ∧ H' p = some (.lst rows) ∧ Rows C "given" x (· ≠ p) H' rows 0 ∧ ∃ c2 c3 c4, σ' = [some (.ref j), some x, c2, c3, c4]) ?_ ?_
  · exact evp_callD (EvA.p (vx rfl)) fun us H2 x2 hs Q q => by
      subst hs
      exact ⟨x, rfl, fun p H' e g => q _ _ e ⟨p, rfl, g⟩⟩
  · rintro _ H2 x2 ⟨p, rfl, rows, hp, hl, hr⟩
    refine ⟨p, rows, rfl, sq_of hp, ⟨x2, hp, hr, _, _, _, rfl⟩, fun i σ' H' _ h => sq_of h.2.1, ?_, ?_⟩
    · rintro i r T σ' H' hi ⟨y1, y2, y3, c2, c3, c4, rfl⟩ hT
      obtain ⟨hi10, b, e1, e2, rfl, hb, g1, g2⟩ := pull y3 hl hi
      rw [Nat.zero_add] at g1 g2
      have xt : Ex H' (upd H' T (.tup [.int (i : Nat), .ref b])) := Ex.new hT
      refine g_tup (st_of upd_same) rfl (g_cons (g_name (g_cons (g_name (g_nil ?_)))))
      refine s_when (row (by omega) (fld_given hi10) (y1.trans xt) (g1.keep fun b o _ z => xt b o z) (g2.keep fun b o _ z => xt b o z) (xt _ _ hb) (n_given hi10) (fun H3 => ev_var rfl)) (fun h => by cases h) fun _ H3 x3 => ?_
      have x4 := xt.trans x3
      exact ⟨y1.trans x4, x4 _ _ y2, y3.keep fun b o _ z => x4 b o z, _, _, _, rfl⟩
    · rintro σ' H3 ⟨x3, _, _, c2, c3, c4, rfl⟩
      -- the errors with an index
      refine q_forE (P := fun u H' => ∃ p, u = .ref p ∧ Grown C "index" x 10 p H' 4) (Pv := fun p rows i σ' H' => Ex H1 H' ∧ H' p = some (.lst rows) ∧ Rows C "index" x (· ≠ p) H' rows 10 ∧ ∃ c2 c3 c4, σ' = [some (.ref j), some x, c2, c3, c4]) ?_ ?_
      · exact evp_callD (EvA.p (vx rfl)) fun us H2 x2 hs Q q => by
          subst hs
          exact ⟨x, rfl, fun p H' e g => q _ _ e ⟨p, rfl, g⟩⟩
      · rintro _ H2 x2 ⟨p, rfl, rows, hp, hl, hr⟩
        refine ⟨p, rows, rfl, sq_of hp, ⟨x3.trans x2, hp, hr, _, _, _, rfl⟩, fun i σ' H' _ h => sq_of h.2.1, ?_, ?_⟩
        · rintro i r T σ' H' hi ⟨y1, y2, y3, c2, c3, c4, rfl⟩ hT
          obtain ⟨hi4, b, e1, e2, rfl, hb, g1, g2⟩ := pull y3 hl hi
          have xt : Ex H' (upd H' T (.tup [.int (i : Nat), .ref b])) := Ex.new hT
          refine g_tup (st_of upd_same) rfl (g_cons (g_name (g_cons (g_name (g_nil ?_)))))
          refine s_when (row (i := 10 + i) (by omega) (fld_index hi4) (y1.trans xt) (g1.keep fun b o _ z => xt b o z) (g2.keep fun b o _ z => xt b o z) (xt _ _ hb) (n_index hi4) (fun H3 => ev_op ev_c (ev_var rfl) rv_I0)) (fun h => by cases h) fun _ H3 x3 => ?_
          have x4 := xt.trans x3
          exact ⟨y1.trans x4, x4 _ _ y2, y3.keep fun b o _ z => x4 b o z, _, _, _, rfl⟩
        · rintro σ' H4 ⟨x4, _, _, c2, c3, c4, rfl⟩
          -- UnknownName, TooGreat
          refine q_asgP (P := fun u H' => RowF (fun _ => True) H' (C 14) "given" x u) (EvP.imp (evp_row (vx rfl) (vx rfl)) fun u H' _ h => h.imp fun _ _ _ _ => True.intro) fun u H5 x5 hu => ?_
          obtain ⟨b, e1, e2, rfl, hb, _, g1, g2⟩ := hu
          refine q_when (row (i := 14) (by decide) rfl (x4.trans x5) g1 g2 hb n_14 (fun H3 => ev_c)) (fun h => by cases h) fun _ H6 x6 => ?_
          refine q_asgP (P := fun u H' => RowF (fun _ => True) H' (C 15) "given" x u) (EvP.imp (evp_row (vx rfl) (vx rfl)) fun u H' _ h => h.imp fun _ _ _ _ => True.intro) fun u H7 x7 hu => ?_
          obtain ⟨b, e1, e2, rfl, hb, _, g1, g2⟩ := hu
          have xx7 := ((x4.trans x5).trans x6).trans x7
          refine q_when (row (i := 15) (by decide) rfl xx7 g1 g2 hb n_15 (fun H3 => ev_c)) (fun h => by cases h) fun _ H8 x8 => ?_
          have xx8 := xx7.trans x8
          -- Broken, InUse
          refine q_forLP (P := fun u H' => ∃ p t1 t2 r1 r2, u = .ref p ∧ H' p = some (.lst [.ref t1, .ref t2]) ∧ H' t1 = some (.tup [.int 16, r1]) ∧ H' t2 = some (.tup [.int 17, r2]) ∧ RowF (fun _ => True) H' (C 16) "index" x r1 ∧ RowF (fun _ => True) H' (C 17) "index" x r2) (Pv := fun p xs i σ' H' => Ex H1 H' ∧ (∃ t1 t2 r1 r2, xs = [.ref t1, .ref t2] ∧ H' p = some (.lst [.ref t1, .ref t2]) ∧ H' t1 = some (.tup [.int 16, r1]) ∧ H' t2 = some (.tup [.int 17, r2]) ∧ RowF (fun _ => True) H' (C 16) "index" x r1 ∧ RowF (fun _ => True) H' (C 17) "index" x r2) ∧ ∃ c2 c3 c4, σ' = [some (.ref j), some x, c2, c3, c4]) ?_ ?_
          · refine EvP.imp (evp_lst (eap_cons (evp_tup2 (c := .int 16) (evp_row (C := C 16) (fld := "index") (x := x) (vx rfl) (vx rfl)) stb_row) (stb_tup2 stb_row) (eap_cons (evp_tup2 (c := .int 17) (evp_row (C := C 17) (fld := "index") (x := x) (vx rfl) (vx rfl)) stb_row) (stb_tup2 stb_row) eap_nil)) fun vs _ s => ?_) fun u H' _ s => ?_
            · obtain ⟨_, _, rfl, _, _, _, rfl, _, rfl⟩ := s
              exact (by decide : 2 ≤ 100000)
            · obtain ⟨p, vs, H0, rfl, e0, hp, ⟨_, _, rfl, ⟨t1, r1, rfl, g1, g2⟩, _, _, rfl, ⟨t2, r2, rfl, g3, g4⟩, rfl⟩, h1, e1⟩ := s
              exact ⟨p, t1, t2, r1, r2, rfl, h1, e1 _ _ g1, e1 _ _ g3, (g2.keep fun b o _ z => e1 b o z).imp fun _ _ _ _ => True.intro, (g4.keep fun b o _ z => e1 b o z).imp fun _ _ _ _ => True.intro⟩
          · rintro _ H2 x2 ⟨p, t1, t2, r1, r2, rfl, h1, h2, h3, h4, h5⟩
            refine ⟨p, [.ref t1, .ref t2], rfl, sq_of h1, ⟨xx8.trans x2, ⟨t1, t2, r1, r2, rfl, h1, h2, h3, h4, h5⟩, _, _, _, rfl⟩, ?_, ?_, ?_⟩
            · rintro i σ' H' _ ⟨_, ⟨t1', t2', r1', r2', hx, g1, _⟩, _⟩
              rw [hx]
              exact sq_of g1
            · rintro i r σ' H' hi ⟨y1, ⟨t1', t2', r1', r2', hx, g1, g2, g3, g4, g5⟩, c2, c3, c4, rfl⟩
              rw [hx] at hi
              match i, hi with
              | 0, hi =>
                cases hi
                obtain ⟨b, e1, e2, rfl, hb, _, k1, k2⟩ := g4
                refine g_tup (st_of g2) rfl (g_cons (g_name (g_cons (g_name (g_nil ?_)))))
                refine s_when (row (i := 16) (by decide) rfl y1 k1 k2 hb n_16 (fun H3 => ev_var rfl)) (fun h => by cases h) fun _ H3 x3 => ?_
                exact ⟨y1.trans x3, ⟨t1', t2', _, r2', hx, x3 _ _ g1, x3 _ _ g2, x3 _ _ g3, ⟨b, e1, e2, rfl, x3 _ _ hb, True.intro, k1.keep fun b o _ z => x3 b o z, k2.keep fun b o _ z => x3 b o z⟩, g5.keep fun b o _ z => x3 b o z⟩, _, _, _, rfl⟩
              | 1, hi =>
                cases hi
                obtain ⟨b, e1, e2, rfl, hb, _, k1, k2⟩ := g5
                refine g_tup (st_of g3) rfl (g_cons (g_name (g_cons (g_name (g_nil ?_)))))
                refine s_when (row (i := 17) (by decide) rfl y1 k1 k2 hb n_17 (fun H3 => ev_var rfl)) (fun h => by cases h) fun _ H3 x3 => ?_
                exact ⟨y1.trans x3, ⟨t1', t2', r1', _, hx, x3 _ _ g1, x3 _ _ g2, x3 _ _ g3, g4.keep fun b o _ z => x3 b o z, ⟨b, e1, e2, rfl, x3 _ _ hb, True.intro, k1.keep fun b o _ z => x3 b o z, k2.keep fun b o _ z => x3 b o z⟩⟩, _, _, _, rfl⟩
            · rintro σ' H9 ⟨x9, _, c2, c3, c4, rfl⟩
              exact s_ret ev_c fun H10 x10 => k H10 ((x1.trans x9).trans x10)
end
end K01

namespace K01
open PySem PySem.Spec PyProof.Rows L2 Evl Lay ErrX
structure Txt4 (mg : Str → Option Value) : Prop extends Txt3 mg where
  z_all : mg "all" = none
  z_max : mg "max" = none
  z_min : mg "min" = none
  m_MOST_CELLS : ∃ t, mg "MOST_CELLS" = some (.int 24 t)
  m_MOST_PLACE : ∃ t, mg "MOST_PLACE" = some (.int 1000 t)
  m_MOST_LATTICE : ∃ t, mg "MOST_LATTICE" = some (.int 100 t)
  m_MOST_ROLLED : ∃ t, mg "MOST_ROLLED" = some (.int 36 t)
  m_MOST_SHAPES : ∃ t, mg "MOST_SHAPES" = some (.int 20 t)
  m_MOST_SHOVES : ∃ t, mg "MOST_SHOVES" = some (.int 24 t)
theorem pe_gint {X : Cx} {x : Str} {n : Int} {pos : Pos} (hm : ∃ t, X.mg x = some (.int n t)) (hg : Gl X x := by rfl) (hd : (x == ("__debug__" : Str)) = false := by decide) : PE X (.Name x pos) (tC (.int n)) := by
  obtain ⟨t, h⟩ := hm
  exact pe_glob hg h ⟨t, rfl⟩ hd
section
variable {σ : L2.St} {H : Hp} {te : TE} {ta : TA} {K : PySem.W.Frag}
/-- C(): a new error, no dict -/
theorem evp_err0 {C : Addr} : EvP (tErr0 C) σ H (fun u H' => ∃ e, u = .ref e ∧ ErrAt H' e C) := fun H1 e Q q p hp => q _ _ (Ex.new hp) ⟨p, rfl, none, upd_same, fun _ z => by cases z⟩
theorem stb_at {C : Addr} : Stb (fun u H' => ∃ e, u = .ref e ∧ ErrAt H' e C) := fun _ _ _ x ⟨e, h1, h2⟩ => ⟨e, h1, errat_ex x h2⟩
/-- repr of a new list -/
theorem ev_reprN {xs : List V} {d : PyData} (h : EvL te σ H xs) (hd : ∀ p H1, H1 p = some (.lst xs) → Dp K H1 (.ref p) d) (h1 : d.showable = true) (h2 : d.depth ≤ 32) (h3 : d.shown.length ≤ 1000) : Ev (tCB (rRepr K) (tCons te tNil)) σ H (.str d.shown) := fun H1 e Q q =>
  h H1 e _ fun p H2 _ e2 hp => ⟨.ref p, d, rfl, .inl (hd p H2 hp), h1, h2, sz_of (by omega), q H2 e2⟩
theorem ev_reprV {xs : List V} {d : PyData} {p : Addr} (h : Ev te σ H (.ref p)) (hp : H p = some (.lst xs)) (hd : ∀ H1, H1 p = some (.lst xs) → Dp K H1 (.ref p) d) (h1 : d.showable = true) (h2 : d.depth ≤ 32) (h3 : d.shown.length ≤ 1000) : Ev (tCB (rRepr K) (tCons te tNil)) σ H (.str d.shown) :=
  ev_cb (ea_cons h ea_nil) (rc_repr (.inl (hd H hp)) h1 h2 (sz_of (by omega)))
theorem dp_ints {H : Hp} {p : Addr} (ns : List Int) (h : H p = some (.lst (ns.map V.int))) : Dp K H (.ref p) (.list (ns.map PyData.int)) := .lst (sq_of h) (dpA_ints ns)
theorem el_ints {a : Int} {ns : List Int} (h : EvA ta σ H (ns.map V.int)) : EvA (tCons (tC (.int a)) ta) σ H ((a :: ns).map V.int) := ea_cons ev_c h
/-- [a, ..]: a new list of ints -/
theorem evp_ints {ns : List Int} (h : EvA ta σ H (ns.map V.int)) (hl : ns.length ≤ 100) : EvP (tLst ta) σ H (fun u H' => Dp K H' u (.list (ns.map PyData.int))) := EvP.imp (EvL.p (el_lst h (by rw [List.length_map]; omega))) fun u H1 _ ⟨p, hu, hp⟩ => by
  subst hu
  exact dp_ints ns hp
theorem stb_dp {d : PyData} : Stb (fun u H' => Dp K H' u d) := fun _ _ _ e h => dp_ex e h
theorem eap_dpA {tb : TA} {d : PyData} {ds : List PyData} (h : EvP te σ H (fun u H' => Dp K H' u d)) (hs : EvAP tb σ H (fun vs H' => DpAll K H' vs ds ∧ vs.length ≤ 100)) : EvAP (tCons te tb) σ H (fun vs H' => DpAll K H' vs (d :: ds) ∧ vs.length ≤ 101) := fun H1 e Q q =>
  eap_cons h stb_dp hs H1 e Q fun vs H2 e2 ⟨v, r, hv, p1, p2, p3⟩ => by
    subst hv
    exact q _ H2 e2 ⟨.cons p1 p2, by rw [List.length_cons]; omega⟩
end
theorem dpA_of {K : PySem.W.Frag} {H : Hp} : ∀ (rs : List V) (f : Nat → PyData), (∀ i r, rs[i]? = some r → Dp K H r (f i)) → DpAll K H rs ((List.range rs.length).map f)
  | [], _, _ => .nil
  | r :: rs, f, h => by
    rw [List.length_cons, List.range_succ_eq_map, List.map_cons, List.map_map]
    exact .cons (h 0 r rfl) (dpA_of rs (fun i => f (i + 1)) fun i r' hi => h (i + 1) r' hi)
theorem ev_allN {K : PySem.W.Frag} {σ : L2.St} {H : Hp} {te : TE} {n : Nat} (h : EvL te σ H (given n (fun _ => true) (fun _ => .bl true))) : Ev (tCB (rAll K) (tCons te tNil)) σ H (.bl true) := fun H1 e Q q =>
  h H1 e _ fun p H2 _ e2 hp => ⟨p, ((List.range n).filter fun _ => true).map fun _ => true, rfl, sq_of (by
      rw [hp]
      unfold given
      rw [List.map_map]
      rfl), by
    rw [show ((((List.range n).filter fun _ => true).map fun _ => true).all id) = true from List.all_eq_true.mpr fun b hb => by
      obtain ⟨_, _, rfl⟩ := List.mem_map.mp hb
      rfl]
    exact q H2 e2⟩
theorem rc_min2 {H : Hp} {i j : Int} : RC (fun xs H Q => ∃ i j, xs = [V.int i, V.int j] ∧ Q (V.int (if j < i then j else i)) H) [.int i, .int j] H (.int (if j < i then j else i)) := fun H1 _ Q q => ⟨i, j, rfl, q H1 (Ex.refl H1)⟩
def dueD : PyData := .list [.list ([18, 52, 55].map PyData.int), .list ([19, 52, 55].map PyData.int), .list ([20, 52, 55].map PyData.int), .list ([50, 53].map PyData.int), .list ([51, 54].map PyData.int), .list ([52, 55].map PyData.int)]
theorem due_shaped : SeqAt.shaped dueD = true := by decide +kernel
section
variable {P : Program} {w : World} {K : PySem.W.Frag} {mg : Str → Option Value} {base : Heap} {C fI : Nat → Addr}
abbrev s_law : Stmt := top 39
abbrev N_law : List Str := ["_law_cells", "_law_told", "_law_bare", "_law_due", "_law_e", "_law_turn"]
abbrev P_law : List Str := ["_law_cells"]
theorem sc_law : FnScope N_law P_law (defScope s_law) := ⟨rfl, rfl, rfl, by decide +kernel, rfl, by decide +kernel, by decide +kernel⟩

def spLaw (K : PySem.W.Frag) : Sp := fun vs H Q _ => ∃ (a : Addr) (ns : List Int), vs = [.ref a] ∧ SqL K H a (ns.map V.int) ∧ ns.length ≤ 63 ∧ ∀ H', Ex H H' → Q (.bl true) H'
theorem d_law (D : DefIn K mg "law" s_law P_law) (T : Txt4 mg) (U : Errs P K mg C fI) (D_jar : DefOk P w K mg base "_law_jar" 1 P_jar (spJar K)) (D_sorts : DefOk P w K mg base "_law_sorts" 1 P_sorts (spSorts C)) (D_right : DefOk P w K mg base "_law_right" 4 P_right spRight) : DefOk P w K mg base "law" 5 P_law (spLaw K) := by
  refine defok D sc_law (fun vs H Q E h => ?_) (fun f cdv A outer s H vs Q E hr hg h => ?_)
  · obtain ⟨a, ns, rfl, _⟩ := h
    rfl
  obtain ⟨a, ns, rfl, ha, hn, k⟩ := h
  have SC := sc_law
  refine ⟨_, (pss_cons (ps_set (i := 1) SC.nd rfl (Or.inl rfl) (pe_lst (pa_cons (pe_gint T.m_MOST_CELLS) (pa_cons (pe_gint T.m_MOST_PLACE) (pa_cons (pe_gint T.m_MOST_LATTICE) (pa_cons (pe_gint T.m_MOST_ROLLED) (pa_cons (pe_gint T.m_MOST_SHAPES) (pa_cons (pe_gint T.m_MOST_SHOVES) pa_nil)))))))) (pss_cons (ps_if (pt_cmpR op_ne (pe_callB (kx_repr K hg hr.units) (by rfl) T.z_repr (by decide +kernel) (pa_cons (pv 1) pa_nil)) (pe_callB (kx_repr K hg hr.units) (by rfl) T.z_repr (by decide +kernel) (pa_cons (pe_lst (pa_cons pe_int (pa_cons pe_int (pa_cons pe_int (pa_cons pe_int (pa_cons pe_int (pa_cons pe_int pa_nil))))))) pa_nil)) (nomark _)) (pss_one (ps_ret pe_bl)) pss_nil) (pss_cons (ps_set (i := 2) SC.nd rfl (Or.inl rfl) (pe_lst (pa_cons (pe_err0 (U.t 18 (by decide)) (U.ok0 18 (by decide) (by decide)) (hr.mono (by decide))) (pa_cons (pe_err0 (U.t 19 (by decide)) (U.ok0 19 (by decide) (by decide)) (hr.mono (by decide))) (pa_cons (pe_err0 (U.t 20 (by decide)) (U.ok0 20 (by decide) (by decide)) (hr.mono (by decide))) (pa_cons (pe_err0 (U.t 21 (by decide)) (U.ok0 21 (by decide) (by decide)) (hr.mono (by decide))) (pa_cons (pe_err0 (U.t 22 (by decide)) (U.ok0 22 (by decide) (by decide)) (hr.mono (by decide))) (pa_cons (pe_err0 (U.t 23 (by decide)) (U.ok0 23 (by decide) (by decide)) (hr.mono (by decide))) pa_nil)))))))) (pss_cons (ps_set (i := 3) SC.nd rfl (Or.inl rfl) (pe_lst (pa_cons (pe_lst (pa_cons pe_int (pa_cons pe_int (pa_cons pe_int pa_nil)))) (pa_cons (pe_lst (pa_cons pe_int (pa_cons pe_int (pa_cons pe_int pa_nil)))) (pa_cons (pe_lst (pa_cons pe_int (pa_cons pe_int (pa_cons pe_int pa_nil)))) (pa_cons (pe_lst (pa_cons pe_int (pa_cons pe_int pa_nil))) (pa_cons (pe_lst (pa_cons pe_int (pa_cons pe_int pa_nil))) (pa_cons (pe_lst (pa_cons pe_int (pa_cons pe_int pa_nil))) pa_nil)))))))) (pss_cons (ps_if (pt_cmpR (kx_neD K hr.units) (pe_lc (own := [("_law_e", 4)]) (g := gName 4) (tt := tYes) (by rfl) SC.nd (pi_list (pv 2)) (blkOk_by (own := [("_law_e", 4)]) (N := N_law) (sc := defScope s_law) (by decide +kernel)) (fun _ _ _ _ _ => (pg_name (i := 4) SC.nd rfl (Or.inl rfl))) (fun _ _ _ _ _ => pts_nil) (fun _ _ _ _ _ => (pe_callD D_sorts (hr.mono (by decide)) hg (pa_cons (pv 4) pa_nil)))) (pv 3) (nomark _)) (pss_one (ps_ret pe_bl)) pss_nil) (pss_one (ps_ret (pe_callB (cr_all rfl) (by rfl) T.z_all (by decide +kernel) (pa_cons (pe_lc (own := [("_law_turn", 5)]) (g := gName 5) (tt := tYes) (by rfl) SC.nd (pi_range1 (by rfl) T.z_range (pa_cons (pe_callB (call_max2 rfl) (by rfl) T.z_max (by decide +kernel) (pa_cons pe_int (pa_cons (pe_callB (call_min2 rfl) (by rfl) T.z_min (by decide +kernel) (pa_cons (pe_callB call_len (by rfl) T.z_len (by decide +kernel) (pa_cons (pv 0) pa_nil)) (pa_cons pe_int pa_nil))) pa_nil))) pa_nil)) (blkOk_by (own := [("_law_turn", 5)]) (N := N_law) (sc := defScope s_law) (by decide +kernel)) (fun _ _ _ _ _ => (pg_name (i := 5) SC.nd rfl (Or.inl rfl))) (fun _ _ _ _ _ => pts_nil) (fun _ _ _ _ _ => (pe_callD D_right (hr.mono (by decide)) hg (pa_cons (pe_callD D_jar (hr.mono (by decide)) hg (pa_cons (pv 0) (pa_cons (pv 5) pa_nil))) pa_nil)))) pa_nil))))))))), ?_⟩
  refine q_asgL (xs := [24, 1000, 100, 36, 20, 24].map V.int) (el_lst (ea_cons ev_c (ea_cons ev_c (ea_cons ev_c (ea_cons ev_c (ea_cons ev_c (ea_cons ev_c ea_nil)))))) (by decide)) fun p H1 _ x1 h1 => ?_
  refine q_when (b := false) ?_ (fun h => by cases h) fun _ H2 x2 => ?_
  · refine et_test (ev_op (x := .str (PyData.shown (.list ([24, 1000, 100, 36, 20, 24].map PyData.int)))) (ev_reprV (ev_var rfl) h1 (fun H2 h => dp_ints _ h) (by decide +kernel) (by decide +kernel) (by decide +kernel)) (ev_reprN (xs := [24, 1000, 100, 36, 20, 24].map V.int) (el_lst (ea_cons ev_c (ea_cons ev_c (ea_cons ev_c (ea_cons ev_c (ea_cons ev_c (ea_cons ev_c ea_nil)))))) (by decide)) (fun p H2 h => dp_ints _ h) (by decide +kernel) (by decide +kernel) (by decide +kernel)) ?_)
    have := rv_ne (H := H1) (x := .str (PyData.shown (.list ([24, 1000, 100, 36, 20, 24].map PyData.int)))) (y := .str (PyData.shown (.list ([24, 1000, 100, 36, 20, 24].map PyData.int)))) rfl
    rw [decide_eq_true rfl] at this
    exact this
  have x02 := x1.trans x2
  refine q_asgP (evp_lst (eap_cons (evp_err0 (C := C 18)) stb_at (eap_cons (evp_err0 (C := C 19)) stb_at (eap_cons (evp_err0 (C := C 20)) stb_at (eap_cons (evp_err0 (C := C 21)) stb_at (eap_cons (evp_err0 (C := C 22)) stb_at (eap_cons (evp_err0 (C := C 23)) stb_at eap_nil)))))) fun vs _ s => ?_) fun u H3 x3 hu => ?_
  · obtain ⟨_, _, rfl, _, _, _, rfl, _, _, _, rfl, _, _, _, rfl, _, _, _, rfl, _, _, _, rfl, _, rfl⟩ := s
    exact (by decide : 6 ≤ 100000)
  obtain ⟨pb, vs, H0, rfl, _, _, s, hp, e0⟩ := hu
  have hbare : vs.length = 6 ∧ ∀ i z, vs[i]? = some z → i < 6 ∧ ∃ e, z = .ref e ∧ ErrAt H3 e (C (18 + i)) := by
    obtain ⟨_, _, rfl, ⟨b0, rfl, g0⟩, _, _, rfl, ⟨b1, rfl, g1⟩, _, _, rfl, ⟨b2, rfl, g2⟩, _, _, rfl, ⟨b3, rfl, g3⟩, _, _, rfl, ⟨b4, rfl, g4⟩, _, _, rfl, ⟨b5, rfl, g5⟩, rfl⟩ := s
    refine ⟨rfl, fun i z hz => ?_⟩
    match i, hz with
    | 0, hz => cases hz; exact ⟨by decide, b0, rfl, errat_ex e0 g0⟩
    | 1, hz => cases hz; exact ⟨by decide, b1, rfl, errat_ex e0 g1⟩
    | 2, hz => cases hz; exact ⟨by decide, b2, rfl, errat_ex e0 g2⟩
    | 3, hz => cases hz; exact ⟨by decide, b3, rfl, errat_ex e0 g3⟩
    | 4, hz => cases hz; exact ⟨by decide, b4, rfl, errat_ex e0 g4⟩
    | 5, hz => cases hz; exact ⟨by decide, b5, rfl, errat_ex e0 g5⟩
  have x03 := x02.trans x3
  refine q_asgP (P := fun u H' => Dp K H' u dueD) (EvP.imp (evp_lst (eap_cons (evp_ints (K := K) (ns := [18, 52, 55]) (ea_cons ev_c (ea_cons ev_c (ea_cons ev_c ea_nil))) (by decide)) stb_dp (eap_cons (evp_ints (K := K) (ns := [19, 52, 55]) (ea_cons ev_c (ea_cons ev_c (ea_cons ev_c ea_nil))) (by decide)) stb_dp (eap_cons (evp_ints (K := K) (ns := [20, 52, 55]) (ea_cons ev_c (ea_cons ev_c (ea_cons ev_c ea_nil))) (by decide)) stb_dp
    (eap_cons (evp_ints (K := K) (ns := [50, 53]) (ea_cons ev_c (ea_cons ev_c ea_nil)) (by decide)) stb_dp (eap_cons (evp_ints (K := K) (ns := [51, 54]) (ea_cons ev_c (ea_cons ev_c ea_nil)) (by decide)) stb_dp (eap_cons (evp_ints (K := K) (ns := [52, 55]) (ea_cons ev_c (ea_cons ev_c ea_nil)) (by decide)) stb_dp eap_nil)))))) fun vs _ s => ?_) fun u H' _ s => ?_) fun u H4 x4 hu => ?_
  · obtain ⟨_, _, rfl, _, _, _, rfl, _, _, _, rfl, _, _, _, rfl, _, _, _, rfl, _, _, _, rfl, _, rfl⟩ := s
    exact (by decide : 6 ≤ 100000)
  · obtain ⟨pb, vs, H0, rfl, _, _, s, hp, e0⟩ := s
    obtain ⟨_, _, rfl, g0, _, _, rfl, g1, _, _, rfl, g2, _, _, rfl, g3, _, _, rfl, g4, _, _, rfl, g5, rfl⟩ := s
    exact .lst (sq_of hp) (.cons (dp_ex e0 g0) (.cons (dp_ex e0 g1) (.cons (dp_ex e0 g2) (.cons (dp_ex e0 g3) (.cons (dp_ex e0 g4) (.cons (dp_ex e0 g5) .nil))))))
  refine q_when (b := false) ?_ (fun h => by cases h) fun _ H5 x5 => ?_
  · refine et_test (evp_ev (evp_op (S := fun u _ => u = .bl false) (evp_lcLL (xs := vs) (fun i => (sortsN (18 + i)).map V.int) (ev_var rfl) (sq_of (x4 _ _ hp)) (by rw [hbare.1]; decide) (fun z => rfl) fun m z H5 x5 hz => ?_) stb_LL (R := fun v H' => Dp K H' v dueD) (Ev.pp (ev_var rfl) fun H5 x5 => dp_ex x5 hu) fun u v H5 x5 pu pv Q q => ?_) fun u H1 _ h => h)
    · obtain ⟨hm, e, rfl, he⟩ := hbare.2 m z hz
      rw [← sorts_n]
      exact el_callD (ea_cons (ev_var rfl) ea_nil) fun H6 x6 Q q E => ⟨e, 18 + m, rfl, by omega, errat_ex ((x4.trans x5).trans x6) he, fun p H' hp e' h' => q p H' hp e' h'⟩
    · have hd : Dp K H5 u dueD := by
        obtain ⟨D, rs, rfl, hD, hl, hr⟩ := pu
        rw [hbare.1] at hl
        have := dpA_of (K := K) (H := H5) rs (fun i => .list ((sortsN (18 + i)).map PyData.int)) fun i r hi => by
          obtain ⟨q, rfl, _, hq⟩ := hr i r hi
          exact dp_ints _ hq
        rw [hl] at this
        exact .lst (sq_of hD) this
      refine rv_neD hd pv due_shaped due_shaped H5 (Ex.refl H5) Q fun H6 x6 => q _ H6 x6 ?_
      rw [SeqAt.eqv_refl _ (SeqAt.canLay_of_shaped due_shaped)]
      rfl
  have x05 := (x03.trans x4).trans x5
  have mx : 2 ≤ (if (if (6 : Int) < ((ns.map V.int).length : Nat) then (6 : Int) else ((ns.map V.int).length : Nat)) > 2 then (if (6 : Int) < ((ns.map V.int).length : Nat) then (6 : Int) else ((ns.map V.int).length : Nat)) else 2) ∧ (if (if (6 : Int) < ((ns.map V.int).length : Nat) then (6 : Int) else ((ns.map V.int).length : Nat)) > 2 then (if (6 : Int) < ((ns.map V.int).length : Nat) then (6 : Int) else ((ns.map V.int).length : Nat)) else 2) ≤ 6 := by
    split <;> split <;> omega
  refine s_ret (v := .bl true) (ev_allN (K := K) (el_lcR1 (fun _ => true) (fun _ => .bl true) (ea_cons (ev_max2 ev_c (ev_cb (ea_cons (ev_cb (ea_cons (ev_var rfl) ea_nil) (rc_lenL (ex_l x05 ha))) (ea_cons ev_c ea_nil)) rc_min2)) ea_nil) (by omega) (fun z => rfl) (fun i H7 x7 hi => ?_) (fun i H7 x7 hi _ => ?_))) fun H6 x6 => k H6 (x05.trans x6)
  · exact fun H8 x8 Q q => q H8 (Ex.refl H8)
  · refine evp_ev (evp_callD (P := fun u _ => u = .bl true) (eap_cons (evp_callD (P := fun u H' => ∃ p, u = .ref p ∧ H' p = some (jarO p)) (EvA.p (ea_cons (ev_var rfl) (ea_cons (ev_var rfl) ea_nil))) fun us H8 x8 hs Q q => ?_) (fun _ _ _ e ⟨p, h1, h2⟩ => ⟨p, h1, e _ _ h2⟩) eap_nil) fun us H8 x8 hs Q q => ?_) fun u H1 _ h => h
    · subst hs
      exact ⟨a, ns, i, rfl, ex_l ((x05.trans x7).trans x8) ha, hn, by omega, fun p H' hp e h => q _ _ e ⟨p, rfl, h⟩⟩
    · obtain ⟨v, r, rfl, ⟨p, rfl, hp⟩, rfl⟩ := hs
      exact ⟨p, rfl, hp, fun H' e => q _ _ e rfl⟩
end
end K01

namespace K01
open PySem PySem.Spec PyProof.Rows L2 Evl Lay ErrX
open PySem.W (Frag nsIn findIn keepIn isFn clsIn subIn mroIn typeIn specialIn takesIn takerIn fnIn hasDictIn excInitIn excOver kitOne ks_superIn codeIn)
/-! ### what the written part says of the error classes, asked at once -/
def bT : Nat → String
  | 0 => "ValueError" | 1 => "LookupError" | _ => "ArithmeticError"
def bM (b : String) : List Value := [.type b, .type "Exception", .type "BaseException", .type "object"]
def chk1 (K : Frag) (C f D g : Addr) (i : Nat) (C' : Nat → Addr) : Bool :=
  nsIn K mainGlobals (errN i) == some (some (.ref C)) && keepIn K (.ref C) && findIn K (.ref C) "__init__" == some (some (.ref f)) && isFn K (.ref f) &&
  (clsIn K C).isSome && findIn K (.ref C) "__getattribute__" == some (some (.builtin "BaseException.__getattribute__")) && findIn K (.ref C) "__getattr__" == some none && subIn K (.ref C) (.type "BaseException") == some true &&
  findIn K (.ref C) "__class__" == some (some (.builtin "object.__class__")) && specialIn K (.builtin "object.__class__") "__get__" == some (some (.builtin "getset_descriptor.__get__")) && takesIn K (.builtin "object.__class__") == some true && mroIn K C (.type "object") == some true &&
  excInitIn K C (bM (bT (baseN i))) (bT (baseN i) ++ ".__new__") && subIn K (.ref C) (.type (bT (baseN i))) == some true && nsIn K cStatics "thirdparty.any" == some none && findIn K (.ref C) "__setattr__" == some (some (.builtin "object.__setattr__")) &&
  excOver K C (bM (bT (baseN i))) && hasDictIn K C && mroIn K C (.ref C) == some true && mroIn K C (.ref D) == some true && ks_superIn K C D "__init__" == some (some (.builtin (bT (baseN i) ++ ".__init__"))) &&
  (if i < 21 then ks_superIn K C C "__init__" == some (some (.ref g)) && typeIn K (.ref g) == some (.type "function") && fnIn K g else true) &&
  (if i < 18 then takerIn K C (fldN i) == some none && findIn K (.ref C) (fldN i) == some none else true) &&
  (List.range 27).all fun j => kitOne K (.ref C) (cv C' j) == some (tab i j)
def chk (K : Frag) (C f : Nat → Addr) : Bool := (List.range 24).all fun i => chk1 K (C i) (f i) (C (21 + baseN i)) (f (21 + baseN i)) i C
structure Chk (K : Frag) (C f D g : Addr) (i : Nat) (C' : Nat → Addr) : Prop where
  glob : nsIn K mainGlobals (errN i) = some (some (.ref C))
  kp : keepIn K (.ref C) = true
  init : findIn K (.ref C) "__init__" = some (some (.ref f))
  isf : isFn K (.ref f) = true
  hcl : (clsIn K C).isSome = true
  hga : findIn K (.ref C) "__getattribute__" = some (some (.builtin "BaseException.__getattribute__"))
  hgt : findIn K (.ref C) "__getattr__" = some none
  hsub : subIn K (.ref C) (.type "BaseException") = some true
  ha : findIn K (.ref C) "__class__" = some (some (.builtin "object.__class__"))
  hn : specialIn K (.builtin "object.__class__") "__get__" = some (some (.builtin "getset_descriptor.__get__"))
  htk : takesIn K (.builtin "object.__class__") = some true
  hm : mroIn K C (.type "object") = some true
  q : excInitIn K C (bM (bT (baseN i))) (bT (baseN i) ++ ".__new__") = true
  hB : subIn K (.ref C) (.type (bT (baseN i))) = some true
  op : nsIn K cStatics "thirdparty.any" = some none
  sa : findIn K (.ref C) "__setattr__" = some (some (.builtin "object.__setattr__"))
  over : excOver K C (bM (bT (baseN i))) = true
  hd : hasDictIn K C = true
  mC : mroIn K C (.ref C) = some true
  mD : mroIn K C (.ref D) = some true
  sD : ks_superIn K C D "__init__" = some (some (.builtin (bT (baseN i) ++ ".__init__")))
  leaf : i < 21 → ks_superIn K C C "__init__" = some (some (.ref g)) ∧ typeIn K (.ref g) = some (.type "function") ∧ fnIn K g = true
  fld : i < 18 → takerIn K C (fldN i) = some none ∧ findIn K (.ref C) (fldN i) = some none
  kit : ∀ j, j < 27 → kitOne K (.ref C) (cv C' j) = some (tab i j)
theorem chk_of {K : Frag} {C f D g : Addr} {i : Nat} {C' : Nat → Addr} (h : chk1 K C f D g i C' = true) : Chk K C f D g i C' := by
  unfold chk1 at h
  simp only [Bool.and_eq_true, beq_iff_eq] at h
  obtain ⟨⟨⟨⟨⟨⟨⟨⟨⟨⟨⟨⟨⟨⟨⟨⟨⟨⟨⟨⟨⟨⟨⟨h1, h2⟩, h3⟩, h4⟩, h5⟩, h6⟩, h7⟩, h8⟩, h9⟩, h10⟩, h11⟩, h12⟩, h13⟩, h14⟩, h15⟩, h16⟩, h17⟩, h18⟩, h19⟩, h20⟩, h21⟩, h22⟩, h23⟩, h24⟩ := h
  refine ⟨h1, h2, h3, h4, h5, h6, h7, h8, h9, h10, h11, h12, h13, h14, h15, h16, h17, h18, h19, h20, h21, fun hi => ?_, fun hi => ?_, fun j hj => ?_⟩
  · rw [if_pos hi] at h22
    simp only [Bool.and_eq_true, beq_iff_eq] at h22
    exact ⟨h22.1.1, h22.1.2, h22.2⟩
  · rw [if_pos hi] at h23
    simp only [Bool.and_eq_true, beq_iff_eq] at h23
    exact h23
  · exact beq_iff_eq.mp (List.all_eq_true.mp h24 j (List.mem_range.mpr hj))
theorem exb : ∀ b : Nat, ExcBaseFacts (bT b) (bT b ++ ".__new__") (bT b ++ ".__init__") (bM (bT b))
  | 0 => PySem.F.excBase_ValueError
  | 1 => PySem.F.excBase_LookupError
  | _ + 2 => PySem.F.excBase_ArithmeticError
theorem kxb : ∀ b : Nat, PySem.W.KxsFacts (bT b) (bT b ++ ".__init__")
  | 0 => PySem.W.kxs_ValueError
  | 1 => PySem.W.kxs_LookupError
  | _ + 2 => PySem.W.kxs_ArithmeticError
theorem stb : ∀ b : Nat, StoreFacts (bT b) (bM (bT b)) "object.__setattr__" "object"
  | 0 => PySem.F.store_ValueError
  | 1 => PySem.F.store_LookupError
  | _ + 2 => PySem.F.store_ArithmeticError
theorem Chk.errC {K : Frag} {C f D g : Addr} {i : Nat} {C' : Nat → Addr} (Z : Chk K C f D g i C') : ErrC K C (bT (baseN i)) (bT (baseN i) ++ ".__new__") (bT (baseN i) ++ ".__init__") (bM (bT (baseN i))) :=
  ⟨exb _, kxb _, Z.q, Option.isSome_iff_exists.mp Z.hcl, Z.hB, Z.op, stb _, Z.sa, Z.over, Z.hd⟩
/-- the __init__ of a class with a field, of one without, of a base -/
def LeafS (prog : Program) (K : Frag) (C f : Addr) (fld : Str) : Prop := ∃ (qual : Str) (q1 q2 p0 p1 p2 p3 p4 a0 a1 a2 a3 : Pos), SupCall [] p0 p1 p2 p3 ∧ (∀ env : Env, swapsWith (.Name fld a2) (some (.Attribute (.Name "self" a0) fld a1)) a3.line env = pure false) ∧
  SupFn prog K f C qual (aField q1 q2 fld) [stSup [] p0 p1 p2 p3 p4, .Assign [.Attribute (.Name "self" a0) fld a1] (.Name fld a2) a3] (sField fld)
def Leaf0S (prog : Program) (K : Frag) (C f : Addr) : Prop := ∃ (qual : Str) (q1 p0 p1 p2 p3 p4 : Pos), SupCall [] p0 p1 p2 p3 ∧ SupFn prog K f C qual (aSelf q1) [stSup [] p0 p1 p2 p3 p4] sSelf
def BaseS (prog : Program) (K : Frag) (D g : Addr) : Prop := ∃ (qual txt : Str) (j : Nat) (q1 p0 p1 p2 p3 p4 p5 : Pos), SupCall [.Constant (.str txt) j p5] p0 p1 p2 p3 ∧ SupFn prog K g D qual (aSelf q1) [stSup [.Constant (.str txt) j p5] p0 p1 p2 p3 p4] sSelf
theorem fldN_or (i : Nat) : fldN i = "given" ∨ fldN i = "index" := by
  unfold fldN
  split
  · exact .inr rfl
  · exact .inl rfl
theorem baseN_lt {i : Nat} (h : i < 24) : baseN i < 3 := (by decide : ∀ i, i < 24 → baseN i < 3) i h
theorem errs_mk {prog : Program} {K : Frag} {h : Heap} {mg : Str → Option Value} {C f : Nat → Addr} (X : K.In h) (G : h.Ns mainGlobals mg) (hc : chk K C f = true) (hs : mg "super" = none)
    (hb : ∀ i, i < 3 → BaseS prog K (C (21 + i)) (f (21 + i))) (hl : ∀ i, i < 18 → LeafS prog K (C i) (f i) (fldN i)) (h0 : ∀ i, 18 ≤ i → i < 21 → Leaf0S prog K (C i) (f i)) : Errs prog K mg C f := by
  have Z : ∀ i, i < 24 → Chk K (C i) (f i) (C (21 + baseN i)) (f (21 + baseN i)) i C := fun i hi => chk_of (List.all_eq_true.mp hc i (List.mem_range.mpr hi))
  refine ⟨fun i hi => ?_, fun i hi => ?_, fun i j hi hj => (Z i hi).kit j hj, fun i hi => ?_, fun i h18 hi => ?_, fun i hi => (Z i hi).hd, fun i hi => ((Z i (by omega)).fld hi).2⟩
  · have z := Z i hi
    exact ⟨PySem.W.mg_of X G z.glob, z.kp, ⟨_, _, _, _, z.errC⟩, z.init, z.isf⟩
  · have z := Z i hi
    exact ⟨z.hcl, z.hga, z.hgt, z.hsub, z.ha, z.hn, z.htk, z.hm⟩
  · have z := Z i (by omega)
    obtain ⟨qual, q1, q2, p0, p1, p2, p3, p4, a0, a1, a2, a3, hsc, hsw, S⟩ := hl i hi
    obtain ⟨qualD, txt, j, r1, c0, c1, c2, c3, c4, c5, hscD, SD⟩ := hb (baseN i) (baseN_lt (by omega))
    obtain ⟨l1, l2, l3⟩ := z.leaf (by omega)
    exact fun {w A R s x t0 v args} => init_leaf (fldN_or i) hsc hscD hsw S SD z.sD z.mC z.mD l1 l2 l3 (z.fld hi).1 z.errC hs
  · have z := Z i hi
    rcases Nat.lt_or_ge i 21 with hi2 | hi2
    · obtain ⟨qual, q1, p0, p1, p2, p3, p4, hsc, S⟩ := h0 i h18 hi2
      obtain ⟨qualD, txt, j, r1, c0, c1, c2, c3, c4, c5, hscD, SD⟩ := hb (baseN i) (baseN_lt (by omega))
      obtain ⟨l1, l2, l3⟩ := z.leaf hi2
      exact fun {w A R s x t0} => init_leaf0 hsc hscD S SD z.sD z.mC z.mD l1 l2 l3 z.errC hs
    · obtain ⟨qualD, txt, j, r1, c0, c1, c2, c3, c4, c5, hscD, SD⟩ := hb (baseN i) (baseN_lt (by omega))
      have e : 21 + baseN i = i := (by decide : ∀ i, i < 24 → 21 ≤ i → 21 + baseN i = i) i hi (by omega)
      rw [e] at SD
      have sD := z.sD
      rw [e] at sD
      exact fun {w A R s x t0} => init_base hscD SD z.errC hs z.mC sD
/-! ### the other names of the module -/
def chkZ (K : Frag) : Bool := (["super", "divmod", "int", "len", "abs", "isinstance", "range", "ValueError", "LookupError", "ArithmeticError", "enumerate", "repr", "all", "max", "min"] : List Str).all fun n => nsIn K mainGlobals n == some none
def chkM (K : Frag) (n : Str) (v : Int) : Bool := match nsIn K mainGlobals n with
  | some (some (.int i _)) => i == v
  | _ => false
def chkT (K : Frag) : Bool := chkZ K && chkM K "MOST_CELLS" 24 && chkM K "MOST_PLACE" 1000 && chkM K "MOST_LATTICE" 100 && chkM K "MOST_ROLLED" 36 && chkM K "MOST_SHAPES" 20 && chkM K "MOST_SHOVES" 24
theorem z_of {K : Frag} {h : Heap} {mg : Str → Option Value} (X : K.In h) (G : h.Ns mainGlobals mg) (hz : chkZ K = true) {n : Str} (hn : n ∈ (["super", "divmod", "int", "len", "abs", "isinstance", "range", "ValueError", "LookupError", "ArithmeticError", "enumerate", "repr", "all", "max", "min"] : List Str)) : mg n = none :=
  PySem.W.mg_none_of X G (beq_iff_eq.mp (List.all_eq_true.mp hz n hn))
theorem m_of {K : Frag} {h : Heap} {mg : Str → Option Value} (X : K.In h) (G : h.Ns mainGlobals mg) {n : Str} {v : Int} (hm : chkM K n v = true) : ∃ t, mg n = some (.int v t) := by
  unfold chkM at hm
  split at hm
  · rename_i i t e
    have := beq_iff_eq.mp hm
    subst this
    exact ⟨t, PySem.W.mg_of X G e⟩
  · cases hm
theorem txt_of {K : Frag} {h : Heap} {mg : Str → Option Value} (X : K.In h) (G : h.Ns mainGlobals mg) (hc : chkT K = true) : Txt4 mg ∧ mg "super" = none := by
  unfold chkT at hc
  simp only [Bool.and_eq_true] at hc
  obtain ⟨⟨⟨⟨⟨⟨hz, h1⟩, h2⟩, h3⟩, h4⟩, h5⟩, h6⟩ := hc
  have z := fun {n : Str} hn => z_of X G hz (n := n) hn
  exact ⟨{ z_divmod := (z (.tail _ (.head _))), z_int := (z (.tail _ (.tail _ (.head _)))), z_len := (z (.tail _ (.tail _ (.tail _ (.head _))))), z_abs := (z (.tail _ (.tail _ (.tail _ (.tail _ (.head _)))))), z_isinstance := (z (.tail _ (.tail _ (.tail _ (.tail _ (.tail _ (.head _))))))), z_range := (z (.tail _ (.tail _ (.tail _ (.tail _ (.tail _ (.tail _ (.head _)))))))), z_ValueError := (z (.tail _ (.tail _ (.tail _ (.tail _ (.tail _ (.tail _ (.tail _ (.head _))))))))), z_LookupError := (z (.tail _ (.tail _ (.tail _ (.tail _ (.tail _ (.tail _ (.tail _ (.tail _ (.head _)))))))))), z_ArithmeticError := (z (.tail _ (.tail _ (.tail _ (.tail _ (.tail _ (.tail _ (.tail _ (.tail _ (.tail _ (.head _))))))))))), z_enumerate := (z (.tail _ (.tail _ (.tail _ (.tail _ (.tail _ (.tail _ (.tail _ (.tail _ (.tail _ (.tail _ (.head _)))))))))))), z_repr := (z (.tail _ (.tail _ (.tail _ (.tail _ (.tail _ (.tail _ (.tail _ (.tail _ (.tail _ (.tail _ (.tail _ (.head _))))))))))))), z_all := (z (.tail _ (.tail _ (.tail _ (.tail _ (.tail _ (.tail _ (.tail _ (.tail _ (.tail _ (.tail _ (.tail _ (.tail _ (.head _)))))))))))))), z_max := (z (.tail _ (.tail _ (.tail _ (.tail _ (.tail _ (.tail _ (.tail _ (.tail _ (.tail _ (.tail _ (.tail _ (.tail _ (.tail _ (.head _))))))))))))))), z_min := (z (.tail _ (.tail _ (.tail _ (.tail _ (.tail _ (.tail _ (.tail _ (.tail _ (.tail _ (.tail _ (.tail _ (.tail _ (.tail _ (.tail _ (.head _)))))))))))))))) , m_MOST_CELLS := m_of X G h1, m_MOST_PLACE := m_of X G h2, m_MOST_LATTICE := m_of X G h3, m_MOST_ROLLED := m_of X G h4, m_MOST_SHAPES := m_of X G h5, m_MOST_SHOVES := m_of X G h6 }, (z (.head _))⟩
theorem def_mk {K : Frag} {h : Heap} {mg : Str → Option Value} {x : Str} {st : Stmt} {f : Addr} {oc kV dc pm cd ct : Value} {od an : Option Addr} {sl : Array (Option Value)} {ps : List Str} (X : K.In h) (G : h.Ns mainGlobals mg) (a : nsIn K mainGlobals x = some (some (.ref f)))
    (l : K.lookup f = some ⟨oc, od, .func (PySem.W.fnOf x x (defArgs st) (defBody st) (defScope st) .none kV dc pm an cd ct), sl⟩) (c : codeIn K cd x = true) (k : keepIn K (.ref f) = true) (b : ∀ fd, Fun K x x st f fd → Binds K fd ps []) : DefIn K mg x st ps :=
  ⟨f, _, fun_mk l c k, PySem.W.mg_of X G a, b _ (fun_mk l c k)⟩
theorem all_k01 {P : Program} {w : World} {K : Frag} {mg : Str → Option Value} {C f : Nat → Addr} (U : Errs P K mg C f) (T : Txt4 mg) (b1 : DefIn K mg "_law_dip" s_dip P_dip) (b2 : DefIn K mg "_law_one_of" s_one_of P_one_of) (b3 : DefIn K mg "_law_jar" s_jar P_jar) (b4 : DefIn K mg "_law_sorts" s_sorts P_sorts)
    (b5 : DefIn K mg "_law_given_errors" s_given_errors P_given_errors) (b6 : DefIn K mg "_law_index_errors" s_index_errors P_index_errors) (b7 : DefIn K mg "_law_right" s_right P_right) (b8 : DefIn K mg "law" s_law P_law) (base : Heap) : DefOk P w K mg base "law" 5 P_law (spLaw K) :=
  have e1 := d_dip (P := P) (w := w) (base := base) b1 T.toTxt
  have e2 := d_one_of b2 T.toTxt e1
  have e3 := d_jar (P := P) (w := w) (base := base) b3 T.toTxt
  have e4 := d_sorts (P := P) (w := w) (base := base) b4 T.toTxt2 U
  have e5 := d_given_errors (w := w) (base := base) b5 U
  have e6 := d_index_errors (w := w) (base := base) b6 U
  d_law b8 T U e3 e4 (d_right b7 T.toTxt3 U e2 e4 e5 e6)
end K01

namespace K01
open PySem PySem.Spec PyProof.Rows L2 Evl Lay ErrX
def Ca (i : Nat) : Addr := ([55, 76, 97, 118, 139, 160, 181, 202, 223, 244, 265, 286, 307, 328, 371, 456, 477, 498, 414, 435, 519, 33, 349, 392] : List Nat).getD i 0
def Fa (i : Nat) : Addr := ([52, 73, 94, 115, 136, 157, 178, 199, 220, 241, 262, 283, 304, 325, 368, 453, 474, 495, 411, 432, 516, 30, 346, 389] : List Nat).getD i 0
theorem sup_mk2 {prog : Program} {K : PySem.W.Frag} {f D : Addr} {qual : Str} {params : Arguments} {body : List Stmt} {scope : Scope} {oc kV doc pm ct ccl cl : Value} {od an cdd cld : Option Addr} {osl ccs csl : Array (Option Value)} {cda cc : Addr} {vs : Array Value} {file : Str} {tf : Tok}
    (hf : K.lookup f = some ⟨oc, od, .func (PySem.W.ksFn "__init__" qual params body scope .none kV doc pm an (.ref cda) ct cc), osl⟩) (hcd : PySem.W.codeIn K (.ref cda) qual = true) (hcode : K.lookup cda = some ⟨ccl, cdd, .fields vs, ccs⟩) (hvs : vs[2]? = some (.str file tf)) (hfile : ((prog.main.file : Str) == file) = true)
    (hcell : K.lookup cc = some ⟨cl, cld, .cell (some (.ref D)), csl⟩) (hD : PySem.W.isClsIn K D = true) (htop : (prog.main.scope.names.lookup ("super" : Str)).isSome = false) : SupFn prog K f D qual params body scope := sup_mk hf hcd hcode hvs hfile hcell hD htop
theorem leafS_mk {prog : Program} {K : PySem.W.Frag} {C f : Addr} {fld qual : Str} {q1 q2 p0 p1 p2 p3 p4 a0 a1 a2 a3 : Pos} (S : SupFn prog K f C qual (aField q1 q2 fld) [stSup [] p0 p1 p2 p3 p4, .Assign [.Attribute (.Name "self" a0) fld a1] (.Name fld a2) a3] (sField fld)) (hsc : SupCall [] p0 p1 p2 p3) (hsw : ∀ env : Env, swapsWith (.Name fld a2) (some (.Attribute (.Name "self" a0) fld a1)) a3.line env = pure false) : LeafS prog K C f fld :=
  ⟨qual, q1, q2, p0, p1, p2, p3, p4, a0, a1, a2, a3, hsc, hsw, S⟩
theorem leaf0S_mk {prog : Program} {K : PySem.W.Frag} {C f : Addr} {qual : Str} {q1 p0 p1 p2 p3 p4 : Pos} (S : SupFn prog K f C qual (aSelf q1) [stSup [] p0 p1 p2 p3 p4] sSelf) (hsc : SupCall [] p0 p1 p2 p3) : Leaf0S prog K C f := ⟨qual, q1, p0, p1, p2, p3, p4, hsc, S⟩
theorem baseS_mk {prog : Program} {K : PySem.W.Frag} {D g : Addr} {qual txt : Str} {j : Nat} {q1 p0 p1 p2 p3 p4 p5 : Pos} (S : SupFn prog K g D qual (aSelf q1) [stSup [.Constant (.str txt) j p5] p0 p1 p2 p3 p4] sSelf) (hsc : SupCall [.Constant (.str txt) j p5] p0 p1 p2 p3) : BaseS prog K D g := ⟨qual, txt, j, q1, p0, p1, p2, p3, p4, p5, hsc, S⟩
/-- the tables at once -/
def chkA (K : PySem.W.Frag) : Bool := chk K Ca Fa && chkT K
theorem k01_all {P : Program} {w : World} {K : PySem.W.Frag} {h : Heap} {mg : Str → Option Value} (X : K.In h) (G : h.Ns mainGlobals mg) (hc : chkA K = true)
    (s0 : LeafS P K 55 52 "given")
    (s1 : LeafS P K 76 73 "given")
    (s2 : LeafS P K 97 94 "given")
    (s3 : LeafS P K 118 115 "given")
    (s4 : LeafS P K 139 136 "given")
    (s5 : LeafS P K 160 157 "given")
    (s6 : LeafS P K 181 178 "given")
    (s7 : LeafS P K 202 199 "given")
    (s8 : LeafS P K 223 220 "given")
    (s9 : LeafS P K 244 241 "given")
    (s10 : LeafS P K 265 262 "index")
    (s11 : LeafS P K 286 283 "index")
    (s12 : LeafS P K 307 304 "index")
    (s13 : LeafS P K 328 325 "index")
    (s14 : LeafS P K 371 368 "given")
    (s15 : LeafS P K 456 453 "given")
    (s16 : LeafS P K 477 474 "index")
    (s17 : LeafS P K 498 495 "index")
    (s18 : Leaf0S P K 414 411)
    (s19 : Leaf0S P K 435 432)
    (s20 : Leaf0S P K 519 516)
    (s21 : BaseS P K 33 30)
    (s22 : BaseS P K 349 346)
    (s23 : BaseS P K 392 389)
    (d_dip : DefIn K mg "_law_dip" s_dip P_dip)
    (d_one_of : DefIn K mg "_law_one_of" s_one_of P_one_of)
    (d_jar : DefIn K mg "_law_jar" s_jar P_jar)
    (d_sorts : DefIn K mg "_law_sorts" s_sorts P_sorts)
    (d_given_errors : DefIn K mg "_law_given_errors" s_given_errors P_given_errors)
    (d_index_errors : DefIn K mg "_law_index_errors" s_index_errors P_index_errors)
    (d_right : DefIn K mg "_law_right" s_right P_right)
    (d_law : DefIn K mg "law" s_law P_law)
    (base : Heap) : DefOk P w K mg base "law" 5 P_law (spLaw K) := by
  unfold chkA at hc
  rw [Bool.and_eq_true] at hc
  obtain ⟨T, hs⟩ := txt_of X G hc.2
  have U : Errs P K mg Ca Fa := errs_mk X G hc.1 hs (fun i hi => match i, hi with
    | 0, _ => s21
    | 1, _ => s22
    | 2, _ => s23
    | n + 3, h => absurd h (by omega)) (fun i hi => match i, hi with
    | 0, _ => s0
    | 1, _ => s1
    | 2, _ => s2
    | 3, _ => s3
    | 4, _ => s4
    | 5, _ => s5
    | 6, _ => s6
    | 7, _ => s7
    | 8, _ => s8
    | 9, _ => s9
    | 10, _ => s10
    | 11, _ => s11
    | 12, _ => s12
    | 13, _ => s13
    | 14, _ => s14
    | 15, _ => s15
    | 16, _ => s16
    | 17, _ => s17
    | n + 18, h => absurd h (by omega)) (fun i h1 h2 => by
    have e : i = 18 ∨ i = 19 ∨ i = 20 := by omega
    rcases e with rfl | rfl | rfl
    · exact s18
    · exact s19
    · exact s20)
  exact all_k01 U T d_dip d_one_of d_jar d_sorts d_given_errors d_index_errors d_right d_law base
theorem bd_dip {K : PySem.W.Frag} {f : Addr} (fd : FuncData) (F : Fun K "_law_dip" "_law_dip" s_dip f fd) : Binds K fd P_dip [] := F.binds (ps := P_dip) fun _ _ _ _ _ _ us hl => match us, hl with | [_, _], _ => rfl
theorem bd_one_of {K : PySem.W.Frag} {f : Addr} (fd : FuncData) (F : Fun K "_law_one_of" "_law_one_of" s_one_of f fd) : Binds K fd P_one_of [] := F.binds (ps := P_one_of) fun _ _ _ _ _ _ us hl => match us, hl with | [_, _], _ => rfl
theorem bd_jar {K : PySem.W.Frag} {f : Addr} (fd : FuncData) (F : Fun K "_law_jar" "_law_jar" s_jar f fd) : Binds K fd P_jar [] := F.binds (ps := P_jar) fun _ _ _ _ _ _ us hl => match us, hl with | [_, _], _ => rfl
theorem bd_sorts {K : PySem.W.Frag} {f : Addr} (fd : FuncData) (F : Fun K "_law_sorts" "_law_sorts" s_sorts f fd) : Binds K fd P_sorts [] := F.binds (ps := P_sorts) fun _ _ _ _ _ _ us hl => match us, hl with | [_], _ => rfl
theorem bd_given_errors {K : PySem.W.Frag} {f : Addr} (fd : FuncData) (F : Fun K "_law_given_errors" "_law_given_errors" s_given_errors f fd) : Binds K fd P_given_errors [] := F.binds (ps := P_given_errors) fun _ _ _ _ _ _ us hl => match us, hl with | [_], _ => rfl
theorem bd_index_errors {K : PySem.W.Frag} {f : Addr} (fd : FuncData) (F : Fun K "_law_index_errors" "_law_index_errors" s_index_errors f fd) : Binds K fd P_index_errors [] := F.binds (ps := P_index_errors) fun _ _ _ _ _ _ us hl => match us, hl with | [_], _ => rfl
theorem bd_right {K : PySem.W.Frag} {f : Addr} (fd : FuncData) (F : Fun K "_law_right" "_law_right" s_right f fd) : Binds K fd P_right [] := F.binds (ps := P_right) fun _ _ _ _ _ _ us hl => match us, hl with | [_], _ => rfl
theorem bd_law {K : PySem.W.Frag} {f : Addr} (fd : FuncData) (F : Fun K "law" "law" s_law f fd) : Binds K fd P_law [] := F.binds (ps := P_law) fun _ _ _ _ _ _ us hl => match us, hl with | [_], _ => rfl
end K01
open PySem PySem.W PyProof.Rows
theorem PySem.Challenge.cw_shovefloors_k01_limits_and_errors_holds : PySem.Challenge.rw_shovefloors_k01_limits_and_errors.Holds := by
  w_on; o_law; k_head; (case hw => w_witness2)
  k_fill
  refine Lay.walk_ofG (l := PySem.Challenge.rw_shovefloors_k01_limits_and_errors) (n := 63) (k := 5) (ps := K01.P_law) (sp := K01.spLaw) rfl (by decide) rfl ⟨rfl, by decide, by decide⟩ (fun w h Y => PySem.W.kIn_of Y) rfl ?F (fun K H a ns hl hS => ⟨a, ns, rfl, hS, hl, fun _ _ => rfl⟩)
  case F =>
    intro w mg h KX G base
    refine' K01.k01_all KX G ?kchk ?s0 ?s1 ?s2 ?s3 ?s4 ?s5 ?s6 ?s7 ?s8 ?s9 ?s10 ?s11 ?s12 ?s13 ?s14 ?s15 ?s16 ?s17 ?s18 ?s19 ?s20 ?s21 ?s22 ?s23 ?d_dip ?d_one_of ?d_jar ?d_sorts ?d_given_errors ?d_index_errors ?d_right ?d_law base
    (case kchk => kernel_rfl)
    (case s0 => refine' K01.leafS_mk (K01.sup_mk2 ?hf ?hcd ?hcode ?hvs ?hfile ?hcell ?hD ?htop) ?sc ?sw; (case hf => k_is); (case hcd => k_is); (case hcode => k_is); (case hvs => rfl); (case hfile => kernel_rfl); (case hcell => k_is); (case hD => k_is); (case htop => kernel_rfl); (case sc => exact fun env => ⟨_, rfl⟩); (case sw => exact fun env => rfl))
    (case s1 => refine' K01.leafS_mk (K01.sup_mk2 ?hf ?hcd ?hcode ?hvs ?hfile ?hcell ?hD ?htop) ?sc ?sw; (case hf => k_is); (case hcd => k_is); (case hcode => k_is); (case hvs => rfl); (case hfile => kernel_rfl); (case hcell => k_is); (case hD => k_is); (case htop => kernel_rfl); (case sc => exact fun env => ⟨_, rfl⟩); (case sw => exact fun env => rfl))
    (case s2 => refine' K01.leafS_mk (K01.sup_mk2 ?hf ?hcd ?hcode ?hvs ?hfile ?hcell ?hD ?htop) ?sc ?sw; (case hf => k_is); (case hcd => k_is); (case hcode => k_is); (case hvs => rfl); (case hfile => kernel_rfl); (case hcell => k_is); (case hD => k_is); (case htop => kernel_rfl); (case sc => exact fun env => ⟨_, rfl⟩); (case sw => exact fun env => rfl))
    (case s3 => refine' K01.leafS_mk (K01.sup_mk2 ?hf ?hcd ?hcode ?hvs ?hfile ?hcell ?hD ?htop) ?sc ?sw; (case hf => k_is); (case hcd => k_is); (case hcode => k_is); (case hvs => rfl); (case hfile => kernel_rfl); (case hcell => k_is); (case hD => k_is); (case htop => kernel_rfl); (case sc => exact fun env => ⟨_, rfl⟩); (case sw => exact fun env => rfl))
    (case s4 => refine' K01.leafS_mk (K01.sup_mk2 ?hf ?hcd ?hcode ?hvs ?hfile ?hcell ?hD ?htop) ?sc ?sw; (case hf => k_is); (case hcd => k_is); (case hcode => k_is); (case hvs => rfl); (case hfile => kernel_rfl); (case hcell => k_is); (case hD => k_is); (case htop => kernel_rfl); (case sc => exact fun env => ⟨_, rfl⟩); (case sw => exact fun env => rfl))
    (case s5 => refine' K01.leafS_mk (K01.sup_mk2 ?hf ?hcd ?hcode ?hvs ?hfile ?hcell ?hD ?htop) ?sc ?sw; (case hf => k_is); (case hcd => k_is); (case hcode => k_is); (case hvs => rfl); (case hfile => kernel_rfl); (case hcell => k_is); (case hD => k_is); (case htop => kernel_rfl); (case sc => exact fun env => ⟨_, rfl⟩); (case sw => exact fun env => rfl))
    (case s6 => refine' K01.leafS_mk (K01.sup_mk2 ?hf ?hcd ?hcode ?hvs ?hfile ?hcell ?hD ?htop) ?sc ?sw; (case hf => k_is); (case hcd => k_is); (case hcode => k_is); (case hvs => rfl); (case hfile => kernel_rfl); (case hcell => k_is); (case hD => k_is); (case htop => kernel_rfl); (case sc => exact fun env => ⟨_, rfl⟩); (case sw => exact fun env => rfl))
    (case s7 => refine' K01.leafS_mk (K01.sup_mk2 ?hf ?hcd ?hcode ?hvs ?hfile ?hcell ?hD ?htop) ?sc ?sw; (case hf => k_is); (case hcd => k_is); (case hcode => k_is); (case hvs => rfl); (case hfile => kernel_rfl); (case hcell => k_is); (case hD => k_is); (case htop => kernel_rfl); (case sc => exact fun env => ⟨_, rfl⟩); (case sw => exact fun env => rfl))
    (case s8 => refine' K01.leafS_mk (K01.sup_mk2 ?hf ?hcd ?hcode ?hvs ?hfile ?hcell ?hD ?htop) ?sc ?sw; (case hf => k_is); (case hcd => k_is); (case hcode => k_is); (case hvs => rfl); (case hfile => kernel_rfl); (case hcell => k_is); (case hD => k_is); (case htop => kernel_rfl); (case sc => exact fun env => ⟨_, rfl⟩); (case sw => exact fun env => rfl))
    (case s9 => refine' K01.leafS_mk (K01.sup_mk2 ?hf ?hcd ?hcode ?hvs ?hfile ?hcell ?hD ?htop) ?sc ?sw; (case hf => k_is); (case hcd => k_is); (case hcode => k_is); (case hvs => rfl); (case hfile => kernel_rfl); (case hcell => k_is); (case hD => k_is); (case htop => kernel_rfl); (case sc => exact fun env => ⟨_, rfl⟩); (case sw => exact fun env => rfl))
    (case s10 => refine' K01.leafS_mk (K01.sup_mk2 ?hf ?hcd ?hcode ?hvs ?hfile ?hcell ?hD ?htop) ?sc ?sw; (case hf => k_is); (case hcd => k_is); (case hcode => k_is); (case hvs => rfl); (case hfile => kernel_rfl); (case hcell => k_is); (case hD => k_is); (case htop => kernel_rfl); (case sc => exact fun env => ⟨_, rfl⟩); (case sw => exact fun env => rfl))
    (case s11 => refine' K01.leafS_mk (K01.sup_mk2 ?hf ?hcd ?hcode ?hvs ?hfile ?hcell ?hD ?htop) ?sc ?sw; (case hf => k_is); (case hcd => k_is); (case hcode => k_is); (case hvs => rfl); (case hfile => kernel_rfl); (case hcell => k_is); (case hD => k_is); (case htop => kernel_rfl); (case sc => exact fun env => ⟨_, rfl⟩); (case sw => exact fun env => rfl))
    (case s12 => refine' K01.leafS_mk (K01.sup_mk2 ?hf ?hcd ?hcode ?hvs ?hfile ?hcell ?hD ?htop) ?sc ?sw; (case hf => k_is); (case hcd => k_is); (case hcode => k_is); (case hvs => rfl); (case hfile => kernel_rfl); (case hcell => k_is); (case hD => k_is); (case htop => kernel_rfl); (case sc => exact fun env => ⟨_, rfl⟩); (case sw => exact fun env => rfl))
    (case s13 => refine' K01.leafS_mk (K01.sup_mk2 ?hf ?hcd ?hcode ?hvs ?hfile ?hcell ?hD ?htop) ?sc ?sw; (case hf => k_is); (case hcd => k_is); (case hcode => k_is); (case hvs => rfl); (case hfile => kernel_rfl); (case hcell => k_is); (case hD => k_is); (case htop => kernel_rfl); (case sc => exact fun env => ⟨_, rfl⟩); (case sw => exact fun env => rfl))
    (case s14 => refine' K01.leafS_mk (K01.sup_mk2 ?hf ?hcd ?hcode ?hvs ?hfile ?hcell ?hD ?htop) ?sc ?sw; (case hf => k_is); (case hcd => k_is); (case hcode => k_is); (case hvs => rfl); (case hfile => kernel_rfl); (case hcell => k_is); (case hD => k_is); (case htop => kernel_rfl); (case sc => exact fun env => ⟨_, rfl⟩); (case sw => exact fun env => rfl))
    (case s15 => refine' K01.leafS_mk (K01.sup_mk2 ?hf ?hcd ?hcode ?hvs ?hfile ?hcell ?hD ?htop) ?sc ?sw; (case hf => k_is); (case hcd => k_is); (case hcode => k_is); (case hvs => rfl); (case hfile => kernel_rfl); (case hcell => k_is); (case hD => k_is); (case htop => kernel_rfl); (case sc => exact fun env => ⟨_, rfl⟩); (case sw => exact fun env => rfl))
    (case s16 => refine' K01.leafS_mk (K01.sup_mk2 ?hf ?hcd ?hcode ?hvs ?hfile ?hcell ?hD ?htop) ?sc ?sw; (case hf => k_is); (case hcd => k_is); (case hcode => k_is); (case hvs => rfl); (case hfile => kernel_rfl); (case hcell => k_is); (case hD => k_is); (case htop => kernel_rfl); (case sc => exact fun env => ⟨_, rfl⟩); (case sw => exact fun env => rfl))
    (case s17 => refine' K01.leafS_mk (K01.sup_mk2 ?hf ?hcd ?hcode ?hvs ?hfile ?hcell ?hD ?htop) ?sc ?sw; (case hf => k_is); (case hcd => k_is); (case hcode => k_is); (case hvs => rfl); (case hfile => kernel_rfl); (case hcell => k_is); (case hD => k_is); (case htop => kernel_rfl); (case sc => exact fun env => ⟨_, rfl⟩); (case sw => exact fun env => rfl))
    (case s18 => refine' K01.leaf0S_mk (K01.sup_mk2 ?hf ?hcd ?hcode ?hvs ?hfile ?hcell ?hD ?htop) ?sc; (case hf => k_is); (case hcd => k_is); (case hcode => k_is); (case hvs => rfl); (case hfile => kernel_rfl); (case hcell => k_is); (case hD => k_is); (case htop => kernel_rfl); (case sc => exact fun env => ⟨_, rfl⟩))
    (case s19 => refine' K01.leaf0S_mk (K01.sup_mk2 ?hf ?hcd ?hcode ?hvs ?hfile ?hcell ?hD ?htop) ?sc; (case hf => k_is); (case hcd => k_is); (case hcode => k_is); (case hvs => rfl); (case hfile => kernel_rfl); (case hcell => k_is); (case hD => k_is); (case htop => kernel_rfl); (case sc => exact fun env => ⟨_, rfl⟩))
    (case s20 => refine' K01.leaf0S_mk (K01.sup_mk2 ?hf ?hcd ?hcode ?hvs ?hfile ?hcell ?hD ?htop) ?sc; (case hf => k_is); (case hcd => k_is); (case hcode => k_is); (case hvs => rfl); (case hfile => kernel_rfl); (case hcell => k_is); (case hD => k_is); (case htop => kernel_rfl); (case sc => exact fun env => ⟨_, rfl⟩))
    (case s21 => refine' K01.baseS_mk (K01.sup_mk2 ?hf ?hcd ?hcode ?hvs ?hfile ?hcell ?hD ?htop) ?sc; (case hf => k_is); (case hcd => k_is); (case hcode => k_is); (case hvs => rfl); (case hfile => kernel_rfl); (case hcell => k_is); (case hD => k_is); (case htop => kernel_rfl); (case sc => exact fun env => ⟨_, rfl⟩))
    (case s22 => refine' K01.baseS_mk (K01.sup_mk2 ?hf ?hcd ?hcode ?hvs ?hfile ?hcell ?hD ?htop) ?sc; (case hf => k_is); (case hcd => k_is); (case hcode => k_is); (case hvs => rfl); (case hfile => kernel_rfl); (case hcell => k_is); (case hD => k_is); (case htop => kernel_rfl); (case sc => exact fun env => ⟨_, rfl⟩))
    (case s23 => refine' K01.baseS_mk (K01.sup_mk2 ?hf ?hcd ?hcode ?hvs ?hfile ?hcell ?hD ?htop) ?sc; (case hf => k_is); (case hcd => k_is); (case hcode => k_is); (case hvs => rfl); (case hfile => kernel_rfl); (case hcell => k_is); (case hD => k_is); (case htop => kernel_rfl); (case sc => exact fun env => ⟨_, rfl⟩))
    (case d_dip => refine' K01.def_mk KX G ?a ?l ?c ?k K01.bd_dip; (case a => k_is); (case l => k_is); (case c => k_is); (case k => k_is))
    (case d_one_of => refine' K01.def_mk KX G ?a ?l ?c ?k K01.bd_one_of; (case a => k_is); (case l => k_is); (case c => k_is); (case k => k_is))
    (case d_jar => refine' K01.def_mk KX G ?a ?l ?c ?k K01.bd_jar; (case a => k_is); (case l => k_is); (case c => k_is); (case k => k_is))
    (case d_sorts => refine' K01.def_mk KX G ?a ?l ?c ?k K01.bd_sorts; (case a => k_is); (case l => k_is); (case c => k_is); (case k => k_is))
    (case d_given_errors => refine' K01.def_mk KX G ?a ?l ?c ?k K01.bd_given_errors; (case a => k_is); (case l => k_is); (case c => k_is); (case k => k_is))
    (case d_index_errors => refine' K01.def_mk KX G ?a ?l ?c ?k K01.bd_index_errors; (case a => k_is); (case l => k_is); (case c => k_is); (case k => k_is))
    (case d_right => refine' K01.def_mk KX G ?a ?l ?c ?k K01.bd_right; (case a => k_is); (case l => k_is); (case c => k_is); (case k => k_is))
    (case d_law => refine' K01.def_mk KX G ?a ?l ?c ?k K01.bd_law; (case a => k_is); (case l => k_is); (case c => k_is); (case k => k_is))
#print axioms PySem.Challenge.cw_shovefloors_k01_limits_and_errors_holds

